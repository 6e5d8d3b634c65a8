import PyProof.Rows.All
import Wide.All
import OpenK.AllK
import Wide.FinOn
import KE.KExcTry
import KE.KExcStr
import HandS.ForMost
import HandS.Exc
import HandS.ExcOwn
import HandS.ExcInit
import HandS.Nested
import HandS.Flow
import HandS.FStr
import HandS.More
import HandS.TryMany
import HandS.ExcField
import HandS.IsInst
import HandS.RaiseMore
import HandS.WordsExc
import HandS.Evl
import HandS.Conv
import HandS.Deep
import HandS.Style
import HandS.NoneIn
import HandS.ExcValue
import HandS.ExcIs
import KE.KExcIs
import PyProof.InstEq
import HandS.ClsMeth
import HandS.Walk
import HandS.DictComp
import HandS.Strs
import HandS.SetKeys
import HandS.Sort
import PyProof.WalkInts
import PySem.Challenge.RW_equalkin_k02_families_of_algebras
import HandS.Codes
import HandS.DeepEq
set_option Elab.async false
set_option linter.all false
set_option maxRecDepth 100000
set_option maxHeartbeats 4000000
/-! Own errors over any base whose __init__ begins with super().__init__(text): the classes' facts, stores, the def's rule, the making. -/
namespace L2
open PySem PySem.Spec PyProof.Rows NdefX

/-- the built-in base of an own error: its name, maker, initializer, chain -/
structure XBase (B nI iI : String) (bB : List Value) : Prop where
  fb : ExcBaseFacts B nI iI bB
  sf : StoreFacts B bB "object.__setattr__" "object"
  kf : PySem.W.KxsFacts B iI

theorem xbV : XBase "ValueError" "ValueError.__new__" "ValueError.__init__" [.type "ValueError", .type "Exception", .type "BaseException", .type "object"] :=
  ⟨F.excBase_ValueError, F.store_ValueError, PySem.W.kxs_ValueError⟩
theorem xbL : XBase "LookupError" "LookupError.__new__" "LookupError.__init__" [.type "LookupError", .type "Exception", .type "BaseException", .type "object"] :=
  ⟨F.excBase_LookupError, F.store_LookupError, PySem.W.kxs_LookupError⟩

/-- what the written part says of such a class -/
structure XCls (K : PySem.W.Frag) (C : Addr) (nI : String) (bB : List Value) : Prop where
  ci : PySem.W.excInitIn K C bB nI = true
  ov : PySem.W.excOver K C bB = true
  sa : PySem.W.findIn K (.ref C) "__setattr__" = some (some (.builtin "object.__setattr__"))
  hd : PySem.W.hasDictIn K C = true
  eb : PySem.W.subIn K (.ref C) (.type "BaseException") = some true
  ty : PySem.W.typeIn K (.ref C) = some (.type "type")
  kp : PySem.W.keepIn K (.ref C) = true

/-- the method-wrapper at u, bound to the error at a, called -/
theorem mw_call {prog : Program} {w : World} {A : Around} {E : Value → Shared → Prop} {s : Shared} {K : PySem.W.Frag} {C a u t0 : Addr} {B nI iI : String} {bB rest : List Value} {Q : Value → Shared → Prop}
    (XB : XBase B nI iI bB) (KX : K.In s.heap) (ci : PySem.W.excInitIn K C bB nI = true) (hu : s.heap.get? u = some (PySem.W.kxs_mw iI a)) (ha : s.heap.get? a = some (PySem.W.excObj C t0 none .none)) (hz : rest.length ≤ sizeLine)
    (fin : ∀ h2 t2, (∀ b o, b ≠ a → s.heap.get? b = some o → h2.get? b = some o) → h2.get? a = some (PySem.W.excObj C t2 none .none) → Q .none { s with heap := h2 }) :
    wpAny (model prog w) A (call (.ref u) rest) Q E s := by
  obtain ⟨nm, N1, qn, bs, bm, hdct, sn, sub, ab, col, dd, k0, k1, k2, k3, k5, hC, hT⟩ := PySem.W.excInit_of KX ci
  have FB := XB.fb
  obtain ⟨hh, gg, dr, tk, os⟩ := s
  refine wpAny_call (codeAny_of_tree ?_)
  show wpAny (model prog w) A.in1 (callAny (.ref u) ⟨rest, []⟩) _ _ _
  simp only [callAny]
  refine wpAny_bind (wpAny_load hu ?_)
  have c1 : (Value.type "method-wrapper" == Value.type "method" || Value.type "method-wrapper" == Value.type "builtin_function_or_method" || Value.type "method-wrapper" == Value.type "method-wrapper") = true := by decide
  simp only [PySem.W.kxs_mw, c1, if_true]
  refine PySem.W.KFB.if_so (by decide) (wpAny_bind (PySem.W.check_bound_init FB.toExcCallFacts hC ha rfl (wpAny_bind (wpAny_pure (wpAny_pure ?_)))))
  refine ⟨plainId_quiet FB.init.plain _, codeAny_builtin FB.initEntry (PySem.W.exc_init_tree (cls := .ref C) (t0 := t0) (dv := none) (c2 := .none) (c3 := .none) (b4 := .bool false) ha hz fun h2 k2 e2 _ => fin h2 _ k2 e2)⟩

/-- what the written part says of an __init__ (at f) of the class at C that begins with super().__init__ -/
structure XSup (P : Program) (K : PySem.W.Frag) (mg : Str → Option Value) (C f cc : Addr) (B iI : String) (F : NF) : Prop where
  cl : F.cl = [(("__class__" : Str), cc)]
  cell : ∃ o d sl, K.lookup cc = some ⟨o, d, .cell (some (.ref C)), sl⟩
  code : ∃ o d vs sl file tf, K.lookup F.c = some ⟨o, d, .fields vs, sl⟩ ∧ vs[2]? = some (.str file tf) ∧ ((P.main.file : Str) == file) = true
  cls : ∃ cd, PySem.W.clsIn K C = some cd
  sub : PySem.W.mroIn K C (.ref C) = some true
  up : PySem.W.ks_superIn K C C "__init__" = some (some (.builtin iI))
  isB : PySem.W.subIn K (.ref C) (.type B) = some true
  opq : PySem.W.nsIn K cStatics "thirdparty.any" = some none
  noS : mg "super" = none
  top : (P.main.scope.names.lookup ("super" : Str)).isSome = false
  self : ∃ ar, (F.params.posonlyargs ++ F.params.args).head? = some ar ∧ ar.arg = "self"
  kS : F.scope.names.lookup ("super" : Str) = some .globalImplicit
  kC : F.scope.names.lookup ("__class__" : Str) = some .free
  kA : F.scope.names.lookup ("self" : Str) = some .local
end L2


set_option Elab.async false
set_option linter.all false
set_option maxRecDepth 100000
set_option maxHeartbeats 4000000
namespace L2
open PySem PySem.Spec PyProof.Rows NdefX

section
variable {P : Program} {w : World} {K : PySem.W.Frag} {mg : Str → Option Value} {base : Heap}
theorem boot_super : bootBuiltins "super" = some (.type "super") := by decide +kernel
theorem startF_at {N : List Str} {vs : List V} {ws : List (Option V)} {v : V} (h : vs[0]? = some v) : (startF N vs ws)[0]? = some (some v) := by
  unfold startF
  cases vs with
  | nil => cases h
  | cons x r =>
    obtain rfl : x = v := Option.some.inj h
    rfl
/-- nothing but a is another's: the same map -/
theorem upd_self {H : Hp} {a : Addr} {o : HO} (h : H a = some o) : upd H a o = H := by
  funext b
  by_cases e : b = a
  · subst e
    rw [upd_same, h]
  · exact upd_ne e

/-- the call super().__init__(msg) in the def's own words -/
def SupCall (F : NF) (f : Addr) (p0 p1 p2 p3 : Pos) (msg : Expr) : Prop := ∃ pl : Addr → Sem Bool, ∀ L : Addr, eval (.Call (.Attribute (.Call (.Name "super" p0) [] [] p1) "__init__" p2) [msg] [] p3) (envF F f L) = (do
  let ov ← attributeBase (.Call (.Name "super" p0) [] [] p1) "__init__" (envF F f L) (eval (.Call (.Name "super" p0) [] [] p1) (envF F f L))
  standAt p2.atName
  let (g, first) ← holding [ov] (getMethod ov "__init__" (pl L))
  callWith p3 g first (backTo p3 (starEach [msg] (envF F f L))) [])
/-- THE RULE: an __init__ whose first statement is super().__init__(text) -/
theorem fn_super {CX : CXT} {N ps : List Str} {F : NF} {f C cc : Addr} {k : Nat} {sp : Sp} {B nI iI : String} {bB : List Value} {oc : Value} {od an : Option Addr} {osl : Array (Option Value)} {kV doc pm ct : Value}
    {msg : Expr} {p0 p1 p2 p3 p4 : Pos} {body : List Stmt} (XB : XBase B nI iI bB) (XC : XCls K C nI bB) (XS : XSup P K mg C f cc B iI F)
    (lk : K.lookup f = some ⟨oc, od, .func (PySem.W.fnX F.name F.qual F.params F.body F.scope F.cl .none kV doc pm an (.ref F.c) ct), osl⟩) (hcd : PySem.W.codeIn K (.ref F.c) F.qual = true)
    (hbd : F.body = .Expr (.Call (.Attribute (.Call (.Name "super" p0) [] [] p1) "__init__" p2) [msg] [] p3) p4 :: body)
    (hms : ∀ L : Addr, starEach [msg] (envF F f L) = [(false, eval msg (envF F f L))]) (hia : ∀ L : Addr, interactive (envF F f L) = false)
    (hcl : SupCall F f p0 p1 p2 p3 msg)
    (hsw : ∀ L : Addr, swapsWith (.Call (.Attribute (.Call (.Name "super" p0) [] [] p1) "__init__" p2) [msg] [] p3) none p4.line (envF F f L) = pure false)
    (S : NScope N ps ["__class__"] F.scope) (hN0 : N[0]? = some ("self" : Str)) (len : ∀ vs H Q E, sp vs H Q E → vs.length = ps.length)
    (hbody : ∀ (A : Around) (outer : List Env) (s : Shared) (H : Hp) (vs : List V) (Q : VK) (E : XK), Room k (A.deeper (envF F f s.heap.objs.size)) → sp vs H Q E →
      ∃ (te : TE) (t : TS) (a : Addr), PE (ncx CX P w K mg base N F f A outer s H E) msg te ∧ PSs (ncx CX P w K mg base N F f A outer s H E) body t ∧ vs[0]? = some (.ref a) ∧ H a = some (exo a C none) ∧
        te (startF N vs [some (.ref C)]) H fun _ H1 => H1 a = some (exo a C none) ∧ t { nx := fun _ H2 => Q .non H2, rt := Q } (startF N vs [some (.ref C)]) H1) :
    FnOk P w K mg base CX (k + 1) f (PySem.W.fnX F.name F.qual F.params F.body F.scope F.cl .none kV doc pm an (.ref F.c) ct) ps sp := by
  refine ⟨len, fun A outer s H args us vs Q E hr e0 hb r hsp => ?_⟩
  have hl := len _ _ _ _ hsp
  obtain ⟨pl, hcl⟩ := hcl
  have inS : ∀ {b : Addr} {o : Obj}, K.lookup b = some o → s.heap.get? b = some o ∧ H b = none := fun {b o} q => e0.bs b o (e0.mod.kin _ _ q)
  have KX : K.In s.heap := fun b o q => (inS q).1
  have lim : s.heap.NoLimit := e0.mod.nolimit.keeps fun b o e => (e0.bs b o e).1
  obtain ⟨o1, d1, sl1, hcell⟩ := XS.cell
  obtain ⟨o2, d2, cvs, sl2, file, tf, hcode, hvs, hfile⟩ := XS.code
  obtain ⟨cd, hcls⟩ := XS.cls
  obtain ⟨ar, hp, har⟩ := XS.self
  obtain ⟨mb, hb1, hb2⟩ := e0.mod.blt
  have CA : CellsAt F.cl ["__class__"] [some (V.ref C)] s.heap H := by
    rw [XS.cl]
    have one : ∀ {y : Str} {c : Addr}, List.lookup y [(("__class__" : Str), cc)] = some c → y = "__class__" ∧ c = cc := fun {y c} q => by
      have q' := PySem.mem_of_lookup q
      rw [List.mem_singleton] at q'
      exact ⟨(Prod.mk.inj q').1, (Prod.mk.inj q').2⟩
    have ic : s.heap.IsCell cc (some (.ref C)) := ⟨_, (inS hcell).1, rfl⟩
    refine ⟨rfl, fun y c hy => ?_, fun x y c hx hy => ?_, fun i y hy => ?_⟩
    · rw [(one hy).2]
      exact ⟨(inS hcell).2, _, ic⟩
    · rw [(one hx).1, (one hy).1]
    · have hi : i = 0 := by
        cases i with
        | zero => rfl
        | succ i => simp at hy
      subst hi
      obtain rfl : ("__class__" : Str) = y := Option.some.inj hy
      refine ⟨cc, by simp [List.lookup], fun v hv => ⟨.ref C, ?_, ic⟩⟩
      obtain rfl : V.ref C = v := Option.some.inj (Option.some.inj hv)
      rfl
  refine PySem.ks_codeAny_call_defAt (fd := PySem.W.fnX F.name F.qual F.params F.body F.scope F.cl .none kV doc pm an (.ref F.c) ct) (body := F.body) (binds := ps.zip us) hr.depth (KX _ _ lk) rfl lim (PySem.W.codeRec_of KX hcd) rfl hb S.nocell
    (fun ⟨n, _⟩ hy => S.par n (List.of_mem_zip hy).1) (fun h1 hns kp => ?_) S.co S.gen S.kind
  obtain ⟨te, t, a, hte, ht, h0, ha, hq⟩ := hbody A outer s H vs Q E (hr.deeper _) hsp
  have I0 : Inv (ncx CX P w K mg base N F f A outer s H E) [] (startF N vs [some (.ref C)]) H { s with heap := h1, toks := s.toks + (ps.zip us).length } := inv_startN S hr.hd e0 hl r CA hns kp
  have KX1 : K.In h1 := fun b o q => kp _ _ (KX _ _ q)
  rw [hbd]
  refine PySem.ks_wpAt_execs_cons (PySem.ks_wpAt_Expr_any (PySem.ks_wpAt_MethodCall ?_ (hcl _)) (hia _) (hsw _))
  refine PySem.ks_wpAt_super_base (env := envF F f s.heap.objs.size) XS.kS XS.kC (by decide) rfl (KX1 _ _ lk) rfl hp rfl (KX1 _ _ hcode) rfl hvs hfile XS.top ?_
  refine PySem.W.ks_loadName_global S.kind XS.kS (Calls.loadGlobal_builtin (I0.mod.glob.keeps I0.bk) XS.noS (hb1.keeps I0.bk) ((hb2 "super" (by decide)).trans boot_super) ⟨rfl, ?_⟩)
  refine PySem.wpAny_loadName_free S.kind XS.kC (by show F.cl.lookup _ = _; rw [XS.cl]; simp [List.lookup]) ⟨_, KX1 _ _ hcell, rfl⟩ ?_
  rw [har]
  obtain ⟨m0, hm0, hl0⟩ := I0.loc
  obtain ⟨ua, rua, lka⟩ := hl0 0 "self" (.ref a) hN0 (startF_at h0) (.inl XS.kA)
  have hself : m0 "self" = some (.ref a) := by
    rcases lka with ⟨_, z⟩ | ⟨z, _⟩
    · rw [z]
      exact congrArg some rua
    · have z' : F.scope.names.lookup ("self" : Str) = some .cell ∨ F.scope.names.lookup ("self" : Str) = some .free := z
      rw [XS.kA] at z'
      rcases z' with z' | z' <;> cases z'
  refine wpAny_loadName_local S.kind XS.kA hm0 hself ?_
  obtain ⟨oD, hD1, hD2⟩ : ∃ oD, h1.get? C = some oD ∧ oD.data = .cls cd := by
    have q := hcls
    unfold PySem.W.clsIn at q
    split at q
    · rename_i ho
      cases q
      exact ⟨_, KX1 _ _ ho, rfl⟩
    · cases q
  obtain ⟨t1, hx⟩ := exo_at I0.hok ha
  refine PySem.ks_wpAny_isType_cls hD1 hD2 ⟨rfl, ?_⟩
  refine PySem.ks_wpAny_call_super hD1 hD2 hx rfl (fun c e => by cases e) (PySem.W.looks_mroIn KX1 XS.sub) (fun h2 hso k2 => ?_)
  -- the super object at L2
  have I1 : Inv (ncx CX P w K mg base N F f A outer s H E) [] (startF N vs [some (.ref C)]) H { s with heap := h2, toks := s.toks + (ps.zip us).length } := I0.kept (h' := h2) (t' := s.toks + (ps.zip us).length) k2
  have KX2 : K.In h2 := fun b o q => k2 _ _ (KX1 _ _ q)
  have IA : PySem.W.InstAt h2 a (PySem.W.excObj C t1 none .none) C none := ⟨k2 _ _ hx, rfl, rfl, trivial⟩
  have hmro : PySem.W.Looks (model P w) h2 (mroOf (.ref C)) cd.mro := (PySem.W.looks_clsIn KX2 hcls).andThen .now
  have hup : PySem.W.alongIn K "__init__" ((cd.mro.dropWhile (· != .ref C)).drop 1) = some (some (.builtin iI)) := by
    have q := XS.up
    unfold PySem.W.ks_superIn at q
    rw [hcls] at q
    exact q
  refine PySem.W.kxs_getMethod XB.kf hso (PySem.W.looks_opaque KX2 XS.opq) hmro rfl KX2 hup (IA.type.andThen (PySem.W.looks_subIn KX2 XS.isB)) (PySem.W.ks_ne KX2 IA hcls) (by decide) ?_
  -- the method-wrapper at u
  have ku : ∀ b o, h2.get? b = some o → (h2.push (PySem.W.kxs_mw iI a)).get? b = some o := fun b o e => Heap.get?_push_of_some _ e
  have hu : (h2.push (PySem.W.kxs_mw iI a)).get? h2.objs.size = some (PySem.W.kxs_mw iI a) := Heap.get?_push_at rfl rfl
  have I2 : Inv (ncx CX P w K mg base N F f A outer s H E) [] (startF N vs [some (.ref C)]) H { s with heap := h2.push (PySem.W.kxs_mw iI a), toks := s.toks + (ps.zip us).length + 1 } := I1.kept (h' := h2.push (PySem.W.kxs_mw iI a)) (t' := s.toks + (ps.zip us).length + 1) ku
  have I3 : Inv (ncx CX P w K mg base N F f A outer s H E) [(h2.objs.size, PySem.W.kxs_mw iI a)] (startF N vs [some (.ref C)]) H { s with heap := h2.push (PySem.W.kxs_mw iI a), toks := s.toks + (ps.zip us).length + 1 } :=
    I2.pins_of fun q hq' => by
      have q1 : q = (h2.objs.size, PySem.W.kxs_mw iI a) := by simpa using hq'
      subst q1
      refine ⟨hu, I1.hok.fresh (Nat.le_refl _), Nat.ne_of_gt I1.lt, I1.nofs (Nat.le_refl _), fun v z => by cases z⟩
  show wpAny (model P w) (ncx CX P w K mg base N F f A outer s H E).A (callWith p3 (.ref h2.objs.size) [] (backTo p3 (starEach [msg] (envF F f s.heap.objs.size))) []) _ _ _
  rw [hms]
  refine PySem.W.kxs_callWith (i := iI) (x := a) (u := h2.objs.size) rfl (Calls.evalArgs_plain ?_)
  show wpAny _ _ (spliced ((false, eval msg (envF F f s.heap.objs.size)) :: backTo p3 [])) _ _ _
  refine Calls.spliced_cons (thn (hte.run _ _ _ _ _ I3 hq) fun uv s3 ⟨v, H1, I4, rv, ea, q4⟩ => Calls.spliced_nil ?_)
  have hu3 : s3.heap.get? h2.objs.size = some (PySem.W.kxs_mw iI a) := (I4.pin (h2.objs.size, PySem.W.kxs_mw iI a) (List.mem_append_right _ List.mem_cons_self)).1
  obtain ⟨t3, hx3⟩ := exo_at I4.hok ea
  refine ⟨hu3, mw_call XB I4.kIn XC.ci hu3 hx3 (by rw [sizeLine_eq]; show 1 ≤ 16777216; decide) fun h4 t4 k4 hx4 => ?_⟩
  -- behind super().__init__
  have J := (I4.pins_of (pins' := []) fun q hq' => by cases hq').write (h' := h4) (t' := s3.toks) (x := a) (e := a) (o := exo a C none) (by rw [ea]; exact True.intro) (.inl rfl) k4 ⟨_, hx4⟩ (exo_ok hx4)
  rw [upd_self ea] at J
  refine PySem.wpAt_of_wpAny (wpAny_mono (ht.run [] _ _ H1 _ J q4) (fun fl s5 hs => ?_) fun e s5 hs => hs)
  have done : ∀ {σ5 : St} {H5 : Hp} {v5 : V} {u5 : Value}, Inv (ncx CX P w K mg base N F f A outer s H E) [] σ5 H5 s5 → RelV v5 u5 → Q v5 H5 → CE outer P w H s Q u5 s5 := fun {σ5 H5 v5 u5} J5 r5 q5 => ⟨v5, H5, J5.os, J5.bare, J5.base, J5.hok, r5, q5⟩
  cases fl with
  | ret u5 =>
    obtain ⟨v5, σ5, H5, J5, r5, q5⟩ := hs
    exact done J5 r5 q5
  | next =>
    obtain ⟨σ5, H5, J5, q5⟩ := hs
    exact done (v5 := V.non) (u5 := Value.none) J5 rfl q5
  | brk =>
    obtain ⟨_, _, _, q5⟩ := hs
    exact False.elim q5
  | cont =>
    obtain ⟨_, _, _, q5⟩ := hs
    exact False.elim q5
end
end L2


set_option Elab.async false
set_option linter.all false
set_option maxRecDepth 100000
set_option maxHeartbeats 4000000
namespace L2
open PySem PySem.Spec PyProof.Rows NdefX

/-! ### self.f = y on an error that is being made, whatever its base -/
section
open Builtin Builtin.ObjectAttr
variable {prog : Program} {w : World} {A : Around} {R : Result → Shared → Prop} {hp : Heap} {g : Array GenState} {dr : Drawn} {t : Nat} {os : OsState} {K : PySem.W.Frag} {B nI iI : String} {bB : List Value} {x C : Addr} {name : Str} {tk : Tok} {y : Value} {fv : Array Value}
theorem x_taker (hno : PySem.W.findIn K (.ref C) name = some none) : PySem.W.takerIn K C name = some none := by
  unfold PySem.W.takerIn
  rw [hno]
  rfl
theorem x_osa_new (XB : XBase B nI iI bB) (XC : XCls K C nI bB) (KX : K.In hp) (hx : hp.get? x = some { cls := .ref C, data := .fields fv }) (hno : PySem.W.findIn K (.ref C) name = some none)
    (fin : ∀ h2 t2 dx, (∀ b o, b ≠ x → hp.get? b = some o → h2.get? b = some o) → hp.objs.size ≤ dx → dx ≠ x → h2.get? x = some { cls := .ref C, dict := some dx, data := .fields fv } → h2.Ns1 dx (fun z => if z = name then some y else none) → R (.ok (.ret .none)) ⟨h2, g, dr, t2, os⟩) :
    codeAny (model prog w) A (.call (.builtin "object.__setattr__") ⟨[.ref x, .str name tk, y], []⟩) R ⟨hp, g, dr, t, os⟩ := by
  obtain ⟨cd, hc, hh⟩ := PySem.W.any_some XC.hd
  have xs : x ≠ hp.objs.size := Nat.ne_of_lt (Heap.lt_size hx)
  have look : PySem.W.Looks (model prog w) hp (classData C) cd := PySem.W.looks_clsIn KX hc
  refine PySem.W.osa_openX (od := none) XB.sf KX ⟨hx, rfl, rfl, trivial⟩ XC.ov (x_taker hno) fun b => ?_
  obtain ⟨n1, n2, n3, n4, n5, n6, n7, n8, n9, n10, n11⟩ := cd
  dsimp only at hh
  subst hh
  unfold storeInOwnDict ownDictForStores
  repeat (first | with_reducible refine HandSPX.store_in_new ?_ ?_ | with_reducible refine wpAny_loadPart_at hx ?_ | with_reducible refine look.at ?_ | wp_step)
  · exact ⟨_, #[], _, (Heap.get?_update_ne _ _ _ _ xs.symm).trans (Heap.get?_push_at rfl rfl), rfl, fun e he => absurd he (by simp), fun _ => rfl⟩
  · intro h2 t2 hn2 hs2
    have hx2 : (hp.push { cls := .type "dict", data := .dict #[] }).get? x = some { cls := .ref C, data := .fields fv } := Heap.get?_push_of_some _ hx
    refine fin h2 t2 hp.objs.size (fun b o hb ho => ?_) (Nat.le_refl _) xs.symm ?_ hn2
    · have e1 := Heap.get?_push_of_some { cls := .type "dict", data := .dict #[] } ho
      exact (hs2.2 b (Nat.ne_of_lt (Heap.lt_size ho))).trans ((Heap.get?_update_ne _ _ _ _ hb).trans e1)
    · have e2 := Heap.get?_update_self (fun o : Obj => { o with dict := some hp.objs.size }) hx2 rfl
      exact (hs2.2 x xs).trans e2
theorem x_osa_old {dx : Addr} {m0 : Str → Option Value} {nl : List Str} (XB : XBase B nI iI bB) (XC : XCls K C nI bB) (KX : K.In hp) (hx : hp.get? x = some { cls := .ref C, dict := some dx, data := .fields fv }) (hns : hp.Ns1 dx m0) (hw : Within m0 nl) (hz : nl.length ≤ 1000)
    (hno : PySem.W.findIn K (.ref C) name = some none)
    (fin : ∀ h2 t2, (∀ b o, b ≠ dx → hp.get? b = some o → h2.get? b = some o) → h2.Ns1 dx (fun z => if z = name then some y else m0 z) → R (.ok (.ret .none)) ⟨h2, g, dr, t2, os⟩) :
    codeAny (model prog w) A (.call (.builtin "object.__setattr__") ⟨[.ref x, .str name tk, y], []⟩) R ⟨hp, g, dr, t, os⟩ := by
  obtain ⟨oD, es1, ep1, hoD, hdD, _⟩ := hns.count hw
  obtain ⟨cd, hc, hh⟩ := PySem.W.any_some XC.hd
  have look : PySem.W.Looks (model prog w) hp (classData C) cd := PySem.W.looks_clsIn KX hc
  refine PySem.W.osa_openX (od := some oD) XB.sf KX ⟨hx, rfl, rfl, hoD⟩ XC.ov (x_taker hno) fun b => ?_
  obtain ⟨n1, n2, n3, n4, n5, n6, n7, n8, n9, n10, n11⟩ := cd
  dsimp only at hh
  subst hh
  unfold storeInOwnDict ownDictForStores
  repeat (first | with_reducible refine OEX.store_in_old hns hw hz ?_ | with_reducible refine wpAny_loadPart_at hx ?_ | with_reducible refine look.at ?_ | wp_step)
  intro h2 t2 hn2 hs2
  exact fin h2 t2 (fun b o hb ho => (hs2.2 b hb).trans ho) hn2
end

section
variable {X : Cx} {pins : List (Addr × Obj)} {σ : St} {H : Hp} {s : Shared} {a C dx : Addr} {f : Str} {y : V} {u : Value} {fs : List (Str × V)} {Q : Unit → Shared → Prop} {E : Value → Shared → Prop} {A : Around} {B nI iI : String} {bB : List Value}
theorem xst_new (XB : XBase B nI iI bB) (XC : XCls X.K C nI bB) (I : Inv X pins σ H s) (ea : H a = some (exo a C none)) (hno : PySem.W.findIn X.K (.ref C) f = some none) (ry : RelV y u)
    (next : ∀ dx s2, H dx = none → dx ≠ a → Inv X pins σ (upd (upd H dx (exd dx [(f, y)])) a (exo a C (some dx))) s2 → Q () s2) : wpAny (model X.prog X.w) A (setAttr (.ref a) f u) Q E s := by
  obtain ⟨t1, ho⟩ := exo_at I.hok ea
  obtain ⟨hp, g, d, t, os⟩ := s
  refine PySem.W.set_plain I.kIn (od := none) ⟨ho, rfl, rfl, trivial⟩ XC.sa (x_osa_new XB XC I.kIn ho hno fun h2 t2 dx kp dn dne hx hn => ?_)
  have fr : H dx = none := I.hok.fresh dn
  have nd : ∀ {b : Addr} {o : Obj}, hp.get? b = some o → b ≠ dx := fun {b o} q z => Nat.lt_irrefl _ (Nat.lt_of_lt_of_le (z ▸ Heap.lt_size q) dn)
  have na : ∀ {b : Addr}, H b = none → b ≠ a := fun {b} n z => by
    rw [z, ea] at n
    cases n
  have low : ∀ {b : Addr} {o : HO}, H b = some o → b ≠ dx := fun {b o} q => ne_of_none q fr
  have U : Un X.fs [] H (upd (upd H dx (exd dx [(f, y)])) a (exo a C (some dx))) hp h2 :=
    ⟨fun b o q n _ _ => kp b o (na n) q, fun b o q n _ _ => ⟨o.slots, kp b o (na n) q⟩, fun b o q n _ => by rw [upd_ne (na n), upd_ne (nd q), n],
      fun b o q _ => (Classical.em (b = a)).elim (fun e => by subst e; exact ⟨_, hx⟩) fun e => ⟨o, kp b o e q⟩, fun b xs q => by rw [upd_ne (at_ne ea q exo_tup), upd_ne (low q), q],
      fun b o v q => by rw [upd_ne (at_ne ea q exo_frz), upd_ne (low q), q], fun b ps q => ⟨#[], by rw [upd_ne (at_ne ea q exo_tbl), upd_ne (low q), q, Array.append_empty]⟩⟩
  refine next dx _ fr dne (I.un (t' := t2) U fun b o q => ?_)
  by_cases hb : b = a
  · subst hb
    rw [upd_same] at q
    obtain rfl := Option.some.inj q
    exact exo_ok hx
  rw [upd_ne hb] at q
  by_cases hd : b = dx
  · subst hd
    rw [upd_same] at q
    obtain rfl := Option.some.inj q
    exact exd_ok hn (relO_put (fs := []) ry fun _ => True.intro)
  rw [upd_ne hd] at q
  refine (I.hok b o q).stay (fun c v hc z => kp c v ?_ z) (fun c hc => ?_) fun c xs hc => ?_
  · rcases hc with hc | hc
    · rw [hc]
      exact hb
    · exact at_ne ea hc exo_own
  · rw [upd_ne (at_ne ea hc exo_own), upd_ne (low hc), hc]
  · rw [upd_ne (at_ne ea hc exo_tup), upd_ne (low hc), hc]
theorem xst_old (XB : XBase B nI iI bB) (XC : XCls X.K C nI bB) (I : Inv X pins σ H s) (ea : H a = some (exo a C (some dx))) (ed : H dx = some (exd dx fs)) (hl : fs.length ≤ 900) (hno : PySem.W.findIn X.K (.ref C) f = some none) (ry : RelV y u)
    (next : ∀ s2, Inv X pins σ (upd H dx (exd dx ((f, y) :: fs))) s2 → Q () s2) : wpAny (model X.prog X.w) A (setAttr (.ref a) f u) Q E s := by
  obtain ⟨t1, ho⟩ := exo_at I.hok ea
  obtain ⟨mA, hns, rel⟩ := exd_at I.hok ed
  have hw := within_of rel
  obtain ⟨hp, g, d, t, os⟩ := s
  obtain ⟨oD, _, _, hoD, _, _⟩ := hns.count hw
  refine PySem.W.set_plain I.kIn (od := some oD) ⟨ho, rfl, rfl, hoD⟩ XC.sa (x_osa_old XB XC I.kIn ho hns hw (by rw [List.length_map]; omega) hno fun h2 t2 kp hn => ?_)
  have there : ∃ o, h2.get? dx = some o := by
    obtain ⟨o, _, _, e2, _⟩ := hn
    exact ⟨o, e2⟩
  exact next _ (I.write (t' := t2) (x := dx) (e := dx) (o := exd dx ((f, y) :: fs)) (by rw [ed]; exact True.intro) (.inl rfl) kp there (exd_ok hn (relO_put ry rel)))
end

/-- self.f = e -/
def tXst (K : PySem.W.Frag) (C : Addr) (f : Str) (to te : TE) : TS := fun D σ H => te σ H fun y H1 => to σ H1 fun x H2 => ∃ a : Addr, x = .ref a ∧ PySem.W.findIn K (.ref C) f = some none ∧
  ((H2 a = some (exo a C none) ∧ ∀ dx, H2 dx = none → dx ≠ a → D.nx σ (upd (upd H2 dx (exd dx [(f, y)])) a (exo a C (some dx)))) ∨
    ∃ (dx : Addr) (fs : List (Str × V)), H2 a = some (exo a C (some dx)) ∧ H2 dx = some (exd dx fs) ∧ fs.length ≤ 900 ∧ D.nx σ (upd H2 dx (exd dx ((f, y) :: fs))))
theorem ps_xst {X : Cx} {o e : Expr} {to te : TE} {f : Str} {p' pos : Pos} {C : Addr} {B nI iI : String} {bB : List Value} (XB : XBase B nI iI bB) (XC : XCls X.K C nI bB) (ho : PE X o to) (he : PE X e te)
    (hs : swapsWith e (some (.Attribute o f p')) pos.line X.env = pure false := by rfl) : PS X (.Assign [.Attribute o f p'] e pos) (tXst X.K C f to te) := by
  refine ⟨fun pins s σ H D I h => plainObj_wpAny_Assign_Attribute (thn (he.run pins s σ H _ I h) fun v s1 ⟨y, H1, I1, r1, q1⟩ => thn (ho.run pins s1 σ H1 _ I1 q1) fun u s2 ⟨x, H2, I2, r2, a, ex, hno, q⟩ => ?_) hs⟩
  subst ex
  obtain rfl : u = Value.ref a := r2
  rcases q with ⟨ea, q⟩ | ⟨dx, fs, ea, ed, hl, q⟩
  · exact xst_new XB XC I2 ea hno r1 fun dx s3 n ne J => ⟨σ, _, J, q dx n ne⟩
  · exact xst_old XB XC I2 ea ed hl hno r1 fun s3 J => ⟨σ, _, J, q⟩
end L2


set_option Elab.async false
set_option linter.all false
set_option maxRecDepth 100000
set_option maxHeartbeats 4000000
namespace L2
open PySem PySem.Spec PyProof.Rows NdefX

/-! ### errors made: as values, to be raised -/
section
variable {X : Cx} {x : Str} {C fI : Addr} {p pos : Pos} {e : Expr} {es : List Expr} {ta : TA} {B nI iI : String} {bB : List Value} {CX : CXT} {k : Nat} {fd : FuncData} {ps : List Str} {sp : Sp} {ds : List Value} {dvs : List V}
/-- the call of a class without own __init__, with nothing -/
theorem x_call0 {pins : List (Addr × Obj)} {σ : St} {H : Hp} {s : Shared} {Q : Value → Shared → Prop} {E : Value → Shared → Prop} {A : Around} (XB : XBase B nI iI bB) (XC : XCls X.K C nI bB) (hi : PySem.W.findIn X.K (.ref C) "__init__" = some (some (.builtin iI))) (I : Inv X pins σ H s)
    (next : ∀ a h2, (∀ b o, s.heap.get? b = some o → h2.get? b = some o) → s.heap.objs.size ≤ a → h2.get? a = some (PySem.W.excObj C (a + 1) none .none) → Q (.ref a) { s with heap := h2 }) : wpAny (model X.prog X.w) A (call (.ref C) []) Q E s := by
  obtain ⟨nm, N1, qn, bs, bm, hdct, sn, sub, ab, col, dd, k0, k1, k2, k3, k5, hC, hT⟩ := PySem.W.excInit_of I.kIn XC.ci
  have look := PySem.W.looks_findIn (M := model X.prog X.w) I.kIn hi
  obtain ⟨hp, g, dr, tk, os⟩ := s
  exact PySem.W.call_B XB.fb hT hC look (Nat.zero_le _) fun h2 kp e1 _ => next _ h2 kp (Nat.le_succ _) e1
/-- C() -/
def tX0 (C : Addr) : TE := fun _ H Q => ∀ a, H a = none → Q (.ref a) (upd H a (exo a C none))
theorem pe_x0 (XB : XBase B nI iI bB) (XC : XCls X.K C nI bB) (hi : PySem.W.findIn X.K (.ref C) "__init__" = some (some (.builtin iI))) (hg : Gl X x) (hm : X.mg x = some (.ref C)) (hdb : (x == ("__debug__" : Str)) = false := by decide) :
    PE X (.Call (.Name x p) [] [] pos) (tX0 C) := by
  refine ⟨fun pins s σ H Q I h => wpAny_Call_Name_kw (ld_glob I hg hm ?_ hdb)⟩
  refine PySem.W.callWith_K0 I.kIn XC.kp (x_call0 XB XC hi I fun a h2 kp na e2 => ?_)
  exact ⟨.ref a, upd H a (exo a C none), I.laid (t' := s.toks) (a := a) (o := exo a C none) kp na (exo_ok e2), rfl, h a (I.hok.fresh na)⟩
/-- raise C() -/
theorem pmk_x0 (XB : XBase B nI iI bB) (XC : XCls X.K C nI bB) (hi : PySem.W.findIn X.K (.ref C) "__init__" = some (some (.builtin iI))) (hg : Gl X x) (hm : X.mg x = some (.ref C)) (hdb : (x == ("__debug__" : Str)) = false := by decide) :
    PMk X (.Call (.Name x p) [] [] pos) (fun _ H Q => Q (.ref C) none H) := by
  intro pins s σ H Q I h
  refine wpAny_Call_Name_kw (ld_glob I hg hm ?_ hdb)
  refine PySem.W.callWith_K0 I.kIn XC.kp (x_call0 XB XC hi I fun a h2 kp na e2 => ?_)
  exact ⟨a, _, _, s, H, .ref C, none, rfl, I, kp, Heap.get?_none_of_le na, e2, ⟨rfl, rfl⟩, rfl, rfl, I.hok.fresh na, rfl, I.bare, raises_own XC.eb XC.ty, h⟩

/-- the call of a class with an __init__ of its own -/
theorem x_call {pins : List (Addr × Obj)} {σ : St} {H1 : Hp} {s : Shared} {us : List Value} {vs : List V} {Q : Value → Shared → Prop} (XB : XBase B nI iI bB) (XC : XCls X.K C nI bB) (iC : PySem.W.findIn X.K (.ref C) "__init__" = some (some (.ref fI))) (tI : PySem.W.typeIn X.K (.ref fI) = some (.type "function"))
    (F1 : FnOk X.prog X.w X.K X.mg X.base CX k fI fd ps sp) (hr : Room (k + 1) X.A) (hb : Binds X.K fd ps ds) (hd : Vals dvs ds) (hx : Passes CX X (fun _ _ _ => False)) (I : Inv X pins σ H1 s) (r : Vals vs us) (hz : vs.length ≤ 1000) {R : V → Hp → Prop} {a : Addr} (ea : a = s.heap.objs.size + 1)
    (q : sp (.ref a :: (vs ++ dvs)) (upd H1 a (exo a C none)) R (fun _ _ _ => False))
    (next : ∀ s1 s2 H2 v, (∀ b o, s.heap.get? b = some o → s1.heap.get? b = some o) → s1.os = s.os → s1.gens = s.gens → Inv X pins σ (upd H1 a (exo a C none)) s1 → Un (frs X.stack) [] (upd H1 a (exo a C none)) H2 s1.heap s2.heap → HOk X.prog X.w H2 s2.heap → s2.os = s1.os → AllBare s2.gens → R v H2 → v = .non → Q (.ref a) s2)
    (hnon : ∀ v H2, R v H2 → v = .non) : wpAny (model X.prog X.w) X.A (call (.ref C) us) Q X.xe s := by
  obtain ⟨nm, N1, qn, bs, bm, hdct, sn, sub, ab, col, dd, k0, k1, k2, k3, k5, hC, hT⟩ := PySem.W.excInit_of I.kIn XC.ci
  obtain ⟨hp, g, dr, tk, os⟩ := s
  subst ea
  have up : hp.objs.size ≤ hp.objs.size + 1 := Nat.le_succ _
  have kk : ∀ b o, hp.get? b = some o → ((hp.push (PySem.W.kdv_tup us)).push (HandSPX.excO C hp.objs.size)).get? b = some o := fun b o e => Heap.get?_push_of_some _ (Heap.get?_push_of_some _ e)
  have hget : ((hp.push (PySem.W.kdv_tup us)).push (HandSPX.excO C hp.objs.size)).get? (hp.objs.size + 1) = some (HandSPX.excO C hp.objs.size) := by heap_get
  have J : Inv X pins σ (upd H1 (hp.objs.size + 1) (exo (hp.objs.size + 1) C none)) ⟨(hp.push (PySem.W.kdv_tup us)).push (HandSPX.excO C hp.objs.size), g, dr, tk, os⟩ := I.laid (t' := tk) kk up (exo_ok hget)
  have rr : Vals (V.ref (hp.objs.size + 1) :: (vs ++ dvs)) (Value.ref (hp.objs.size + 1) :: (us ++ ds)) := .cons rfl (r.append hd)
  have len : (Value.ref (hp.objs.size + 1) :: us ++ ds).length = ps.length := (rr.length.symm.trans (F1.len _ _ _ _ q))
  have lus : us.length ≤ sizeLine := by
    have z := r.length
    rw [sizeLine_eq]
    omega
  refine wpAny_call (HandSPX.call_own XB.fb hT hC (PySem.W.looks_findIn I.kIn iC) (fun self => PySem.W.bind_fn I.kIn self tI) lus
    (codeAny_mono (F1.run _ X.stack _ _ ⟨Value.ref (hp.objs.size + 1) :: us, []⟩ (Value.ref (hp.objs.size + 1) :: (us ++ ds)) _ _ (fun _ _ _ => False) (hr.make C us []) (J.env0.make C us []) (hb _ (Value.ref (hp.objs.size + 1) :: us) J.kIn len) rr q) fun res s2 z => ?_))
  cases res with
  | error er => exact hx pins σ _ _ er s2 J z
  | ok fl =>
    cases fl with
    | ret u =>
      obtain ⟨v, H2, os2, bare2, un2, hok2, rv, qv⟩ := z
      have ev := hnon v H2 qv
      have eu : u = Value.none := by
        rw [ev] at rv
        exact rv
      exact ⟨eu, next ⟨(hp.push (PySem.W.kdv_tup us)).push (HandSPX.excO C hp.objs.size), g, dr, tk, os⟩ s2 H2 v kk rfl rfl J un2 hok2 os2 bare2 qv ev⟩
    | next => exact False.elim z
    | brk => exact False.elim z
    | cont => exact False.elim z
/-- C(e, ..) as a value -/
def tXv (C : Addr) (sp : Sp) (dvs : List V) (ta : TA) : TE := fun σ H Q => ta σ H fun vs H1 => vs.length ≤ 1000 ∧ ∀ a, H1 a = none → sp (.ref a :: (vs ++ dvs)) (upd H1 a (exo a C none)) (fun v H2 => v = .non ∧ Q (.ref a) H2) (fun _ _ _ => False)
theorem pe_xv (XB : XBase B nI iI bB) (XC : XCls X.K C nI bB) (iC : PySem.W.findIn X.K (.ref C) "__init__" = some (some (.ref fI))) (tI : PySem.W.typeIn X.K (.ref fI) = some (.type "function")) (F1 : FnOk X.prog X.w X.K X.mg X.base CX k fI fd ps sp) (hr : Room (k + 1) X.A) (hb : Binds X.K fd ps ds) (hd : Vals dvs ds)
    (hx : Passes CX X (fun _ _ _ => False)) (hg : Gl X x) (hm : X.mg x = some (.ref C)) (ha : PA X (e :: es) ta) (hdb : (x == ("__debug__" : Str)) = false := by decide) (he : starEach (e :: es) X.env = (false, eval e X.env) :: starEach es X.env := by rfl)
    (hpl : (backTo pos (starEach es X.env)).any (·.1) = false := by rfl) : PE X (.Call (.Name x p) (e :: es) [] pos) (tXv C sp dvs ta) := by
  refine ⟨fun pins s σ H Q I h => wpAny_Call_Name_kw (ld_glob I hg hm ?_ hdb)⟩
  refine PySem.W.callWith_K (h₀ := X.base) I.ok.mod.kin XC.kp (thn (ha.run pos pins s σ H _ I h) fun us s1 ⟨vs, H1, I1, r1, hz, q1⟩ => ⟨I1.kIn, ?_⟩) he hpl
  exact x_call XB XC iC tI F1 hr hb hd hx I1 r1 hz rfl (q1 _ (I1.hok.fresh (Nat.le_succ _))) (fun s2 s3 H2 v kk os2 g2 J un hok ho ag qv ev => ⟨.ref _, H2, J.call' (ch := []) ho un hok ag (fun b z => absurd z (by simp)), rfl, qv.2⟩) fun v H2 z => z.1
/-- raise C(e, ..) -/
theorem pmk_x (XB : XBase B nI iI bB) (XC : XCls X.K C nI bB) (iC : PySem.W.findIn X.K (.ref C) "__init__" = some (some (.ref fI))) (tI : PySem.W.typeIn X.K (.ref fI) = some (.type "function")) (F1 : FnOk X.prog X.w X.K X.mg X.base CX k fI fd ps sp) (hr : Room (k + 1) X.A) (hb : Binds X.K fd ps ds) (hd : Vals dvs ds)
    (hx : Passes CX X (fun _ _ _ => False)) (hg : Gl X x) (hm : X.mg x = some (.ref C)) (ha : PA X (e :: es) ta) (hdb : (x == ("__debug__" : Str)) = false := by decide) (he : starEach (e :: es) X.env = (false, eval e X.env) :: starEach es X.env := by rfl)
    (hpl : (backTo pos (starEach es X.env)).any (·.1) = false := by rfl) : PMk X (.Call (.Name x p) (e :: es) [] pos) (tMkO C sp dvs ta) := by
  intro pins s σ H Q I h
  refine wpAny_Call_Name_kw (ld_glob I hg hm ?_ hdb)
  refine PySem.W.callWith_K (h₀ := X.base) I.ok.mod.kin XC.kp (thn (ha.run pos pins s σ H _ I h) fun us s1 ⟨vs, H1, I1, r1, hz, q1⟩ => ⟨I1.kIn, ?_⟩) he hpl
  obtain ⟨hp, g, dr, tk, os⟩ := s1
  refine x_call XB XC iC tI F1 hr hb hd hx I1 r1 hz rfl (q1 _ (I1.hok.fresh (Nat.le_succ _))) (fun s2 s3 H2 v kk os2 g2 J un hok ho ag qv ev => ?_) fun v H2 z => z.1
  obtain ⟨_, d, fs, ea, ed, hd1, q2⟩ := qv
  obtain ⟨h2, ga, da, tka, osa⟩ := s2
  obtain ⟨h3, gb, db, tkb, osb⟩ := s3
  exact mk_end (raises_own XC.eb XC.ty) I1 (Nat.le_succ _) kk un hok (ho.trans os2) ag ea ed hd1 q2
end
end L2


set_option Elab.async false
set_option linter.all false
set_option maxRecDepth 100000
set_option maxHeartbeats 4000000
/-! words for all laws: a def's promise in one hand, the draws' source -/
namespace L2
open PySem PySem.Spec PyProof.Rows

/-- the module's name x is a def that keeps sp -/
structure Cal (P : Program) (w : World) (K : PySem.W.Frag) (mg : Str → Option Value) (base : Heap) (k : Nat) (x : Str) (ps : List Str) (sp : Sp) : Prop where
  ex : ∃ f fd, mg x = some (.ref f) ∧ PySem.W.keepIn K (.ref f) = true ∧ Binds K fd ps [] ∧ FnOk P w K mg base (L2.CX P w) k f fd ps sp
theorem FnOk.toX {P : Program} {w : World} {K : PySem.W.Frag} {mg : Str → Option Value} {base : Heap} {CX : CXT} {k : Nat} {f : Addr} {fd : FuncData} {ps : List Str} {sp : Sp} (o : FnOk P w K mg base CX0 k f fd ps sp) : FnOk P w K mg base CX k f fd ps sp :=
  ⟨o.len, fun A outer s H args us vs Q E hr e0 hb hv hs => codeAny_mono (o.run A outer s H args us vs Q E hr e0 hb hv hs) fun r s2 z => by
    cases r with
    | error e => exact False.elim z
    | ok fl => cases fl <;> exact z⟩
section
variable {X : Cx} {k : Nat} {x : Str} {ps : List Str} {sp : Sp} {E : XK} {e : Expr} {es : List Expr} {t : TA} {p pos : Pos}
/-- f(e, ..), nothing raised -/
theorem pe_cal (c : Cal X.prog X.w X.K X.mg X.base k x ps sp) (hr : Room k X.A) (hg : Gl X x) (ha : PA X (e :: es) t) (hdb : (x == ("__debug__" : Str)) = false := by decide)
    (he : starEach (e :: es) X.env = (false, eval e X.env) :: starEach es X.env := by rfl) (hpl : (backTo pos (starEach es X.env)).any (·.1) = false := by rfl) : PE X (.Call (.Name x p) (e :: es) [] pos) (tCall sp [] E0 t) := by
  obtain ⟨f, fd, hm, hk, hb, G⟩ := c.ex
  exact pe_call G hr hg hm hk hb .nil passL ha hdb he hpl
theorem pe_cal0 (c : Cal X.prog X.w X.K X.mg X.base k x ps sp) (hr : Room k X.A) (hg : Gl X x) (hdb : (x == ("__debug__" : Str)) = false := by decide) : PE X (.Call (.Name x p) [] [] pos) (tCall sp [] E0 tNil) := by
  obtain ⟨f, fd, hm, hk, hb, G⟩ := c.ex
  exact pe_call0 G hr hg hm hk hb .nil passL hdb
/-- .. what it raises goes on -/
theorem pe_calE (c : Cal X.prog X.w X.K X.mg X.base k x ps sp) (hr : Room k X.A) (hg : Gl X x) (hx : Passes (L2.CX X.prog X.w) X E) (ha : PA X (e :: es) t) (hdb : (x == ("__debug__" : Str)) = false := by decide)
    (he : starEach (e :: es) X.env = (false, eval e X.env) :: starEach es X.env := by rfl) (hpl : (backTo pos (starEach es X.env)).any (·.1) = false := by rfl) : PE X (.Call (.Name x p) (e :: es) [] pos) (tCall sp [] E t) := by
  obtain ⟨f, fd, hm, hk, hb, G⟩ := c.ex
  exact pe_call G hr hg hm hk hb .nil hx ha hdb he hpl
/-- .. in a try -/
theorem pe_calT {W : WX} (c : Cal X.prog X.w X.K X.mg X.base k x ps sp) (hr : Room k X.A) (hg : Gl X x) (tk : Takes X W) (ha : PA X (e :: es) t) (hdb : (x == ("__debug__" : Str)) = false := by decide)
    (he : starEach (e :: es) X.env = (false, eval e X.env) :: starEach es X.env := by rfl) (hpl : (backTo pos (starEach es X.env)).any (·.1) = false := by rfl) : PE X (.Call (.Name x p) (e :: es) [] pos) (tCallS sp (WE W) t) := by
  obtain ⟨f, fd, hm, hk, hb, G⟩ := c.ex
  exact pe_callS G hr hg hm hk hb (fun σ => passAt tk σ) ha hdb he hpl
end

/-! ### rules whose K is told (within a comprehension) -/
theorem call_lenK {X : Cx} (K : PySem.W.Frag) (h : X.K = K := by rfl) : CallR X (.builtin "len") (Evl.rLenS K) := by
  subst h
  exact call_len_seq
theorem call_listK {X : Cx} (K : PySem.W.Frag) (h : X.K = K := by rfl) : CallR X (.type "list") (Evl.rListS K) := by
  subst h
  exact call_list_of

theorem call_tupK {X : Cx} (K : PySem.W.Frag) (h : X.K = K := by rfl) : CallR X (.type "tuple") (fun xs H Q => ∃ p ys, xs = [.ref p] ∧ ((SqL K H p ys ∧ ∀ l, H l = none → Q (.ref l) (upd H l (.tup ys))) ∨ (SqT K H p ys ∧ Q (.ref p) H))) := by
  subst h
  exact call_tuple_of
section
variable {X : Cx} (K : PySem.W.Frag)
theorem ix_listK (h : X.K = K := by rfl) : IxR X (rIxL K) := by
  subst h
  exact ix_list
theorem ix_tupK (h : X.K = K := by rfl) : IxR X (rIxT K) := by
  subst h
  exact ix_tup
theorem sl_listK (h : X.K = K := by rfl) : SlR X (rSlL K) := by
  subst h
  exact sl_list
theorem sl_tupK (h : X.K = K := by rfl) : SlR X (rSlT K) := by
  subst h
  exact sl_tup
theorem op_catTK (h : X.K = K := by rfl) : OpR X (binaryOp .Add) (rCatT K) := by
  subst h
  exact op_catT
theorem op_inK (h : X.K = K := by rfl) : OpR X (compareOp .In) (rIn K false) := by
  subst h
  exact op_in_seq
theorem op_notInK (h : X.K = K := by rfl) : OpR X (compareOp .NotIn) (rIn K true) := by
  subst h
  exact op_notIn_seq
theorem op_inDK (hu : X.A.units + 65 < cLine) (h : X.K = K := by rfl) : OpR X (compareOp .In) (rInD K) := by
  subst h
  exact op_inD hu
theorem op_notInDK (hu : X.A.units + 65 < cLine) (h : X.K = K := by rfl) : OpR X (compareOp .NotIn) (rNotInD K) := by
  subst h
  exact op_notInD hu
theorem op_eqDK (hu : X.A.units + 64 < cLine) (h : X.K = K := by rfl) : OpR X (compareOp .Eq) (rEqD K) := by
  subst h
  exact op_eqD hu
theorem op_neDK (hu : X.A.units + 64 < cLine) (h : X.K = K := by rfl) : OpR X (compareOp .NotEq) (rNeD K) := by
  subst h
  exact op_neD hu
theorem cr_sumK (hc : X.calm = true) (h : X.K = K := by rfl) : CallR X (.builtin "sum") (rSum K) := by
  subst h
  exact cr_sum hc
theorem cr_maxK (hc : X.calm = true) (h : X.K = K := by rfl) : CallR X (.builtin "max") (rMax K) := by
  subst h
  exact cr_max hc
theorem cr_minK (hc : X.calm = true) (h : X.K = K := by rfl) : CallR X (.builtin "min") (rMin K) := by
  subst h
  exact cr_min hc
theorem cr_anyK (hc : X.calm = true) (h : X.K = K := by rfl) : CallR X (.builtin "any") (rAny K) := by
  subst h
  exact cr_any hc
theorem cr_allK (hc : X.calm = true) (h : X.K = K := by rfl) : CallR X (.builtin "all") (rAll K) := by
  subst h
  exact cr_all hc
theorem mt_indexK (h : X.K = K := by rfl) : MtR X "list.index" (rIndex K) := by
  subst h
  exact mt_index
theorem call_isiK' (h : X.K = K := by rfl) : CallR X (.builtin "isinstance") (rIsi K) := by
  subst h
  exact call_isi
end
theorem hu64_of {A : Around} {k : Nat} (hr : Room k A) : A.units + 64 < cLine := by
  have := hr.un
  omega
theorem hu65_of {A : Around} {k : Nat} (hr : Room k A) : A.units + 65 < cLine := by
  have := hr.un
  omega

theorem use_lc {wi : TI} {g : TG} {tt : TT} {te : TE} {vs : List Nat} {σ : St} {H : Hp} {xs : List V} {Q : VK} (h : Evl.EvL (tLc wi g tt te vs) σ H xs) (k : ∀ p H2, H p = none → Evl.Ex H H2 → H2 p = some (.lst xs) → Q (.ref p) H2) : tLc wi g tt te vs σ H Q := h H (Evl.Ex.refl H) Q k
theorem ex_same {H H1 : Hp} (h : Evl.Ex H H1) : Same H H1 := h
theorem et_yes {σ : St} {H : Hp} : Evl.EvT tYes σ H true := fun H3 _ _ q3 => q3 H3 (Evl.Ex.refl H3)
/-- all of a range -/
theorem given_all (n : Nat) (v : Nat → V) : Evl.given n (fun _ => true) v = (List.range n).map v := by
  unfold Evl.given
  rw [List.filter_eq_self.mpr (fun _ _ => rfl)]

/-! ### what stays -/
/-- all that was tracked stands, but at d and L -/
def But (d L : Addr) (H H' : Hp) : Prop := ∀ b o, H b = some o → b ≠ d → b ≠ L → H' b = some o
theorem But.refl {d L : Addr} {H : Hp} : But d L H H := fun _ _ h _ _ => h
theorem But.trans {d L : Addr} {H H1 H2 : Hp} (a : But d L H H1) (b : But d L H1 H2) : But d L H H2 := fun c o h h1 h2 => b c o (a c o h h1 h2) h1 h2
theorem But.of_same {d L : Addr} {H H1 : Hp} (a : Same H H1) : But d L H H1 := fun c o h _ _ => a c o h
theorem But.upd_d {d L : Addr} {H H1 : Hp} {o : HO} (a : But d L H H1) : But d L H (upd H1 d o) := fun c u h h1 h2 => by rw [upd_ne h1]; exact a c u h h1 h2
theorem But.upd_L {d L : Addr} {H H1 : Hp} {o : HO} (a : But d L H H1) : But d L H (upd H1 L o) := fun c u h h1 h2 => by rw [upd_ne h2]; exact a c u h h1 h2
theorem But.new {d L p : Addr} {H H1 : Hp} {o : HO} (a : But d L H H1) (hp : H p = none) : But d L H (upd H1 p o) := fun c u h h1 h2 => by rw [upd_ne (ne_of_none h hp)]; exact a c u h h1 h2
theorem Same.new {H : Hp} {p : Addr} {o : HO} (hp : H p = none) : Same H (upd H p o) := fun c u h => by rw [upd_ne (ne_of_none h hp)]; exact h

/-! ### the draws' source -/
/-- its pairs -/
def srcD (L : Addr) (l m t : Int) : List (Key × V) := [(Sum.inr "cells", .ref L), (Sum.inr "left", .int l), (Sum.inr "mixed", .int m), (Sum.inr "turn", .int t)]
theorem kne {a b : Str} (h : (a == b) = false) : ¬ (Sum.inr a : Key) = Sum.inr b := fun z => by
  have e : a = b := Sum.inr.inj z
  subst e
  simp at h
section
variable {L : Addr} {l m t x : Int}
theorem src_cells : valV (srcD L l m t) (Sum.inr "cells" : Key) = some (.ref L) := valV_pos rfl
theorem src_left : valV (srcD L l m t) (Sum.inr "left" : Key) = some (.int l) := (valV_neg (kne (by decide +kernel))).trans (valV_pos rfl)
theorem src_mixed : valV (srcD L l m t) (Sum.inr "mixed" : Key) = some (.int m) := (valV_neg (kne (by decide +kernel))).trans ((valV_neg (kne (by decide +kernel))).trans (valV_pos rfl))
theorem src_turn : valV (srcD L l m t) (Sum.inr "turn" : Key) = some (.int t) := (valV_neg (kne (by decide +kernel))).trans ((valV_neg (kne (by decide +kernel))).trans ((valV_neg (kne (by decide +kernel))).trans (valV_pos rfl)))
theorem put_left : putK (srcD L l m t) (Sum.inr "left" : Key) (.int x) = srcD L x m t := by
  unfold putK srcD
  rw [if_pos (by simp)]
  simp only [List.map_cons, List.map_nil]
  rw [if_neg (kne (by decide +kernel)), if_pos True.intro, if_neg (kne (by decide +kernel)), if_neg (kne (by decide +kernel))]
theorem put_turn : putK (srcD L l m t) (Sum.inr "turn" : Key) (.int x) = srcD L l m x := by
  unfold putK srcD
  rw [if_pos (by simp)]
  simp only [List.map_cons, List.map_nil]
  rw [if_neg (kne (by decide +kernel)), if_neg (kne (by decide +kernel)), if_neg (kne (by decide +kernel)), if_pos True.intro]
end
theorem merge_src {L : Addr} {l m t : Int} : mergeK [] (srcD L l m t) = srcD L l m t := by
  unfold mergeK srcD
  simp only [List.foldl_cons, List.foldl_nil]
  rw [putK_new (kvs := []) _ rfl, List.nil_append, putK_new _ ((valV_neg (kne (by decide +kernel))).trans rfl)]
  simp only [List.nil_append, List.cons_append]
  rw [putK_new _ ((valV_neg (kne (by decide +kernel))).trans ((valV_neg (kne (by decide +kernel))).trans rfl))]
  simp only [List.nil_append, List.cons_append]
  rw [putK_new _ ((valV_neg (kne (by decide +kernel))).trans ((valV_neg (kne (by decide +kernel))).trans ((valV_neg (kne (by decide +kernel))).trans rfl)))]
  rfl
section
variable {H : Hp} {d L : Addr} {l m t x : Int} (h : H d = some (.dK (srcD L l m t)))
include h
theorem dg_cells : DGet H d (.str "cells") (some (.ref L)) := by rw [← src_cells (L := L) (l := l) (m := m) (t := t)]; exact DGet.k (k := Sum.inr "cells") h
theorem dg_left : DGet H d (.str "left") (some (.int l)) := by rw [← src_left (L := L) (l := l) (m := m) (t := t)]; exact DGet.k (k := Sum.inr "left") h
theorem dg_mixed : DGet H d (.str "mixed") (some (.int m)) := by rw [← src_mixed (L := L) (l := l) (m := m) (t := t)]; exact DGet.k (k := Sum.inr "mixed") h
theorem dg_turn : DGet H d (.str "turn") (some (.int t)) := by rw [← src_turn (L := L) (l := l) (m := m) (t := t)]; exact DGet.k (k := Sum.inr "turn") h
theorem dp_left : DPut H d (.str "left") (.int x) (upd H d (.dK (srcD L x m t))) := by rw [← put_left (L := L) (l := l) (m := m) (t := t)]; exact DPut.k (k := Sum.inr "left") h (by show 4 < sizeLine; decide)
theorem dp_turn : DPut H d (.str "turn") (.int x) (upd H d (.dK (srcD L l m x))) := by rw [← put_turn (L := L) (l := l) (m := m) (t := t)]; exact DPut.k (k := Sum.inr "turn") h (by show 4 < sizeLine; decide)
end
theorem tT {b : Bool} {A B : Prop} (hb : b = true) (h : A) : if b = true then A else B := by rw [if_pos hb]; exact h
theorem tF {b : Bool} {A B : Prop} (hb : b = false) (h : B) : if b = true then A else B := by rw [hb, if_neg Bool.false_ne_true]; exact h
/-- the source at d, its cells at L -/
structure Src (d L : Addr) (H : Hp) : Prop where
  ex : ∃ (cs : List Int) (l m t : Int), H d = some (.dK (srcD L l m t)) ∧ H L = some (.lst (cs.map V.int)) ∧ cs.length ≤ 63
theorem Src.same {d L : Addr} {H H1 : Hp} (S : Src d L H) (h : Same H H1) : Src d L H1 := by
  obtain ⟨cs, l, m, t, h1, h2, h3⟩ := S.ex
  exact ⟨cs, l, m, t, h _ _ h1, h _ _ h2, h3⟩
theorem Src.ne {d L : Addr} {H : Hp} (S : Src d L H) : d ≠ L := by
  obtain ⟨cs, l, m, t, h1, h2, _⟩ := S.ex
  exact ne_of h1 h2 (by intro z; cases z)
theorem Src.d_ne {d L p : Addr} {H : Hp} (S : Src d L H) (hp : H p = none) : d ≠ p ∧ L ≠ p := by
  obtain ⟨cs, l, m, t, h1, h2, _⟩ := S.ex
  exact ⟨ne_of_none h1 hp, ne_of_none h2 hp⟩
/-- _law_pick(source, many): a number below many -/
def spPick : Sp := fun vs H Q _ => ∃ (d L : Addr) (n : Int), vs = [.ref d, .int n] ∧ Src d L H ∧ n ≤ 10000000 ∧ ∀ (r : Int) (H' : Hp), 0 ≤ r → (r < n ∨ r = 0) → Src d L H' → But d L H H' → Q (.int r) H'
/-- _law_source(script) -/
def spSource (K : PySem.W.Frag) : Sp := fun vs H Q _ => ∃ (a : Addr) (ns : List Int), vs = [.ref a] ∧ SqL K H a (ns.map V.int) ∧ ns.length ≤ 63 ∧ ∀ (d L : Addr) (H' : Hp), H d = none → H L = none → Src d L H' → Same H H' → Q (.ref d) H'
end L2


set_option Elab.async false
set_option linter.all false
set_option maxRecDepth 100000
set_option maxHeartbeats 4000000
/-! the errors' own __init__, shape by shape -/
namespace L2
open PySem PySem.Spec PyProof.Rows NdefX

/-- a text of ordinary size and signs -/
def Wee (x : Str) : Prop := x.length ≤ 1000 ∧ ∀ c ∈ x.cps.toList, c < 0x110000
theorem wee_of (s : String) (h : s.length ≤ 1000) : Wee (Str.ofString s) := by
  refine ⟨by rw [PySem.ofString_length]; exact h, fun c hc => ?_⟩
  rw [Str.ofString_eq_toList] at hc
  simp only [List.mem_map] at hc
  obtain ⟨ch, _, rfl⟩ := hc
  have v := ch.valid
  have e : ch.toNat = ch.val.toNat := rfl
  rw [e]
  rcases v with v | ⟨_, v⟩
  · have : ch.val.toNat < 0xd800 := v
    omega
  · have : ch.val.toNat < 0x110000 := v
    omega
theorem Wee.repr {x : Str} (h : Wee x) : (reprText x).length ≤ 10002 := by
  have := PySem.StrLaws.reprText_len x fun c hc => Nat.lt_trans (h.2 c hc) (by decide)
  have := h.1
  omega
theorem wee_app {x y : Str} (hx : Wee x) (hy : Wee y) (hl : x.length + y.length ≤ 1000) : Wee (x ++ y) := by
  refine ⟨by rw [Str.length_append]; exact hl, fun c hc => ?_⟩
  have e : (x ++ y).cps.toList = x.cps.toList ++ y.cps.toList := by
    show (x.cps ++ y.cps).toList = _
    simp
  rw [e] at hc
  rcases List.mem_append.mp hc with hc | hc
  · exact hx.2 c hc
  · exact hy.2 c hc

/-- the parts of a text between braces -/
theorem js_two {t2 : TE} {a : Str} {σ : St} {H : Hp} {Q : Str → Hp → Prop} (ha : a.length ≤ 1000) (h : t2 σ H fun x H1 => ∃ y : Str, x = .str y ∧ y.length ≤ 100000 ∧ Q (Str.empty ++ a ++ y) H1)
    (mono : ∀ (Q Q' : VK), (∀ v H1, Q v H1 → Q' v H1) → t2 σ H Q → t2 σ H Q') : tJs [tC (.str a), t2] Str.empty σ H Q := by
  have e0 : (Str.empty ++ a).length = a.length := by rw [Str.length_append]; exact Nat.zero_add _
  refine ⟨a, rfl, by rw [e0, sizeLine_eq]; omega, mono _ _ (fun v H1 ⟨y, e, hy, q⟩ => ⟨y, e, by rw [Str.length_append, e0, sizeLine_eq]; omega, q⟩) h⟩

section
variable {P : Program} {w : World} {K : PySem.W.Frag} {mg : Str → Option Value} {base : Heap} {C f cc c : Addr} {k : Nat} {B nI iI : String} {bB : List Value} {oc : Value} {od an : Option Addr} {osl : Array (Option Value)} {kV doc pm ct : Value} {qual txt : Str} {pr : Arguments} {p0 p1 p2 p3 p4 p5 p6 p7 p8 q1 q2 q3 q4 : Pos} {j : Nat}

/-! ### self.name = name -/
abbrev scNm : Scope := { kind := .function, names := [(("self" : Str), .local), (("name" : Str), .local), (("__class__" : Str), .free), (("super" : Str), .globalImplicit)], isGenerator := false, isCoroutine := false, more := [] }
abbrev supOf (p0 p1 p2 p3 p4 : Pos) (msg : Expr) : Stmt := .Expr (.Call (.Attribute (.Call (.Name "super" p0) [] [] p1) "__init__" p2) [msg] [] p3) p4
abbrev nfNm (qual : Str) (pr : Arguments) (cc c : Addr) (txt : Str) (j : Nat) (p0 p1 p2 p3 p4 p5 p6 p7 p8 q1 q2 q3 q4 : Pos) : NF :=
  ⟨"__init__", qual, pr, [supOf p0 p1 p2 p3 p4 (.JoinedStr [.Constant (.str txt) j p5, .FormattedValue (.Name "name" p6) 114 none p7] p8), .Assign [.Attribute (.Name "self" q1) "name" q2] (.Name "name" q3) q4], scNm, [(("__class__" : Str), cc)], c⟩
/-- a name that is kept -/
def spNm (C : Addr) : Sp := fun vs H Q _ => ∃ (a : Addr) (x : Str), vs = [.ref a, .str x] ∧ Wee x ∧ H a = some (exo a C none) ∧ ∀ dx, H dx = none → dx ≠ a → Q .non (upd (upd H dx (exd dx [("name", .str x)])) a (exo a C (some dx)))
theorem ok_nm (XB : XBase B nI iI bB) (XC : XCls K C nI bB) (XS : XSup P K mg C f cc B iI (nfNm qual pr cc c txt j p0 p1 p2 p3 p4 p5 p6 p7 p8 q1 q2 q3 q4)) (ht : txt.length ≤ 1000) (hno : PySem.W.findIn K (.ref C) "name" = some none)
    (hcl : SupCall (nfNm qual pr cc c txt j p0 p1 p2 p3 p4 p5 p6 p7 p8 q1 q2 q3 q4) f p0 p1 p2 p3 (.JoinedStr [.Constant (.str txt) j p5, .FormattedValue (.Name "name" p6) 114 none p7] p8))
    (lk : K.lookup f = some ⟨oc, od, .func (PySem.W.fnX "__init__" qual pr (nfNm qual pr cc c txt j p0 p1 p2 p3 p4 p5 p6 p7 p8 q1 q2 q3 q4).body scNm [(("__class__" : Str), cc)] .none kV doc pm an (.ref c) ct), osl⟩) (hcd : PySem.W.codeIn K (.ref c) qual = true) :
    FnOk P w K mg base (L2.CX P w) 1 f (PySem.W.fnX "__init__" qual pr (nfNm qual pr cc c txt j p0 p1 p2 p3 p4 p5 p6 p7 p8 q1 q2 q3 q4).body scNm [(("__class__" : Str), cc)] .none kV doc pm an (.ref c) ct) ["self", "name"] (spNm C) := by
  refine fn_super (N := ["self", "name", "__class__"]) (F := nfNm qual pr cc c txt j p0 p1 p2 p3 p4 p5 p6 p7 p8 q1 q2 q3 q4) (k := 0) XB XC XS lk hcd rfl (fun _ => rfl) (fun _ => rfl) hcl (fun _ => rfl) (by exact nscope_by (by show nscB _ _ _ scNm = true; decide +kernel)) rfl (fun vs H Q E h => ?_) (fun A outer s H vs Q E hr h => ?_)
  · obtain ⟨a, x, rfl, _⟩ := h
    rfl
  obtain ⟨a, x, rfl, hx, ha, q⟩ := h
  refine ⟨_, _, a, pe_joined (PJ.cons pe_str (PJ.cons (pe_fmtR (pv 1)) PJ.nil)), pss_one (ps_xst XB XC (pv 0) (pv 1)), rfl, ha, ?_⟩
  have e0 : (Str.empty ++ txt).length = txt.length := by rw [Str.length_append]; exact Nat.zero_add _
  have r0 := hx.repr
  refine ⟨txt, rfl, by rw [e0, sizeLine_eq]; omega, _, rfl, .inl ⟨x, rfl, by rw [sizeLine_eq]; omega, _, rfl, by rw [Str.length_append, e0, sizeLine_eq]; omega, ha, ?_⟩⟩
  exact ⟨_, rfl, _, rfl, a, rfl, hno, .inl ⟨ha, q⟩⟩
theorem nil_len {x : Str} : (Str.empty ++ x).length = x.length := by rw [Str.length_append]; exact Nat.zero_add _
theorem int_wee {i : Int} (h0 : 0 ≤ i) (h : i < 10 ^ 10) : (Str.ofString (toString i)).length ≤ 10 := toString_length_le h0 (by decide) h
theorem int_log {i : Int} (h0 : 0 ≤ i) (h : i < 10 ^ 10) : i.natAbs.log2 < 1920 := by
  have h1 : i.natAbs < 2 ^ 1920 := by
    have : i.natAbs < 10 ^ 10 := by omega
    have e : (10 : Nat) ^ 10 ≤ 2 ^ 1920 := by decide +kernel
    omega
  by_cases z : i.natAbs = 0
  · rw [z]; decide
  · exact (Nat.log2_lt z).mpr h1
/-! ### self.place = place -/
abbrev scPl : Scope := { kind := .function, names := [(("self" : Str), .local), (("place" : Str), .local), (("__class__" : Str), .free), (("super" : Str), .globalImplicit)], isGenerator := false, isCoroutine := false, more := [] }
abbrev msgPl (txt : Str) (j : Nat) (p5 p6 p7 p8 : Pos) : Expr := .JoinedStr [.Constant (.str txt) j p5, .FormattedValue (.Name "place" p6) (-1) none p7] p8
abbrev nfPl (qual : Str) (pr : Arguments) (cc c : Addr) (txt : Str) (j : Nat) (p0 p1 p2 p3 p4 p5 p6 p7 p8 q1 q2 q3 q4 : Pos) : NF :=
  ⟨"__init__", qual, pr, [supOf p0 p1 p2 p3 p4 (msgPl txt j p5 p6 p7 p8), .Assign [.Attribute (.Name "self" q1) "place" q2] (.Name "place" q3) q4], scPl, [(("__class__" : Str), cc)], c⟩
/-- a place that is kept -/
def spPl (C : Addr) : Sp := fun vs H Q _ => ∃ (a : Addr) (i : Int), vs = [.ref a, .int i] ∧ 0 ≤ i ∧ i < 10 ^ 10 ∧ H a = some (exo a C none) ∧ ∀ dx, H dx = none → dx ≠ a → Q .non (upd (upd H dx (exd dx [("place", .int i)])) a (exo a C (some dx)))
theorem ok_pl (XB : XBase B nI iI bB) (XC : XCls K C nI bB) (XS : XSup P K mg C f cc B iI (nfPl qual pr cc c txt j p0 p1 p2 p3 p4 p5 p6 p7 p8 q1 q2 q3 q4)) (ht : txt.length ≤ 1000) (hno : PySem.W.findIn K (.ref C) "place" = some none) (hcl : SupCall (nfPl qual pr cc c txt j p0 p1 p2 p3 p4 p5 p6 p7 p8 q1 q2 q3 q4) f p0 p1 p2 p3 (msgPl txt j p5 p6 p7 p8))
    (lk : K.lookup f = some ⟨oc, od, .func (PySem.W.fnX "__init__" qual pr (nfPl qual pr cc c txt j p0 p1 p2 p3 p4 p5 p6 p7 p8 q1 q2 q3 q4).body scPl [(("__class__" : Str), cc)] .none kV doc pm an (.ref c) ct), osl⟩) (hcd : PySem.W.codeIn K (.ref c) qual = true) :
    FnOk P w K mg base (L2.CX P w) 1 f (PySem.W.fnX "__init__" qual pr (nfPl qual pr cc c txt j p0 p1 p2 p3 p4 p5 p6 p7 p8 q1 q2 q3 q4).body scPl [(("__class__" : Str), cc)] .none kV doc pm an (.ref c) ct) ["self", "place"] (spPl C) := by
  refine fn_super (N := ["self", "place", "__class__"]) (F := nfPl qual pr cc c txt j p0 p1 p2 p3 p4 p5 p6 p7 p8 q1 q2 q3 q4) (k := 0) XB XC XS lk hcd rfl (fun _ => rfl) (fun _ => rfl) hcl (fun _ => rfl) (by exact nscope_by (by show nscB _ _ _ scPl = true; decide +kernel)) rfl (fun vs H Q E h => ?_) (fun A outer s H vs Q E hr h => ?_)
  · obtain ⟨a, x, rfl, _⟩ := h
    rfl
  obtain ⟨a, i, rfl, h0, h1, ha, q⟩ := h
  refine ⟨_, _, a, pe_joined (PJ.cons pe_str (PJ.cons (pe_fmt (pv 1)) PJ.nil)), pss_one (ps_xst XB XC (pv 0) (pv 1)), rfl, ha, ?_⟩
  have r0 := int_wee h0 h1
  refine ⟨txt, rfl, by rw [nil_len, sizeLine_eq]; omega, _, rfl, .inr ⟨i, rfl, int_log h0 h1, _, rfl, by rw [Str.length_append, nil_len, sizeLine_eq]; omega, ha, ?_⟩⟩
  exact ⟨_, rfl, _, rfl, a, rfl, hno, .inl ⟨ha, q⟩⟩

end

/-! ### a class of errors with its __init__, as the top has made it -/
abbrev nfS (st : Stmt) (q : Str) (cc c : Addr) : NF := ⟨"__init__", q, defArgs st, defBody st, defScope st, [(("__class__" : Str), cc)], c⟩
structure XI (P : Program) (K : PySem.W.Frag) (mg : Str → Option Value) (x q : Str) (st : Stmt) (ps : List Str) (C f cc c : Addr) (B nI iI : String) (bB : List Value) (fd : FuncData) : Prop where
  xb : XBase B nI iI bB
  g : mg x = some (.ref C)
  xc : XCls K C nI bB
  iC : PySem.W.findIn K (.ref C) "__init__" = some (some (.ref f))
  tI : PySem.W.typeIn K (.ref f) = some (.type "function")
  xs : XSup P K mg C f cc B iI (nfS st q cc c)
  lk : ∃ (oc : Value) (od : Option Addr) (osl : Array (Option Value)) (kV doc pm : Value) (an : Option Addr) (ct : Value), fd = PySem.W.fnX "__init__" q (defArgs st) (defBody st) (defScope st) [(("__class__" : Str), cc)] .none kV doc pm an (.ref c) ct ∧ K.lookup f = some ⟨oc, od, .func fd, osl⟩
  cd : PySem.W.codeIn K (.ref c) q = true
  bd : Binds K fd ps []
/-- the end of an __init__: the error at a has the fields fs, what stood stands -/
def Init (C a : Addr) (fs : List (Str × V)) (H : Hp) (Q : VK) : Prop := ∀ (dx : Addr) (H' : Hp), H dx = none → dx ≠ a → H' a = some (exo a C (some dx)) → H' dx = some (exd dx fs) → (∀ b o, H b = some o → b ≠ a → H' b = some o) → Q .non H'
/-- .. with a new sequence as one of its fields -/
def InitS (K : PySem.W.Frag) (tup : Bool) (C a : Addr) (fs : Addr → List (Str × V)) (ys : List V) (H : Hp) (Q : VK) : Prop := ∀ (t dx : Addr) (H' : Hp), H dx = none → dx ≠ a → H' a = some (exo a C (some dx)) → H' dx = some (exd dx (fs t)) →
  (if tup then SqT K H' t ys else H t = none ∧ H' t = some (.lst ys)) → (∀ b o, H b = some o → b ≠ a → H' b = some o) → Q .non H'
/-- a field more -/
theorem xst_go {H : Hp} {a C dx : Addr} {fs : List (Str × V)} {f : Str} {y : V} {G : Hp → Prop} (ea : H a = some (exo a C (some dx))) (ed : H dx = some (exd dx fs)) (hl : fs.length ≤ 900) (g : G (upd H dx (exd dx ((f, y) :: fs)))) :
    ∃ (dx : Addr) (fs : List (Str × V)), H a = some (exo a C (some dx)) ∧ H dx = some (exd dx fs) ∧ fs.length ≤ 900 ∧ G (upd H dx (exd dx ((f, y) :: fs))) := ⟨dx, fs, ea, ed, hl, g⟩
/-- sign and arguments -/
def spSA (K : PySem.W.Frag) (C : Addr) : Sp := fun vs H Q _ => ∃ (a : Addr) (x : Str) (l : Addr) (ys : List V), vs = [.ref a, .str x, .ref l] ∧ Wee x ∧ (SqL K H l ys ∨ SqT K H l ys) ∧ H a = some (exo a C none) ∧ InitS K true C a (fun t => [("arguments", .ref t), ("sign", .str x)]) ys H Q
def spNL (K : PySem.W.Frag) (C : Addr) : Sp := fun vs H Q _ => ∃ (a : Addr) (x : Str) (l : Addr) (ys : List V) (i : Int) (z : Str), vs = [.ref a, .str x, .ref l, .int i, .str z] ∧ Wee x ∧ Wee z ∧ 0 ≤ i ∧ i < 10 ^ 10 ∧ (SqL K H l ys ∨ SqT K H l ys) ∧ H a = some (exo a C none) ∧
  InitS K true C a (fun t => [("other", .str z), ("place", .int i), ("arguments", .ref t), ("sign", .str x)]) ys H Q
def spLR (C : Addr) : Sp := fun vs H Q _ => ∃ (a : Addr) (x y : V), vs = [.ref a, x, y] ∧ H a = some (exo a C none) ∧ Init C a [("right", y), ("left", x)] H Q
def spLb (K : PySem.W.Frag) (C : Addr) : Sp := fun vs H Q _ => ∃ (a : Addr) (l : Addr) (ys : List V), vs = [.ref a, .ref l] ∧ (SqL K H l ys ∨ SqT K H l ys) ∧ H a = some (exo a C none) ∧ InitS K false C a (fun t => [("labels", .ref t)]) ys H Q
theorem app_le {x y : Str} {m n : Nat} (h1 : x.length ≤ m) (h2 : y.length ≤ n) : (x ++ y).length ≤ m + n := by
  rw [Str.length_append]
  omega
theorem emp_le {y : Str} {n : Nat} (h2 : y.length ≤ n) : (Str.empty ++ y).length ≤ n := by
  rw [nil_len]
  exact h2
theorem le_line {n m : Nat} (h : n ≤ m) (hm : m ≤ 1000000) : n ≤ sizeLine := by
  rw [sizeLine_eq]
  omega
theorem or_seq {K : PySem.W.Frag} {H H' : Hp} {l : Addr} {ys : List V} (e : Same H H') (h : SqL K H l ys ∨ SqT K H l ys) : SqL K H' l ys ∨ SqT K H' l ys := h.imp (fun q => e.seq q) fun q => Evl.ex_t e q
theorem rd_but {H H' : Hp} {l a C : Addr} {d : Option Addr} {u : HO} (hu : ∀ b, u ≠ exo b C d) (e : ∀ b o, H b = some o → b ≠ a → H' b = some o) (ha : H a = some (exo a C d)) (h : Rd H l u) : Rd H' l u := by
  rcases h with h | ⟨o, h⟩
  · exact .inl (e l _ h (ne_of h ha (hu a)))
  · exact .inr ⟨o, e l _ h (ne_of h ha (fun z => exo_frz z.symm))⟩
theorem seq_but {K : PySem.W.Frag} {H H' : Hp} {l a C : Addr} {d : Option Addr} {ys : List V} (e : ∀ b o, H b = some o → b ≠ a → H' b = some o) (ha : H a = some (exo a C d)) (h : SqL K H l ys ∨ SqT K H l ys) : SqL K H' l ys ∨ SqT K H' l ys := by
  rcases h with (h | h) | (h | h)
  · exact .inl (.inl (rd_but (fun b z => by cases z) e ha h))
  · exact .inl (.inr h)
  · exact .inr (.inl (rd_but (fun b z => exo_tup z.symm) e ha h))
  · exact .inr (.inr h)
/-- the first field's heap -/
theorem one_but {H : Hp} {a dx C : Addr} {fs : List (Str × V)} (hd : H dx = none) : ∀ b o, H b = some o → b ≠ a → (upd (upd H dx (exd dx fs)) a (exo a C (some dx))) b = some o := fun b o h hb => by
  rw [upd_ne hb, upd_ne (ne_of_none h hd)]
  exact h
end L2


set_option Elab.async false
set_option linter.all false
set_option maxRecDepth 100000
set_option maxHeartbeats 4000000
/-! errors held as values: isinstance, their fields -/
namespace L2
open PySem PySem.Spec PyProof.Rows

/-- an error stands at a, its own dict (if any) holds fs -/
def ErrAt (H : Hp) (a C : Addr) (fs : List (Str × V)) : Prop := (H a = some (exo a C none) ∧ fs = []) ∨ ∃ dx, H a = some (exo a C (some dx)) ∧ H dx = some (exd dx fs)
theorem ErrAt.same {H H' : Hp} {a C : Addr} {fs : List (Str × V)} (h : ErrAt H a C fs) (e : Same H H') : ErrAt H' a C fs := by
  rcases h with ⟨h, f⟩ | ⟨dx, h1, h2⟩
  · exact .inl ⟨e _ _ h, f⟩
  · exact .inr ⟨dx, e _ _ h1, e _ _ h2⟩
theorem ErrAt.inst {X : Cx} {pins : List (Addr × Obj)} {σ : St} {H : Hp} {s : Shared} {a C : Addr} {fs : List (Str × V)} (I : Inv X pins σ H s) (h : ErrAt H a C fs) :
    ∃ (ox : Obj) (od : Option Obj), PySem.W.InstAt s.heap a ox C od ∧ (∀ (n : Str) (v : V), fs.lookup n = some v → ∃ (o : Obj) (u : Value), od = some o ∧ PySem.W.lookIn n o = some (some u) ∧ RelV v u) := by
  rcases h with ⟨h, rfl⟩ | ⟨dx, h1, h2⟩
  · obtain ⟨t1, ho⟩ := exo_at I.hok h
    exact ⟨_, none, ⟨ho, rfl, rfl, trivial⟩, fun n v z => by cases z⟩
  · obtain ⟨t1, ho⟩ := exo_at I.hok h1
    obtain ⟨mA, hns, rel⟩ := exd_at I.hok h2
    obtain ⟨od, hod, hl⟩ := lookIn_ns hns
    refine ⟨_, some od, ⟨ho, rfl, rfl, hod⟩, fun n v z => ?_⟩
    obtain ⟨u, hu, ru⟩ := RelO.some_of (v := v) (o := mA n) (by rw [← z]; exact rel n)
    exact ⟨od, u, rfl, by rw [hl, hu], ru⟩
/-- isinstance(e, c), e an error held as a value -/
def rIsX (K : PySem.W.Frag) : List V → Hp → VK → Prop := fun xs H Q => ∃ (a C : Addr) (fs : List (Str × V)) (c : V) (u : Value) (b : Bool), xs = [.ref a, c] ∧ ErrAt H a C fs ∧ ExcC K C ∧ ClsV c u ∧ PySem.W.kitOne K (.ref C) u = some b ∧ Q (.bl b) H
theorem call_isX {X : Cx} (K : PySem.W.Frag) (hK : X.K = K := by rfl) : CallR X (.builtin "isinstance") (rIsX K) := by
  subst hK
  intro pins s σ H xs us Q I r h
  obtain ⟨a, C, fs, c, u, b, rfl, ea, E, k, e, q⟩ := h
  obtain ⟨u1, u2, rfl, r1, r2⟩ := vals2 r
  have e2 := k.eq r2
  subst e2
  obtain rfl : u1 = Value.ref a := r1
  obtain ⟨ox, od, J, _⟩ := ea.inst I
  obtain ⟨cd, hcd, _⟩ := PySem.W.any_some E.hd
  exact PySem.W.kia_one (PySem.W.kitx_exc (by rw [hcd]; rfl) E.hg E.hk E.hs E.ha E.hn E.ht E.hm) I.kIn J e (fun z => nomatch z) fun tk => ⟨.bl b, H, I.tok tk, rfl, q⟩
/-- e.f, e an error held as a value -/
def tXval (K : PySem.W.Frag) (n : Str) (te : TE) : TE := fun σ H Q => te σ H fun x H1 => ∃ (a C : Addr) (fs : List (Str × V)) (v : V), x = .ref a ∧ ErrAt H1 a C fs ∧ ExcC K C ∧ PySem.W.findIn K (.ref C) n = some none ∧ fs.lookup n = some v ∧ Q v H1
theorem pe_xval {X : Cx} (K : PySem.W.Frag) {e : Expr} {te : TE} {n : Str} {pos : Pos} (he : PE X e te) (hb : attributeBase e n X.env (eval e X.env) = eval e X.env := by rfl) (hK : X.K = K := by rfl) : PE X (.Attribute e n pos) (tXval K n te) := by
  subst hK
  refine ⟨fun pins s σ H Q I h => attr_of hb (thn (he.run pins s σ H _ I h) fun u s1 hh => ?_)⟩
  obtain ⟨x, H1, I1, rx, a, C, fs, v, ex, ea, E, hno, hl, q⟩ := hh
  subst ex
  obtain rfl : u = Value.ref a := rx
  obtain ⟨ox, od, J, look⟩ := ea.inst I1
  obtain ⟨o, w, rfl, hw, rw'⟩ := look n v hl
  exact HandSPX.exc_get I1.kIn J E.hg E.hk E.hs (PySem.W.findObj_own E.hd hno rfl hw) (handed_of rw') ⟨v, H1, I1.tok _, rw', q⟩

/-! ### made as values -/
structure X0 (K : PySem.W.Frag) (mg : Str → Option Value) (x : Str) (C : Addr) (B nI iI : String) (bB : List Value) : Prop where
  xb : XBase B nI iI bB
  g : mg x = some (.ref C)
  xc : XCls K C nI bB
  hi : PySem.W.findIn K (.ref C) "__init__" = some (some (.builtin iI))
section
variable {X : Cx} {x q : Str} {C f cc c : Addr} {p pos : Pos} {e : Expr} {es : List Expr} {ta : TA} {B nI iI : String} {bB : List Value} {fd : FuncData} {ps : List Str} {sp : Sp} {st : Stmt}
theorem X0.pe (t : X0 X.K X.mg x C B nI iI bB) (hg : Gl X x) (hdb : (x == ("__debug__" : Str)) = false := by decide) : PE X (.Call (.Name x p) [] [] pos) (tX0 C) := pe_x0 t.xb t.xc t.hi hg t.g hdb
theorem X0.pmk (t : X0 X.K X.mg x C B nI iI bB) (hg : Gl X x) (hdb : (x == ("__debug__" : Str)) = false := by decide) : PMk X (.Call (.Name x p) [] [] pos) (fun _ H Q => Q (.ref C) none H) := pmk_x0 t.xb t.xc t.hi hg t.g hdb
theorem XI.pe (t : XI X.prog X.K X.mg x q st ps C f cc c B nI iI bB fd) (F : FnOk X.prog X.w X.K X.mg X.base (L2.CX X.prog X.w) 1 f fd ps sp) (hr : Room 2 X.A) (hg : Gl X x) (ha : PA X (e :: es) ta) (hdb : (x == ("__debug__" : Str)) = false := by decide)
    (he : starEach (e :: es) X.env = (false, eval e X.env) :: starEach es X.env := by rfl) (hpl : (backTo pos (starEach es X.env)).any (·.1) = false := by rfl) : PE X (.Call (.Name x p) (e :: es) [] pos) (tXv C sp [] ta) :=
  pe_xv t.xb t.xc t.iC t.tI F hr t.bd .nil passL hg t.g ha hdb he hpl
theorem XI.pmk (t : XI X.prog X.K X.mg x q st ps C f cc c B nI iI bB fd) (F : FnOk X.prog X.w X.K X.mg X.base (L2.CX X.prog X.w) 1 f fd ps sp) (hr : Room 2 X.A) (hg : Gl X x) (ha : PA X (e :: es) ta) (hdb : (x == ("__debug__" : Str)) = false := by decide)
    (he : starEach (e :: es) X.env = (false, eval e X.env) :: starEach es X.env := by rfl) (hpl : (backTo pos (starEach es X.env)).any (·.1) = false := by rfl) : PMk X (.Call (.Name x p) (e :: es) [] pos) (tMkO C sp [] ta) :=
  pmk_x t.xb t.xc t.iC t.tI F hr t.bd .nil passL hg t.g ha hdb he hpl
end
section
variable {K : PySem.W.Frag} {H : Hp} {C : Addr} {Q : VK} {ys : List V}
/-- an error is made: a new one at a -/
def New (C : Addr) (fs : List (Str × V)) (H : Hp) (Q : VK) : Prop := ∀ a H', H a = none → Same H H' → ErrAt H' a C fs → Q (.ref a) H'
theorem same_upd {H : Hp} {a : Addr} {o : HO} (h : H a = none) : Same H (upd H a o) := fun b u q => by rw [upd_ne (ne_of_none q h)]; exact q
theorem go_x0 (k : New C [] H Q) : ∀ a, H a = none → Q (.ref a) (upd H a (exo a C none)) := fun a n => k a _ n (same_upd n) (.inl ⟨upd_same, rfl⟩)
theorem go_nm {x : Str} (hx : Wee x) (k : New C [("name", .str x)] H Q) : ∀ a, H a = none → spNm C (.ref a :: ([.str x] ++ [])) (upd H a (exo a C none)) (fun v H2 => v = .non ∧ Q (.ref a) H2) (fun _ _ _ => False) := fun a n =>
  ⟨a, x, rfl, hx, upd_same, fun dx hd ne => ⟨rfl, k a _ n (fun b u q => by
    rw [upd_ne (ne_of_none q n), upd_ne (ne_of_none (same_upd n _ _ q) hd), upd_ne (ne_of_none q n)]
    exact q) (.inr ⟨dx, upd_same, by rw [upd_ne ne, upd_same]⟩)⟩⟩
theorem go_pl {i : Int} (h0 : 0 ≤ i) (h1 : i < 10 ^ 10) (k : New C [("place", .int i)] H Q) : ∀ a, H a = none → spPl C (.ref a :: ([.int i] ++ [])) (upd H a (exo a C none)) (fun v H2 => v = .non ∧ Q (.ref a) H2) (fun _ _ _ => False) := fun a n =>
  ⟨a, i, rfl, h0, h1, upd_same, fun dx hd ne => ⟨rfl, k a _ n (fun b u q => by
    rw [upd_ne (ne_of_none q n), upd_ne (ne_of_none (same_upd n _ _ q) hd), upd_ne (ne_of_none q n)]
    exact q) (.inr ⟨dx, upd_same, by rw [upd_ne ne, upd_same]⟩)⟩⟩
theorem but_same {H H' : Hp} {a : Addr} {o : HO} (n : H a = none) (e : ∀ b u, (upd H a o) b = some u → b ≠ a → H' b = some u) : Same H H' := fun b u q => e b u (same_upd n _ _ q) (ne_of_none q n)
theorem go_sa {x : Str} {l : Addr} (hx : Wee x) (hl : SqL K H l ys ∨ SqT K H l ys) (k : ∀ a t H', H a = none → Same H H' → ErrAt H' a C [("arguments", .ref t), ("sign", .str x)] → SqT K H' t ys → Q (.ref a) H') :
    ∀ a, H a = none → spSA K C (.ref a :: ([.str x, .ref l] ++ [])) (upd H a (exo a C none)) (fun v H2 => v = .non ∧ Q (.ref a) H2) (fun _ _ _ => False) := fun a n =>
  ⟨a, x, l, ys, rfl, hx, or_seq (same_upd n) hl, upd_same, fun t dx H' hd ne e1 e2 e3 e4 => ⟨rfl, k a t H' n (but_same n e4) (.inr ⟨dx, e1, e2⟩) e3⟩⟩
theorem go_nl {x z : Str} {l : Addr} {i : Int} (hx : Wee x) (hz : Wee z) (h0 : 0 ≤ i) (h1 : i < 10 ^ 10) (hl : SqL K H l ys ∨ SqT K H l ys)
    (k : ∀ a t H', H a = none → Same H H' → ErrAt H' a C [("other", .str z), ("place", .int i), ("arguments", .ref t), ("sign", .str x)] → SqT K H' t ys → Q (.ref a) H') :
    ∀ a, H a = none → spNL K C (.ref a :: ([.str x, .ref l, .int i, .str z] ++ [])) (upd H a (exo a C none)) (fun v H2 => v = .non ∧ Q (.ref a) H2) (fun _ _ _ => False) := fun a n =>
  ⟨a, x, l, ys, i, z, rfl, hx, hz, h0, h1, or_seq (same_upd n) hl, upd_same, fun t dx H' hd ne e1 e2 e3 e4 => ⟨rfl, k a t H' n (but_same n e4) (.inr ⟨dx, e1, e2⟩) e3⟩⟩
theorem go_lr {x y : V} (k : New C [("right", y), ("left", x)] H Q) : ∀ a, H a = none → spLR C (.ref a :: ([x, y] ++ [])) (upd H a (exo a C none)) (fun v H2 => v = .non ∧ Q (.ref a) H2) (fun _ _ _ => False) := fun a n =>
  ⟨a, x, y, rfl, upd_same, fun dx H' hd ne e1 e2 e3 => ⟨rfl, k a H' n (but_same n e3) (.inr ⟨dx, e1, e2⟩)⟩⟩
theorem go_lb {l : Addr} (hl : SqL K H l ys ∨ SqT K H l ys) (k : ∀ a t H', H a = none → Same H H' → ErrAt H' a C [("labels", .ref t)] → H t = none → H' t = some (.lst ys) → Q (.ref a) H') :
    ∀ a, H a = none → spLb K C (.ref a :: ([.ref l] ++ [])) (upd H a (exo a C none)) (fun v H2 => v = .non ∧ Q (.ref a) H2) (fun _ _ _ => False) := fun a n =>
  ⟨a, l, ys, rfl, or_seq (same_upd n) hl, upd_same, fun t dx H' hd ne e1 e2 e3 e4 => ⟨rfl, k a t H' n (but_same n e4) (.inr ⟨dx, e1, e2⟩) ((same_upd n).free e3.1) e3.2⟩⟩
/-- many of the plain ones -/
def tX0s : List Addr → TA
  | [] => tNil
  | C :: r => tCons (tX0 C) (tX0s r)
def Errs (H : Hp) (as Cs : List Addr) : Prop := Paired (fun a C => ErrAt H a C []) as Cs
theorem Errs.same {H H' : Hp} {as Cs : List Addr} (h : Errs H as Cs) (e : Same H H') : Errs H' as Cs := Paired.mapP h fun _ _ z => z.same e
theorem x0s_go : ∀ (Cs : List Addr) (σ : St) (H : Hp) (Q : List V → Hp → Prop), (∀ as H', Same H H' → Errs H' as Cs → Q (as.map V.ref) H') → tX0s Cs σ H Q
  | [], σ, H, Q, k => k [] H (Same.refl H) .nil
  | C :: r, σ, H, Q, k => fun a n => x0s_go r σ _ _ fun as H' e he => k (a :: as) H' ((same_upd n).trans e) (.cons (ErrAt.same (.inl ⟨upd_same, rfl⟩) e) he)
end

/-- an own class, a built-in class, as a value -/
theorem pe_gref {X : Cx} {x : Str} {a : Addr} {pos : Pos} (hg : Gl X x) (hm : X.mg x = some (.ref a)) (hd : (x == ("__debug__" : Str)) = false := by decide) : PE X (.Name x pos) (tC (.ref a)) := pe_glob hg hm rfl hd
theorem pe_bty {X : Cx} {x : Str} {n : String} {pos : Pos} (hg : Gl X x) (hm : X.mg x = none) (hv : bootBuiltins x = some (.type n)) (hn : x ≠ "__name__" := by decide) (hd : (x == ("__debug__" : Str)) = false := by decide) : PE X (.Name x pos) (tC (.ty n)) := pe_bltn hg hm hv rfl hn hd

def tTruK (K : PySem.W.Frag) (ta : TE) : TT := fun σ H Q => ta σ H fun x H' => ∃ k, TruV K x H' k ∧ Q k H'
theorem pt_truthK {X : Cx} (K : PySem.W.Frag) {a : Expr} {ta : TE} (ha : PE X a ta) (he : ∀ whole, isTrue a X.env whole = (do let v ← whole; standAt a.pos; holding [v] (truthy v)) := by intro _; rfl) (hK : X.K = K := by rfl) : PT X a (tTruK K ta) := by
  subst hK
  exact pt_truth ha he

theorem x0s_lst (Cs : List Addr) {σ : St} {H : Hp} {Q : VK} (hz : Cs.length ≤ 1000) (k : ∀ as H', Same H H' → Errs H' as Cs → ∀ p, H' p = none → Q (.ref p) (upd H' p (.lst (as.map V.ref)))) : tLst (tX0s Cs) σ H Q :=
  x0s_go Cs σ H _ fun as H1 e1 h1 => ⟨by rw [List.length_map, Paired.length h1]; exact Nat.le_of_lt (small1000 hz), fun p hp => k as H1 e1 h1 p hp⟩

/-- an error with one field is new -/
theorem one_new {H : Hp} {a dx C : Addr} {fs : List (Str × V)} (n : H a = none) (hd : (upd H a (exo a C none)) dx = none) (ne : dx ≠ a) :
    ∃ H', upd (upd (upd H a (exo a C none)) dx (exd dx fs)) a (exo a C (some dx)) = H' ∧ Same H H' ∧ ErrAt H' a C fs :=
  ⟨_, rfl, fun b u q => by
    rw [upd_ne (ne_of_none q n), upd_ne (ne_of_none (same_upd n _ _ q) hd), upd_ne (ne_of_none q n)]
    exact q, .inr ⟨dx, upd_same, by rw [upd_ne ne, upd_same]⟩⟩
theorem put_new {H : Hp} {a : Addr} {o : HO} (n : H a = none) : ∃ H', upd H a o = H' ∧ Same H H' ∧ H' a = some o := ⟨_, rfl, same_upd n, upd_same⟩

/-! ### == of data -/
theorem Wee.ok {x : Str} (h : Wee x) : PyData.strOk x = true := by
  unfold PyData.strOk
  rw [← Array.all_toList, List.all_eq_true]
  exact fun c hc => decide_eq_true (h.2 c hc)
section
variable {K : PySem.W.Frag} {H : Hp} {x y : V} {d : PyData} {Q : VK}
theorem neD_same (hx : Dp K H x d) (hy : Dp K H y d) (hs : SeqAt.shaped d = true) (q : Q (.bl false) H) : rNeD K x y H Q := ⟨d, d, hx, hy, hs, hs, by rw [SeqAt.eqv_refl d (SeqAt.canLay_of_shaped hs)]; exact q⟩
theorem eqD_same (hx : Dp K H x d) (hy : Dp K H y d) (hs : SeqAt.shaped d = true) (q : Q (.bl true) H) : rEqD K x y H Q := ⟨d, d, hx, hy, hs, hs, by rw [SeqAt.eqv_refl d (SeqAt.canLay_of_shaped hs)]; exact q⟩
theorem dp_two {p : Addr} {a b : Str} (h : SqL K H p [.str a, .str b]) : Dp K H (.ref p) (.list [.str a, .str b]) := .lst h (.cons (.str a) (.cons (.str b) .nil))
theorem sh_two {a b : Str} (ha : Wee a) (hb : Wee b) : SeqAt.shaped (.list [.str a, .str b]) = true := by
  simp [SeqAt.shaped, PyData.canLay0, PyData.canLayAll0, PyData.depth, PyData.depthAll, ha.ok, hb.ok]
theorem tst {k : Bool} {G : Bool → Prop} (q : G k) : ∃ b, V.bl k = V.bl b ∧ G b := ⟨k, rfl, q⟩
/-- lists of one int each -/
theorem dp_ones {D : Addr} {ps : List Addr} (hD : SqL K H D (ps.map V.ref)) (h : ∀ (j : Nat) p, ps[j]? = some p → H p = some (.lst [.int (j : Int)])) : Dp K H (.ref D) (.list ((List.range ps.length).map fun (j : Nat) => .list [.int (j : Int)])) := by
  refine .lst hD ?_
  have key : ∀ (qs : List Addr) (n : Nat), (∀ (j : Nat) p, qs[j]? = some p → H p = some (.lst [.int ((n + j : Nat) : Int)])) → DpAll K H (qs.map V.ref) ((List.range qs.length).map fun (j : Nat) => .list [.int ((n + j : Nat) : Int)]) := by
    intro qs
    induction qs with
    | nil => intro n _; exact .nil
    | cons q r ih =>
      intro n hq
      have h0 := hq 0 q rfl
      have h1 := ih (n + 1) fun j p e => by
        have z := hq (j + 1) p (by simpa using e)
        rw [z, show n + (j + 1) = n + 1 + j by omega]
      rw [List.length_cons, List.range_succ_eq_map, List.map_cons, List.map_cons, List.map_map]
      refine .cons (.lst (SqL.of h0) (.cons (.int _) .nil)) ?_
      have e : (fun j : Nat => PyData.list [PyData.int ((n + j : Nat) : Int)]) ∘ Nat.succ = fun (j : Nat) => PyData.list [PyData.int ((n + 1 + j : Nat) : Int)] := by
        funext j
        show PyData.list [PyData.int ((n + (j + 1) : Nat) : Int)] = _
        rw [show n + (j + 1) = n + 1 + j by omega]
      rw [e]
      exact h1
  have z := key ps 0 fun j p e => by rw [Nat.zero_add]; exact h j p e
  simpa using z
end
theorem gN {i : Nat} {v : V} {σ : St} {H : Hp} {N : St → Hp → Prop} (h : N (σ.set i (some v)) H) : gName i v σ H N := h

/-! ### comprehensions whose items are new lists -/
/-- D holds the lists made so far -/
def Made (H1 : Hp) (D : Addr) (cs : Nat → List V) (i : Nat) (H' : Hp) : Prop := ∃ ps : List Addr, ps.length = i ∧ H' D = some (.lst (ps.map V.ref)) ∧ (∀ (j : Nat) p, ps[j]? = some p → p ≠ D ∧ H' p = some (.lst (cs j))) ∧ Same H1 H'
theorem made_more {H1 H' H2 : Hp} {D p : Addr} {cs : Nat → List V} {i : Nat} (hD : H1 D = none) (m : Made H1 D cs i H') (hi : i < 100000) (n : H' p = none) (e : Same H' H2) (h : H2 p = some (.lst (cs i))) :
    ∃ acc, H2 D = some (.lst acc) ∧ acc.length < sizeLine ∧ Made H1 D cs (i + 1) (upd H2 D (.lst (acc ++ [.ref p]))) := by
  obtain ⟨ps, l, d, all, s⟩ := m
  have npD : p ≠ D := fun z => by rw [z, d] at n; cases n
  refine ⟨_, e _ _ d, by rw [List.length_map, l, sizeLine_eq]; omega, ps ++ [p], by rw [List.length_append, l]; rfl, by rw [List.map_append]; exact upd_same, fun j q hq => ?_, fun b o hb => ?_⟩
  · by_cases c : j < ps.length
    · rw [List.getElem?_append_left c] at hq
      obtain ⟨z1, z2⟩ := all j q hq
      exact ⟨z1, by rw [upd_ne z1]; exact e _ _ z2⟩
    · rw [List.getElem?_append_right (by omega)] at hq
      have j0 : j = i := by
        by_cases c2 : j - ps.length = 0
        · omega
        · have : ([p] : List Addr)[j - ps.length]? = none := List.getElem?_eq_none (by show 1 ≤ _; omega)
          rw [this] at hq
          cases hq
      subst j0
      rw [l, Nat.sub_self] at hq
      obtain rfl : p = q := Option.some.inj hq
      exact ⟨npD, by rw [upd_ne npD]; exact h⟩
  · rw [upd_ne (ne_of_none hb hD)]
    exact e _ _ (s _ _ hb)
theorem lc_newl {K : PySem.W.Frag} {tl : TE} {a : Addr} {xs : List V} {jx : Nat} {te : TE} {vs : List Nat} {σ : St} {H1 : Hp} {Q : VK} (cs : Nat → List V) (hx : SqL K H1 a xs) (hz : xs.length ≤ 50000) (hw : ∀ x, wipe ((wipe σ vs).set jx (some x)) vs = wipe σ vs)
    (he : ∀ (i : Nat) x H', xs[i]? = some x → Same H1 H' → ∀ Q' : VK, (∀ p H2, H' p = none → Same H' H2 → H2 p = some (.lst (cs i)) → Q' (.ref p) H2) → te ((wipe σ vs).set jx (some x)) H' Q')
    (q : ∀ D (ps : List Addr) H', H1 D = none → Same H1 H' → ps.length = xs.length → H' D = some (.lst (ps.map V.ref)) → (∀ (j : Nat) p, ps[j]? = some p → H' p = some (.lst (cs j))) → Q (.ref D) H') (hl : ∀ Q' : VK, Q' (.ref a) H1 → tl σ H1 Q') : tLc (iList K tl) (gName jx) tYes te vs σ H1 Q := by
  refine hl _ ⟨a, rfl, ⟨_, hx⟩, fun D hD => lc_list (K := K) (a := a) (xs := xs) (Made H1 D cs) ⟨[], rfl, upd_same, fun j p h => by simp at h, same_upd hD⟩ (fun i H' _ m => ?_) (fun i x H' hi m => ?_) (fun H' m => ?_)⟩
  · obtain ⟨_, _, _, _, s⟩ := m
    exact s.seq hx
  · have hi2 := (List.getElem?_eq_some_iff.mp hi).1
    have s : Same H1 H' := m.elim fun _ z => z.2.2.2
    refine ⟨hw x, iteT (B := Made H1 D cs (i + 1) H') ?_⟩
    exact he i x H' hi s _ fun p H2 n e h => made_more hD m (by omega) n e h
  · obtain ⟨ps, l, d, all, s⟩ := m
    exact q D ps H' hD s l d fun j p h => (all j p h).2
theorem lc_newr {n : Int} {ta : TA} {jx : Nat} {te : TE} {vs : List Nat} {σ : St} {H1 : Hp} {Q : VK} (cs : Nat → List V) (hn : 0 ≤ n ∧ n ≤ 50000) (hw : ∀ x, wipe ((wipe σ vs).set jx (some x)) vs = wipe σ vs)
    (he : ∀ (i : Nat) H', (i : Int) < n → Same H1 H' → ∀ Q' : VK, (∀ p H2, H' p = none → Same H' H2 → H2 p = some (.lst (cs i)) → Q' (.ref p) H2) → te ((wipe σ vs).set jx (some (.int (i : Int)))) H' Q')
    (q : ∀ D (ps : List Addr) H', H1 D = none → Same H1 H' → ps.length = n.toNat → H' D = some (.lst (ps.map V.ref)) → (∀ (j : Nat) p, ps[j]? = some p → H' p = some (.lst (cs j))) → Q (.ref D) H') (hl : ∀ Q' : List V → Hp → Prop, Q' [.int n] H1 → ta σ H1 Q') : tLc (iRng1 ta) (gName jx) tYes te vs σ H1 Q := by
  refine hl _ ⟨n, rfl, by omega, by omega, fun D hD => lc_range (lo := 0) (n := n.toNat) (Made H1 D cs) ⟨[], rfl, upd_same, fun j p h => by simp at h, same_upd hD⟩ (fun i H' hi m => ?_) (fun H' m => ?_)⟩
  · rw [Int.zero_add]
    have s : Same H1 H' := m.elim fun _ z => z.2.2.2
    refine ⟨hw _, iteT (B := Made H1 D cs (i + 1) H') ?_⟩
    exact he i H' (by omega) s _ fun p H2 n e h => made_more hD m (by omega) n e h
  · obtain ⟨ps, l, d, all, s⟩ := m
    exact q D ps H' hD s l d fun j p h => (all j p h).2
end L2


set_option Elab.async false
set_option linter.all false
set_option maxRecDepth 100000
set_option maxHeartbeats 4000000
/-! the program's own in, not in, len, ==, != of instances with a dict -/
namespace OwnOp
open PySem PySem.W PySem.Calls PyProof.Rows Builtin
section
variable {prog : Program} {w : World} {A : Around} {E : Value → Shared → Prop} {s : Shared} {K : Frag} {x C f : Addr} {ox : Obj} {od : Option Obj}
/-- x.name(b) asked as a comparison, its def at f -/
theorem ask_own {name : Str} {b : Value} {Q : Option Value → Shared → Prop} (KX : K.In s.heap) (I : InstAt s.heap x ox C od) (hs : findIn K (.ref C) name = some (some (.ref f))) (hf : isFn K (.ref f) = true)
    (h : wpAny (model prog w) A (call (.ref f) [.ref x, b]) (fun v s' => ∃ k, v = .bool k ∧ Q (some (.bool k)) s') E s) : wpAny (model prog w) A (tryCompare (.ref x) name b) Q E s := by
  unfold tryCompare
  refine wpAny_bind (ifBound_K KX I hs hf (wpAny_mono h (fun v s' hv => ?_) fun _ _ e => e))
  obtain ⟨k, rfl, hq⟩ := hv
  exact wpAny_pure hq
/-- a slot of object's, asked for on an instance -/
theorem ask_slot {name : Str} {id B : String} {args : List Value} {Q : Option Value → Shared → Prop} (KX : K.In s.heap) (I : InstAt s.heap x ox C od) (hs : findIn K (.ref C) name = some (some (.builtin id))) (S : Slot B name id)
    (h : wpAny (model prog w) A (call (.builtin id) (.ref x :: args)) (fun v => Q (some v)) E s) : wpAny (model prog w) A (callSpecialIfBound? (.ref x) name args) Q E s := by
  simp only [callSpecialIfBound?, bindSpecialIfBound?]
  refine wpAny_holding (wpAny_bind (wpAny_bind (wpAny_bind (I.type.here ((looks_findIn KX hs).here ?_)))))
  simp only [S.bind]
  refine wpAny_bind (wpAny_askSetting (wpAny_ite ?_))
  have last : wpAny (model prog w) A (call (.builtin id) ([.ref x] ++ args) >>= fun v => pure (some v)) Q E s := wpAny_bind (wpAny_mono h (fun v s' g => wpAny_pure g) fun _ _ g => g)
  split
  · exact wpAny_bind (wpAny_pure (wpAny_pure (by exact last)))
  · exact wpAny_tryCatch (wpAny_bind (wpAny_pure (wpAny_pure (by exact last))))
/-- x.__ne__(b), object's, where __eq__ is a def at f -/
theorem ask_ne {b : Value} {Q : Option Value → Shared → Prop} (hu : A.units + 1 < cLine) (KX : K.In s.heap) (I : InstAt s.heap x ox C od) (hn : findIn K (.ref C) "__ne__" = some (some (.builtin "object.__ne__")))
    (he : findIn K (.ref C) "__eq__" = some (some (.ref f))) (hf : isFn K (.ref f) = true) (ho : mroIn K C (.type "object") = some true)
    (h : wpAny (model prog w) A.in1 (call (.ref f) [.ref x, b]) (fun v s' => ∃ k, v = .bool k ∧ Q (some (.bool (!k))) s') E s) : wpAny (model prog w) A (tryCompare (.ref x) "__ne__" b) Q E s := by
  have hi : Looks (model prog w) s.heap (isInstance (.ref x) (.type "object")) true := I.type.andThen (looks_mroIn KX ho)
  unfold tryCompare
  refine wpAny_bind (ask_slot KX I hn F.cmp_object.ne (wpAny_call (codeAny_call_builtin F.cmp_object.ne.plain F.cmpEntry_ne (check_slot F.cmpKind_ne F.cmpSplit_ne hi (F.cmpArgs_ne _ _) ?_))))
  unfold Builtin.«object.__ne__»
  refine wpAny_bind (m := slotArgs "__ne__" 1 _) (wpAny_pure ?_)
  refine wpAny_bind (wpAny_cRoomFor hu ?_)
  refine wpAny_bind (m := callSpecialIfBound? (.ref x) (Str.ofString "__eq__") [b]) (ifBound_K KX I he hf (wpAny_mono h (fun v s' hv => ?_) fun _ _ e => e))
  obtain ⟨k, rfl, hq⟩ := hv
  refine wpAny_bind (m := truthy (.bool k)) (wpAny_truthy_bool ?_)
  exact wpAny_pure (wpAny_pure hq)
/-- x op y where x is asked first -/
theorem rich_own {op : CmpOp} {b tb : Value} {Q : Value → Shared → Prop} (hu : A.units < cLine) (KX : K.In s.heap) (I : InstAt s.heap x ox C od) (hb : Looks (model prog w) s.heap (typeOf b) tb) (hn : notFirst K C tb = true)
    (one : wpAny (model prog w) A (tryCompare (.ref x) (cmpInfo op).2.1 b) (fun r s' => ∃ v, r = some v ∧ Q v s') E s) : wpAny (model prog w) A (richCompare op (.ref x) b) Q E s := by
  have fin : ∀ (r : Option Value) (s' : Shared), (∃ v, r = some v ∧ Q v s') → ∃ v, r = some v ∧ Q v s' := fun _ _ z => z
  unfold richCompare
  simp only [oneThing_ref]
  refine wpAny_holding (wpAny_bind (wpAny_cRoomFor hu (wpAny_bind (I.type.here (wpAny_bind (hb.here ?_))))))
  split
  · rename_i q
    have e : subIn K tb (.ref C) = some false := by
      cases Bool.or_eq_true_iff.mp hn with
      | inl e => rw [beq_iff_eq.mp e] at q; simp at q
      | inr e => exact beq_iff_eq.mp e
    refine wpAny_bind ((looks_subIn KX e).here ?_)
    simp only [Bool.false_eq_true, if_false]
    refine wpAny_bind (wpAny_mono one (fun r s' z => ?_) fun _ _ e => e)
    obtain ⟨v, rfl, hq⟩ := fin r s' z
    exact wpAny_pure hq
  · refine wpAny_bind (wpAny_pure ?_)
    simp only [Bool.false_eq_true, if_false]
    refine wpAny_bind (wpAny_mono one (fun r s' z => ?_) fun _ _ e => e)
    obtain ⟨v, rfl, hq⟩ := fin r s' z
    exact wpAny_pure hq
/-- x op y where y is of a class below x's: y is asked first -/
theorem rich_back {op : CmpOp} {y C' : Addr} {oy : Obj} {dy : Option Obj} {Q : Value → Shared → Prop} (hu : A.units < cLine) (KX : K.In s.heap) (I : InstAt s.heap x ox C od) (J : InstAt s.heap y oy C' dy) (hne : C' ≠ C) (hs : subIn K (.ref C') (.ref C) = some true)
    (one : wpAny (model prog w) A (tryCompare (.ref y) (cmpInfo op).2.2 (.ref x)) (fun r s' => ∃ v, r = some v ∧ Q v s') E s) : wpAny (model prog w) A (richCompare op (.ref x) (.ref y)) Q E s := by
  have fin : ∀ (r : Option Value) (s' : Shared), (∃ v, r = some v ∧ Q v s') → ∃ v, r = some v ∧ Q v s' := fun _ _ z => z
  unfold richCompare
  simp only [oneThing_ref]
  refine wpAny_holding (wpAny_bind (wpAny_cRoomFor hu (wpAny_bind (I.type.here (wpAny_bind (J.type.here ?_))))))
  have ne : (Value.ref C != Value.ref C') = true := by simp; exact fun z => hne z.symm
  rw [if_pos ne]
  refine wpAny_bind ((looks_subIn KX hs).here ?_)
  simp only [if_true]
  refine wpAny_bind (wpAny_mono one (fun r s' z => ?_) fun _ _ e => e)
  obtain ⟨v, rfl, hq⟩ := fin r s' z
  exact wpAny_bind (wpAny_rule (wpAny_pure hq))
end
end OwnOp
namespace L2
open PySem PySem.Spec PyProof.Rows
section
variable {X : Cx} {CX : CXT} {k : Nat} {f C : Addr} {fd : FuncData} {ps : List Str} {sp : Sp} {E : XK}
/-- the callee runs one step of C deeper -/
theorem run_in {pins : List (Addr × Obj)} {σ : St} {H : Hp} {s : Shared} {Q : VK} {us : List Value} {vs : List V} (F : FnOk X.prog X.w X.K X.mg X.base CX k f fd ps sp) (hr : Room (k + 1) X.A) (hb : Binds X.K fd ps []) (hx : Passes CX X E)
    (I : Inv X pins σ H s) (r : Vals vs us) (h : sp vs H Q E) : wpAny (model X.prog X.w) X.A.in1 (call (.ref f) us) (EP X pins σ Q) X.xe s := by
  have nl : us.length = ps.length := by rw [← r.length]; exact F.len _ _ _ _ h
  have bb := hb s us I.kIn (by rw [List.append_nil]; exact nl)
  rw [List.append_nil] at bb
  refine wpAny_call (codeAny_mono (F.run X.A.in1 X.stack s H ⟨us, []⟩ us vs Q E hr.in1 I.env0.in1 bb r h) fun r s' hq => ?_)
  match r with
  | .error e => exact hx pins σ H s e s' I hq
  | .ok (.ret u) => exact I.after hq
  | .ok .next => exact hq.elim
  | .ok .brk => exact hq.elim
  | .ok .cont => exact hq.elim
/-- what a truth told by a callee becomes -/
abbrev BlK (Q : VK) (g : Bool → Bool) : VK := fun z H' => ∃ b, z = .bl b ∧ Q (.bl (g b)) H'
theorem blk_is {pins : List (Addr × Obj)} {σ : St} {Q : VK} {g : Bool → Bool} {u : Value} {s : Shared} (h : EP X pins σ (BlK Q g) u s) : ∃ b, u = .bool b ∧ EP X pins σ Q (.bool (g b)) s := by
  obtain ⟨z, H', I', rz, b, rfl, q⟩ := h
  exact ⟨b, rz, .bl (g b), H', I', rfl, q⟩
/-- x in y, x not in y: y an instance, its class's __contains__ at f -/
def rHas (K : PySem.W.Frag) (f : Addr) (sp : Sp) (E : XK) (g : Bool → Bool) : R2 := fun x y H Q => ∃ a C dx fs, y = .ref a ∧ H a = some (.ins C dx fs) ∧ Meth K C "__contains__" f ∧ sp [y, x] H (BlK Q g) E
theorem op_has (F : FnOk X.prog X.w X.K X.mg X.base CX k f fd ps sp) (hr : Room k X.A) (hb : Binds X.K fd ps []) (hx : Passes CX X E) : OpR X (compareOp .In) (rHas X.K f sp E id) := by
  intro pins s σ H x y v u Q I rx ry h
  obtain ⟨a, C, dx, fs, rfl, ha, M, q⟩ := h
  cases (show u = Value.ref a from ry)
  obtain ⟨mA, O, _⟩ := ins_get I.hok ha
  obtain ⟨od, J, _⟩ := O.look
  obtain ⟨m, hF⟩ := I.fr
  refine PySem.W.in_K hF I.ok.mod.kin J M.at_ M.fn (wpAny_mono (run_fn (us := [.ref a, v]) (vs := [.ref a, x]) F hr hb (ds := []) (dvs := []) .nil hx I (.cons rfl (.cons rx .nil)) q) (fun w s' z => ?_) fun _ _ e => e)
  obtain ⟨b, rfl, z2⟩ := blk_is z
  exact wpAny_truthy_bool z2
theorem op_hasNot (F : FnOk X.prog X.w X.K X.mg X.base CX k f fd ps sp) (hr : Room k X.A) (hb : Binds X.K fd ps []) (hx : Passes CX X E) : OpR X (compareOp .NotIn) (rHas X.K f sp E not) := by
  intro pins s σ H x y v u Q I rx ry h
  obtain ⟨a, C, dx, fs, rfl, ha, M, q⟩ := h
  cases (show u = Value.ref a from ry)
  obtain ⟨mA, O, _⟩ := ins_get I.hok ha
  obtain ⟨od, J, _⟩ := O.look
  obtain ⟨m, hF⟩ := I.fr
  refine PySem.W.notIn_K hF I.ok.mod.kin J M.at_ M.fn (wpAny_mono (run_fn (us := [.ref a, v]) (vs := [.ref a, x]) F hr hb (ds := []) (dvs := []) .nil hx I (.cons rfl (.cons rx .nil)) q) (fun w s' z => ?_) fun _ _ e => e)
  obtain ⟨b, rfl, z2⟩ := blk_is z
  exact wpAny_truthy_bool z2
/-- len(x) of an instance -/
def rLenI (K : PySem.W.Frag) (f : Addr) (sp : Sp) (E : XK) : List V → Hp → VK → Prop := fun xs H Q => ∃ a C dx fs, xs = [.ref a] ∧ H a = some (.ins C dx fs) ∧ Meth K C "__len__" f ∧ sp xs H (fun z H' => ∃ n : Nat, z = .int n ∧ n < 2 ^ 63 ∧ Q (.int n) H') E
theorem call_lenI (F : FnOk X.prog X.w X.K X.mg X.base CX k f fd ps sp) (hr : Room (k + 1) X.A) (hb : Binds X.K fd ps []) (hx : Passes CX X E) : CallR X (.builtin "len") (rLenI X.K f sp E) := by
  intro pins s σ H xs us Q I r h
  obtain ⟨a, C, dx, fs, rfl, ha, M, q⟩ := h
  obtain ⟨u, rfl, ru⟩ := r.one
  cases (show u = Value.ref a from ru)
  obtain ⟨mA, O, _⟩ := ins_get I.hok ha
  obtain ⟨od, J, _⟩ := O.look
  obtain ⟨m, hF⟩ := I.fr
  refine PySem.W.len_K hF I.ok.mod.kin J M.at_ M.fn (wpAny_mono (run_in (us := [.ref a]) (vs := [.ref a]) F hr hb hx I (.cons rfl .nil) q) (fun w s' z => ?_) fun _ _ e => e)
  obtain ⟨z', H', I', rz, n, rfl, hn, qz⟩ := z
  obtain ⟨t, e⟩ := (show ∃ t, w = Value.int n t from rz)
  subst e
  exact ⟨⟨by omega, by exact_mod_cast hn⟩, .int n, H', I'.tok _, ⟨_, rfl⟩, qz⟩
/-- a class whose == is a def at f, its != object's -/
structure CmpC (K : PySem.W.Frag) (C f : Addr) : Prop where
  eq : Meth K C "__eq__" f
  ne : PySem.W.findIn K (.ref C) "__ne__" = some (some (.builtin "object.__ne__"))
  ob : PySem.W.mroIn K C (.type "object") = some true
/-- x == y, x != y of instances -/
def rCmpI (K : PySem.W.Frag) (f : Addr) (sp : Sp) (E : XK) (g : Bool → Bool) : R2 := fun x y H Q => ∃ a C dx fs b C' dy gs, x = .ref a ∧ y = .ref b ∧ H a = some (.ins C dx fs) ∧ H b = some (.ins C' dy gs) ∧
  ((CmpC K C f ∧ PySem.W.notFirst K C (.ref C') = true ∧ sp [x, y] H (BlK Q g) E) ∨ (CmpC K C' f ∧ C' ≠ C ∧ PySem.W.subIn K (.ref C') (.ref C) = some true ∧ sp [y, x] H (BlK Q g) E))
theorem op_eqI (F : FnOk X.prog X.w X.K X.mg X.base CX k f fd ps sp) (hr : Room k X.A) (hb : Binds X.K fd ps []) (hx : Passes CX X E) : OpR X (compareOp .Eq) (rCmpI X.K f sp E id) := by
  intro pins s σ H x y v u Q I rx ry h
  obtain ⟨a, C, dx, fs, b, C', dy, gs, rfl, rfl, ha, hb', q⟩ := h
  cases (show v = Value.ref a from rx)
  cases (show u = Value.ref b from ry)
  obtain ⟨mA, O, _⟩ := ins_get I.hok ha
  obtain ⟨od, J, _⟩ := O.look
  obtain ⟨mB, O', _⟩ := ins_get I.hok hb'
  obtain ⟨od', J', _⟩ := O'.look
  show wpAny _ _ (richCompare .Eq _ _) _ _ _
  rcases q with ⟨c, hn, q⟩ | ⟨c, hne, hs, q⟩
  · refine OwnOp.rich_own (op := .Eq) hr.units0 I.kIn J J'.type hn (OwnOp.ask_own I.kIn J c.eq.at_ c.eq.fn (wpAny_mono (run_fn (us := [.ref a, .ref b]) (vs := [.ref a, .ref b]) F hr hb (ds := []) (dvs := []) .nil hx I (.cons rfl (.cons rfl .nil)) q) (fun w s' z => ?_) fun _ _ e => e))
    obtain ⟨t, rfl, z2⟩ := blk_is z
    exact ⟨t, rfl, _, rfl, z2⟩
  · refine OwnOp.rich_back (op := .Eq) hr.units0 I.kIn J J' hne hs (OwnOp.ask_own I.kIn J' c.eq.at_ c.eq.fn (wpAny_mono (run_fn (us := [.ref b, .ref a]) (vs := [.ref b, .ref a]) F hr hb (ds := []) (dvs := []) .nil hx I (.cons rfl (.cons rfl .nil)) q) (fun w s' z => ?_) fun _ _ e => e))
    obtain ⟨t, rfl, z2⟩ := blk_is z
    exact ⟨t, rfl, _, rfl, z2⟩
theorem op_neI (F : FnOk X.prog X.w X.K X.mg X.base CX k f fd ps sp) (hr : Room (k + 1) X.A) (hb : Binds X.K fd ps []) (hx : Passes CX X E) : OpR X (compareOp .NotEq) (rCmpI X.K f sp E not) := by
  intro pins s σ H x y v u Q I rx ry h
  obtain ⟨a, C, dx, fs, b, C', dy, gs, rfl, rfl, ha, hb', q⟩ := h
  cases (show v = Value.ref a from rx)
  cases (show u = Value.ref b from ry)
  obtain ⟨mA, O, _⟩ := ins_get I.hok ha
  obtain ⟨od, J, _⟩ := O.look
  obtain ⟨mB, O', _⟩ := ins_get I.hok hb'
  obtain ⟨od', J', _⟩ := O'.look
  have hu : X.A.units + 1 < cLine := hu_of hr
  show wpAny _ _ (richCompare .NotEq _ _) _ _ _
  rcases q with ⟨c, hn, q⟩ | ⟨c, hne, hs, q⟩
  · refine OwnOp.rich_own (op := .NotEq) hr.units0 I.kIn J J'.type hn (OwnOp.ask_ne hu I.kIn J c.ne c.eq.at_ c.eq.fn c.ob (wpAny_mono (run_in (us := [.ref a, .ref b]) (vs := [.ref a, .ref b]) F hr hb hx I (.cons rfl (.cons rfl .nil)) q) (fun w s' z => ?_) fun _ _ e => e))
    obtain ⟨t, rfl, z2⟩ := blk_is z
    exact ⟨t, rfl, _, rfl, z2⟩
  · refine OwnOp.rich_back (op := .NotEq) hr.units0 I.kIn J J' hne hs (OwnOp.ask_ne hu I.kIn J' c.ne c.eq.at_ c.eq.fn c.ob (wpAny_mono (run_in (us := [.ref b, .ref a]) (vs := [.ref b, .ref a]) F hr hb hx I (.cons rfl (.cons rfl .nil)) q) (fun w s' z => ?_) fun _ _ e => e))
    obtain ⟨t, rfl, z2⟩ := blk_is z
    exact ⟨t, rfl, _, rfl, z2⟩
end
end L2


set_option Elab.async false
set_option linter.all false
set_option maxRecDepth 100000
set_option maxHeartbeats 4000000
/-! C.m(self, ..): a def read off its class -/
namespace L2
open PySem PySem.Spec PyProof.Rows ClX
/-- C.m is the def at f -/
structure CFn (K : PySem.W.Frag) (C : Addr) (mc : Value) (m : Str) (f : Addr) : Prop where
  rd : CRead K C mc
  at_ : PySem.W.findCls K (.ref C) mc m = some (.val (.ref f))
  kp : PySem.W.keepIn K (.ref f) = true
def tCFn (C : Addr) (sp : Sp) (E : XK) (ta : TE) (t : TA) : TE := fun σ H Q => ta σ H fun x H1 => x = .ref C ∧ t σ H1 fun vs H2 => sp vs H2 Q E
section
variable {X : Cx} {CX : CXT} {k : Nat} {f C : Addr} {mc : Value} {fd : FuncData} {ps : List Str} {sp : Sp} {E : XK} {m : Str} {pos apos : Pos} {e o : Expr} {es : List Expr} {ta : TE} {t : TA}
theorem pe_clsfn {pl : Sem Bool} (he : PE X o ta) (c : CFn X.K C mc m f) (F : FnOk X.prog X.w X.K X.mg X.base CX k f fd ps sp) (hr : Room k X.A) (hb : Binds X.K fd ps []) (hx : Passes CX X E) (ha : PA X (e :: es) t)
    (hst : starEach (e :: es) X.env = (false, eval e X.env) :: starEach es X.env := by rfl) (hpl : (backTo pos (starEach es X.env)).any (·.1) = false := by rfl)
    (ht : eval (.Call (.Attribute o m apos) (e :: es) [] pos) X.env = (do
      let ov ← eval o X.env
      standAt apos.atName
      let (g, first) ← holding [ov] (getMethod ov m pl)
      callWith pos g first (backTo pos (starEach (e :: es) X.env)) (backToKw pos (keywordEach [] X.env))) := by rfl) :
    PE X (.Call (.Attribute o m apos) (e :: es) [] pos) (tCFn C sp E ta t) := by
  refine ⟨fun pins s σ H Q I h => PySem.W.methodCall_KW (pl := pl) (thn (he.run pins s σ H _ I h) fun u s1 hh => ?_) ht⟩
  obtain ⟨x, H1, I1, rx, ex, q⟩ := hh
  subst ex
  obtain rfl : u = Value.ref C := rx
  refine PySem.W.method_cls I1.kIn c.rd.ga (PySem.W.cls_value I1.kIn c.rd.rd c.at_ (handed_of (v := .ref f) (u := .ref f) rfl) ?_)
  refine PySem.W.callWith_K (first := []) (h₀ := X.base) I1.ok.mod.kin c.kp (thn (ha.run pos pins _ σ H1 _ (I1.tok _) q) fun us s2 hz => ?_) hst hpl
  obtain ⟨vs, H2, I2, r, q2⟩ := hz
  exact ⟨I2.kIn, run_fn F hr hb (ds := []) (dvs := []) .nil hx I2 r (by rw [List.append_nil]; exact q2)⟩
end
end L2


set_option Elab.async false
set_option linter.all false
set_option maxRecDepth 100000
set_option maxHeartbeats 4000000
/-! comprehensions over any walk -/
namespace L2
open PySem PySem.Spec PyProof.Rows
section
variable {J : It} {n : Nat} {G : Hp → Prop} {Y : Nat → Hp → V → Hp → Prop} {g : TG} {te tk tv : TE} {vs : List Nat} {σ : St} {H1 : Hp} {Q : VK}
theorem map_more {α : Type} (v : Nat → α) (i : Nat) : (List.range (i + 1)).map v = (List.range i).map v ++ [v i] := by rw [List.range_succ, List.map_append]; rfl
theorem same_mut {H H' : Hp} {D : Addr} {o : HO} (e : Same H H') (h : H D = none) : Same H (upd H' D o) := fun b u q => by rw [upd_ne (ne_of_none q h)]; exact e b u q
/-- [e for .. in ..] whose turns tell v i and leave what stands -/
theorem lc_walk (w : Walk J n G Y) (v : Nat → V) (hn : n ≤ 50000) (hG : ∀ H', Same H1 H' → G H') (hy : ∀ i H' x H2, Same H1 H' → Y i H' x H2 → Same H' H2)
    (hs : ∀ i x H' H2, i < n → Same H1 H' → Y i H' x H2 → ∀ R : VK, (∀ H4, Same H2 H4 → R (v i) H4) → g x (wipe σ vs) H2 fun σ2 H3 => wipe σ2 vs = wipe σ vs ∧ te σ2 H3 R)
    (hg : ∀ x H2 (N M : St → Hp → Prop), (∀ σ2 H3, N σ2 H3 → M σ2 H3) → g x (wipe σ vs) H2 N → g x (wipe σ vs) H2 M)
    (q : ∀ D H', H1 D = none → Same H1 H' → H' D = some (.lst ((List.range n).map v)) → Q (.ref D) H') :
    ∀ D, H1 D = none → ∃ W : Nat → Nat → Hp → Prop, (∃ m, W 0 m (upd H1 D (.lst []))) ∧ ∀ i m H, W i m H →
      ((J.stop i H ∧ Q (.ref D) H) ∨ (J.go i H ∧ ∃ Nx : Hp → Prop, (∀ H', Nx H' → ∃ m', m' < m ∧ W (i + 1) m' H') ∧ ∀ x H', J.yld i H x H' → g x (wipe σ vs) H' fun σ2 H2 => wipe σ2 vs = wipe σ vs ∧ tYes σ2 H2 fun b H3 =>
        if b = true then te σ2 H3 fun y H4 => ∃ acc, H4 D = some (.lst acc) ∧ acc.length < sizeLine ∧ Nx (upd H4 D (.lst (acc ++ [y]))) else Nx H3)) := fun D hD => by
  refine lc_it w (tt := tYes) (Pv := fun i H' => Same H1 H' ∧ H' D = some (.lst ((List.range i).map v))) ⟨same_upd hD, upd_same⟩ (fun i H' _ p => hG H' p.1) (fun i x H' H2 hi p y => ?_) (fun H' p => q D H' hD p.1 p.2)
  refine hg x H2 _ _ ?_ (hs i x H' H2 hi p.1 y (fun y' H4 => ∃ acc, H4 D = some (.lst acc) ∧ acc.length < sizeLine ∧ Same H1 (upd H4 D (.lst (acc ++ [y']))) ∧ (upd H4 D (.lst (acc ++ [y']))) D = some (.lst ((List.range (i + 1)).map v))) fun H4 e4 => ?_)
  · exact fun σ2 H3 z => ⟨z.1, by unfold tYes; dsimp only; rw [if_pos rfl]; exact z.2⟩
  refine ⟨_, e4 _ _ (hy i H' x H2 p.1 y _ _ p.2), by rw [List.length_map, List.length_range, sizeLine_eq]; omega, same_mut ((p.1.trans (hy i H' x H2 p.1 y)).trans e4) hD, ?_⟩
  rw [map_more]
  exact upd_same
/-- the same, of the whole comprehension -/
theorem lc_use {wi : TI} {H : Hp} (v : Nat → V) (hl : ∀ R : It → Hp → Prop, R J H1 → wi σ H R) (w : Walk J n G Y) (hn : n ≤ 50000) (hG : ∀ H', Same H1 H' → G H') (hy : ∀ i H' x H2, Same H1 H' → Y i H' x H2 → Same H' H2)
    (hs : ∀ i x H' H2, i < n → Same H1 H' → Y i H' x H2 → ∀ R : VK, (∀ H4, Same H2 H4 → R (v i) H4) → g x (wipe σ vs) H2 fun σ2 H3 => wipe σ2 vs = wipe σ vs ∧ te σ2 H3 R)
    (hg : ∀ x H2 (N M : St → Hp → Prop), (∀ σ2 H3, N σ2 H3 → M σ2 H3) → g x (wipe σ vs) H2 N → g x (wipe σ vs) H2 M)
    (q : ∀ D H', H1 D = none → Same H1 H' → H' D = some (.lst ((List.range n).map v)) → Q (.ref D) H') : tLc wi g tYes te vs σ H Q := hl _ (lc_walk w v hn hG hy hs hg q)
/-- {k: v for ..} whose turns tell k i and v i, the keys all unlike -/
theorem dc_walk (w : Walk J n G Y) (k : Nat → Key) (v : Nat → V) (hn : n ≤ 50000) (hk : ∀ i j, i < n → j < n → k i = k j → i = j) (hG : ∀ H', Same H1 H' → G H') (hy : ∀ i H' x H2, Same H1 H' → Y i H' x H2 → Same H' H2)
    (hs : ∀ i x H' H2, i < n → Same H1 H' → Y i H' x H2 → ∀ R : V → V → Hp → Prop, (∀ H4, Same H2 H4 → R (kV (k i)) (v i) H4) → g x (wipe σ vs) H2 fun σ2 H3 => wipe σ2 vs = wipe σ vs ∧ tk σ2 H3 fun y H4 => tv σ2 H4 fun z H5 => R y z H5)
    (hg : ∀ x H2 (N M : St → Hp → Prop), (∀ σ2 H3, N σ2 H3 → M σ2 H3) → g x (wipe σ vs) H2 N → g x (wipe σ vs) H2 M)
    (q : ∀ D H', H1 D = none → Same H1 H' → H' D = some (.dK ((List.range n).map fun i => (k i, v i))) → Q (.ref D) H') :
    ∀ D, H1 D = none → ∃ W : Nat → Nat → Hp → Prop, (∃ m, W 0 m (upd H1 D (.dK []))) ∧ ∀ i m H, W i m H →
      ((J.stop i H ∧ Q (.ref D) H) ∨ (J.go i H ∧ ∃ Nx : Hp → Prop, (∀ H', Nx H' → ∃ m', m' < m ∧ W (i + 1) m' H') ∧ ∀ x H', J.yld i H x H' → g x (wipe σ vs) H' fun σ2 H2 => wipe σ2 vs = wipe σ vs ∧ tYes σ2 H2 fun b H3 =>
        if b = true then tk σ2 H3 fun y H4 => tv σ2 H4 fun z H5 => ∃ kvs k, y = kV k ∧ H5 D = some (.dK kvs) ∧ kvs.length < sizeLine ∧ Nx (upd H5 D (.dK (putK kvs k z))) else Nx H3)) := fun D hD => by
  refine ⟨fun i m H' => m = n - i ∧ i ≤ n ∧ Same H1 H' ∧ H' D = some (.dK ((List.range i).map fun i => (k i, v i))), ⟨n, by simp, Nat.zero_le _, same_upd hD, upd_same⟩, ?_⟩
  rintro i m H' ⟨rfl, hi, s, d⟩
  by_cases hlt : i < n
  · refine .inr ⟨w.goes i H' hlt (hG H' s), fun H2 => Same H1 H2 ∧ H2 D = some (.dK ((List.range (i + 1)).map fun i => (k i, v i))), fun H2 p => ⟨n - (i + 1), by omega, rfl, hlt, p⟩, fun x H2 y => ?_⟩
    have y' := w.yields i H' x H2 hlt (hG H' s) y
    refine hg x H2 _ _ ?_ (hs i x H' H2 hlt s y' (fun y z H5 => ∃ kvs k', y = kV k' ∧ H5 D = some (.dK kvs) ∧ kvs.length < sizeLine ∧ Same H1 (upd H5 D (.dK (putK kvs k' z))) ∧ (upd H5 D (.dK (putK kvs k' z))) D = some (.dK ((List.range (i + 1)).map fun i => (k i, v i)))) fun H4 e4 => ?_)
    · exact fun σ2 H3 z => ⟨z.1, by unfold tYes; dsimp only; rw [if_pos rfl]; exact z.2⟩
    refine ⟨_, k i, rfl, e4 _ _ (hy i H' x H2 s y' _ _ d), by rw [List.length_map, List.length_range, sizeLine_eq]; omega, same_mut ((s.trans (hy i H' x H2 s y')).trans e4) hD, ?_⟩
    rw [upd_same, putK_new, map_more]
    unfold valV
    rw [List.find?_eq_none.mpr]
    · rfl
    · intro p hp
      obtain ⟨j, hj, rfl⟩ := List.mem_map.mp hp
      rw [List.mem_range] at hj
      simp only [decide_eq_true_eq]
      intro e
      have := hk j i (by omega) hlt e
      omega
  · have e : i = n := by omega
    subst e
    exact .inl ⟨w.stops H' (hG H' s), q D H' hD s d⟩
theorem dc_use {wi : TI} {H : Hp} (k : Nat → Key) (v : Nat → V) (hl : ∀ R : It → Hp → Prop, R J H1 → wi σ H R) (w : Walk J n G Y) (hn : n ≤ 50000) (hk : ∀ i j, i < n → j < n → k i = k j → i = j) (hG : ∀ H', Same H1 H' → G H') (hy : ∀ i H' x H2, Same H1 H' → Y i H' x H2 → Same H' H2)
    (hs : ∀ i x H' H2, i < n → Same H1 H' → Y i H' x H2 → ∀ R : V → V → Hp → Prop, (∀ H4, Same H2 H4 → R (kV (k i)) (v i) H4) → g x (wipe σ vs) H2 fun σ2 H3 => wipe σ2 vs = wipe σ vs ∧ tk σ2 H3 fun y H4 => tv σ2 H4 fun z H5 => R y z H5)
    (hg : ∀ x H2 (N M : St → Hp → Prop), (∀ σ2 H3, N σ2 H3 → M σ2 H3) → g x (wipe σ vs) H2 N → g x (wipe σ vs) H2 M)
    (q : ∀ D H', H1 D = none → Same H1 H' → H' D = some (.dK ((List.range n).map fun i => (k i, v i))) → Q (.ref D) H') : tDc wi g tYes tk tv vs σ H Q := hl _ (dc_walk w k v hn hk hG hy hs hg q)
end
theorem gn_mono {j : Nat} {x : V} {σ : St} {H2 : Hp} {N M : St → Hp → Prop} (h : ∀ σ2 H3, N σ2 H3 → M σ2 H3) (z : gName j x σ H2 N) : gName j x σ H2 M := h _ _ z
end L2


set_option Elab.async false
set_option linter.all false
set_option maxRecDepth 100000
set_option maxHeartbeats 4000000
/-! comprehensions over any walk whose items, or values, are new objects -/
namespace L2
open PySem PySem.Spec PyProof.Rows
section
variable {J : It} {n : Nat} {G : Hp → Prop} {Y : Nat → Hp → V → Hp → Prop} {g : TG} {te tk tv : TE} {vs : List Nat} {σ : St} {H1 : Hp} {Q : VK} {D : Addr}
/-- the new objects so far, all but D -/
structure News (H1 : Hp) (D : Addr) (ob : Nat → HO) (i : Nat) (ps : List Addr) (H' : Hp) : Prop where
  len : ps.length = i
  at_ : ∀ (j : Nat) p, ps[j]? = some p → p ≠ D ∧ H1 p = none ∧ H' p = some (ob j)
  same : Same H1 H'
theorem News.more {ob : Nat → HO} {i : Nat} {ps : List Addr} {H' H2 : Hp} {p : Addr} {o o' : HO} (m : News H1 D ob i ps H') (hD : H1 D = none) (d : H' D = some o') (e : Same H' H2) (np : H' p = none) (hp : H2 p = some (ob i)) : News H1 D ob (i + 1) (ps ++ [p]) (upd H2 D o) := by
  have npD : p ≠ D := fun z => by rw [z, d] at np; cases np
  have n1 : H1 p = none := m.same.free np
  refine ⟨by rw [List.length_append, m.len]; rfl, fun j q hq => ?_, same_mut (m.same.trans e) hD⟩
  by_cases c : j < ps.length
  · rw [List.getElem?_append_left c] at hq
    obtain ⟨z1, z2, z3⟩ := m.at_ j q hq
    exact ⟨z1, z2, by rw [upd_ne z1]; exact e _ _ z3⟩
  · rw [List.getElem?_append_right (by omega)] at hq
    have j0 : j = i := by
      by_cases c2 : j - ps.length = 0
      · have := m.len
        omega
      · have : ([p] : List Addr)[j - ps.length]? = none := List.getElem?_eq_none (by show 1 ≤ _; omega)
        rw [this] at hq
        cases hq
    subst j0
    rw [m.len, Nat.sub_self] at hq
    obtain rfl : p = q := Option.some.inj hq
    exact ⟨npD, n1, by rw [upd_ne npD]; exact hp⟩
theorem lc_new {wi : TI} {H : Hp} (ob : Nat → HO) (hl : ∀ R : It → Hp → Prop, R J H1 → wi σ H R) (w : Walk J n G Y) (hn : n ≤ 50000) (hG : ∀ H', Same H1 H' → G H') (hy : ∀ i H' x H2, Same H1 H' → Y i H' x H2 → Same H' H2)
    (hs : ∀ i x H' H2, i < n → Same H1 H' → Y i H' x H2 → ∀ R : VK, (∀ p H5, H2 p = none → Same H2 H5 → H5 p = some (ob i) → R (.ref p) H5) → g x (wipe σ vs) H2 fun σ2 H3 => wipe σ2 vs = wipe σ vs ∧ te σ2 H3 R)
    (hg : ∀ x H2 (N M : St → Hp → Prop), (∀ σ2 H3, N σ2 H3 → M σ2 H3) → g x (wipe σ vs) H2 N → g x (wipe σ vs) H2 M)
    (q : ∀ D H' (ps : List Addr), H1 D = none → Same H1 H' → ps.length = n → H' D = some (.lst (ps.map V.ref)) → (∀ (j : Nat) p, ps[j]? = some p → H1 p = none ∧ H' p = some (ob j)) → Q (.ref D) H') : tLc wi g tYes te vs σ H Q := hl _ fun D hD => by
  refine lc_it w (tt := tYes) (Pv := fun i H' => ∃ ps, News H1 D ob i ps H' ∧ H' D = some (.lst (ps.map V.ref))) ⟨[], ⟨rfl, fun j p h => by simp at h, same_upd hD⟩, upd_same⟩ (fun i H' _ p => p.elim fun _ z => hG H' z.1.same) (fun i x H' H2 hi p y => ?_) (fun H' p => ?_)
  · obtain ⟨ps, m, d⟩ := p
    have e2 := hy i H' x H2 m.same y
    refine hg x H2 _ _ ?_ (hs i x H' H2 hi m.same y (fun y' H4 => ∃ acc, H4 D = some (.lst acc) ∧ acc.length < sizeLine ∧ ∃ ps, News H1 D ob (i + 1) ps (upd H4 D (.lst (acc ++ [y']))) ∧ (upd H4 D (.lst (acc ++ [y']))) D = some (.lst (ps.map V.ref))) fun p H5 np e5 hp => ?_)
    · exact fun σ2 H3 z => ⟨z.1, by unfold tYes; dsimp only; rw [if_pos rfl]; exact z.2⟩
    have np' : H' p = none := e2.free np
    refine ⟨_, e5 _ _ (e2 _ _ d), by rw [List.length_map, m.len, sizeLine_eq]; omega, ps ++ [p], m.more hD d (e2.trans e5) np' hp, ?_⟩
    rw [List.map_append]
    exact upd_same
  · obtain ⟨ps, m, d⟩ := p
    exact q D H' ps hD m.same m.len d fun j p h => (m.at_ j p h).2
theorem dc_new {wi : TI} {H : Hp} (k : Nat → Key) (ob : Nat → HO) (hl : ∀ R : It → Hp → Prop, R J H1 → wi σ H R) (w : Walk J n G Y) (hn : n ≤ 50000) (hk : ∀ i j, i < n → j < n → k i = k j → i = j) (hG : ∀ H', Same H1 H' → G H') (hy : ∀ i H' x H2, Same H1 H' → Y i H' x H2 → Same H' H2)
    (hs : ∀ i x H' H2, i < n → Same H1 H' → Y i H' x H2 → ∀ R : V → V → Hp → Prop, (∀ p H5, H2 p = none → Same H2 H5 → H5 p = some (ob i) → R (kV (k i)) (.ref p) H5) → g x (wipe σ vs) H2 fun σ2 H3 => wipe σ2 vs = wipe σ vs ∧ tk σ2 H3 fun y H4 => tv σ2 H4 fun z H5 => R y z H5)
    (hg : ∀ x H2 (N M : St → Hp → Prop), (∀ σ2 H3, N σ2 H3 → M σ2 H3) → g x (wipe σ vs) H2 N → g x (wipe σ vs) H2 M)
    (q : ∀ D H' (ps : List Addr), H1 D = none → Same H1 H' → ps.length = n → H' D = some (.dK ((List.range n).map fun i => (k i, V.ref (ps.getD i 0)))) → (∀ (j : Nat) p, ps[j]? = some p → H1 p = none ∧ H' p = some (ob j)) → Q (.ref D) H') : tDc wi g tYes tk tv vs σ H Q := hl _ fun D hD => by
  refine ⟨fun i m H' => m = n - i ∧ i ≤ n ∧ ∃ ps, News H1 D ob i ps H' ∧ H' D = some (.dK ((List.range i).map fun i => (k i, V.ref (ps.getD i 0)))), ⟨n, by simp, Nat.zero_le _, [], ⟨rfl, fun j p h => by simp at h, same_upd hD⟩, upd_same⟩, ?_⟩
  rintro i m H' ⟨rfl, hi, ps, m, d⟩
  by_cases hlt : i < n
  · refine .inr ⟨w.goes i H' hlt (hG H' m.same), fun H2 => ∃ ps, News H1 D ob (i + 1) ps H2 ∧ H2 D = some (.dK ((List.range (i + 1)).map fun i => (k i, V.ref (ps.getD i 0)))), fun H2 p => ⟨n - (i + 1), by omega, rfl, hlt, p⟩, fun x H2 y => ?_⟩
    have y' := w.yields i H' x H2 hlt (hG H' m.same) y
    have e2 := hy i H' x H2 m.same y'
    refine hg x H2 _ _ ?_ (hs i x H' H2 hlt m.same y' (fun y z H5 => ∃ kvs k', y = kV k' ∧ H5 D = some (.dK kvs) ∧ kvs.length < sizeLine ∧ ∃ ps, News H1 D ob (i + 1) ps (upd H5 D (.dK (putK kvs k' z))) ∧ (upd H5 D (.dK (putK kvs k' z))) D = some (.dK ((List.range (i + 1)).map fun i => (k i, V.ref (ps.getD i 0))))) fun p H5 np e5 hp => ?_)
    · exact fun σ2 H3 z => ⟨z.1, by unfold tYes; dsimp only; rw [if_pos rfl]; exact z.2⟩
    have np' : H' p = none := e2.free np
    refine ⟨_, k i, rfl, e5 _ _ (e2 _ _ d), by rw [List.length_map, List.length_range, sizeLine_eq]; omega, ps ++ [p], m.more hD d (e2.trans e5) np' hp, ?_⟩
    rw [upd_same, putK_new, map_more]
    · have old : ((List.range i).map fun j => (k j, V.ref ((ps ++ [p]).getD j 0))) = (List.range i).map fun j => (k j, V.ref (ps.getD j 0)) := by
        refine List.map_congr_left fun j hj => ?_
        rw [List.mem_range] at hj
        rw [List.getD_eq_getElem?_getD, List.getD_eq_getElem?_getD, List.getElem?_append_left (by rw [m.len]; exact hj)]
      have new : (ps ++ [p]).getD i 0 = p := by
        rw [List.getD_eq_getElem?_getD, List.getElem?_append_right (by rw [m.len]; exact Nat.le_refl _), m.len, Nat.sub_self]
        rfl
      rw [old, new]
    · unfold valV
      rw [List.find?_eq_none.mpr]
      · rfl
      · intro z hz
        obtain ⟨j, hj, rfl⟩ := List.mem_map.mp hz
        rw [List.mem_range] at hj
        simp only [decide_eq_true_eq]
        intro e
        have := hk j i (by omega) hlt e
        omega
  · have e : i = n := by omega
    subst e
    exact .inl ⟨w.stops H' (hG H' m.same), q D H' ps hD m.same m.len d fun j p h => (m.at_ j p h).2⟩
end
end L2


set_option Elab.async false
set_option linter.all false
set_option maxRecDepth 100000
set_option maxHeartbeats 4000000
/-! set(xs), xs a list or tuple of unlike keys -/
namespace OwnSet
open PySem PySem.Spec PyProof.Rows
section
variable {Kt : Type} [DecidableEq Kt] {prog : Program} {w : World} {A : Around} {R : Result → Shared → Prop} {I : Addr} {fp wr : List Addr} {G : Array GenState → Array GenState → Prop} {n : Nat} {P : Nat → Value → Prop} {St : Nat → Shared → Prop}
theorem setOf_of {knd : KeyKind prog w Kt} {h h2 : Heap} {S : Addr} {f : Kt → Bool} {m : Nat} (hS : h.SetOf knd S f m) (k : ∀ o, h.get? S = some o → h2.get? S = some o) : h2.SetOf knd S f m := hS.elim fun o q => q.elim fun es q => q.elim fun ep q => q.elim fun t q => ⟨o, es, ep, t, k o q.1, q.2⟩
/-- what is still to come is put in, one by one -/
theorem fill (knd : KeyKind prog w Kt) (W : WalksS prog w A.in1 I fp wr G n P St) (S : Addr) (hSf : S ∉ fp) (ks : List Kt) (hl : ks.length = n) (nd : ks.Nodup) (hb : n + 1 < scanBound)
    (hv : ∀ i v, P i v → ∃ k, ks[i]? = some k ∧ knd.is k v = true ∧ v.scannable = true) :
    ∀ (j i : Nat) (sh : Shared), i + j = n → St i sh → sh.heap.SetOf knd S (fun k => decide (k ∈ ks.take i)) i →
      (∀ sh', Moved (S :: wr) G sh sh' → sh'.heap.SetOf knd S (fun k => decide (k ∈ ks)) n → R (.ok (.ret .none)) sh') → codeAny (model prog w) A (.builtin "set.update.loop" ⟨[.ref S, .ref I], []⟩) R sh
  | 0, i, sh, hij, hst, hS, last => by
    obtain rfl : i = n := hij
    have away : S ∉ wr := fun z => hSf (W.sub S z)
    rw [← hl, List.take_length] at hS
    refine codeAny_builtin F.entry_set_update_loop ?_
    rw [Around.under_plainId F.plain_set_update_loop _]
    refine wpAny_bind (m := pyNext (.ref I)) (W.done sh _ _ hst fun sh' mv => ?_)
    refine wpAny_pure (last sh' (mv.mono fun b z => .tail S z) ?_)
    rw [← hl]
    exact setOf_of hS fun o e => mv.heap S o away e
  | j + 1, i, sh, hij, hst, hS, last => by
    have away : S ∉ wr := fun z => hSf (W.sub S z)
    refine codeAny_builtin F.entry_set_update_loop ?_
    rw [Around.under_plainId F.plain_set_update_loop _]
    refine wpAny_bind (m := pyNext (.ref I)) (W.item i sh _ _ (by omega) hst fun v sh' hP hst' mv => ?_)
    obtain ⟨k, hk, is, sc⟩ := hv i v hP
    have hS' := setOf_of hS fun o e => mv.heap S o away e
    show wpAny _ A.in1 (holding [v] (setAdd S v) >>= _) _ _ sh'
    refine wpAny_bind (wpAny_holding ?_)
    unfold setAdd
    refine wpAny_holding (wpAny_bind (knd.pyHash is (wpAny_setAddHashed_of (knd := knd) (s := { sh' with toks := sh'.toks + 1 }) is sc hS' (by omega) fun h2 sb hS2 => ?_)))
    have fresh : decide (k ∈ ks.take i) = false := by
      refine decide_eq_false fun z => ?_
      obtain ⟨m, hm, em⟩ := List.mem_iff_getElem.mp z
      rw [List.length_take] at hm
      rw [List.getElem_take] at em
      have hi : i < ks.length := by omega
      have e2 : ks[i] = k := by rw [List.getElem?_eq_getElem hi] at hk; exact Option.some.inj hk
      exact List.pairwise_iff_getElem.mp nd m i (by omega) hi (by omega) (em.trans e2.symm)
    rw [fresh] at hS2
    have next : h2.SetOf knd S (fun k => decide (k ∈ ks.take (i + 1))) (i + 1) := by
      refine SetOf_congr hS2 (fun k' => ?_) (by simp)
      have hi : i < ks.length := by omega
      have e2 : ks[i] = k := by rw [List.getElem?_eq_getElem hi] at hk; exact Option.some.inj hk
      rw [List.take_add_one, List.getElem?_eq_getElem hi, e2]
      simp
    refine wpAny_pure ⟨plainId_quiet F.plain_set_update_loop _, fill knd W S hSf ks hl nd hb hv j (i + 1) _ (by omega) (W.frame _ sh' _ _ hst' (Nat.le_succ _) fun b z o e => ?_) next fun sh2 mv2 hS3 => ?_⟩
    · rw [sb.2 b fun q => hSf (q ▸ z)]
      exact e
    · refine last sh2 (Moved.trans W.gtrans ((mv.mono fun b z => .tail S z).then_heap (Nat.le_succ _) fun b o z e => ?_) mv2) hS3
      rw [sb.2 b fun q => z (q ▸ List.mem_cons_self)]
      exact e
end
/-- a set as set.__new__ lays it -/
abbrev bare (led : Bool) : Obj := { cls := .type "set", dict := none, data := .set #[] 0 (.fresh 0 0 led) }
section
variable {Kt : Type} [DecidableEq Kt] {prog : Program} {w : World} {A : Around} {E : Value → Shared → Prop} {s : Shared}
/-- set.__init__ of a bare set at S with a list at l -/
theorem init_list (knd : KeyKind prog w Kt) {led : Bool} {S l : Addr} {its : Array Value} {ks : List Kt} {T : Fin → Shared → Prop} (hh : A.handled = none) (hS : s.heap.get? S = some (bare led)) (hl : s.heap.IsList l its) (hne : S ≠ l) (hz : ks.length = its.size) (nd : ks.Nodup)
    (hb : ks.length + 1 < scanBound) (hv : ∀ (i : Nat) (v : Value), its[i]? = some v → ∃ k, ks[i]? = some k ∧ knd.is k v = true ∧ v.scannable = true)
    (h : ∀ h' tk, h'.SetOf knd S (fun k => decide (k ∈ ks)) ks.length → (∀ b o, b ≠ S → s.heap.get? b = some o → h'.get? b = some o) → T (.done (.ret .none)) { s with heap := h', toks := tk }) :
    wpAny (model prog w) A (Builtin.«set.__init__» ⟨[.ref S, .ref l], []⟩) T E s := by
  obtain ⟨ol, hol, hcl, nl, hdl⟩ := id hl
  obtain ⟨hp, g, d, tk, os⟩ := s
  obtain ⟨oc, od, odat, osl⟩ := ol
  dsimp only at hcl hdl
  subst hcl hdl
  have notSet := PySem.F.sub_list_set
  have notFrozen := PySem.F.sub_list_frozenset
  have notDict : (Value.type "list" == Value.type "dict") = false := by decide
  unfold Builtin.«set.__init__» noKeywords Builtin.Frozenset.updateFrom
  generalize hPI : pyIter = PI
  wp_walk
  subst hPI
  have hlt : l < hp.objs.size := Heap.lt_size hol
  have hSt : S < hp.objs.size := Heap.lt_size hS
  have h1 : A.in1.handled = none := by simp [hh]
  refine wpAny_pyIter_list hl (wpAny_bind (wpAny_runValue ?_))
  refine fill knd ((Walks.list h1 _ l (Nat.ne_of_lt hlt) its).toS) S ?_ ks hz nd (by rw [← hz]; exact hb) hv its.size 0 _ (Nat.zero_add _) ⟨⟨_, Heap.get?_push_size _ rfl, rfl, rfl⟩, hl.push _⟩ ?_ fun s2 mv hS2 => ?_
  · simp only [List.mem_cons, List.not_mem_nil, or_false, not_or]
    exact ⟨Nat.ne_of_lt hSt, hne⟩
  · exact SetOf_congr ((setObjOf_fresh (knd := knd) led).setOf (Heap.get?_push_of_some _ hS) (by omega)) (fun _ => by simp) rfl
  · obtain ⟨h2, g2, d2, tk2, os2⟩ := s2
    obtain rfl : g2 = g := mv.gens
    obtain rfl : d2 = d := mv.drawn
    obtain rfl : os2 = os := mv.os
    refine wpAny_pure (wpAny_pure (h h2 tk2 (by rw [hz]; exact hS2) fun b o nb e => mv.heap b o ?_ (Heap.get?_push_of_some _ e)))
    simp only [List.mem_cons, List.not_mem_nil, or_false, not_or]
    exact ⟨nb, Nat.ne_of_lt (Heap.lt_size e)⟩
/-- set(xs) of a list -/
theorem of_list (knd : KeyKind prog w Kt) {l : Addr} {its : Array Value} {ks : List Kt} {Q : Value → Shared → Prop} (hh : A.handled = none) (hl : s.heap.IsList l its) (hz : ks.length = its.size) (nd : ks.Nodup) (hb : ks.length + 1 < scanBound)
    (hv : ∀ (i : Nat) (v : Value), its[i]? = some v → ∃ k, ks[i]? = some k ∧ knd.is k v = true ∧ v.scannable = true)
    (h : ∀ h' tk, h'.SetOf knd s.heap.objs.size (fun k => decide (k ∈ ks)) ks.length → (∀ b o, s.heap.get? b = some o → h'.get? b = some o) → Q (.ref s.heap.objs.size) { s with heap := h', toks := tk }) :
    wpAny (model prog w) A (call (.type "set") [.ref l]) Q E s := by
  obtain ⟨c0, rest, line⟩ := PySem.F.called_set.mro
  have maker := PySem.F.called_set.made
  have under := PySem.F.called_set.sub
  refine wpAny_call (codeAny_of_tree (show wpAny _ _ (callAny (.type "set") _) _ _ _ from wpAny_pure ⟨Code.quiet_builtin _ (by decide +kernel), codeAny_builtin PySem.F.entry_type_call ?_⟩))
  rw [Around.under_plain (weight_type_call_type "set" [Value.ref l] []) rfl]
  have plain1 := PySem.F.called_set.notType
  have plain2 := PySem.F.called_set.canCreate
  have checked := PySem.F.typeCall_set_1 (.ref l)
  repeat (any_goals (first | assumption | wp_step))
  refine codeAny_mono (code_set_new_1 (prog := prog) (w := w) (s := s) (.ref l) (E := E) (Q₁ := fun ob s1 => ∃ led, ob = .ref s.heap.objs.size ∧ s1 = { s with heap := s.heap.push (bare led) }) fun led => ⟨led, rfl, rfl⟩) fun r s1 out => ?_
  match r with
  | .error e => exact out
  | .ok .next => exact out.elim
  | .ok .brk => exact out.elim
  | .ok .cont => exact out.elim
  | .ok (.ret ob) =>
    obtain ⟨led, rfl, rfl⟩ := out
    have at0 : (s.heap.push (bare led)).get? s.heap.objs.size = some (bare led) := Heap.get?_push_size _ rfl
    have ty0 : Shared.TypeIs { s with heap := s.heap.push (bare led) } (.ref s.heap.objs.size) "set" := ⟨_, at0, rfl⟩
    have find := PySem.F.called_set.init.lookup
    have bound := PySem.F.called_set.init.bind (.ref s.heap.objs.size)
    repeat (any_goals (first | assumption | wp_step))
    refine codeAny_mono (codeAny_call_builtin (R := wants (fun r s2 => r = .none ∧ Q (.ref s.heap.objs.size) s2) E) PySem.F.called_set.init.plain PySem.F.entry_set_init (check_set_init_1 ty0 ?_)) fun r2 s2 out2 => ?_
    · refine init_list knd (by simp [hh]) at0 (hl.push _) (Nat.ne_of_gt (hl.elim fun o q => Heap.lt_size q.1)) hz nd hb hv fun h2 tk2 hS keep => ⟨rfl, h h2 tk2 hS fun b o e => keep b o (Nat.ne_of_lt (Heap.lt_size e)) (Heap.get?_push_of_some _ e)⟩
    · match r2 with
      | .error e => exact out2
      | .ok .next => exact out2.elim
      | .ok .brk => exact out2.elim
      | .ok .cont => exact out2.elim
      | .ok (.ret r) =>
        obtain ⟨rfl, q⟩ := out2
        repeat (any_goals (first | assumption | wp_step))
end
end OwnSet


set_option Elab.async false
set_option linter.all false
set_option maxRecDepth 100000
set_option maxHeartbeats 4000000
/-! len(set(texts)) -/
namespace L2
open PySem PySem.Spec PyProof.Rows
def tLenKeys (K : PySem.W.Frag) (ta : TE) : TE := fun σ H Q => ta σ H fun x H1 => ∃ (l : Addr) (xs : List Str), x = .ref l ∧ SqL K H1 l (xs.map V.str) ∧ xs.Nodup ∧ xs.length ≤ 1000 ∧ Q (.int (xs.length : Nat)) H1
theorem nodup_inr {xs : List Str} (h : xs.Nodup) : (xs.map (Sum.inr : Str → Key)).Nodup := by
  unfold List.Nodup at h ⊢
  rw [List.pairwise_map]
  exact h.imp fun {a b} z e => z (Sum.inr.inj e)
theorem pe_lenKeys {X : Cx} {a : Expr} {ta : TE} {p p2 q pos : Pos} (hg : Gl X "len") (hm : X.mg "len" = none) (hg2 : Gl X "set") (hm2 : X.mg "set" = none) (ha : PE X a ta) (hc : X.calm = true := by rfl)
    (na : starEach [a] X.env = (false, eval a X.env) :: starEach [] X.env := by rfl) : PE X (.Call (.Name "len" p) [.Call (.Name "set" p2) [a] [] q] [] pos) (tLenKeys X.K ta) := by
  refine ⟨fun pins s σ H Q I h => Call_ (ld_blt I hg hm boot_len (callWith_builtin1 (args_cons (Call_ (ld_blt I hg2 hm2 boot_set (callWith_type1 (args_cons (thn (ha.run pins s σ H _ I h) fun v s1 hh => args_nil ?_) na) na rfl))) rfl) rfl rfl))⟩
  obtain ⟨x, H1, I1, r1, l, xs, rfl, hq, nd, hl, q1⟩ := hh
  obtain rfl : v = Value.ref l := r1
  obtain ⟨its, r, pl, hz⟩ := I1.list hq
  have hlen : its.length = xs.length := by rw [← r.length, List.length_map]
  refine OwnSet.of_list (mixKind X.prog X.w) (ks := xs.map Sum.inr) (I1.ok.hd hc) pl.isList (by rw [List.length_map, List.size_toArray, hlen]) (nodup_inr nd) (by rw [List.length_map]; unfold scanBound; omega) (fun i v hv => ?_) fun h2 tk2 hS keep => args_nil ?_
  · rw [List.getElem?_toArray] at hv
    have hi : i < xs.length := by rw [← hlen]; exact (List.getElem?_eq_some_iff.mp hv).1
    obtain ⟨u, hu, ru⟩ := r.get (i := i) (x := V.str xs[i]) (by rw [List.getElem?_map, List.getElem?_eq_getElem hi]; rfl)
    rw [hv] at hu
    obtain rfl : v = u := Option.some.inj hu
    obtain ⟨t, rfl⟩ := (show ∃ t, v = Value.str xs[i] t from ru)
    exact ⟨Sum.inr xs[i], by rw [List.getElem?_map, List.getElem?_eq_getElem hi]; rfl, mixKind_str _ _ _ _, rfl⟩
  · rw [List.length_map] at hS
    obtain ⟨o, es, ep, t, ho, hx, hd, _, _, _, hf, hn⟩ := hS
    have I2 : Inv X pins σ H1 { s1 with heap := h2, toks := tk2 } := I1.kept keep
    exact call_len_set ho hx hd hf (by rw [hn]; omega) ⟨.int (xs.length : Nat), H1, I2.tok _, ⟨_, by rw [hn]⟩, q1⟩
end L2


set_option Elab.async false
set_option linter.all false
set_option maxRecDepth 100000
set_option maxHeartbeats 4000000
/-! methods in one hand -/
namespace L2
open PySem PySem.Spec PyProof.Rows
/-- the class at C has the method m, which keeps sp -/
structure Mtd (P : Program) (w : World) (K : PySem.W.Frag) (mg : Str → Option Value) (base : Heap) (k : Nat) (C : Addr) (m : Str) (ps : List Str) (sp : Sp) : Prop where
  cl : Cls K C
  ex : ∃ f fd, Meth K C m f ∧ Binds K fd ps [] ∧ FnOk P w K mg base (L2.CX P w) k f fd ps sp
section
variable {X : Cx} {k : Nat} {C : Addr} {m : Str} {ps : List Str} {sp : Sp} {E : XK} {o e : Expr} {es : List Expr} {ta : TE} {t : TA} {apos pos : Pos} {pl : Sem Bool}
theorem pe_mtd (c : Mtd X.prog X.w X.K X.mg X.base k C m ps sp) (hr : Room k X.A) (he : PE X o ta) (ha : PA X (e :: es) t)
    (hst : starEach (e :: es) X.env = (false, eval e X.env) :: starEach es X.env := by rfl) (hpl : (backTo pos (starEach es X.env)).any (·.1) = false := by rfl)
    (ht : eval (.Call (.Attribute o m apos) (e :: es) [] pos) X.env = (do
      let ov ← eval o X.env
      standAt apos.atName
      let (g, first) ← holding [ov] (getMethod ov m pl)
      callWith pos g first (backTo pos (starEach (e :: es) X.env)) (backToKw pos (keywordEach [] X.env))) := by rfl) :
    PE X (.Call (.Attribute o m apos) (e :: es) [] pos) (tMeth C m sp [] E0 ta t) := by
  obtain ⟨f, fd, hm, hb, G⟩ := c.ex
  exact pe_meth he c.cl hm G hr hb .nil passL ha hst hpl ht
theorem pe_mtd0 (c : Mtd X.prog X.w X.K X.mg X.base k C m ps sp) (hr : Room k X.A) (he : PE X o ta)
    (ht : eval (.Call (.Attribute o m apos) [] [] pos) X.env = (do
      let ov ← eval o X.env
      standAt apos.atName
      let (g, first) ← holding [ov] (getMethod ov m pl)
      callWith pos g first (backTo pos (starEach [] X.env)) (backToKw pos (keywordEach [] X.env))) := by rfl) :
    PE X (.Call (.Attribute o m apos) [] [] pos) (tMeth C m sp [] E0 ta tNil) := by
  obtain ⟨f, fd, hm, hb, G⟩ := c.ex
  exact pe_meth0 he c.cl hm G hr hb .nil passL ht
end
end L2


set_option Elab.async false
set_option linter.all false
set_option maxRecDepth 100000
set_option maxHeartbeats 4000000
/-! a range held by a name; comprehensions with two for -/
namespace L2
open PySem PySem.Spec PyProof.Rows
section
variable {X : Cx} {tg e : Expr} {te : TE}
theorem cr_range1 : CallR X (.type "range") (fun vs H Q => ∃ j, vs = [V.int j] ∧ ∀ p, H p = none → Q (.ref p) (upd H p (.rng 0 j))) := by
  intro pins s σ H vs us Q I r h
  obtain ⟨j, rfl, q⟩ := h
  obtain ⟨u, rfl, ru⟩ := r.one
  obtain ⟨t, rfl⟩ := (show ∃ t, u = Value.int j t from ru)
  refine call_range_1 ⟨.ref s.heap.objs.size, upd H s.heap.objs.size (.rng 0 j), I.laid (fun b o z => Heap.get?_push_of_some _ z) (Nat.le_refl _) ?_, rfl, q _ (I.hok.fresh (Nat.le_refl _))⟩
  exact ⟨_, t, _, Heap.get?_push_size _ rfl⟩
/-- for .. in r, r a range object -/
def iRngV (te : TE) : TI := fun σ H R => te σ H fun v H1 => ∃ (a : Addr) (lo hi : Int), v = .ref a ∧ H1 a = some (.rng lo hi) ∧ (-(2 ^ 62) ≤ lo ∧ lo < 2 ^ 62 ∧ -(2 ^ 62) ≤ hi ∧ hi < 2 ^ 62) ∧ R (Itr lo (hi - lo).toNat) H1
theorem pi_rngV (he : PE X e te) : PI X tg e (iRngV te) := by
  refine ⟨fun pins s σ H R I h => thn (he.run pins s σ H _ I h) fun v s1 hh => ?_⟩
  obtain ⟨x, H1, I1, r1, a, lo, hi, rfl, ha, ⟨b1, b2, b3, b4⟩, q⟩ := hh
  obtain rfl : v = Value.ref a := r1
  obtain ⟨t, u, w, ob⟩ := (show ObjOk X.prog X.w H1 s1.heap a (.rng lo hi) from I1.hok a _ ha)
  refine wpAny_pyIter_range (show IsRange s1.heap a lo hi 1 t u w from ob) (small_one b1 b2 b3 b4) (pi_one (tk := s1.toks) I1 _ (turn_range _ lo (hi - lo).toNat) ?_ q)
  have e1 : lo + ((0 : Nat) : Int) * 1 = lo := by simp
  have e2 : (((hi - lo).toNat : Nat) : Int) - ((0 : Nat) : Int) = Builtin.Range.rangeSize lo hi 1 := by
    rw [rangeSize_one]
    split <;> omega
  show IsRangeIter _ _ (lo + ((0 : Nat) : Int) * 1) ((((hi - lo).toNat : Nat) : Int) - ((0 : Nat) : Int)) 1
  rw [e1, e2]
  exact Heap.get?_push_size _ rfl
end
end L2
namespace L2
open PySem PySem.Spec PyProof.Rows
def flat2 (m : Nat → Nat) (v : Nat → Nat → V) (n : Nat) : List V := (List.range n).flatMap fun i => (List.range (m i)).map (v i)
theorem flat2_more (m : Nat → Nat) (v : Nat → Nat → V) (i : Nat) : flat2 m v (i + 1) = flat2 m v i ++ (List.range (m i)).map (v i) := by
  unfold flat2
  rw [List.range_succ, List.flatMap_append]
  simp
theorem flat2_len {m : Nat → Nat} {v : Nat → Nat → V} (h : ∀ i, m i ≤ 100) : ∀ n, (flat2 m v n).length ≤ 100 * n
  | 0 => by simp [flat2]
  | n + 1 => by
    rw [flat2_more, List.length_append, List.length_map, List.length_range]
    have := flat2_len (v := v) h n
    have := h n
    omega
section
variable {J : It} {n : Nat} {G : Hp → Prop} {Y : Nat → Hp → V → Hp → Prop} {te : TE} {vs vs1 : List Nat} {σ : St} {H H1 : Hp} {Q : VK} {wi wi1 : TI} {a b : Nat}
theorem lc2_use (m : Nat → Nat) (v : Nat → Nat → V) (hl : ∀ R : It → Hp → Prop, R J H1 → wi σ H R) (w : Walk J n G Y) (hn : n ≤ 100) (hm : ∀ i, m i ≤ 100) (hG : ∀ H', Same H1 H' → G H') (hy : ∀ i H' x H2, Same H1 H' → Y i H' x H2 → Same H' H2)
    (hw : ∀ x, wipe ((wipe σ vs).set a (some x)) vs = wipe σ vs)
    (inner : ∀ i x H' H2, i < n → Same H1 H' → Y i H' x H2 → ∃ (J1 : It) (G1 : Hp → Prop) (Y1 : Nat → Hp → V → Hp → Prop), Walk J1 (m i) G1 Y1 ∧ (∀ H3, Same H1 H3 → G1 H3) ∧ (∀ j H3 y H4, Same H1 H3 → Y1 j H3 y H4 → Same H3 H4) ∧
      (∀ R : It → Hp → Prop, R J1 H2 → wi1 ((wipe σ vs).set a (some x)) H2 R) ∧
      ∀ j y H3 H4, j < m i → Same H1 H3 → Y1 j H3 y H4 → wipe ((wipe ((wipe σ vs).set a (some x)) vs1).set b (some y)) vs1 = wipe ((wipe σ vs).set a (some x)) vs1 ∧ ∀ R : VK, (∀ H5, Same H4 H5 → R (v i j) H5) → te ((wipe ((wipe σ vs).set a (some x)) vs1).set b (some y)) H4 R)
    (q : ∀ D H', H1 D = none → Same H1 H' → H' D = some (.lst (flat2 m v n)) → Q (.ref D) H') : tLc2 wi (gName a) tYes wi1 (gName b) tYes te vs vs1 σ H Q := hl _ fun D hD => by
  refine ⟨fun i k H' => k = n - i ∧ i ≤ n ∧ Same H1 H' ∧ H' D = some (.lst (flat2 m v i)), ⟨n, by simp, Nat.zero_le _, same_upd hD, upd_same⟩, ?_⟩
  rintro i k H' ⟨rfl, hi, s, d⟩
  by_cases hlt : i < n
  · refine .inr ⟨w.goes i H' hlt (hG H' s), fun H2 => Same H1 H2 ∧ H2 D = some (.lst (flat2 m v (i + 1))), fun H2 p => ⟨n - (i + 1), by omega, rfl, hlt, p⟩, fun x H2 y => ?_⟩
    have y' := w.yields i H' x H2 hlt (hG H' s) y
    have e2 := hy i H' x H2 s y'
    obtain ⟨J1, G1, Y1, w1, hG1, hy1, hl1, turn⟩ := inner i x H' H2 hlt s y'
    refine gN ⟨hw x, ?_⟩
    unfold tYes
    dsimp only
    rw [if_pos rfl]
    have d2 : H2 D = some (.lst (flat2 m v i ++ (List.range 0).map (v i))) := by
      rw [List.range_zero, List.map_nil, List.append_nil]
      exact e2 _ _ d
    refine hl1 _ ⟨fun j k H3 => k = m i - j ∧ j ≤ m i ∧ Same H1 H3 ∧ H3 D = some (.lst (flat2 m v i ++ (List.range j).map (v i))), ⟨m i, by simp, Nat.zero_le _, s.trans e2, d2⟩, ?_⟩
    rintro j k H3 ⟨rfl, hj, s3, d3⟩
    by_cases hlt2 : j < m i
    · refine .inr ⟨w1.goes j H3 hlt2 (hG1 H3 s3), fun H4 => Same H1 H4 ∧ H4 D = some (.lst (flat2 m v i ++ (List.range (j + 1)).map (v i))), fun H4 p => ⟨m i - (j + 1), by omega, rfl, hlt2, p⟩, fun y2 H4 z => ?_⟩
      have z' := w1.yields j H3 y2 H4 hlt2 (hG1 H3 s3) z
      have e4 := hy1 j H3 y2 H4 s3 z'
      obtain ⟨t1, t2⟩ := turn j y2 H3 H4 hlt2 s3 z'
      refine gN ⟨t1, ?_⟩
      rw [if_pos rfl]
      refine t2 _ fun H5 e5 => ⟨_, e5 _ _ (e4 _ _ d3), ?_, same_mut ((s3.trans e4).trans e5) hD, ?_⟩
      · rw [List.length_append, List.length_map, List.length_range, sizeLine_eq]
        have := flat2_len (v := v) hm i
        have := hm i
        omega
      · rw [upd_same, map_more, List.append_assoc]
    · have ej : j = m i := by omega
      subst ej
      exact .inl ⟨w1.stops H3 (hG1 H3 s3), s3, by rw [flat2_more]; exact d3⟩
  · have e : i = n := by omega
    subst e
    exact .inl ⟨w.stops H' (hG H' s), q D H' hD s d⟩
end
end L2
namespace L2
open PySem PySem.Spec PyProof.Rows
theorem pi_listK {X : Cx} {tg l : Expr} {tl : TE} (K : PySem.W.Frag) (hl : PE X l tl) (hK : X.K = K := by rfl) : PI X tg l (iList K tl) := by
  subst hK
  exact pi_list hl
end L2


set_option Elab.async false
set_option linter.all false
set_option maxRecDepth 100000
set_option maxHeartbeats 4000000
/-! makers in one hand -/
namespace L2
open PySem PySem.Spec PyProof.Rows
structure Mkr (P : Program) (w : World) (K : PySem.W.Frag) (mg : Str → Option Value) (base : Heap) (k : Nat) (x : Str) (C : Addr) (ps : List Str) (sp : Sp) : Prop where
  ex : ∃ f fd, Mk K C f ∧ mg x = some (.ref C) ∧ Binds K fd ps [] ∧ FnOk P w K mg base (L2.CX P w) k f fd ps sp
section
variable {X : Cx} {k : Nat} {C : Addr} {x : Str} {ps : List Str} {sp : Sp} {E : XK} {e : Expr} {es : List Expr} {t : TA} {p pos : Pos}
theorem pe_mkr (c : Mkr X.prog X.w X.K X.mg X.base k x C ps sp) (hr : Room (k + 1) X.A) (hg : Gl X x) (hx : Passes (L2.CX X.prog X.w) X E) (ha : PA X (e :: es) t) (hdb : (x == ("__debug__" : Str)) = false := by decide)
    (he : starEach (e :: es) X.env = (false, eval e X.env) :: starEach es X.env := by rfl) (hpl : (backTo pos (starEach es X.env)).any (·.1) = false := by rfl) : PE X (.Call (.Name x p) (e :: es) [] pos) (tMake C sp [] E t) := by
  obtain ⟨f, fd, M, hm, hb, G⟩ := c.ex
  exact pe_make M G hr hg hm hb .nil hx ha hdb he hpl
end
end L2


set_option Elab.async false
set_option linter.all false
set_option maxRecDepth 100000
set_option maxHeartbeats 4000000
/-! min and max of a list of texts -/
namespace L2
open PySem PySem.Spec PyProof.Rows
def gtS (xs : List Str) (i j : Nat) : Bool := decide ((xs.getD j Str.empty).cps.toList < (xs.getD i Str.empty).cps.toList)
def ltS (xs : List Str) (i j : Nat) : Bool := decide ((xs.getD i Str.empty).cps.toList < (xs.getD j Str.empty).cps.toList)
def maxS (xs : List Str) : Str := xs.getD (argBest (gtS xs) (xs.length - 1)) Str.empty
def minS (xs : List Str) : Str := xs.getD (argBest (ltS xs) (xs.length - 1)) Str.empty
section
variable {prog : Program} {w : World} {A : Around} {E : Value → Shared → Prop} {s : Shared} {l : Addr} {its : Array Value} {xs : List Str} {Q : Value → Shared → Prop}
theorem gts_of (hv : ∀ (i : Nat) (v : Value), its[i]? = some v → ∃ t, v = .str (xs.getD i Str.empty) t) : CmpOf prog w A .Gt (fun i v => its[i]? = some v) (gtS xs) := fun i j vi vj s Q E hi hj h => by
  obtain ⟨t, rfl⟩ := hv i vi hi
  obtain ⟨u, rfl⟩ := hv j vj hj
  exact PySem.P.gt_str h
theorem lts_of (hv : ∀ (i : Nat) (v : Value), its[i]? = some v → ∃ t, v = .str (xs.getD i Str.empty) t) : CmpOf prog w A .Lt (fun i v => its[i]? = some v) (ltS xs) := fun i j vi vj s Q E hi hj h => by
  obtain ⟨t, rfl⟩ := hv i vi hi
  obtain ⟨u, rfl⟩ := hv j vj hj
  exact lt_str h
theorem walk_of_list {Q : Value → Shared → Prop} (hl : s.heap.IsList l its)
    (h : ∀ s2 : Shared, s2 = { s with heap := s.heap.push { cls := .type "list_iterator", data := .fields #[.ref l, .int 0 0] } } → (s2.heap.IsListIter s.heap.objs.size l 0 ∧ s2.heap.IsList l its) → (∀ b ∈ [s.heap.objs.size, l], b < s2.heap.objs.size) → l ≠ s.heap.objs.size → Q (.ref s.heap.objs.size) s2) :
    wpAny (model prog w) A (pyIter (.ref l)) Q E s := by
  have lt : l < s.heap.objs.size := hl.elim fun o q => Heap.lt_size q.1
  refine wpAny_pyIter_list hl (h _ rfl ⟨⟨_, Heap.get?_push_size _ rfl, rfl, rfl⟩, hl.push _⟩ (fun b hb => ?_) (Nat.ne_of_lt lt))
  show b < (s.heap.push _).objs.size
  rw [Heap.size_push]
  simp only [List.mem_cons, List.not_mem_nil, or_false] at hb
  rcases hb with rfl | rfl
  · exact Nat.lt_succ_self _
  · exact Nat.lt_succ_of_lt lt
theorem call_maxS (hh : A.handled = none) (hl : s.heap.IsList l its) (hv : ∀ (i : Nat) (v : Value), its[i]? = some v → ∃ t, v = .str (xs.getD i Str.empty) t) (hne : 0 < its.size) (hz : its.size = xs.length)
    (h : ∀ h' tk t, (∀ b o, s.heap.get? b = some o → h'.get? b = some o) → Q (.str (maxS xs) t) { s with heap := h', toks := tk }) : wpAny (model prog w) A (call (.builtin "max") [.ref l]) Q E s := by
  refine call_max_walk (walk_of_list hl fun s2 e st below far => ?_)
  subst e
  refine ⟨_, _, _, _, _, _, _, rfl, Walks.list (A := A.in1) hh _ l far its, st, below, hne, gts_of hv, fun v h' tk hP hk => ?_⟩
  obtain ⟨t, rfl⟩ := hv _ v hP
  rw [hz]
  exact h h' tk t (old_kept hk)
theorem call_minS (hh : A.handled = none) (hl : s.heap.IsList l its) (hv : ∀ (i : Nat) (v : Value), its[i]? = some v → ∃ t, v = .str (xs.getD i Str.empty) t) (hne : 0 < its.size) (hz : its.size = xs.length)
    (h : ∀ h' tk t, (∀ b o, s.heap.get? b = some o → h'.get? b = some o) → Q (.str (minS xs) t) { s with heap := h', toks := tk }) : wpAny (model prog w) A (call (.builtin "min") [.ref l]) Q E s := by
  refine call_min_walk (walk_of_list hl fun s2 e st below far => ?_)
  subst e
  refine ⟨_, _, _, _, _, _, _, rfl, Walks.list (A := A.in1) hh _ l far its, st, below, hne, lts_of hv, fun v h' tk hP hk => ?_⟩
  obtain ⟨t, rfl⟩ := hv _ v hP
  rw [hz]
  exact h h' tk t (old_kept hk)
end
def rBestS (K : PySem.W.Frag) (g : List Str → Str) : List V → Hp → VK → Prop := fun vs H Q => ∃ (a : Addr) (xs : List Str), vs = [V.ref a] ∧ SqL K H a (xs.map V.str) ∧ 0 < xs.length ∧ Q (.str (g xs)) H
theorem strs_vals {xs : List Str} {its : List Value} (r : Vals (xs.map V.str) its) : ∀ (i : Nat) (v : Value), its.toArray[i]? = some v → ∃ t, v = .str (xs.getD i Str.empty) t := fun i v hv => by
  rw [List.getElem?_toArray] at hv
  have hlen : its.length = xs.length := by rw [← r.length, List.length_map]
  have hi : i < xs.length := by rw [← hlen]; exact (List.getElem?_eq_some_iff.mp hv).1
  obtain ⟨u, hu, ru⟩ := r.get (i := i) (x := V.str xs[i]) (by rw [List.getElem?_map, List.getElem?_eq_getElem hi]; rfl)
  rw [hv] at hu
  obtain rfl : v = u := Option.some.inj hu
  rw [List.getD_eq_getElem?_getD, List.getElem?_eq_getElem hi]
  exact ru
theorem cr_maxS {X : Cx} (K : PySem.W.Frag) (hc : X.calm = true := by rfl) (hK : X.K = K := by rfl) : CallR X (.builtin "max") (rBestS K maxS) := by
  subst hK
  intro pins s σ H xs us Q I r h
  obtain ⟨a, ys, rfl, hs, hne, q⟩ := h
  obtain ⟨its, rv, hl, _⟩ := I.list hs
  have hlen : its.length = ys.length := by rw [← rv.length, List.length_map]
  rw [Vals.ref1 r]
  exact call_maxS (I.ok.hd hc) hl.isList (strs_vals rv) (by rw [List.size_toArray]; omega) (by rw [List.size_toArray]; exact hlen) fun h' tk t hk => ⟨.str _, H, I.kept hk, ⟨_, rfl⟩, q⟩
theorem cr_minS {X : Cx} (K : PySem.W.Frag) (hc : X.calm = true := by rfl) (hK : X.K = K := by rfl) : CallR X (.builtin "min") (rBestS K minS) := by
  subst hK
  intro pins s σ H xs us Q I r h
  obtain ⟨a, ys, rfl, hs, hne, q⟩ := h
  obtain ⟨its, rv, hl, _⟩ := I.list hs
  have hlen : its.length = ys.length := by rw [← rv.length, List.length_map]
  rw [Vals.ref1 r]
  exact call_minS (I.ok.hd hc) hl.isList (strs_vals rv) (by rw [List.size_toArray]; omega) (by rw [List.size_toArray]; exact hlen) fun h' tk t hk => ⟨.str _, H, I.kept hk, ⟨_, rfl⟩, q⟩
end L2


set_option Elab.async false
set_option linter.all false
set_option maxRecDepth 100000
namespace L2
open PySem PySem.Spec PyProof.Rows
/-! clauses with and without a name, one behind the other -/
abbrev Suit := Addr → Value → Option Addr → TS
/-- the ends of a suite whose name goes at its end -/
def gone (i : Nat) (D : Ends) : Ends := { nx := fun σ H => D.nx (σ.set i none) H, rt := D.rt, bk := fun σ H => D.bk (σ.set i none) H, ct := fun σ H => D.ct (σ.set i none) H }
def tClause (t : Suit) (D : Ends) (a : Addr) (cls : Value) (d : Option Addr) (σ : St) (H : Hp) : Option Nat → Prop
  | none => t a cls d D σ H
  | some i => t a cls d (gone i D) (σ.set i (some (.ref a))) H
def wMix (K : PySem.W.Frag) (Wout : WX) (D : Ends) : List (Value × Option Nat × Suit) → WX
  | [] => Wout
  | (c, i, t) :: r => fun cls d σ H => ∃ b, PySem.W.exmOne K cls c = some b ∧ (b = true → ∀ a, H a = none → tClause t D a cls d σ H i) ∧ (b = false → wMix K Wout D r cls d σ H)
inductive Slot (X : Cx) : Option Str → Option Nat → Prop
  | no : Slot X none none
  | as {n : Str} {i : Nat} (hN : X.N.Nodup) (hi : X.N[i]? = some n) (hl : X.env.kindOf n = some .local) : Slot X (some n) (some i)
inductive MixOk (X : Cx) : List ExceptHandler → List (Value × Option Nat × Suit) → Prop
  | nil : MixOk X [] []
  | cons {x : Str} {c : Value} {o : Option Str} {i : Option Nat} {t : Suit} {b₀ : Stmt} {suite : List Stmt} {np pos' : Pos} {hds : List ExceptHandler} {l : List (Value × Option Nat × Suit)} (hc : Names X x c) (hn : Slot X o i)
      (hsu : ∀ (a : Addr) (oe : Obj) (cls : Value) (d : Option Addr) (pn : List (Addr × Obj)), Zc cls d oe → (∃ vs, oe.data = .fields vs) → PSs (X.suite a ((a, oe) :: pn)) (b₀ :: suite) (t a cls d)) (r : MixOk X hds l) :
      MixOk X (.ExceptHandler (some (.Name x np)) o (b₀ :: suite) pos' :: hds) ((c, i, t) :: l)
section
variable {X : Cx} {body : List Stmt} {h₀ : ExceptHandler} {hds : List ExceptHandler} {l : List (Value × Option Nat × Suit)} {pos : Pos} {tb : WX → TS} {Wout : WX}
theorem ps_try_mix (hs : X.stack = X.env :: X.outer) (hf : X.env.frame = some X.env.locals) (tk : Takes X Wout)
    (hb : ∀ (W : WX) (pn : List (Addr × Obj)) (xe : Value → Shared → Prop), Takes (X.tr pn xe) W → PassesOwn (model X.prog X.w) X.A X.env xe → PSs (X.tr pn xe) body (tb W))
    (hh : MixOk X (h₀ :: hds) l) : PS X (.Try body (h₀ :: hds) [] [] pos) (fun D σ H => tb (wMix X.K Wout D l) D σ H) := by
  refine ⟨fun pins s σ H D I h => ?_⟩
  have ok := I.ok
  have hfr : X.A.frames = some (X.env :: X.outer) := by rw [ok.frames, hs]
  refine wpAny_Try_except (wpAny_mono ((hb (wMix X.K Wout D l) (X.pn ++ pins) (fun e s₁ => wpAny (model X.prog X.w) X.A (noteFrame e X.env) (fun _ s₂ => wpAny (model X.prog X.w) X.A (setFlight e none) (fun _ s₃ =>
    wpAny (model X.prog X.w) X.A (handleBy e X.env (h₀ :: hds)) (SP X pins D) X.xe s₃) X.xe s₂) X.xe s₁) (fun u s' xx => ?_) PassesOwn.looking).run [] s σ H D (I.toTry _) h) (fun f s1 hsp => ?_) fun e s1 he => he)
  · obtain ⟨a, B, sI, pins', σ', H', cls, d, rfl, J', nb, up, sky, na, os, ag, w⟩ := xx
    have J := J'.ofTry ok
    have sky' : Sky B (X.env :: X.outer) a (Zc cls d) X.env.locals s'.heap := by rw [← hs]; exact sky
    show wpAny (model X.prog X.w) X.A (noteFrame (.ref a) X.env) _ _ _
    refine Sky.land Zc.steady hfr hf sky' fun h3 fl3 up3 => ?_
    have J3 : Inv X pins σ' H' { s' with heap := h3 } := J.landed nb fl3.1 (up.trans up3) os ag
    obtain ⟨o3, vs3, e3, z3, d3⟩ := fl3.there
    have nfr : a ∉ frs (X.env :: X.outer) := fun hm => by
      obtain ⟨_, o', e', hnf⟩ := fl3.2.2.1.mem hm
      rw [e3] at e'; cases e'
      exact hnf _ d3
    have nL : a ≠ X.env.locals := fun z => nfr (List.mem_filterMap.mpr ⟨X.env, List.mem_cons_self, by rw [hf, z]⟩)
    have nF : a ∉ X.fs := fun hm => by
      obtain ⟨e, he, q⟩ := List.mem_filterMap.mp hm
      exact nfr (List.mem_filterMap.mpr ⟨e, List.mem_cons_of_mem _ he, q⟩)
    have S3 := J3.suite e3 d3 na nL nF
    have LT : PySem.W.Looks (model X.prog X.w) h3 (typeOf (.ref a)) cls := fun A Q E s k q => wpAny_typeOf_ref (k _ _ e3) (by rw [z3.1]; exact q)
    have go : ∀ {hs' : List ExceptHandler} {l' : List (Value × Option Nat × Suit)}, MixOk X hs' l' → wMix X.K Wout D l' cls d σ' H' →
        wpAny (model X.prog X.w) X.A (handleBy (.ref a) X.env hs') (SP X pins D) X.xe { s' with heap := h3 } := by
      intro hs' l' hk
      induction hk with
      | nil =>
        intro w
        refine wpAny_handleBy_nil ?_
        obtain ⟨k1, k2, k3, oe, vs, T, oT, ts', he, hz, hd, h1, hr⟩ := id fl3
        unfold PySem.passOn
        refine wpAny_bind (wpAny_field he hd h1 ?_)
        rw [if_neg (show ¬ ((Value.ref T == Value.none) = true) from by simp)]
        have fin : wpAny (model X.prog X.w) X.A (setFlight (.ref a) X.env.frame) (fun _ s4 => wpAny (model X.prog X.w) X.A (throw (.ref a) : Sem Flow) (SP X pins D) X.xe s4) X.xe { s' with heap := h3 } := by
          rw [hf]
          exact HandSPX.setFlight_upZ fl3 fun h4 hh4 up4 => wpAny_throw (tk _ _ ⟨a, B, sI, pins, σ', H', cls, d, rfl, J, nb, (up.trans up3).trans up4, .inr (.inr (by rw [hs]; exact hh4)), na, os, ag, w⟩)
        first
          | exact wpAny_bind (wpAny_pure (wpAny_bind fin))
          | exact wpAny_bind fin
      | @cons x c o i t b₀ suite np pos' hds2 l2 hc hn hsu r ih =>
        intro w
        obtain ⟨b, hb1, hyes, hno⟩ := w
        refine wpAny_handleBy_cons (codeAny_handlers_test ?_) (by intro q; cases q)
        have LM := PySem.W.exm_one (M := model X.prog X.w) (J3.kIn) LT hb1
        have test : ∀ {Q : Value → Shared → Prop} {E : Value → Shared → Prop}, Q c { s' with heap := h3 } → wpAny (model X.prog X.w) (X.A.mark (some (.ref a))) (eval (.Name x np) X.env) Q E { s' with heap := h3 } := fun {Q E} q => by
          obtain ⟨hg, hdbg, hm | ⟨hm, hv, hnn⟩⟩ := hc
          · exact ld_glob (X := X.suite a ((a, o3) :: (X.pn ++ pins))) S3 hg hm q hdbg
          · exact ld_blt (X := X.suite a ((a, o3) :: (X.pn ++ pins))) S3 hg hm hv q hnn hdbg
        refine test (LM.here ?_)
        cases b with
        | false => exact ih (hno rfl)
        | true =>
          have hy := hyes rfl a na
          cases hn with
          | no =>
            refine codeAny_handlers_suite (HandSPX.lands_againZ fl3 fun h4 fl4 up4 => ?_)
            have J4 : Inv X pins σ' H' { s' with heap := h4 } := J.landed nb fl4.1 ((up.trans up3).trans up4) os ag
            obtain ⟨o4, vs4, e4, z4, d4⟩ := fl4.there
            refine wpAny_mono ((hsu a o4 cls d (X.pn ++ pins) z4 ⟨_, d4⟩).run [] _ _ H' _ (J4.suite e4 d4 na nL nF) hy) (fun f s6 hsp => ?_) (fun _ _ z => False.elim z)
            cases f with
            | ret u =>
              obtain ⟨v6, σ6, H6, S6, r6, q6⟩ := hsp
              exact ⟨_, _, _, S6.unsuite ok, r6, q6⟩
            | _ =>
              obtain ⟨σ6, H6, S6, q6⟩ := hsp
              exact ⟨_, _, S6.unsuite ok, q6⟩
          | @as n i hN hi hl =>
            refine codeAny_handlers_suite_as (HandSPX.lands_againZ fl3 fun h4 fl4 up4 => ?_)
            have J4 : Inv X pins σ' H' { s' with heap := h4 } := J.landed nb fl4.1 ((up.trans up3).trans up4) os ag
            obtain ⟨o4, vs4, e4, z4, d4⟩ := fl4.there
            refine store_ok (X := X.suite a ((a, o4) :: (X.pn ++ pins))) (v := .ref a) (J4.suite e4 d4 na nL nF) hN hi (.inl hl) rfl (fun s5 S5 => ?_) (.inr hl)
            refine wpAny_mono ((hsu a o4 cls d (X.pn ++ pins) z4 ⟨_, d4⟩).run [] s5 _ H' _ S5 hy) (fun f s6 hsp => ?_) (fun _ _ z => False.elim z)
            have fin : ∀ {σ6 : St} {H6 : Hp} {Q : Shared → Prop}, Inv (X.suite a ((a, o4) :: (X.pn ++ pins))) [] σ6 H6 s6 → (∀ s7, Inv X pins (σ6.set i none) H6 s7 → Q s7) →
                wpAny (model X.prog X.w) X.A (do bindName X.env n .none; unbindBehindTheSuite X.env n pos') (fun _ s7 => Q s7) X.xe s6 := fun {σ6 H6 Q} S6 hq => gone_ok (S6.unsuite ok) hN hi hl hq
            cases f with
            | ret u =>
              obtain ⟨v6, σ6, H6, S6, r6, q6⟩ := hsp
              exact fin S6 fun s7 J7 => ⟨_, _, _, J7, r6, q6⟩
            | next =>
              obtain ⟨σ6, H6, S6, q6⟩ := hsp
              exact fin S6 fun s7 J7 => ⟨_, _, J7, q6⟩
            | brk =>
              obtain ⟨σ6, H6, S6, q6⟩ := hsp
              exact fin S6 fun s7 J7 => ⟨_, _, J7, q6⟩
            | cont =>
              obtain ⟨σ6, H6, S6, q6⟩ := hsp
              exact fin S6 fun s7 J7 => ⟨_, _, J7, q6⟩
    exact go hh w
  · cases f with
    | next =>
      obtain ⟨σ', H', J', q⟩ := hsp
      exact wpAny_execs_nil ⟨σ', H', J'.ofTry ok, q⟩
    | brk =>
      obtain ⟨σ', H', J', q⟩ := hsp
      exact ⟨σ', H', J'.ofTry ok, q⟩
    | cont =>
      obtain ⟨σ', H', J', q⟩ := hsp
      exact ⟨σ', H', J'.ofTry ok, q⟩
    | ret u =>
      obtain ⟨v, σ', H', J', r, q⟩ := hsp
      exact ⟨v, σ', H', J'.ofTry ok, r, q⟩
end
end L2


set_option Elab.async false
set_option linter.all false
set_option maxRecDepth 100000
namespace L2
open PySem PySem.Spec PyProof.Rows
/-! a method called in a try's body -/
def tMtdT (C : Addr) (m : Str) (sp : Sp) (W : WX) (ta : TE) (t : TA) : TE := fun σ H Q => ta σ H fun x H1 => ∃ a dx fs, x = .ref a ∧ H1 a = some (.ins C dx fs) ∧ fs.lookup m = none ∧ t σ H1 fun vs H2 => sp (x :: vs) H2 Q (WE W σ)
theorem pe_mtdT {X : Cx} {k : Nat} {C : Addr} {m : Str} {ps : List Str} {sp : Sp} {W : WX} {o e : Expr} {es : List Expr} {ta : TE} {t : TA} {apos pos : Pos} {pl : Sem Bool} (c : Mtd X.prog X.w X.K X.mg X.base k C m ps sp) (hr : Room k X.A) (tk : Takes X W) (he : PE X o ta) (ha : PA X (e :: es) t)
    (hst : starEach (e :: es) X.env = (false, eval e X.env) :: starEach es X.env := by rfl) (hpl : (backTo pos (starEach es X.env)).any (·.1) = false := by rfl)
    (ht : eval (.Call (.Attribute o m apos) (e :: es) [] pos) X.env = (do
      let ov ← eval o X.env
      standAt apos.atName
      let (g, first) ← holding [ov] (getMethod ov m pl)
      callWith pos g first (backTo pos (starEach (e :: es) X.env)) (backToKw pos (keywordEach [] X.env))) := by rfl) :
    PE X (.Call (.Attribute o m apos) (e :: es) [] pos) (tMtdT C m sp W ta t) := by
  obtain ⟨f, fd, hm, hb, G⟩ := c.ex
  refine ⟨fun pins s σ H Q I h => PySem.W.methodCall_KW (pl := pl) (thn (he.run pins s σ H _ I h) fun u s1 ⟨x, H1, I1, rx, a, dx, fs, ex, ea, l, q⟩ => ?_) ht⟩
  subst ex
  obtain rfl : u = Value.ref a := rx
  refine getmeth_ok I1 ea c.cl hm l (PySem.W.callWith_K (first := [.ref a]) (h₀ := X.base) I.ok.mod.kin hm.kp (thn (ha.run pos pins s1 σ H1 _ I1 q) fun us s2 ⟨vs, H2, I2, r, q2⟩ => ⟨I2.kIn, ?_⟩) hst hpl)
  exact run_fnS (us := .ref a :: us) (vs := .ref a :: vs) G hr hb (passAt tk σ) I2 (.cons rfl r) q2
end L2


set_option Elab.async false
set_option linter.all false
set_option maxRecDepth 100000
set_option maxHeartbeats 4000000
/-! comprehensions with a condition -/
namespace L2
open PySem PySem.Spec PyProof.Rows
section
variable {J : It} {n : Nat} {G : Hp → Prop} {Y : Nat → Hp → V → Hp → Prop} {g : TG} {te : TE} {tt : TT} {vs : List Nat} {σ : St} {H1 : Hp} {Q : VK}
theorem picked_more {α : Type} (p : Nat → Bool) (v : Nat → α) (i : Nat) : ((List.range (i + 1)).filter p).map v = ((List.range i).filter p).map v ++ (if p i = true then [v i] else []) := by
  rw [List.range_succ, List.filter_append, List.map_append]
  by_cases h : p i = true
  · rw [if_pos h, List.filter_cons_of_pos h]; rfl
  · rw [if_neg h, List.filter_cons_of_neg h]; rfl
theorem picked_len {α : Type} (p : Nat → Bool) (v : Nat → α) (i : Nat) : (((List.range i).filter p).map v).length ≤ i := by
  rw [List.length_map]
  exact Nat.le_trans (List.length_filter_le _ _) (by rw [List.length_range]; exact Nat.le_refl _)
/-- [e for .. in .. if ..]: turn i is taken if p i, and tells v i then -/
theorem lc_filtW (p : Nat → Bool) (v : Nat → V) (w : Walk J n G Y) (hn : n ≤ 50000) (hG : ∀ H', Same H1 H' → G H') (hy : ∀ i H' x H2, Same H1 H' → Y i H' x H2 → Same H' H2)
    (hs : ∀ i x H' H2, i < n → Same H1 H' → Y i H' x H2 → ∀ (R : VK) (N : Hp → Prop), (p i = true → ∀ H4, Same H2 H4 → R (v i) H4) → (p i = false → ∀ H4, Same H2 H4 → N H4) → g x (wipe σ vs) H2 fun σ2 H3 => wipe σ2 vs = wipe σ vs ∧ tt σ2 H3 fun b H4 => if b = true then te σ2 H4 R else N H4)
    (q : ∀ D H', H1 D = none → Same H1 H' → H' D = some (.lst (((List.range n).filter p).map v)) → Q (.ref D) H') :
    ∀ D, H1 D = none → ∃ W : Nat → Nat → Hp → Prop, (∃ m, W 0 m (upd H1 D (.lst []))) ∧ ∀ i m H, W i m H →
      ((J.stop i H ∧ Q (.ref D) H) ∨ (J.go i H ∧ ∃ Nx : Hp → Prop, (∀ H', Nx H' → ∃ m', m' < m ∧ W (i + 1) m' H') ∧ ∀ x H', J.yld i H x H' → g x (wipe σ vs) H' fun σ2 H2 => wipe σ2 vs = wipe σ vs ∧ tt σ2 H2 fun b H3 =>
        if b = true then te σ2 H3 fun y H4 => ∃ acc, H4 D = some (.lst acc) ∧ acc.length < sizeLine ∧ Nx (upd H4 D (.lst (acc ++ [y]))) else Nx H3)) := by
  refine fun D hD => lc_it w (tt := tt) (Pv := fun i H' => Same H1 H' ∧ H' D = some (.lst (((List.range i).filter p).map v))) ⟨same_upd hD, upd_same⟩ (fun i H' _ z => hG H' z.1) (fun i x H' H2 hi z y => ?_) (fun H' z => q D H' hD z.1 z.2)
  have s2 := hy i H' x H2 z.1 y
  refine hs i x H' H2 hi z.1 y _ _ (fun hp H4 e4 => ?_) (fun hp H4 e4 => ?_)
  · refine ⟨_, e4 _ _ (s2 _ _ z.2), ?_, same_mut ((z.1.trans s2).trans e4) hD, ?_⟩
    · rw [sizeLine_eq]
      exact Nat.lt_of_le_of_lt (picked_len p v i) (by omega)
    · rw [picked_more, if_pos hp]
      exact upd_same
  · refine ⟨(z.1.trans s2).trans e4, ?_⟩
    rw [picked_more, if_neg (by rw [hp]; decide), List.append_nil]
    exact e4 _ _ (s2 _ _ z.2)
theorem lc_filt {wi : TI} {H : Hp} (p : Nat → Bool) (v : Nat → V) (hl : ∀ R : It → Hp → Prop, R J H1 → wi σ H R) (w : Walk J n G Y) (hn : n ≤ 50000) (hG : ∀ H', Same H1 H' → G H') (hy : ∀ i H' x H2, Same H1 H' → Y i H' x H2 → Same H' H2)
    (hs : ∀ i x H' H2, i < n → Same H1 H' → Y i H' x H2 → ∀ (R : VK) (N : Hp → Prop), (p i = true → ∀ H4, Same H2 H4 → R (v i) H4) → (p i = false → ∀ H4, Same H2 H4 → N H4) → g x (wipe σ vs) H2 fun σ2 H3 => wipe σ2 vs = wipe σ vs ∧ tt σ2 H3 fun b H4 => if b = true then te σ2 H4 R else N H4)
    (q : ∀ D H', H1 D = none → Same H1 H' → H' D = some (.lst (((List.range n).filter p).map v)) → Q (.ref D) H') : tLc wi g tt te vs σ H Q := hl _ (lc_filtW p v w hn hG hy hs q)
/-- .. over a list that is new itself -/
theorem lc_filtL {K : PySem.W.Frag} {wi : TI} {H : Hp} (zs : List V) (p : Nat → Bool) (v : Nat → V) (hl : ∀ R : It → Hp → Prop, (∀ L H1, Same H H1 → H1 L = some (.lst zs) → R (Itl K L) H1) → wi σ H R) (hn : zs.length ≤ 50000)
    (hs : ∀ i y H2, zs[i]? = some y → Same H H2 → ∀ (R : VK) (N : Hp → Prop), (p i = true → ∀ H4, Same H2 H4 → R (v i) H4) → (p i = false → ∀ H4, Same H2 H4 → N H4) → g y (wipe σ vs) H2 fun σ2 H3 => wipe σ2 vs = wipe σ vs ∧ tt σ2 H3 fun b H4 => if b = true then te σ2 H4 R else N H4)
    (q : ∀ D H', Same H H' → H' D = some (.lst (((List.range zs.length).filter p).map v)) → Q (.ref D) H') : tLc wi g tt te vs σ H Q :=
  hl _ fun L H1 e1 hL => lc_filtW (J := Itl K L) (H1 := H1) p v (walk_list (xs := zs)) hn (fun H2 e2 => SqL.of (e2 _ _ hL)) (fun i H2 y H3 _ z => z.1 ▸ Same.refl _)
    (fun i y H2 H3 hi e2 z R N q1 q2 => by
      obtain ⟨rfl, hy⟩ := z
      exact hs i y _ hy (e1.trans e2) R N q1 q2) fun D H' _ e2 hd => q D H' (e1.trans e2) hd
end
end L2


set_option Elab.async false
set_option linter.all false
set_option maxRecDepth 100000
namespace L2
open PySem PySem.Spec PyProof.Rows
/-! one def, kept for each of several classes: the class is told at the call -/
def anyC (D : Addr → Prop) (sp : Addr → Sp) : Sp := fun vs H Q E => ∃ C, D C ∧ sp C vs H Q E
theorem FnOk.any {P : Program} {w : World} {K : PySem.W.Frag} {mg : Str → Option Value} {base : Heap} {CX : CXT} {k : Nat} {f : Addr} {fd : FuncData} {ps : List Str} {D : Addr → Prop} {sp : Addr → Sp} (h : ∀ C, D C → FnOk P w K mg base CX k f fd ps (sp C)) : FnOk P w K mg base CX k f fd ps (anyC D sp) :=
  ⟨fun vs H Q E ⟨C, d, z⟩ => (h C d).len vs H Q E z, fun A outer s H args us vs Q E hr e0 hb hv ⟨C, d, z⟩ => (h C d).run A outer s H args us vs Q E hr e0 hb hv z⟩
/-- o.m(..), o an instance of one of the classes D -/
structure MtdA (P : Program) (w : World) (K : PySem.W.Frag) (mg : Str → Option Value) (base : Heap) (k : Nat) (D : Addr → Prop) (m : Str) (ps : List Str) (sp : Sp) : Prop where
  ex : ∃ f fd, (∀ C, D C → Cls K C ∧ Meth K C m f) ∧ PySem.W.keepIn K (.ref f) = true ∧ Binds K fd ps [] ∧ FnOk P w K mg base (L2.CX P w) k f fd ps sp
def tMethA (D : Addr → Prop) (m : Str) (sp : Sp) (E : XK) (ta : TE) (t : TA) : TE := fun σ H Q => ta σ H fun x H1 => ∃ a C dx fs, D C ∧ x = .ref a ∧ H1 a = some (.ins C dx fs) ∧ fs.lookup m = none ∧ t σ H1 fun vs H2 => sp (x :: vs) H2 Q E
section
variable {X : Cx} {k : Nat} {D : Addr → Prop} {m : Str} {ps : List Str} {sp : Sp} {E : XK} {o e : Expr} {es : List Expr} {ta : TE} {t : TA} {apos pos : Pos} {pl : Sem Bool}
theorem pe_mtdA (c : MtdA X.prog X.w X.K X.mg X.base k D m ps sp) (hr : Room k X.A) (hx : Passes (L2.CX X.prog X.w) X E) (he : PE X o ta) (ha : PA X (e :: es) t)
    (hst : starEach (e :: es) X.env = (false, eval e X.env) :: starEach es X.env := by rfl) (hpl : (backTo pos (starEach es X.env)).any (·.1) = false := by rfl)
    (ht : eval (.Call (.Attribute o m apos) (e :: es) [] pos) X.env = (do
      let ov ← eval o X.env
      standAt apos.atName
      let (g, first) ← holding [ov] (getMethod ov m pl)
      callWith pos g first (backTo pos (starEach (e :: es) X.env)) (backToKw pos (keywordEach [] X.env))) := by rfl) :
    PE X (.Call (.Attribute o m apos) (e :: es) [] pos) (tMethA D m sp E ta t) := by
  obtain ⟨f, fd, hm, kp, hb, G⟩ := c.ex
  refine ⟨fun pins s σ H Q I h => PySem.W.methodCall_KW (pl := pl) (thn (he.run pins s σ H _ I h) fun u s1 ⟨x, H1, I1, rx, a, C, dx, fs, dC, ex, ea, l, q⟩ => ?_) ht⟩
  subst ex
  obtain rfl : u = Value.ref a := rx
  refine getmeth_ok I1 ea (hm C dC).1 (hm C dC).2 l (PySem.W.callWith_K (first := [.ref a]) (h₀ := X.base) I.ok.mod.kin kp (thn (ha.run pos pins s1 σ H1 _ I1 q) fun us s2 ⟨vs, H2, I2, r, q2⟩ => ⟨I2.kIn, ?_⟩) hst hpl)
  exact run_fn (us := .ref a :: us) (vs := .ref a :: vs) G hr hb .nil hx I2 (.cons rfl r) (by rw [List.append_nil]; exact q2)
theorem pe_mtdA0 (c : MtdA X.prog X.w X.K X.mg X.base k D m ps sp) (hr : Room k X.A) (hx : Passes (L2.CX X.prog X.w) X E) (he : PE X o ta)
    (ht : eval (.Call (.Attribute o m apos) [] [] pos) X.env = (do
      let ov ← eval o X.env
      standAt apos.atName
      let (g, first) ← holding [ov] (getMethod ov m pl)
      callWith pos g first (backTo pos (starEach [] X.env)) (backToKw pos (keywordEach [] X.env))) := by rfl) :
    PE X (.Call (.Attribute o m apos) [] [] pos) (tMethA D m sp E ta tNil) := by
  obtain ⟨f, fd, hm, kp, hb, G⟩ := c.ex
  refine ⟨fun pins s σ H Q I h => PySem.W.methodCall_KW (pl := pl) (thn (he.run pins s σ H _ I h) fun u s1 ⟨x, H1, I1, rx, a, C, dx, fs, dC, ex, ea, l, q⟩ => ?_) ht⟩
  subst ex
  obtain rfl : u = Value.ref a := rx
  exact getmeth_ok I1 ea (hm C dC).1 (hm C dC).2 l (PySem.W.callWith_K0 (first := [.ref a]) I1.kIn kp (run_fn (us := [.ref a]) (vs := [.ref a]) G hr hb .nil hx I1 (.cons rfl .nil) q))
end
end L2


set_option Elab.async false
set_option linter.all false
set_option maxRecDepth 100000
set_option maxHeartbeats 4000000
namespace K02
open PySem PySem.Spec PyProof.Rows L2
def top (i : Nat) : Stmt := PySem.Challenge.pw_equalkin_k02_families_of_algebras.main.body.getD i (.Pass ⟨0, 0, 0, 0⟩)
abbrev sPick : Stmt := top 29
/-- the built-in names that the module leaves alone, its own numbers and texts -/
structure Blt (mg : Str → Option Value) : Prop where
  len : mg "len" = none
  int : mg "int" = none
  abs : mg "abs" = none
  range : mg "range" = none
  str : mg "str" = none
  list : mg "list" = none
  tuple : mg "tuple" = none
  isinstance : mg "isinstance" = none
  all : mg "all" = none
  set : mg "set" = none
  enumerate : mg "enumerate" = none
  sum : mg "sum" = none
  max : mg "max" = none
  min : mg "min" = none
  bool : mg "bool" = none
  c_LETTERS : ∃ u, mg "_LETTERS" = some u ∧ RelV (.str "abcdefghijklmnopqrstuvwxyz") u
  c_CHARACTERS : ∃ u, mg "_CHARACTERS" = some u ∧ RelV (.str "abcdefghijklmnopqrstuvwxyz0123456789") u
  c_LONGEST : ∃ u, mg "_LONGEST" = some u ∧ RelV (.int 12) u
  c_MOST_MEMBERS : ∃ u, mg "_MOST_MEMBERS" = some u ∧ RelV (.int 6) u
  c_MOST_BITS : ∃ u, mg "_MOST_BITS" = some u ∧ RelV (.int 2) u
  c_MOST_OPERATIONS : ∃ u, mg "_MOST_OPERATIONS" = some u ∧ RelV (.int 5) u
section
variable {P : Program} {w : World} {K : PySem.W.Frag} {mg : Str → Option Value} {base : Heap}
/-- between two turns of the draws' while -/
def WPick (d L : Addr) (n : Int) (H : Hp) (j : Nat) (σ : L2.St) (H1 : Hp) : Prop := σ = [some (.ref d), some (.int n), some (.ref L), none, none, none] ∧ But d L H H1 ∧
  ∃ (cs : List Int) (l m t : Int), H1 d = some (.dK (srcD L l m t)) ∧ H1 L = some (.lst (cs.map V.int)) ∧ cs.length ≤ 63 ∧ j = cs.length
theorem scPick : FnScope ["source", "many", "cells", "left", "turn", "mixed"] ["source", "many"] (defScope sPick) := ⟨rfl, rfl, rfl, by decide +kernel, rfl, by decide +kernel, by decide +kernel⟩
theorem ok_pick {f : Addr} {fd : FuncData} (F : Fun K "_law_pick" "_law_pick" sPick f fd) (T : Blt mg) : FnOk P w K mg base CX0 1 f fd ["source", "many"] spPick := by
  refine F.ok scPick (fun vs H Q E h => ?_) (fun cdv A outer s H vs Q E hr h => ?_)
  · obtain ⟨d, L, n, rfl, _⟩ := h
    rfl
  · obtain ⟨d, L, n, rfl, S, hn, k⟩ := h
    have hu := hu_of hr
    refine ⟨_, pss_cons (ps_if (pt_cmpR op_lt (pv 1) pe_int (nomark _)) (pss_one (ps_ret pe_int)) pss_nil)
      (pss_cons (ps_set (i := 2) scPick.nd rfl (Or.inl rfl) (pe_dget hu (pv 0) pe_str (fun _ _ => rfl)))
      (pss_cons (ps_while PassesOwn.never (PW.pt (pw_and (pt_cmpR op_lt (pe_dget hu (pv 0) pe_str (fun _ _ => rfl)) pe_int (nomark _))
          (pw_and1 (pt_cmpR op_gt (pe_callB call_len_seq (by rfl) T.len PySem.boot_len (pa_cons (pv 2) pa_nil)) pe_int (nomark _)))))
        (pss_one (ps_dput hu (pv 0) pe_str (pe_bm0 PySem.F.plainAttrs_list PySem.F.slot_list_pop PySem.F.type_list_pop mt_pop (pv 2)) rfl)))
      (pss_cons (ps_set (i := 3) scPick.nd rfl (Or.inl rfl) (pe_dget hu (pv 0) pe_str (fun _ _ => rfl)))
      (pss_cons (ps_if (pt_cmpR op_gt (pv 3) pe_int (nomark _)) (pss_cons (ps_dput hu (pv 0) pe_str (pe_op op_fdiv (pv 3) (pv 1)) rfl)
          (pss_one (ps_ret (pe_op op_mod (pe_callTy call_int1 (by rfl) T.int (by decide +kernel) (pa_cons (pv 3) pa_nil)) (pv 1))))) pss_nil)
      (pss_cons (ps_dput hu (pv 0) pe_str (pe_op op_add (pe_dget hu (pv 0) pe_str (fun _ _ => rfl)) pe_int) rfl)
      (pss_cons (ps_set (i := 4) scPick.nd rfl (Or.inl rfl) (pe_dget hu (pv 0) pe_str (fun _ _ => rfl)))
      (pss_cons (ps_set (i := 5) scPick.nd rfl (Or.inl rfl) (pe_op op_mod (pe_callTy call_int1 (by rfl) T.int (by decide +kernel) (pa_cons (pe_op op_add (pe_dget hu (pv 0) pe_str (fun _ _ => rfl)) (pe_op op_mul (pv 4) pe_int)) pa_nil)) pe_int))
      (pss_cons (ps_set (i := 5) scPick.nd rfl (Or.inl rfl) (pe_op op_mod (pe_callTy call_int1 (by rfl) T.int (by decide +kernel) (pa_cons (pe_op op_add (pe_op op_mul (pv 5) (pv 5)) (pe_op op_mul (pv 4) pe_int)) pa_nil)) pe_int))
      (pss_cons (ps_if (pt_cmpR op_gt (pv 1) (pe_op op_pow pe_int pe_int) (nomark _)) (pss_one (ps_set (i := 5) scPick.nd rfl (Or.inl rfl) (pe_op op_pow (pe_callTy call_int1 (by rfl) T.int (by decide +kernel) (pa_cons (pe_op op_add (pe_op op_mul (pv 5) pe_int) (pv 4)) pa_nil)) pe_int))) pss_nil)
      (pss_one (ps_ret (pe_op op_mod (pe_callTy call_int1 (by rfl) T.int (by decide +kernel) (pa_cons (pe_op op_fdiv (pv 5) pe_int) pa_nil)) (pv 1))))))))))))), ?_⟩
    obtain ⟨cs, l, m, t, h1, h2, h3⟩ := S.ex
    have ndL := S.ne
    -- if many < 2
    refine ⟨_, rfl, _, _, rfl, rfl, _, rfl, ?_⟩
    refine ite2 (fun c => ?_) (fun c => ?_)
    · exact k 0 H (Int.le_refl 0) (.inr rfl) S But.refl
    have c2 : 2 ≤ n := by
      have c := of_decide_eq_false (Bool.eq_false_iff.mpr c)
      omega
    -- cells = source['cells']
    refine ⟨_, rfl, _, _, rfl, dg_cells h1, ?_⟩
    -- the while
    refine ⟨WPick d L n H, ⟨_, rfl, But.refl, cs, l, m, t, h1, h2, h3, rfl⟩, ?_⟩
    clear h1 h2 h3 S cs l m t
    rintro j σ H1 ⟨rfl, b1, cs, l, m, t, h1, h2, h3, rfl⟩
    refine ⟨_, rfl, _, _, rfl, dg_left h1, _, _, rfl, rfl, _, rfl, ?_⟩
    by_cases c : l < 2 ∧ 0 < cs.length
    · refine tT (decide_eq_true c.1) ⟨_, rfl, _, _, rfl, .inl (SqL.of h2), _, _, rfl, rfl, _, rfl, tT (decide_eq_true (by rw [List.length_map]; omega)) ?_⟩
      obtain ⟨z, hz⟩ : ∃ z, cs[cs.length - 1]? = some z := ⟨_, List.getElem?_eq_getElem (by omega)⟩
      refine ⟨WPick d L n H (cs.length - 1), fun σ' H' q => ⟨_, by omega, q⟩, ?_⟩
      refine ⟨_, rfl, .inl ⟨rfl, _, SqL.of h2⟩, L, _, .int z, rfl, rfl, h2, by rw [List.length_map, List.getElem?_map, hz]; rfl, _, rfl, d, _, rfl, dp_left (by rw [upd_ne ndL]; exact h1), ?_⟩
      refine ⟨rfl, (b1.upd_L).upd_d, cs.dropLast, z, m, t, upd_same, ?_, by rw [List.length_dropLast]; omega, by rw [List.length_dropLast]⟩
      rw [upd_ne ndL.symm, upd_same, List.map_dropLast]
    have c0 : decide (l < 2) = false ∨ decide (l < 2) = true ∧ cs.length = 0 := by
      by_cases c1 : l < 2
      · exact .inr ⟨decide_eq_true c1, by omega⟩
      · exact .inl (decide_eq_false c1)
    rcases c0 with c1 | ⟨c1, c2⟩
    all_goals first | refine tF c1 (iteF ?_) | refine tT c1 ⟨_, rfl, _, _, rfl, .inl (SqL.of h2), _, _, rfl, rfl, _, rfl, tF (decide_eq_false (by rw [List.length_map]; omega)) ?_⟩
    all_goals
      -- left = source['left']; if left > 1
      refine ⟨_, rfl, _, _, rfl, dg_left h1, ?_⟩
      refine ⟨_, rfl, _, _, rfl, rfl, _, rfl, ?_⟩
      by_cases c3 : 1 < l
      · refine tT (decide_eq_true c3) ?_
        refine ⟨_, rfl, _, rfl, l, n, rfl, rfl, ⟨by omega, by omega⟩, _, rfl, d, _, rfl, dp_left h1, ?_⟩
        refine ⟨_, rfl, .inl ⟨_, rfl, _, rfl, _, _, rfl, rfl, by omega, ?_⟩⟩
        refine k (l % n) _ (Int.emod_nonneg _ (by omega)) (.inl (Int.emod_lt_of_pos _ (by omega))) ⟨cs, l / n, m, t, upd_same, by rw [upd_ne ndL.symm]; exact h2, h3⟩ b1.upd_d
      · refine tF (decide_eq_false c3) ?_
        -- source['turn'] += 1; turn; mixed
        refine ⟨_, rfl, _, _, rfl, dg_turn h1, _, _, rfl, rfl, _, rfl, d, _, rfl, dp_turn h1, ?_⟩
        refine ⟨_, rfl, _, _, rfl, dg_turn upd_same, ?_⟩
        refine ⟨_, rfl, _, _, rfl, dg_mixed upd_same, _, rfl, t + 1, 104729, rfl, rfl, .inr (by decide), _, _, rfl, rfl, .inl ⟨_, rfl, _, _, rfl, rfl, (by show (0 : Int) < _; decide), ?_⟩⟩
        have m1 := Int.emod_lt_of_pos (m + (t + 1) * 104729) (show (0 : Int) < 998244353 by decide)
        have m0 := Int.emod_nonneg (m + (t + 1) * 104729) (show (998244353 : Int) ≠ 0 by decide)
        refine ⟨_, rfl, _, rfl, _, _, rfl, rfl, .inl (by constructor <;> omega), _, rfl, t + 1, 17, rfl, rfl, .inr (by decide), _, _, rfl, rfl, .inl ⟨_, rfl, _, _, rfl, rfl, (by show (0 : Int) < _; decide), ?_⟩⟩
        have e7 : ¬ ((10 : Int) ^ (7 : Int).toNat < n) := by
          have e : (10 : Int) ^ (7 : Int).toNat = 10000000 := by decide
          omega
        refine ⟨_, rfl, 10, 7, rfl, rfl, ⟨by decide, by decide, by decide⟩, _, _, rfl, rfl, _, rfl, tF (decide_eq_false e7) ?_⟩
        refine ⟨_, rfl, _, 16, rfl, rfl, ⟨by decide, by decide⟩, .inl ⟨_, rfl, _, rfl, _, n, rfl, rfl, by omega, ?_⟩⟩
        refine k _ _ (Int.emod_nonneg _ (by omega)) (.inl (Int.emod_lt_of_pos _ (by omega))) ⟨cs, l, m, t + 1, upd_same, by rw [upd_ne ndL.symm]; exact h2, h3⟩ b1.upd_d
end
end K02

set_option Elab.async false
set_option linter.all false
set_option maxRecDepth 100000
set_option maxHeartbeats 4000000
namespace K02
open PySem PySem.Spec PyProof.Rows L2 Evl
section
variable {P : Program} {w : World} {K : PySem.W.Frag} {mg : Str → Option Value} {base : Heap}
theorem int_of {ns : List Int} {i : Nat} {y : V} (hi : (ns.map V.int)[i]? = some y) : ∃ z, ns[i]? = some z ∧ y = V.int z := by
  rw [List.getElem?_map] at hi
  cases e : ns[i]? with
  | none => rw [e] at hi; cases hi
  | some z => rw [e] at hi; exact ⟨z, rfl, (Option.some.inj hi).symm⟩
abbrev s__law_source : Stmt := top 28
abbrev N__law_source : List Str := ["script", "mixed", "cell", "cells", "k"]
theorem sc__law_source : FnScope N__law_source ["script"] (defScope s__law_source) := ⟨rfl, rfl, rfl, by decide +kernel, rfl, by decide +kernel, by decide +kernel⟩
theorem ok_source {f : Addr} {fd : FuncData} (F : Fun K "_law_source" "_law_source" s__law_source f fd) (T : Blt mg) : FnOk P w K mg base CX0 1 f fd ["script"] (spSource K) := by
  refine F.ok sc__law_source (fun vs H Q E h => ?_) (fun cdv A outer s H vs Q E hr h => ?_)
  · obtain ⟨a, ns, rfl, _⟩ := h
    rfl
  · obtain ⟨a, ns, rfl, hS, hlen, k⟩ := h
    have hu := hu_of hr
    refine ⟨_, (pss_cons (ps_set (i := 1) sc__law_source.nd rfl (Or.inl rfl) (pe_int))
      (pss_cons (ps_for PassesOwn.never rfl (pi_list (pv 0)) (pg_name (i := 2) sc__law_source.nd rfl (Or.inl rfl)) (pss_one (ps_set (i := 1) sc__law_source.nd rfl (Or.inl rfl) (pe_op op_mod (pe_callTy call_int1 (by rfl) T.int (by decide +kernel) (pa_cons (pe_op op_add (pe_op op_add (pe_op op_mul (pv 1) (pe_int)) (pe_op op_mul (pv 2) (pe_int))) (pe_int)) pa_nil)) (pe_int)))))
      (pss_cons (ps_set (i := 3) sc__law_source.nd rfl (Or.inr rfl) (pe_lc (own := [("cell", 2)]) (g := gName 2) (by rfl) sc__law_source.nd (pi_list (pv 0)) (blkOk_by (own := [("cell", 2)]) (N := N__law_source) (sc := defScope s__law_source) (by decide +kernel)) (fun _ _ _ _ _ => pg_name (i := 2) sc__law_source.nd rfl (Or.inl rfl)) (fun _ _ _ _ _ => pts_nil) (fun _ _ _ _ _ => pe_callB call_abs (by rfl) T.abs (by decide +kernel) (pa_cons (pv 2) pa_nil))))
      (pss_one (ps_ret (pe_disp (pps_cons (pe_str) (pe_lc (own := [("k", 4)]) (g := gName 4) (by rfl) sc__law_source.nd (pi_range1 (by rfl) T.range (pa_cons (pe_callB (call_lenK K) (by rfl) T.len (by decide +kernel) (pa_cons (pv 3) pa_nil)) pa_nil)) (blkOk_by (own := [("k", 4)]) (N := N__law_source) (sc := defScope s__law_source) (by decide +kernel)) (fun _ _ _ _ _ => pg_name (i := 4) sc__law_source.nd rfl (Or.inl rfl)) (fun _ _ _ _ _ => pts_nil) (fun _ _ _ _ _ => pe_ix (ix_listK K) (pv 3) (pe_op op_sub (pe_op op_sub (pe_callB (call_lenK K) (by rfl) T.len (by decide +kernel) (pa_cons (pv 3) pa_nil)) (pe_int)) (pv 4)) (fun _ _ => rfl))) (pps_cons (pe_str) (pe_int) (pps_cons (pe_str) (pv 1) (pps_cons (pe_str) (pe_int) pps_nil)))) (by rfl) (by rfl) (fun z => by cases z) (by decide))))))), ?_⟩
    refine ⟨_, rfl, a, rfl, ⟨_, hS⟩, for_list (K := K) (a := a) (xs := ns.map V.int) (fun i σ H1 => ∃ (m : Int) (v : Option V), σ = [some (.ref a), some (.int m), v, none, none] ∧ H1 = H) ⟨11, none, rfl, rfl⟩ (fun i σ H1 _ ⟨_, _, _, e⟩ => by rw [e]; exact hS) ?_ ?_⟩
    · rintro i y σ H1 hi ⟨m, v, rfl, rfl⟩
      obtain ⟨z, _, rfl⟩ := int_of hi
      refine ⟨_, rfl, _, _, rfl, rfl, .inr (by decide), _, rfl, _, _, rfl, rfl, .inr (by decide), _, _, rfl, rfl, _, _, rfl, rfl, .inl ⟨_, rfl, _, _, rfl, rfl, (by show (0 : Int) < _; decide), ?_⟩⟩
      exact ⟨_, _, rfl, rfl⟩
    · rintro σ H1 ⟨m, v, rfl, rfl⟩
      have hl : (ns.map V.int).length = ns.length := List.length_map _
      -- cells = [abs(cell) for cell in script]
      have len0 : (ns.map V.int).length = ns.length := List.length_map _
      dsimp only
      refine q_asgL (xs := given (ns.map V.int).length (fun _ => true) (fun i => .int (if ns.getD i 0 < 0 then - ns.getD i 0 else ns.getD i 0))) (by
        refine el_lcL (K := K) (xs := ns.map V.int) (a := a) (fun _ => true) _ (ev_var rfl) hS (by omega) (fun _ => rfl) (fun i x H2 e2 hi => ?_) (fun i x H2 e2 hi _ => ?_)
        · exact et_yes
        · obtain ⟨z, hz, rfl⟩ := int_of hi
          rw [List.getD_eq_getElem?_getD, hz]
          exact fun H3 e3 Q3 q3 => ⟨_, rfl, z, rfl, q3 H3 (Ex.refl H3)⟩) (fun L H2 hL e2 h2 => ?_)
      rw [given_all, hl] at h2
      -- the dict
      intro d hd
      have nLd : L ≠ d := ne_of_none h2 hd
      have ex3 : Ex H2 (upd H2 d (.dK [])) := Ex.new hd
      have h3 : (upd H2 d (.dK [])) L = some (.lst ((List.range ns.length).map fun i => .int (if ns.getD i 0 < 0 then - ns.getD i 0 else ns.getD i 0))) := by rw [upd_ne nLd]; exact h2
      simp only [tPairs, tC, List.map_cons, List.map_nil]
      refine use_lc (xs := given ns.length (fun _ => true) (fun i => .int (if ns.getD (ns.length - 1 - i) 0 < 0 then - ns.getD (ns.length - 1 - i) 0 else ns.getD (ns.length - 1 - i) 0))) ?_ ?_
      · have lenE : ((List.range ns.length).map fun i => (V.int (if ns.getD i 0 < 0 then - ns.getD i 0 else ns.getD i 0))).length = ns.length := by rw [List.length_map, List.length_range]
        have eq : (ns.length : Int).toNat = ns.length := Int.toNat_natCast _
        rw [← eq]
        refine el_lcR1 (n := (ns.length : Int)) (fun _ => true) _ ?_ (by omega) (fun _ => rfl) (fun i H4 e4 hi => et_yes) (fun i H4 e4 hi _ => ?_)
        · have q := ev_len (K := K) (ta := tVar 3) (σ := [some (.ref a), some (.int m), v, some (.ref L), none]) (ev_var rfl) (sq_of h3)
          rw [lenE] at q
          exact ea_cons q ea_nil
        · have h4 := e4 L _ h3
          have q := ev_len (K := K) (ta := tVar 3) (σ := [some (.ref a), some (.int m), v, some (.ref L), some (.int (i : Int))]) (ev_var rfl) (sq_of h4)
          rw [lenE] at q
          refine ev_op (ev_var rfl) (ev_op (ev_op q ev_c rv_I0) (ev_var rfl) rv_I0) (rv_ixL (sq_of h4) ?_)
          have ei : ((ns.length : Int) - 1 - (i : Int)) = ((ns.length - 1 - i : Nat) : Int) := by omega
          rw [ei]
          refine atI_nat ?_
          rw [List.getElem?_map, List.getElem?_range (by omega)]
          rfl
      · intro R H4 hR e4 h4
        rw [given_all] at h4
        have hd4 : H4 d = some (.dK []) := e4 _ _ upd_same
        refine ⟨_, rfl, hd4, srcD R 1 m 0, rfl, (by show 4 ≤ 15; decide), ?_⟩
        rw [merge_src]
        have nRd : d ≠ R := ne_of_none upd_same hR
        refine k d R _ (fresh_back e2 hd) (fresh_back e2 (fresh_back ex3 hR)) ?_ ?_
        · refine ⟨(List.range ns.length).map fun i => (if ns.getD (ns.length - 1 - i) 0 < 0 then - ns.getD (ns.length - 1 - i) 0 else ns.getD (ns.length - 1 - i) 0), 1, m, 0, upd_same, ?_, by rw [List.length_map, List.length_range]; exact hlen⟩
          rw [upd_ne nRd.symm, h4, List.map_map]
          rfl
        · exact fun b o q => by
            rw [upd_ne (ne_of_none (e2 _ _ q) hd)]
            exact e4 _ _ (ex3 _ _ (e2 _ _ q))
end
end K02


set_option Elab.async false
set_option linter.all false
set_option maxRecDepth 100000
set_option maxHeartbeats 4000000
namespace K02
open PySem PySem.Spec PyProof.Rows L2 Evl
theorem if_true_of {b : Bool} {A B : Prop} (h : b = true) (q : A) : if b = true then A else B := by rw [if_pos h]; exact q
theorem if_false_of {b : Bool} {A B : Prop} (h : b = false) (q : B) : if b = true then A else B := by rw [if_neg (by rw [h]; decide)]; exact q
def abc : Str := "abcdefghijklmnopqrstuvwxyz"
def abc9 : Str := "abcdefghijklmnopqrstuvwxyz0123456789"
/-- plain: one to twelve small letters and digits -/
def plainB (x : Str) : Bool := decide (1 ≤ x.length) && decide (x.length ≤ 12) && ((List.range x.cps.size).map fun i => decide (x.cps.getD i 0 ∈ abc9.cps.toList)).all id
def wordB (x : Str) : Bool := plainB x && decide (x.cps.getD 0 0 ∈ abc.cps.toList)
section
variable {P : Program} {w : World} {K : PySem.W.Frag} {mg : Str → Option Value} {base : Heap}
/-- a truth about a text -/
def spText (g : Str → Bool) : Sp := fun vs H Q _ => ∃ x : Str, vs = [.str x] ∧ x.length ≤ 1000 ∧ ∀ H', Same H H' → Q (.bl (g x)) H'
abbrev s_is_plain : Stmt := top 11
abbrev N_is_plain : List Str := ["thing", "character"]
theorem sc_is_plain : FnScope N_is_plain ["thing"] (defScope s_is_plain) := ⟨rfl, rfl, rfl, by decide +kernel, rfl, by decide +kernel, by decide +kernel⟩
theorem ok_is_plain {f : Addr} {fd : FuncData} (F : Fun K "is_plain" "is_plain" s_is_plain f fd) (T : Blt mg) : FnOk P w K mg base CX0 1 f fd ["thing"] (spText plainB) := by
  refine F.ok sc_is_plain (fun vs H Q E h => ?_) (fun cdv A outer s H vs Q E hr h => ?_)
  · obtain ⟨x, rfl, _⟩ := h
    rfl
  · obtain ⟨x, rfl, hx, k⟩ := h
    have hu := hu_of hr
    refine ⟨_, (pss_cons (ps_if (PW.pt (pw_or (pt_not (pt_val (pe_callB (call_isiK' K) (by rfl) T.isinstance (by decide +kernel) (pa_cons (pv 0) (pa_cons (pe_bty (n := "str") (by rfl) T.str (by decide +kernel)) pa_nil))))) (pw_or1 (pt_not (pt_chain op_le op_le (pe_int) (pe_callB call_len_str (by rfl) T.len (by decide +kernel) (pa_cons (pv 0) pa_nil)) (C8.pe_gc rfl T.c_LONGEST)))))) (pss_one (ps_ret (pe_bl))) pss_nil)
      (pss_one (ps_ret (pe_callB (cr_allK K rfl) (by rfl) T.all (by decide +kernel) (pa_cons (pe_lc (own := [("character", 1)]) (g := gName 1) (by rfl) sc_is_plain.nd (pi_str (pv 0)) (blkOk_by (own := [("character", 1)]) (N := N_is_plain) (sc := defScope s_is_plain) (by decide +kernel)) (fun _ _ _ _ _ => pg_name (i := 1) sc_is_plain.nd rfl (Or.inl rfl)) (fun _ _ _ _ _ => pts_nil) (fun _ _ _ _ _ => pe_cmpR op_in_sign (pv 1) (C8.pe_gc rfl T.c_CHARACTERS) rfl)) pa_nil))))), ?_⟩
    refine ⟨_, rfl, .str x, _, _, _, true, rfl, ClsV.ty _, .base (.str x), kit_ty (by decide +kernel), true, rfl, iteF ⟨_, rfl, x, rfl, by rw [sizeLine_eq]; omega, 1, _, rfl, rfl, ?_⟩⟩
    have no : plainB x = false → Q (.bl false) H := fun e => by
      have z := k H (Same.refl H)
      rw [e] at z
      exact z
    refine ⟨_, rfl, ?_⟩
    by_cases c1 : (1 : Int) ≤ (x.length : Int)
    · refine if_true_of (decide_eq_true c1) ⟨_, _, rfl, rfl, _, rfl, ?_⟩
      by_cases c2 : (x.length : Int) ≤ 12
      · refine if_false_of (by rw [decide_eq_true c2]; rfl) ?_
        have hs : x.cps.size = x.length := rfl
        unfold tNext tRet tCB tCons
        dsimp only
        refine lc_use (J := Its x) (H1 := H) (g := gName 1) (fun i => .bl (decide (x.cps.getD i 0 ∈ abc9.cps.toList))) (fun R r => ⟨_, rfl, x, rfl, r⟩) walk_str (by omega) (fun _ _ => trivial) (fun i H' y H2 _ z => z.1 ▸ Same.refl _) (fun i y H' H2 hi e z R q => ?_) (fun _ _ _ _ h z => gn_mono h z) (fun D H' hD e hd => ?_)
        · obtain ⟨rfl, c, hc, rfl⟩ := z
          have ec : x.cps.getD i 0 = c := by rw [Array.getD_eq_getD_getElem?, hc]; rfl
          refine gN ⟨rfl, _, rfl, c, _, rfl, rfl, ?_⟩
          have z := q H2 (Same.refl _)
          rw [ec] at z
          exact z
        · refine ⟨D, (List.range x.cps.size).map fun i => decide (x.cps.getD i 0 ∈ abc9.cps.toList), rfl, SqL.of (by rw [List.map_map]; exact hd), ?_⟩
          have z := k H' e
          unfold plainB at z
          rw [decide_eq_true (show 1 ≤ x.length by omega), decide_eq_true (show x.length ≤ 12 by omega)] at z
          exact z
      · refine if_true_of (by rw [decide_eq_false c2]; rfl) (no ?_)
        unfold plainB
        rw [decide_eq_false (show ¬ x.length ≤ 12 by omega), Bool.and_false, Bool.false_and]
    · refine if_false_of (decide_eq_false c1) ⟨false, rfl, if_true_of rfl (no ?_)⟩
      unfold plainB
      rw [decide_eq_false (show ¬ 1 ≤ x.length by omega), Bool.false_and, Bool.false_and]
abbrev s_is_word : Stmt := top 12
abbrev N_is_word : List Str := ["thing"]
theorem sc_is_word : FnScope N_is_word ["thing"] (defScope s_is_word) := ⟨rfl, rfl, rfl, by decide +kernel, rfl, by decide +kernel, by decide +kernel⟩
theorem ok_is_word {f : Addr} {fd : FuncData} (F : Fun K "is_word" "is_word" s_is_word f fd) (T : Blt mg) (c_is_plain : Cal P w K mg base 1 "is_plain" ["thing"] (spText plainB)) : FnOk P w K mg base CX0 2 f fd ["thing"] (spText wordB) := by
  refine F.ok sc_is_word (fun vs H Q E h => ?_) (fun cdv A outer s H vs Q E hr h => ?_)
  · obtain ⟨x, rfl, _⟩ := h
    rfl
  · obtain ⟨x, rfl, hx, k⟩ := h
    refine ⟨_, (pss_one (ps_ret (pe_and (pe_cal c_is_plain (hr.mono (by decide)) (by rfl) (pa_cons (pv 0) pa_nil)) (pe_one (pe_cmpR op_in_sign (pe_item_str (pv 0) (pe_int) (fun _ _ => rfl)) (C8.pe_gc rfl T.c_LETTERS) rfl))))), ?_⟩
    refine ⟨_, rfl, x, rfl, hx, fun H1 e1 => ⟨plainB x, rfl, ?_⟩⟩
    have z := k H1 e1
    unfold wordB at z
    cases hp : plainB x with
    | false =>
      rw [hp] at z
      exact if_false_of rfl z
    | true =>
      rw [hp] at z
      refine if_true_of rfl ?_
      have h1 : 1 ≤ x.length := by
        unfold plainB at hp
        rw [Bool.and_eq_true, Bool.and_eq_true] at hp
        exact of_decide_eq_true hp.1.1
      have hc : x.cps[0]? = some (x.cps.getD 0 0) := by
        have l : 0 < x.cps.size := h1
        rw [Array.getElem?_eq_getElem l, Array.getD_eq_getD_getElem?, Array.getElem?_eq_getElem l]
        rfl
      exact ⟨_, rfl, x, 0, x.cps.getD 0 0, rfl, rfl, by decide, by decide, by show (0 : Int) < x.length; omega, hc, _, _, rfl, rfl, z⟩
end
end K02


set_option Elab.async false
set_option linter.all false
set_option maxRecDepth 100000
set_option maxHeartbeats 4000000
namespace K02
open PySem PySem.Spec PyProof.Rows L2 Evl
/-- members that an algebra may have -/
structure GoodM (xs : List Str) : Prop where
  lo : 1 ≤ xs.length
  hi : xs.length ≤ 6
  pl : ∀ x ∈ xs, plainB x = true
  nd : xs.Nodup
theorem plain_len {x : Str} (h : plainB x = true) : x.length ≤ 12 := by
  unfold plainB at h
  rw [Bool.and_eq_true, Bool.and_eq_true] at h
  exact of_decide_eq_true h.1.2
section
variable {P : Program} {w : World} {K : PySem.W.Frag} {mg : Str → Option Value} {base : Heap}
/-- it is let by -/
def spChkM (K : PySem.W.Frag) : Sp := fun vs H Q _ => ∃ (a : Addr) (xs : List Str), vs = [.ref a] ∧ SqL K H a (xs.map V.str) ∧ GoodM xs ∧ ∀ H', Same H H' → Q .non H'
abbrev s__check_members : Stmt := top 22
abbrev N__check_members : List Str := ["members", "name"]
theorem sc__check_members : FnScope N__check_members ["members"] (defScope s__check_members) := ⟨rfl, rfl, rfl, by decide +kernel, rfl, by decide +kernel, by decide +kernel⟩
theorem ok_check_members {f : Addr} {fd : FuncData} (F : Fun K "_check_members" "_check_members" s__check_members f fd) (T : Blt mg) (c_is_plain : Cal P w K mg base 1 "is_plain" ["thing"] (spText plainB)) : FnOk P w K mg base CX0 2 f fd ["members"] (spChkM K) := by
  refine F.ok sc__check_members (fun vs H Q E h => ?_) (fun cdv A outer s H vs Q E hr h => ?_)
  · obtain ⟨a, xs, rfl, _⟩ := h
    rfl
  · obtain ⟨a, xs, rfl, hS, gm, k⟩ := h
    refine ⟨_, (pss_cons (ps_if (pt_not (pt_chain op_le op_le (pe_int) (pe_callB (call_lenK K) (by rfl) T.len (by decide +kernel) (pa_cons (pv 0) pa_nil)) (C8.pe_gc rfl T.c_MOST_MEMBERS))) (pss_one (ps_never)) pss_nil)
      (pss_cons (ps_if (pt_not (pt_val (pe_callB (cr_allK K rfl) (by rfl) T.all (by decide +kernel) (pa_cons (pe_lc (own := [("name", 1)]) (g := gName 1) (by rfl) sc__check_members.nd (pi_list (pv 0)) (blkOk_by (own := [("name", 1)]) (N := N__check_members) (sc := defScope s__check_members) (by decide +kernel)) (fun _ _ _ _ _ => pg_name (i := 1) sc__check_members.nd rfl (Or.inl rfl)) (fun _ _ _ _ _ => pts_nil) (fun _ _ _ _ _ => pe_cal c_is_plain (hr.mono (by decide)) (by rfl) (pa_cons (pv 1) pa_nil))) pa_nil)))) (pss_one (ps_never)) pss_nil)
      (pss_one (ps_if (pt_cmpR op_lt (pe_lenKeys (by rfl) T.len (by rfl) T.set (pv 0)) (pe_callB (call_lenK K) (by rfl) T.len (by decide +kernel) (pa_cons (pv 0) pa_nil)) (nomark _)) (pss_one (ps_never)) pss_nil)))), ?_⟩
    have l1 := gm.lo
    have l2 := gm.hi
    have hl : (xs.map V.str).length = xs.length := List.length_map _
    refine ⟨_, rfl, a, _, rfl, .inl hS, 1, _, rfl, rfl, _, rfl, if_true_of (decide_eq_true (by rw [hl]; omega)) ⟨_, _, rfl, rfl, _, rfl, if_false_of (by rw [decide_eq_true (by rw [hl]; omega)]; rfl) ?_⟩⟩
    -- all plain
    unfold tNext tSeq tIfS tNot tB tCB tCons
    dsimp only
    refine lc_use (J := Itl K a) (H1 := H) (g := gName 1) (fun i => .bl (plainB (xs.getD i Str.empty))) (fun R r => ⟨_, rfl, a, rfl, ⟨_, hS⟩, r⟩) (walk_list (xs := xs.map V.str)) (by omega) (fun H' e => e.seq hS) (fun i H' y H2 _ z => z.1 ▸ Same.refl _) (fun i y H' H2 hi e z R q => ?_) (fun _ _ _ _ h z => gn_mono h z) (fun D H' hD e hd => ?_)
    · obtain ⟨rfl, hy⟩ := z
      rw [hl] at hi
      rw [List.getElem?_map, List.getElem?_eq_getElem hi] at hy
      obtain rfl : V.str xs[i] = y := Option.some.inj hy
      have eg : xs.getD i Str.empty = xs[i] := by rw [List.getD_eq_getElem?_getD, List.getElem?_eq_getElem hi]; rfl
      rw [eg] at q
      have := plain_len (gm.pl _ (List.getElem_mem hi))
      exact gN ⟨rfl, _, rfl, xs[i], rfl, by omega, q⟩
    rw [hl] at hd
    have bt : ((List.range xs.length).map fun i => plainB (xs.getD i Str.empty)).all id = true := by
      rw [List.all_eq_true]
      intro b hb
      obtain ⟨i, hi, rfl⟩ := List.mem_map.mp hb
      rw [List.mem_range] at hi
      have eg : xs.getD i Str.empty = xs[i] := by rw [List.getD_eq_getElem?_getD, List.getElem?_eq_getElem hi]; rfl
      show plainB _ = true
      rw [eg]
      exact gm.pl _ (List.getElem_mem hi)
    refine ⟨D, (List.range xs.length).map fun i => plainB (xs.getD i Str.empty), rfl, SqL.of (by rw [List.map_map]; exact hd), _, rfl, if_false_of (by rw [bt]; rfl) ?_⟩
    have hS2 := e.seq hS
    refine ⟨_, rfl, a, xs, rfl, hS2, gm.nd, by omega, _, rfl, a, _, rfl, .inl hS2, _, _, rfl, rfl, _, rfl, if_false_of (decide_eq_false (by rw [hl]; omega)) (k H' e)⟩
end
end K02


set_option Elab.async false
set_option linter.all false
set_option maxRecDepth 100000
set_option maxHeartbeats 4000000
namespace K02
open PySem PySem.Spec PyProof.Rows L2 Evl
/-- values that an operation may have -/
structure GoodV (xs : List Str) (n : Nat) (ys : List Str) : Prop where
  ar : n ≤ 2
  sz : ys.length = xs.length ^ n
  el : ∀ y ∈ ys, y ∈ xs
theorem all_flat (xs : List Str) : (xs.map V.str).all flatV = true := by
  rw [List.all_eq_true]
  intro v hv
  obtain ⟨x, _, rfl⟩ := List.mem_map.mp hv
  rfl
theorem in_strs {x : Str} {xs : List Str} : inV (.str x) (xs.map V.str) = true ↔ x ∈ xs := by
  unfold inV
  rw [List.any_eq_true]
  constructor
  · rintro ⟨v, hv, e⟩
    obtain ⟨y, hy, rfl⟩ := List.mem_map.mp hv
    have : y = x := by simpa [eqV] using e
    exact this ▸ hy
  · intro h
    exact ⟨.str x, List.mem_map.mpr ⟨x, h, rfl⟩, by simp [eqV]⟩
section
variable {P : Program} {w : World} {K : PySem.W.Frag} {mg : Str → Option Value} {base : Heap}
def spChkV (K : PySem.W.Frag) : Sp := fun vs H Q _ => ∃ (a b : Addr) (n : Nat) (xs ys : List Str), vs = [.ref a, .int (n : Int), .ref b] ∧ SqL K H a (xs.map V.str) ∧ SqL K H b (ys.map V.str) ∧ GoodM xs ∧ GoodV xs n ys ∧ ∀ H', Same H H' → Q .non H'
abbrev s__check_values : Stmt := top 24
abbrev N__check_values : List Str := ["members", "arity", "values", "tuples", "name"]
theorem sc__check_values : FnScope N__check_values ["members", "arity", "values"] (defScope s__check_values) := ⟨rfl, rfl, rfl, by decide +kernel, rfl, by decide +kernel, by decide +kernel⟩
theorem ok_check_values {f : Addr} {fd : FuncData} (F : Fun K "_check_values" "_check_values" s__check_values f fd) (T : Blt mg) : FnOk P w K mg base CX0 1 f fd ["members", "arity", "values"] (spChkV K) := by
  refine F.ok sc__check_values (fun vs H Q E h => ?_) (fun cdv A outer s H vs Q E hr h => ?_)
  · obtain ⟨a, b, n, xs, ys, rfl, _⟩ := h
    rfl
  · obtain ⟨a, b, n, xs, ys, rfl, hA, hB, gm, gv, k⟩ := h
    refine ⟨_, (pss_cons (ps_if (PW.pt (pw_or (pt_not (pt_val (pe_callB (call_isiK' K) (by rfl) T.isinstance (by decide +kernel) (pa_cons (pv 1) (pa_cons (pe_bty (n := "int") (by rfl) T.int (by decide +kernel)) pa_nil))))) (pw_or (pt_val (pe_callB (call_isiK' K) (by rfl) T.isinstance (by decide +kernel) (pa_cons (pv 1) (pa_cons (pe_bty (n := "bool") (by rfl) T.bool (by decide +kernel)) pa_nil)))) (pw_or1 (pt_not (pt_chain op_le op_le (pe_int) (pv 1) (pe_int))))))) (pss_one (ps_never)) pss_nil)
      (pss_cons (ps_set (i := 3) sc__check_values.nd rfl (Or.inl rfl) (pe_tup (pa_cons (pe_int) (pa_cons (pe_callB (call_lenK K) (by rfl) T.len (by decide +kernel) (pa_cons (pv 0) pa_nil)) (pa_cons (pe_op op_mul (pe_callB (call_lenK K) (by rfl) T.len (by decide +kernel) (pa_cons (pv 0) pa_nil)) (pe_callB (call_lenK K) (by rfl) T.len (by decide +kernel) (pa_cons (pv 0) pa_nil))) pa_nil)))))
      (pss_cons (ps_if (pt_cmpR op_ne (pe_callB (call_lenK K) (by rfl) T.len (by decide +kernel) (pa_cons (pv 2) pa_nil)) (pe_ix (ix_tupK K) (pv 3) (pv 1) (fun _ _ => rfl)) (nomark _)) (pss_one (ps_never)) pss_nil)
      (pss_one (ps_if (pt_not (pt_val (pe_callB (cr_allK K rfl) (by rfl) T.all (by decide +kernel) (pa_cons (pe_lc (own := [("name", 4)]) (g := gName 4) (by rfl) sc__check_values.nd (pi_list (pv 2)) (blkOk_by (own := [("name", 4)]) (N := N__check_values) (sc := defScope s__check_values) (by decide +kernel)) (fun _ _ _ _ _ => pg_name (i := 4) sc__check_values.nd rfl (Or.inl rfl)) (fun _ _ _ _ _ => pts_nil) (fun _ _ _ _ _ => pe_cmpR (op_inK K) (pv 4) (pv 0) rfl)) pa_nil)))) (pss_one (ps_never)) pss_nil))))), ?_⟩
    have l1 := gm.lo
    have l2 := gm.hi
    have hl : (xs.map V.str).length = xs.length := List.length_map _
    have hlY : (ys.map V.str).length = ys.length := List.length_map _
    have ar := gv.ar
    refine ⟨_, rfl, .int n, _, _, _, true, rfl, ClsV.ty _, .base (.int _), kit_ty (by decide +kernel), true, rfl, iteF ⟨_, rfl, .int n, _, _, _, false, rfl, ClsV.ty _, .base (.int _), kit_ty (by decide +kernel), false, rfl, iteF
      ⟨_, rfl, 0, _, rfl, rfl, _, rfl, if_true_of (decide_eq_true (by omega)) ⟨_, _, rfl, rfl, _, rfl, if_false_of (by rw [decide_eq_true (by omega)]; rfl) ?_⟩⟩⟩⟩
    -- tuples
    refine ⟨_, rfl, a, _, rfl, .inl hA, _, rfl, a, _, rfl, .inl hA, _, rfl, a, _, rfl, .inl hA, _, _, rfl, rfl, .inl ⟨by rw [hl]; omega, by rw [hl]; omega⟩, by show 3 ≤ sizeLine; decide, fun t nt => ?_⟩
    rw [hl]
    obtain ⟨H1, eG, s1, ht⟩ := put_new (o := .tup [.int 1, .int (xs.length : Nat), .int ((xs.length : Nat) * (xs.length : Nat))]) nt
    refine gN ?_
    rw [eG]
    clear eG
    have hA1 := s1.seq hA
    have hB1 := s1.seq hB
    obtain ⟨m, m1, m2⟩ : ∃ m : Int, atI [V.int 1, .int (xs.length : Nat), .int ((xs.length : Nat) * (xs.length : Nat))] (n : Int) = some (.int m) ∧ m = (ys.length : Nat) := by
      have sz := gv.sz
      have hh : n = 0 ∨ n = 1 ∨ n = 2 := by omega
      rcases hh with rfl | rfl | rfl
      · exact ⟨1, rfl, by rw [sz]; rfl⟩
      · exact ⟨_, rfl, by rw [sz, Nat.pow_one]⟩
      · refine ⟨_, rfl, ?_⟩
        rw [sz, Nat.pow_two, Int.natCast_mul]
    refine ⟨_, rfl, b, _, rfl, .inl hB1, _, rfl, _, rfl, t, _, _, .int m, rfl, rfl, SqT.of ht, m1, rfl, _, rfl, if_false_of (by rw [m2, hlY]; simp) ?_⟩
    unfold tNext tIfS tNot tB tCB tCons
    dsimp only
    refine lc_use (J := Itl K b) (H1 := H1) (g := gName 4) (fun i => .bl (inV (.str (ys.getD i Str.empty)) (xs.map V.str))) (fun R r => ⟨_, rfl, b, rfl, ⟨_, hB1⟩, r⟩) (walk_list (xs := ys.map V.str)) ?_ (fun H' e => e.seq hB1) (fun i H' y H2 _ z => z.1 ▸ Same.refl _) (fun i y H' H2 hi e z R q => ?_) (fun _ _ _ _ h z => gn_mono h z) (fun D H' hD e hd => ?_)
    · rw [hlY, gv.sz]
      have hh : n = 0 ∨ n = 1 ∨ n = 2 := by omega
      rcases hh with rfl | rfl | rfl
      · simp
      · rw [Nat.pow_one]; omega
      · rw [Nat.pow_two]
        have := Nat.mul_le_mul l2 l2
        omega
    · obtain ⟨rfl, hy⟩ := z
      rw [hlY] at hi
      rw [List.getElem?_map, List.getElem?_eq_getElem hi] at hy
      obtain rfl : V.str ys[i] = y := Option.some.inj hy
      have eg : ys.getD i Str.empty = ys[i] := by rw [List.getD_eq_getElem?_getD, List.getElem?_eq_getElem hi]; rfl
      rw [eg] at q
      exact gN ⟨rfl, _, rfl, _, rfl, a, _, rfl, .inl (e.seq hA1), rfl, all_flat _, q _ (Same.refl _)⟩
    rw [hlY] at hd
    have bt : ((List.range ys.length).map fun i => inV (.str (ys.getD i Str.empty)) (xs.map V.str)).all id = true := by
      rw [List.all_eq_true]
      intro b hb
      obtain ⟨i, hi, rfl⟩ := List.mem_map.mp hb
      rw [List.mem_range] at hi
      have eg : ys.getD i Str.empty = ys[i] := by rw [List.getD_eq_getElem?_getD, List.getElem?_eq_getElem hi]; rfl
      show inV _ _ = true
      rw [eg]
      exact in_strs.mpr (gv.el _ (List.getElem_mem hi))
    exact ⟨D, (List.range ys.length).map fun i => inV (.str (ys.getD i Str.empty)) (xs.map V.str), rfl, SqL.of (by rw [List.map_map]; exact hd), _, rfl, if_false_of (by rw [bt]; rfl) (k H' (s1.trans e))⟩
end
end K02


set_option Elab.async false
set_option linter.all false
set_option maxRecDepth 100000
set_option maxHeartbeats 4000000
namespace K02
open PySem PySem.Spec PyProof.Rows L2 Evl
/-- an operation, told: its sign, its arity, its values -/
abbrev Opn : Type := Str × Nat × List Str
structure GoodO (xs : List Str) (os : List Opn) : Prop where
  hi : os.length ≤ 5
  wd : ∀ o ∈ os, wordB o.1 = true
  nd : (os.map (·.1)).Nodup
  va : ∀ o ∈ os, GoodV xs o.2.1 o.2.2
/-- operations in a list of tuples, each with its list of values -/
def OpAt (K : PySem.W.Frag) (H : Hp) (t : Addr) (o : Opn) : Prop := ∃ va, SqT K H t [.str o.1, .int (o.2.1 : Int), .ref va] ∧ SqL K H va (o.2.2.map V.str)
def OpsAt (K : PySem.W.Frag) (H : Hp) (b : Addr) (os : List Opn) : Prop := ∃ ts : List Addr, SqL K H b (ts.map V.ref) ∧ Paired (OpAt K H) ts os
section
variable {P : Program} {w : World} {K : PySem.W.Frag} {mg : Str → Option Value} {base : Heap}
theorem OpAt.same {H H' : Hp} {t : Addr} {o : Opn} (h : OpAt K H t o) (e : Same H H') : OpAt K H' t o := h.imp fun _ z => ⟨ex_t e z.1, e.seq z.2⟩
theorem OpsAt.same {H H' : Hp} {b : Addr} {os : List Opn} (h : OpsAt K H b os) (e : Same H H') : OpsAt K H' b os := h.imp fun _ z => ⟨e.seq z.1, Paired.mapP z.2 fun _ _ q => q.same e⟩
theorem paired_get {α β : Type} {F : α → β → Prop} : ∀ {l : List α} {m : List β} {i : Nat} {a : α}, Paired F l m → l[i]? = some a → ∃ b, m[i]? = some b ∧ F a b
  | _, _, _, _, .nil, e => by simp at e
  | _, _, 0, _, .cons r t, e => by simp at e; subst e; exact ⟨_, rfl, r⟩
  | _, _, i + 1, _, .cons r t, e => by
    obtain ⟨b, h1, h2⟩ := paired_get (i := i) t (by simpa using e)
    exact ⟨b, by simpa using h1, h2⟩
def spChkO (K : PySem.W.Frag) : Sp := fun vs H Q _ => ∃ (a b : Addr) (xs : List Str) (os : List Opn), vs = [.ref a, .ref b] ∧ SqL K H a (xs.map V.str) ∧ OpsAt K H b os ∧ GoodM xs ∧ GoodO xs os ∧ ∀ H', Same H H' → Q .non H'
abbrev s__check_operations : Stmt := top 23
abbrev N__check_operations : List Str := ["members", "operations", "signs", "sign", "arity", "values"]
theorem sc__check_operations : FnScope N__check_operations ["members", "operations"] (defScope s__check_operations) := ⟨rfl, rfl, rfl, by decide +kernel, rfl, by decide +kernel, by decide +kernel⟩
theorem ok_check_operations {f : Addr} {fd : FuncData} (F : Fun K "_check_operations" "_check_operations" s__check_operations f fd) (T : Blt mg) (c_is_word : Cal P w K mg base 2 "is_word" ["thing"] (spText wordB))
    (c__check_values : Cal P w K mg base 1 "_check_values" ["members", "arity", "values"] (spChkV K)) : FnOk P w K mg base CX0 3 f fd ["members", "operations"] (spChkO K) := by
  refine F.ok sc__check_operations (fun vs H Q E h => ?_) (fun cdv A outer s H vs Q E hr h => ?_)
  · obtain ⟨a, b, xs, os, rfl, _⟩ := h
    rfl
  · obtain ⟨a, b, xs, os, rfl, hA, hO, gm, go, k⟩ := h
    refine ⟨_, (pss_cons (ps_if (pt_cmpR op_gt (pe_callB (call_lenK K) (by rfl) T.len (by decide +kernel) (pa_cons (pv 1) pa_nil)) (C8.pe_gc rfl T.c_MOST_OPERATIONS) (nomark _)) (pss_one (ps_never)) pss_nil)
      (pss_cons (ps_set (i := 2) sc__check_operations.nd rfl (Or.inl rfl) (pe_lst pa_nil))
      (pss_one (ps_for PassesOwn.never rfl (pi_list (pv 1)) (pg_tup rfl (pgs_cons (pg_name (i := 3) sc__check_operations.nd rfl (Or.inl rfl)) (pgs_cons (pg_name (i := 4) sc__check_operations.nd rfl (Or.inl rfl)) (pgs_cons (pg_name (i := 5) sc__check_operations.nd rfl (Or.inl rfl)) pgs_nil)))) (pss_cons (ps_if (PW.pt (pw_or (pt_not (pt_val (pe_cal c_is_word (hr.mono (by decide)) (by rfl) (pa_cons (pv 3) pa_nil)))) (pw_or1 (pt_cmpR (op_inK K) (pv 3) (pv 2) rfl)))) (pss_one (ps_never)) pss_nil)
      (pss_cons (ps_expr (pe_bm PySem.F.plainAttrs_list PySem.F.slot_list_append PySem.F.type_list_append mt_append (pv 2) (pa_cons (pv 3) pa_nil)))
      (pss_one (ps_expr (pe_cal c__check_values (hr.mono (by decide)) (by rfl) (pa_cons (pv 0) (pa_cons (pv 4) (pa_cons (pv 5) pa_nil)))))))))))), ?_⟩
    obtain ⟨ts, hB, pr⟩ := id hO
    have hlt : (ts.map V.ref).length = os.length := by rw [List.length_map]; exact Paired.length pr
    have l5 := go.hi
    have l6 := gm.hi
    refine ⟨_, rfl, b, _, rfl, .inl hB, _, _, rfl, rfl, _, rfl, if_false_of (decide_eq_false (by rw [hlt]; omega)) ⟨by show 0 ≤ sizeLine; decide, fun sg nsg => ?_⟩⟩
    obtain ⟨H1, eG, s1, hsg⟩ := put_new (o := .lst []) nsg
    refine gN ?_
    rw [eG]
    clear eG
    refine ⟨_, rfl, b, rfl, ⟨_, s1.seq hB⟩, for_list (K := K) (a := b) (xs := ts.map V.ref) (fun i σ' H' => (∃ v1 v2 v3, σ' = [some (.ref a), some (.ref b), some (.ref sg), v1, v2, v3]) ∧ Same H H' ∧ H' sg = some (.lst ((os.take i).map fun o => .str o.1)))
      ⟨⟨none, none, none, rfl⟩, s1, hsg⟩ (fun i σ' H' _ p => p.2.1.seq hB) (fun i v σ' H' hi p => ?_) (fun σ' H' p => k H' p.2.1)⟩
    obtain ⟨⟨v1, v2, v3, rfl⟩, s2, h2⟩ := p
    have hi2 : i < os.length := by rw [← hlt]; exact (List.getElem?_eq_some_iff.mp hi).1
    obtain ⟨t, ht, rfl⟩ : ∃ t, ts[i]? = some t ∧ v = .ref t := by
      rw [List.getElem?_map] at hi
      cases e : ts[i]? with
      | none => rw [e] at hi; cases hi
      | some t => rw [e] at hi; exact ⟨t, rfl, (Option.some.inj hi).symm⟩
    obtain ⟨o, ho, va, hT, hV⟩ := paired_get pr ht
    have hm : o ∈ os := List.mem_of_getElem? ho
    have hw := go.wd o hm
    have lw : o.1.length ≤ 12 := plain_len (by unfold wordB at hw; rw [Bool.and_eq_true] at hw; exact hw.1)
    refine ⟨t, _, rfl, ex_t s2 hT, rfl, _, _, rfl, _, _, rfl, _, _, rfl, rfl, ?_⟩
    refine ⟨_, rfl, o.1, rfl, by omega, fun H3 e3 => ⟨_, rfl, if_false_of (by rw [hw]; rfl) ?_⟩⟩
    have h3 := e3 _ _ h2
    have hno : o.1 ∉ (os.take i).map (·.1) := fun z => by
      obtain ⟨m, hm1, hm2⟩ := List.mem_iff_getElem.mp z
      rw [List.length_map, List.length_take] at hm1
      have nd := List.pairwise_iff_getElem.mp go.nd m i (by rw [List.length_map]; omega) (by rw [List.length_map]; exact hi2) (by omega)
      rw [List.getElem?_eq_getElem hi2] at ho
      obtain rfl : os[i] = o := Option.some.inj ho
      refine nd ?_
      rw [List.getElem_map, List.getElem_map]
      rw [List.getElem_map, List.getElem_take] at hm2
      exact hm2
    have em : ((os.take i).map fun o => V.str o.1) = ((os.take i).map (·.1)).map V.str := by rw [List.map_map]; rfl
    rw [em] at h3
    refine ⟨_, rfl, _, rfl, sg, _, rfl, .inl (SqL.of h3), rfl, all_flat _, _, rfl, if_false_of ?_ ?_⟩
    · show inV _ _ = false
      cases c : inV (V.str o.1) (((os.take i).map (·.1)).map V.str) with
      | false => rfl
      | true => exact absurd (in_strs.mp c) hno
    refine ⟨_, rfl, .inl ⟨rfl, _, SqL.of h3⟩, _, rfl, sg, _, _, rfl, rfl, h3, by rw [List.length_map, List.length_map, List.length_take, sizeLine_eq]; omega, ?_⟩
    have s4 : Same H (upd H3 sg (.lst (((os.take i).map (·.1)).map V.str ++ [.str o.1]))) := same_mut (s2.trans e3) nsg
    refine ⟨_, rfl, _, rfl, _, rfl, a, va, o.2.1, xs, o.2.2, rfl, s4.seq hA, s4.seq hV, gm, go.va o hm, fun H5 e5 => ⟨⟨_, _, _, rfl⟩, s4.trans e5, ?_⟩⟩
    rw [List.take_add_one, ho, List.map_append, em]
    exact e5 _ _ upd_same
end
end K02


set_option Elab.async false
set_option linter.all false
set_option maxRecDepth 100000
set_option maxHeartbeats 4000000
namespace K02
open PySem PySem.Spec PyProof.Rows L2 Evl
abbrev s_Algebra__fill : Stmt := inClass (top 17) 1
abbrev N_Algebra__fill : List Str := ["self", "members", "operations", "sign", "arity", "_", "place", "name", "values"]
theorem sc_Algebra__fill : FnScope N_Algebra__fill ["self", "members", "operations"] (defScope s_Algebra__fill) := ⟨rfl, rfl, rfl, by decide +kernel, rfl, by decide +kernel, by decide +kernel⟩
/-- the class of an algebra, as far as its fields go -/
structure AlgC (K : PySem.W.Frag) (C : Addr) : Prop where
  cl : Cls K C
  n1 : NoAttr K C "signature"
  n2 : NoAttr K C "_names"
  n3 : NoAttr K C "_places"
  n4 : NoAttr K C "_arities"
  n5 : NoAttr K C "_tables"
abbrev o0 : Opn := (Str.empty, 0, [])
def plK (xs : List Str) : List (Key × V) := (List.range xs.length).map fun i => (Sum.inr (xs.getD i Str.empty), V.int (i : Int))
def arK (os : List Opn) : List (Key × V) := (List.range os.length).map fun i => (Sum.inr (os.getD i o0).1, V.int ((os.getD i o0).2.1 : Int))
def tbK (os : List Opn) (ls : List Addr) : List (Key × V) := (List.range os.length).map fun i => (Sum.inr (os.getD i o0).1, V.ref (ls.getD i 0))
def flds (t n p r b : Addr) : List (Str × V) := [("signature", .ref t), ("_names", .ref n), ("_places", .ref p), ("_arities", .ref r), ("_tables", .ref b)]
/-- the algebra of xs and os stands at x -/
def AlgAt (C x : Addr) (xs : List Str) (os : List Opn) (H : Hp) : Prop := ∃ (dx t n p r b : Addr) (ss ls : List Addr), H x = some (.ins C dx (flds t n p r b)) ∧ H t = some (.tup (ss.map V.ref)) ∧ ss.length = os.length ∧
  (∀ (j : Nat) s, ss[j]? = some s → H s = some (.tup [.str (os.getD j o0).1, .int ((os.getD j o0).2.1 : Int)])) ∧ H n = some (.lst (xs.map V.str)) ∧ H p = some (.dK (plK xs)) ∧ H r = some (.dK (arK os)) ∧ H b = some (.dK (tbK os ls)) ∧
  ls.length = os.length ∧ ∀ (j : Nat) l, ls[j]? = some l → H l = some (.lst ((os.getD j o0).2.2.map V.str))
theorem AlgAt.same {C x : Addr} {xs : List Str} {os : List Opn} {H H' : Hp} (h : AlgAt C x xs os H) (e : Same H H') : AlgAt C x xs os H' := by
  obtain ⟨dx, t, n, p, r, b, ss, ls, h1, h2, h3, h4, h5, h6, h7, h8, h9, h10⟩ := h
  exact ⟨dx, t, n, p, r, b, ss, ls, e _ _ h1, e _ _ h2, h3, fun j s q => e _ _ (h4 j s q), e _ _ h5, e _ _ h6, e _ _ h7, e _ _ h8, h9, fun j l q => e _ _ (h10 j l q)⟩
section
variable {K : PySem.W.Frag} {H : Hp} {x C dx a b : Addr} {fs : List (Str × V)} {ys : List V} {u : HO}
theorem sql_off (hx : H x = some (.ins C dx fs)) (h : SqL K H a ys) : SqL K (upd H x u) a ys := by
  rcases h with (h | ⟨o, h⟩) | h
  · exact .inl (.inl (by rw [upd_ne (ne_of h hx (fun z => nomatch z))]; exact h))
  · exact .inl (.inr ⟨o, by rw [upd_ne (ne_of h hx (fun z => nomatch z))]; exact h⟩)
  · exact .inr h
theorem sqt_off (hx : H x = some (.ins C dx fs)) (h : SqT K H a ys) : SqT K (upd H x u) a ys := by
  rcases h with (h | ⟨o, h⟩) | h
  · exact .inl (.inl (by rw [upd_ne (ne_of h hx (fun z => nomatch z))]; exact h))
  · exact .inl (.inr ⟨o, by rw [upd_ne (ne_of h hx (fun z => nomatch z))]; exact h⟩)
  · exact .inr h
theorem ops_off {os : List Opn} (hx : H x = some (.ins C dx fs)) (h : OpsAt K H b os) : OpsAt K (upd H x u) b os := h.imp fun _ z => ⟨sql_off hx z.1, Paired.mapP z.2 fun _ _ q => q.imp fun _ r => ⟨sqt_off hx r.1, sql_off hx r.2⟩⟩
theorem tup_off {xs : List V} (hx : H x = some (.ins C dx fs)) (h : H a = some (.tup xs)) : (upd H x u) a = some (.tup xs) := by rw [upd_ne (ne_of h hx (fun z => nomatch z))]; exact h
theorem lst_off {xs : List V} (hx : H x = some (.ins C dx fs)) (h : H a = some (.lst xs)) : (upd H x u) a = some (.lst xs) := by rw [upd_ne (ne_of h hx (fun z => nomatch z))]; exact h
theorem dK_off {xs : List (Key × V)} (hx : H x = some (.ins C dx fs)) (h : H a = some (.dK xs)) : (upd H x u) a = some (.dK xs) := by rw [upd_ne (ne_of h hx (fun z => nomatch z))]; exact h
theorem pf2 {t n : V} : putF "_names" n [(("signature" : Str), t)] = [(("signature" : Str), t), ("_names", n)] := by simp [putF, show ("signature" : Str) ≠ "_names" from by decide +kernel]
theorem pf3 {t n p : V} : putF "_places" p [(("signature" : Str), t), ("_names", n)] = [(("signature" : Str), t), ("_names", n), ("_places", p)] := by simp [putF, show ("signature" : Str) ≠ "_places" from by decide +kernel, show ("_names" : Str) ≠ "_places" from by decide +kernel]
theorem pf4 {t n p r : V} : putF "_arities" r [(("signature" : Str), t), ("_names", n), ("_places", p)] = [(("signature" : Str), t), ("_names", n), ("_places", p), ("_arities", r)] := by
  simp [putF, show ("signature" : Str) ≠ "_arities" from by decide +kernel, show ("_names" : Str) ≠ "_arities" from by decide +kernel, show ("_places" : Str) ≠ "_arities" from by decide +kernel]
theorem pf5 {t n p r b : V} : putF "_tables" b [(("signature" : Str), t), ("_names", n), ("_places", p), ("_arities", r)] = [(("signature" : Str), t), ("_names", n), ("_places", p), ("_arities", r), ("_tables", b)] := by
  simp [putF, show ("signature" : Str) ≠ "_tables" from by decide +kernel, show ("_names" : Str) ≠ "_tables" from by decide +kernel, show ("_places" : Str) ≠ "_tables" from by decide +kernel, show ("_arities" : Str) ≠ "_tables" from by decide +kernel]
theorem gT3_mono {i j l : Nat} {y : V} {σ : L2.St} {H2 : Hp} {N M : L2.St → Hp → Prop} (h : ∀ σ2 H3, N σ2 H3 → M σ2 H3) (z : gTup K 3 (gCons (gName i) (gCons (gName j) (gCons (gName l) gNil))) y σ H2 N) : gTup K 3 (gCons (gName i) (gCons (gName j) (gCons (gName l) gNil))) y σ H2 M := by
  obtain ⟨a, xs, e1, s, e2, v, r, e3, v2, r2, e4, v3, r3, e5, e6, q⟩ := z
  exact ⟨a, xs, e1, s, e2, v, r, e3, v2, r2, e4, v3, r3, e5, e6, h _ _ q⟩
theorem gT2_mono {i j : Nat} {y : V} {σ : L2.St} {H2 : Hp} {N M : L2.St → Hp → Prop} (h : ∀ σ2 H3, N σ2 H3 → M σ2 H3) (z : gTup K 2 (gCons (gName i) (gCons (gName j) gNil)) y σ H2 N) : gTup K 2 (gCons (gName i) (gCons (gName j) gNil)) y σ H2 M := by
  obtain ⟨a, xs, e1, s, e2, v, r, e3, v2, r2, e4, e6, q⟩ := z
  exact ⟨a, xs, e1, s, e2, v, r, e3, v2, r2, e4, e6, h _ _ q⟩
/-- a turn over the operations -/
theorem op_turn {os : List Opn} {ts : List Addr} {i : Nat} {y : V} {H' H2 : Hp} (pr : Paired (OpAt K H) ts os) (e : Same H H') (z : YAt (ts.map V.ref) i H' y H2) :
    ∃ t va, y = .ref t ∧ H2 = H' ∧ SqT K H' t [.str (os.getD i o0).1, .int ((os.getD i o0).2.1 : Int), .ref va] ∧ SqL K H' va ((os.getD i o0).2.2.map V.str) := by
  obtain ⟨eH, hy⟩ := z
  rw [List.getElem?_map] at hy
  cases c : ts[i]? with
  | none => rw [c] at hy; cases hy
  | some t =>
    rw [c] at hy
    obtain ⟨o, ho, va, hT, hV⟩ := paired_get pr c
    have eo : os.getD i o0 = o := by rw [List.getD_eq_getElem?_getD, ho]; rfl
    rw [eo]
    exact ⟨t, va, (Option.some.inj hy).symm, eH, ex_t e hT, e.seq hV⟩
theorem keys_ne {xs : List Str} (nd : xs.Nodup) {i j : Nat} (hi : i < xs.length) (hj : j < xs.length) (e : (Sum.inr (xs.getD i Str.empty) : Key) = Sum.inr (xs.getD j Str.empty)) : i = j := by
  have e := Sum.inr.inj e
  rw [List.getD_eq_getElem?_getD, List.getD_eq_getElem?_getD, List.getElem?_eq_getElem hi, List.getElem?_eq_getElem hj] at e
  have e : xs[i] = xs[j] := e
  have p := List.pairwise_iff_getElem.mp nd
  by_cases c : i < j
  · exact absurd e (p i j hi hj c)
  · by_cases c2 : j < i
    · exact absurd e.symm (p j i hj hi c2)
    · omega
theorem sign_ne {os : List Opn} (nd : (os.map (·.1)).Nodup) {i j : Nat} (hi : i < os.length) (hj : j < os.length) (e : (Sum.inr (os.getD i o0).1 : Key) = Sum.inr (os.getD j o0).1) : i = j := by
  refine keys_ne nd (by rw [List.length_map]; exact hi) (by rw [List.length_map]; exact hj) ?_
  rw [List.getD_eq_getElem?_getD, List.getD_eq_getElem?_getD, List.getElem?_map, List.getElem?_map, List.getElem?_eq_getElem hi, List.getElem?_eq_getElem hj]
  rw [List.getD_eq_getElem?_getD, List.getD_eq_getElem?_getD, List.getElem?_eq_getElem hi, List.getElem?_eq_getElem hj] at e
  exact e
/-- what stands but for x -/
def Off (x : Addr) (H H' : Hp) : Prop := ∀ y o, H y = some o → y ≠ x → H' y = some o
theorem Off.step {H1 H2 : Hp} (h : Off x H H1) (e : Same H1 H2) : Off x H (upd H2 x u) := fun y o q n => by rw [upd_ne n]; exact e _ _ (h y o q n)
end
section
variable {P : Program} {w : World} {K : PySem.W.Frag} {mg : Str → Option Value} {base : Heap}
def spFill (K : PySem.W.Frag) (C : Addr) : Sp := fun vs H Q _ => ∃ (x a b dx : Addr) (xs : List Str) (os : List Opn), vs = [.ref x, .ref a, .ref b] ∧ H x = some (.ins C dx []) ∧ SqL K H a (xs.map V.str) ∧ OpsAt K H b os ∧ xs.Nodup ∧ xs.length ≤ 1000 ∧ (os.map (·.1)).Nodup ∧ os.length ≤ 1000 ∧
  ∀ H', Off x H H' → AlgAt C x xs os H' → Q .non H'
theorem ok_fill {C f : Addr} {fd : FuncData} (F : Fun K "_fill" "Algebra._fill" s_Algebra__fill f fd) (T : Blt mg) (c : AlgC K C) : FnOk P w K mg base CX0 1 f fd ["self", "members", "operations"] (spFill K C) := by
  refine F.ok sc_Algebra__fill (fun vs H Q E h => ?_) (fun cdv A outer s H vs Q E hr h => ?_)
  · obtain ⟨x, a, b, dx, xs, os, rfl, _⟩ := h
    rfl
  · obtain ⟨x, a, b, dx, xs, os, rfl, hx, hA, hB, nx, lx, no, lo, k⟩ := h
    refine ⟨_, (pss_cons (ps_fld (pv 0) (pe_callTy (call_tupK K) (by rfl) T.tuple (by decide +kernel) (pa_cons (pe_lc (own := [("sign", 3), ("arity", 4), ("_", 5)]) (g := gTup K 3 (gCons (gName 3) (gCons (gName 4) (gCons (gName 5) gNil)))) (by rfl) sc_Algebra__fill.nd (pi_list (pv 2)) (blkOk_by (own := [("sign", 3), ("arity", 4), ("_", 5)]) (N := N_Algebra__fill) (sc := defScope s_Algebra__fill) (by decide +kernel)) (fun _ _ _ _ _ => by exact pg_tup rfl (pgs_cons (pg_name (i := 3) sc_Algebra__fill.nd rfl (Or.inl rfl)) (pgs_cons (pg_name (i := 4) sc_Algebra__fill.nd rfl (Or.inl rfl)) (pgs_cons (pg_name (i := 5) sc_Algebra__fill.nd rfl (Or.inl rfl)) pgs_nil)))) (fun _ _ _ _ _ => pts_nil) (fun _ _ _ _ _ => pe_tup (pa_cons (pv 3) (pa_cons (pv 4) pa_nil)))) pa_nil)) rfl)
      (pss_cons (ps_fld (pv 0) (pe_callTy (call_listK K) (by rfl) T.list (by decide +kernel) (pa_cons (pv 1) pa_nil)) rfl)
      (pss_cons (ps_fld (pv 0) (pe_dc (own := [("place", 6), ("name", 7)]) (g := gTup K 2 (gCons (gName 6) (gCons (gName 7) gNil))) (by rfl) sc_Algebra__fill.nd (pi_enum (by rfl) T.enumerate (pa_cons (pe_fld (pv 0) rfl) pa_nil)) (blkOk_by (own := [("place", 6), ("name", 7)]) (N := N_Algebra__fill) (sc := defScope s_Algebra__fill) (by decide +kernel)) (fun _ _ _ _ _ => by exact pg_tup rfl (pgs_cons (pg_name (i := 6) sc_Algebra__fill.nd rfl (Or.inl rfl)) (pgs_cons (pg_name (i := 7) sc_Algebra__fill.nd rfl (Or.inl rfl)) pgs_nil))) (fun _ _ _ _ _ => pts_nil) (fun _ _ _ _ _ => pv 7) (fun _ _ _ _ _ => pv 6)) rfl)
      (pss_cons (ps_fld (pv 0) (pe_dc (own := [("sign", 3), ("arity", 4), ("_", 5)]) (g := gTup K 3 (gCons (gName 3) (gCons (gName 4) (gCons (gName 5) gNil)))) (by rfl) sc_Algebra__fill.nd (pi_list (pv 2)) (blkOk_by (own := [("sign", 3), ("arity", 4), ("_", 5)]) (N := N_Algebra__fill) (sc := defScope s_Algebra__fill) (by decide +kernel)) (fun _ _ _ _ _ => by exact pg_tup rfl (pgs_cons (pg_name (i := 3) sc_Algebra__fill.nd rfl (Or.inl rfl)) (pgs_cons (pg_name (i := 4) sc_Algebra__fill.nd rfl (Or.inl rfl)) (pgs_cons (pg_name (i := 5) sc_Algebra__fill.nd rfl (Or.inl rfl)) pgs_nil)))) (fun _ _ _ _ _ => pts_nil) (fun _ _ _ _ _ => pv 3) (fun _ _ _ _ _ => pv 4)) rfl)
      (pss_one (ps_fld (pv 0) (pe_dc (own := [("sign", 3), ("_", 5), ("values", 8)]) (g := gTup K 3 (gCons (gName 3) (gCons (gName 5) (gCons (gName 8) gNil)))) (by rfl) sc_Algebra__fill.nd (pi_list (pv 2)) (blkOk_by (own := [("sign", 3), ("_", 5), ("values", 8)]) (N := N_Algebra__fill) (sc := defScope s_Algebra__fill) (by decide +kernel)) (fun _ _ _ _ _ => by exact pg_tup rfl (pgs_cons (pg_name (i := 3) sc_Algebra__fill.nd rfl (Or.inl rfl)) (pgs_cons (pg_name (i := 5) sc_Algebra__fill.nd rfl (Or.inl rfl)) (pgs_cons (pg_name (i := 8) sc_Algebra__fill.nd rfl (Or.inl rfl)) pgs_nil)))) (fun _ _ _ _ _ => pts_nil) (fun _ _ _ _ _ => pv 3) (fun _ _ _ _ _ => pe_callTy (call_listK K) (by rfl) T.list (by decide +kernel) (pa_cons (pv 8) pa_nil))) rfl)))))), ?_⟩
    obtain ⟨ts, hL, pr⟩ := id hB
    have hlt : (ts.map V.ref).length = os.length := by rw [List.length_map]; exact Paired.length pr
    unfold tSeq sFld tCB tCons
    dsimp only
    -- the signature
    refine lc_new (J := Itl K b) (H1 := H) (g := gTup K 3 (gCons (gName 3) (gCons (gName 4) (gCons (gName 5) gNil)))) (fun i => .tup [.str (os.getD i o0).1, .int ((os.getD i o0).2.1 : Int)]) (fun R r => ⟨_, rfl, b, rfl, ⟨_, hL⟩, r⟩) (walk_list (xs := ts.map V.ref)) (by rw [hlt]; omega) (fun H' e => e.seq hL) (fun i H' y H2 _ z => z.1 ▸ Same.refl _) (fun i y H' H2 hi e z R q => ?_) (fun y H2 N M h z => gT3_mono h z) (fun D H1 ps hD e1 hps hd hp => ?_)
    · obtain ⟨t, va, rfl, rfl, hT, hV⟩ := op_turn pr e z
      exact ⟨t, _, rfl, hT, rfl, _, _, rfl, _, _, rfl, _, _, rfl, rfl, rfl, _, rfl, _, rfl, by show 2 ≤ sizeLine; decide, fun p np => q p _ np (same_upd np) upd_same⟩
    refine ⟨D, ps.map V.ref, rfl, .inl ⟨SqL.of hd, fun t nt => ?_⟩⟩
    obtain ⟨H2, eG, e2, ht⟩ := put_new (o := .tup (ps.map V.ref)) nt
    rw [eG]
    clear eG
    have hx2 := e2 _ _ (e1 _ _ hx)
    refine ⟨_, rfl, x, C, dx, [], rfl, hx2, c.cl, c.n1, by decide, ?_⟩
    have f2 : Off x H (upd H2 x (.ins C dx (putF "signature" (.ref t) []))) := Off.step (fun y o q _ => e1 _ _ q) e2
    have hA3 : SqL K (upd H2 x (.ins C dx (putF "signature" (.ref t) []))) a _ := sql_off hx2 (e2.seq (e1.seq hA))
    have hB3 : OpsAt K (upd H2 x (.ins C dx (putF "signature" (.ref t) []))) b os := ops_off hx2 ((hB.same e1).same e2)
    have ht3 : (upd H2 x (.ins C dx (putF "signature" (.ref t) []))) t = _ := tup_off hx2 ht
    have hp3 : ∀ (j : Nat) p, ps[j]? = some p → (upd H2 x (.ins C dx (putF "signature" (.ref t) []))) p = some (.tup [.str (os.getD j o0).1, .int ((os.getD j o0).2.1 : Int)]) := fun j p h => tup_off hx2 (e2 _ _ (hp j p h).2)
    obtain ⟨G1, eG1, hxG⟩ : ∃ G1, upd H2 x (.ins C dx (putF "signature" (.ref t) [])) = G1 ∧ G1 x = some (.ins C dx [("signature", .ref t)]) := ⟨_, rfl, upd_same⟩
    rw [eG1] at f2 hA3 hB3 ht3 hp3 ⊢
    clear eG1
    -- the names
    refine ⟨_, rfl, a, _, rfl, .inl hA3, fun n nn => ?_⟩
    obtain ⟨H3, eG, e3, hn⟩ := put_new (o := .lst (xs.map V.str)) nn
    rw [eG]
    clear eG
    have hx3 := e3 _ _ hxG
    refine ⟨_, rfl, x, C, dx, _, rfl, hx3, c.cl, c.n2, by show 1 < 1000; decide, ?_⟩
    rw [pf2]
    have f4 : Off x H (upd H3 x (.ins C dx [("signature", .ref t), ("_names", .ref n)])) := fun y o q ne => by rw [upd_ne ne]; exact e3 _ _ (f2 y o q ne)
    have hB4 := ops_off (u := .ins C dx [("signature", .ref t), ("_names", .ref n)]) hx3 (hB3.same e3)
    have ht4 := tup_off (u := .ins C dx [("signature", .ref t), ("_names", .ref n)]) hx3 (e3 _ _ ht3)
    have hp4 := fun (j : Nat) p h => tup_off (u := .ins C dx [("signature", .ref t), ("_names", .ref n)]) hx3 (e3 _ _ (hp3 j p h))
    have hn4 := lst_off (u := .ins C dx [("signature", .ref t), ("_names", .ref n)]) hx3 hn
    obtain ⟨G2, eG, hxG2⟩ : ∃ G, upd H3 x (.ins C dx [("signature", .ref t), ("_names", .ref n)]) = G ∧ G x = some (.ins C dx [("signature", .ref t), ("_names", .ref n)]) := ⟨_, rfl, upd_same⟩
    rw [eG] at f4 hB4 ht4 hp4 hn4 ⊢
    clear eG
    -- the places
    refine dc_use (J := Ite K n) (H1 := G2) (g := gTup K 2 (gCons (gName 6) (gCons (gName 7) gNil))) (fun i => Sum.inr (xs.getD i Str.empty)) (fun i => .int (i : Int)) (fun R r => ⟨_, rfl, x, C, dx, _, .ref n, rfl, hxG2, c.cl, c.n2, rfl, n, _, rfl, SqL.of hn4, r⟩) (walk_enum (xs := xs.map V.str)) (by rw [List.length_map]; omega) (fun i j hi hj e => keys_ne nx (by rw [List.length_map] at hi; exact hi) (by rw [List.length_map] at hj; exact hj) e) (fun H' e => e.seq (SqL.of hn4)) (fun i H' y H2 _ z => ?_) (fun i y H' H2 hi e z R q => ?_) (fun y H2 N M h z => gT2_mono h z) (fun D2 H5 hD2 e5 hd2 => ?_)
    · obtain ⟨T1, _, _, _, nT, rfl, _, _⟩ := z
      exact same_upd nT
    · obtain ⟨T1, u1, u2, rfl, nT, rfl, h1, h2⟩ := z
      obtain rfl : V.int (i : Nat) = u1 := Option.some.inj h1
      rw [List.length_map] at hi
      have h2 : (xs.map V.str)[i]? = some u2 := h2
      rw [List.getElem?_map, List.getElem?_eq_getElem hi] at h2
      obtain rfl : V.str xs[i] = u2 := Option.some.inj h2
      have eg : xs.getD i Str.empty = xs[i] := by rw [List.getD_eq_getElem?_getD, List.getElem?_eq_getElem hi]; rfl
      rw [eg] at q
      exact ⟨T1, _, rfl, SqT.of upd_same, rfl, _, _, rfl, _, _, rfl, rfl, rfl, _, rfl, _, rfl, q _ (Same.refl _)⟩
    have hx5 := e5 _ _ hxG2
    refine ⟨_, rfl, x, C, dx, _, rfl, hx5, c.cl, c.n3, by show 2 < 1000; decide, ?_⟩
    rw [pf3]
    have hd2 : H5 D2 = some (.dK (plK xs)) := by rw [List.length_map] at hd2; exact hd2
    have f6 : Off x H (upd H5 x (.ins C dx [("signature", .ref t), ("_names", .ref n), ("_places", .ref D2)])) := fun y o q ne => by rw [upd_ne ne]; exact e5 _ _ (f4 y o q ne)
    have hB6 := ops_off (u := .ins C dx [("signature", .ref t), ("_names", .ref n), ("_places", .ref D2)]) hx5 (hB4.same e5)
    have ht6 := tup_off (u := .ins C dx [("signature", .ref t), ("_names", .ref n), ("_places", .ref D2)]) hx5 (e5 _ _ ht4)
    have hp6 := fun (j : Nat) p h => tup_off (u := .ins C dx [("signature", .ref t), ("_names", .ref n), ("_places", .ref D2)]) hx5 (e5 _ _ (hp4 j p h))
    have hn6 := lst_off (u := .ins C dx [("signature", .ref t), ("_names", .ref n), ("_places", .ref D2)]) hx5 (e5 _ _ hn4)
    have hd6 := dK_off (u := .ins C dx [("signature", .ref t), ("_names", .ref n), ("_places", .ref D2)]) hx5 hd2
    obtain ⟨G3, eG, hxG3⟩ : ∃ G, upd H5 x (.ins C dx [("signature", .ref t), ("_names", .ref n), ("_places", .ref D2)]) = G ∧ G x = some (.ins C dx [("signature", .ref t), ("_names", .ref n), ("_places", .ref D2)]) := ⟨_, rfl, upd_same⟩
    rw [eG] at f6 hB6 ht6 hp6 hn6 hd6 ⊢
    clear eG
    -- the arities
    obtain ⟨ts2, hL2, pr2⟩ := id hB6
    have hlt2 : (ts2.map V.ref).length = os.length := by rw [List.length_map]; exact Paired.length pr2
    refine dc_use (J := Itl K b) (H1 := G3) (g := gTup K 3 (gCons (gName 3) (gCons (gName 4) (gCons (gName 5) gNil)))) (fun i => Sum.inr (os.getD i o0).1) (fun i => .int ((os.getD i o0).2.1 : Int)) (fun R r => ⟨_, rfl, b, rfl, ⟨_, hL2⟩, r⟩) (walk_list (xs := ts2.map V.ref)) (by rw [hlt2]; omega) (fun i j hi hj e => sign_ne no (by rw [hlt2] at hi; exact hi) (by rw [hlt2] at hj; exact hj) e) (fun H' e => e.seq hL2) (fun i H' y H2 _ z => z.1 ▸ Same.refl _) (fun i y H' H2 hi e z R q => ?_) (fun y H2 N M h z => gT3_mono h z) (fun D3 H7 hD3 e7 hd3 => ?_)
    · obtain ⟨t, va, rfl, rfl, hT, hV⟩ := op_turn pr2 e z
      exact ⟨t, _, rfl, hT, rfl, _, _, rfl, _, _, rfl, _, _, rfl, rfl, rfl, _, rfl, _, rfl, q _ (Same.refl _)⟩
    have hx7 := e7 _ _ hxG3
    refine ⟨_, rfl, x, C, dx, _, rfl, hx7, c.cl, c.n4, by show 3 < 1000; decide, ?_⟩
    rw [pf4]
    have hd3 : H7 D3 = some (.dK (arK os)) := by rw [hlt2] at hd3; exact hd3
    have f8 : Off x H (upd H7 x (.ins C dx [("signature", .ref t), ("_names", .ref n), ("_places", .ref D2), ("_arities", .ref D3)])) := fun y o q ne => by rw [upd_ne ne]; exact e7 _ _ (f6 y o q ne)
    have hB8 := ops_off (u := .ins C dx [("signature", .ref t), ("_names", .ref n), ("_places", .ref D2), ("_arities", .ref D3)]) hx7 (hB6.same e7)
    have ht8 := tup_off (u := .ins C dx [("signature", .ref t), ("_names", .ref n), ("_places", .ref D2), ("_arities", .ref D3)]) hx7 (e7 _ _ ht6)
    have hp8 := fun (j : Nat) p h => tup_off (u := .ins C dx [("signature", .ref t), ("_names", .ref n), ("_places", .ref D2), ("_arities", .ref D3)]) hx7 (e7 _ _ (hp6 j p h))
    have hn8 := lst_off (u := .ins C dx [("signature", .ref t), ("_names", .ref n), ("_places", .ref D2), ("_arities", .ref D3)]) hx7 (e7 _ _ hn6)
    have hd8 := dK_off (u := .ins C dx [("signature", .ref t), ("_names", .ref n), ("_places", .ref D2), ("_arities", .ref D3)]) hx7 (e7 _ _ hd6)
    have ha8 := dK_off (u := .ins C dx [("signature", .ref t), ("_names", .ref n), ("_places", .ref D2), ("_arities", .ref D3)]) hx7 hd3
    obtain ⟨G4, eG, hxG4⟩ : ∃ G, upd H7 x (.ins C dx [("signature", .ref t), ("_names", .ref n), ("_places", .ref D2), ("_arities", .ref D3)]) = G ∧ G x = some (.ins C dx [("signature", .ref t), ("_names", .ref n), ("_places", .ref D2), ("_arities", .ref D3)]) := ⟨_, rfl, upd_same⟩
    rw [eG] at f8 hB8 ht8 hp8 hn8 hd8 ha8 ⊢
    clear eG
    -- the tables
    obtain ⟨ts3, hL3, pr3⟩ := id hB8
    have hlt3 : (ts3.map V.ref).length = os.length := by rw [List.length_map]; exact Paired.length pr3
    refine dc_new (J := Itl K b) (H1 := G4) (g := gTup K 3 (gCons (gName 3) (gCons (gName 5) (gCons (gName 8) gNil)))) (fun i => Sum.inr (os.getD i o0).1) (fun i => .lst ((os.getD i o0).2.2.map V.str)) (fun R r => ⟨_, rfl, b, rfl, ⟨_, hL3⟩, r⟩) (walk_list (xs := ts3.map V.ref)) (by rw [hlt3]; omega) (fun i j hi hj e => sign_ne no (by rw [hlt3] at hi; exact hi) (by rw [hlt3] at hj; exact hj) e) (fun H' e => e.seq hL3) (fun i H' y H2 _ z => z.1 ▸ Same.refl _) (fun i y H' H2 hi e z R q => ?_) (fun y H2 N M h z => gT3_mono h z) (fun D4 H9 qs hD4 e9 hqs hd4 hq => ?_)
    · obtain ⟨t, va, rfl, rfl, hT, hV⟩ := op_turn pr3 e z
      exact ⟨t, _, rfl, hT, rfl, _, _, rfl, _, _, rfl, _, _, rfl, rfl, rfl, _, rfl, _, rfl, va, _, rfl, .inl hV, fun p np => q p _ np (same_upd np) upd_same⟩
    have hx9 := e9 _ _ hxG4
    refine ⟨_, rfl, x, C, dx, _, rfl, hx9, c.cl, c.n5, by show 4 < 1000; decide, ?_⟩
    rw [pf5]
    have hd4 : H9 D4 = some (.dK (tbK os qs)) := by rw [hlt3] at hd4; exact hd4
    refine k _ (fun y o q ne => by rw [upd_ne ne]; exact e9 _ _ (f8 y o q ne)) ⟨dx, t, n, D2, D3, D4, ps, qs, upd_same, tup_off hx9 (e9 _ _ ht8), by rw [hps, hlt], fun j s h => tup_off hx9 (e9 _ _ (hp8 j s h)), lst_off hx9 (e9 _ _ hn8), dK_off hx9 (e9 _ _ hd8), dK_off hx9 (e9 _ _ ha8), dK_off hx9 hd4, by rw [hqs, hlt3], fun j l h => lst_off hx9 (hq j l h).2⟩
end
end K02


set_option Elab.async false
set_option linter.all false
set_option maxRecDepth 100000
set_option maxHeartbeats 4000000
namespace K02
open PySem PySem.Spec PyProof.Rows L2 Evl
section
variable {P : Program} {w : World} {K : PySem.W.Frag} {mg : Str → Option Value} {base : Heap}
def spAlg (K : PySem.W.Frag) (C : Addr) : Sp := fun vs H Q _ => ∃ (x a b dx : Addr) (xs : List Str) (os : List Opn), vs = [.ref x, .ref a, .ref b] ∧ H x = some (.ins C dx []) ∧ SqL K H a (xs.map V.str) ∧ OpsAt K H b os ∧ GoodM xs ∧ GoodO xs os ∧
  ∀ H', Off x H H' → AlgAt C x xs os H' → Q .non H'
abbrev s_Algebra___init__ : Stmt := inClass (top 17) 0
abbrev N_Algebra___init__ : List Str := ["self", "members", "operations"]
theorem sc_Algebra___init__ : FnScope N_Algebra___init__ ["self", "members", "operations"] (defScope s_Algebra___init__) := ⟨rfl, rfl, rfl, by decide +kernel, rfl, by decide +kernel, by decide +kernel⟩
theorem ok_alg {C f : Addr} {fd : FuncData} (F : Fun K "__init__" "Algebra.__init__" s_Algebra___init__ f fd) (c__check_members : Cal P w K mg base 2 "_check_members" ["members"] (spChkM K)) (c__check_operations : Cal P w K mg base 3 "_check_operations" ["members", "operations"] (spChkO K))
    (m_fill : Mtd P w K mg base 1 C "_fill" ["self", "members", "operations"] (spFill K C)) : FnOk P w K mg base CX0 4 f fd ["self", "members", "operations"] (spAlg K C) := by
  refine F.ok sc_Algebra___init__ (fun vs H Q E h => ?_) (fun cdv A outer s H vs Q E hr h => ?_)
  · obtain ⟨x, a, b, dx, xs, os, rfl, _⟩ := h
    rfl
  · obtain ⟨x, a, b, dx, xs, os, rfl, hx, hA, hB, gm, go, k⟩ := h
    refine ⟨_, (pss_cons (ps_expr (pe_cal c__check_members (hr.mono (by decide)) (by rfl) (pa_cons (pv 1) pa_nil)))
      (pss_cons (ps_expr (pe_cal c__check_operations (hr.mono (by decide)) (by rfl) (pa_cons (pv 1) (pa_cons (pv 2) pa_nil))))
      (pss_one (ps_expr (pe_mtd m_fill (hr.mono (by decide)) (pv 0) (pa_cons (pv 1) (pa_cons (pv 2) pa_nil))))))), ?_⟩
    refine ⟨_, rfl, a, xs, rfl, hA, gm, fun H1 e1 => ⟨_, rfl, _, rfl, a, b, xs, os, rfl, e1.seq hA, hB.same e1, gm, go, fun H2 e2 => ?_⟩⟩
    have l1 := gm.hi
    have l2 := go.hi
    refine ⟨_, rfl, x, dx, [], rfl, e2 _ _ (e1 _ _ hx), rfl, _, rfl, _, rfl, x, a, b, dx, xs, os, rfl, e2 _ _ (e1 _ _ hx), e2.seq (e1.seq hA), (hB.same e1).same e2, gm.nd, by omega, go.nd, by omega, fun H3 off al => ?_⟩
    exact k H3 (fun y o q ne => off y o (e2 _ _ (e1 _ _ q)) ne) al
/-- members(): a new list -/
def spMem (C : Addr) : Sp := fun vs H Q _ => ∃ (x : Addr) (xs : List Str) (os : List Opn), vs = [.ref x] ∧ AlgAt C x xs os H ∧ RetL (xs.map V.str) H Q
abbrev s_Algebra_members : Stmt := inClass (top 17) 2
abbrev N_Algebra_members : List Str := ["self"]
theorem sc_Algebra_members : FnScope N_Algebra_members ["self"] (defScope s_Algebra_members) := ⟨rfl, rfl, rfl, by decide +kernel, rfl, by decide +kernel, by decide +kernel⟩
theorem ok_members {C f : Addr} {fd : FuncData} (F : Fun K "members" "Algebra.members" s_Algebra_members f fd) (T : Blt mg) (c : AlgC K C) : FnOk P w K mg base CX0 1 f fd ["self"] (spMem C) := by
  refine F.ok sc_Algebra_members (fun vs H Q E h => ?_) (fun cdv A outer s H vs Q E hr h => ?_)
  · obtain ⟨x, xs, os, rfl, _⟩ := h
    rfl
  · obtain ⟨x, xs, os, rfl, al, k⟩ := h
    refine ⟨_, (pss_one (ps_ret (pe_callTy (call_listK K) (by rfl) T.list (by decide +kernel) (pa_cons (pe_fld (pv 0) rfl) pa_nil)))), ?_⟩
    obtain ⟨dx, t, n, p, r, b, ss, ls, h1, h2, h3, h4, h5, _⟩ := al
    exact ⟨_, rfl, x, C, dx, _, _, rfl, h1, c.cl, c.n2, rfl, n, _, rfl, .inl (SqL.of h5), fun l nl => k l _ nl (same_upd nl) upd_same⟩
def spLen (C : Addr) : Sp := fun vs H Q _ => ∃ (x : Addr) (xs : List Str) (os : List Opn), vs = [.ref x] ∧ AlgAt C x xs os H ∧ Q (.int (xs.length : Nat)) H
abbrev s_Algebra___len__ : Stmt := inClass (top 17) 5
abbrev N_Algebra___len__ : List Str := ["self"]
theorem sc_Algebra___len__ : FnScope N_Algebra___len__ ["self"] (defScope s_Algebra___len__) := ⟨rfl, rfl, rfl, by decide +kernel, rfl, by decide +kernel, by decide +kernel⟩
theorem ok_len {C f : Addr} {fd : FuncData} (F : Fun K "__len__" "Algebra.__len__" s_Algebra___len__ f fd) (T : Blt mg) (c : AlgC K C) : FnOk P w K mg base CX0 1 f fd ["self"] (spLen C) := by
  refine F.ok sc_Algebra___len__ (fun vs H Q E h => ?_) (fun cdv A outer s H vs Q E hr h => ?_)
  · obtain ⟨x, xs, os, rfl, _⟩ := h
    rfl
  · obtain ⟨x, xs, os, rfl, al, k⟩ := h
    refine ⟨_, (pss_one (ps_ret (pe_callB (call_lenK K) (by rfl) T.len (by decide +kernel) (pa_cons (pe_fld (pv 0) rfl) pa_nil)))), ?_⟩
    obtain ⟨dx, t, n, p, r, b, ss, ls, h1, h2, h3, h4, h5, _⟩ := al
    rw [← List.length_map (f := V.str)] at k
    exact ⟨_, rfl, x, C, dx, _, _, rfl, h1, c.cl, c.n2, rfl, n, _, rfl, .inl (SqL.of h5), k⟩
end
end K02


set_option Elab.async false
set_option linter.all false
set_option maxRecDepth 100000
set_option maxHeartbeats 4000000
namespace K02
open PySem PySem.Spec PyProof.Rows L2 Evl
/-- a dict of n entries with unlike keys is asked -/
theorem val_at {n : Nat} {k : Nat → Key} {v : Nat → V} (inj : ∀ i j, i < n → j < n → k i = k j → i = j) {i : Nat} (hi : i < n) : valV ((List.range n).map fun i => (k i, v i)) (k i) = some (v i) := by
  unfold valV
  rw [List.find?_map]
  have e : (List.range n).find? ((fun kv : Key × V => decide (kv.1 = k i)) ∘ fun i => (k i, v i)) = some i := by
    rw [List.find?_range_eq_some]
    refine ⟨by simp, List.mem_range.mpr hi, fun j hj => ?_⟩
    have : k j ≠ k i := fun z => by
      have := inj j i (by omega) hi z
      omega
    simp [this]
  rw [e]
  rfl
theorem val_no {n : Nat} {k : Nat → Key} {v : Nat → V} {y : Key} (h : ∀ i, i < n → k i ≠ y) : valV ((List.range n).map fun i => (k i, v i)) y = none := by
  unfold valV
  rw [List.find?_eq_none.mpr]
  · rfl
  · intro p hp
    obtain ⟨i, hi, rfl⟩ := List.mem_map.mp hp
    rw [List.mem_range] at hi
    simp [h i hi]
theorem getD_at {xs : List Str} {i : Nat} (hi : i < xs.length) : xs.getD i Str.empty = xs[i] := by rw [List.getD_eq_getElem?_getD, List.getElem?_eq_getElem hi]; rfl
/-- the places of names -/
theorem pl_in {xs : List Str} (nd : xs.Nodup) {i : Nat} (hi : i < xs.length) : valV (plK xs) (Sum.inr xs[i]) = some (.int (i : Int)) := by
  have z := val_at (n := xs.length) (k := fun i => Sum.inr (xs.getD i Str.empty)) (v := fun i => V.int (i : Int)) (fun i j hi hj e => keys_ne nd hi hj e) hi
  rw [getD_at hi] at z
  exact z
theorem pl_no {xs : List Str} {y : Str} (h : y ∉ xs) : valV (plK xs) (Sum.inr y) = none := by
  refine val_no fun i hi e => h ?_
  have e := Sum.inr.inj e
  rw [getD_at hi] at e
  exact e ▸ List.getElem_mem hi
section
variable {P : Program} {w : World} {K : PySem.W.Frag} {mg : Str → Option Value} {base : Heap}
def spHasM (C : Addr) : Sp := fun vs H Q _ => ∃ (x : Addr) (nm : Str) (xs : List Str) (os : List Opn), vs = [.ref x, .str nm] ∧ AlgAt C x xs os H ∧ xs.Nodup ∧ Q (.bl (decide (nm ∈ xs))) H
abbrev s_Algebra___contains__ : Stmt := inClass (top 17) 4
abbrev N_Algebra___contains__ : List Str := ["self", "name"]
theorem sc_Algebra___contains__ : FnScope N_Algebra___contains__ ["self", "name"] (defScope s_Algebra___contains__) := ⟨rfl, rfl, rfl, by decide +kernel, rfl, by decide +kernel, by decide +kernel⟩
theorem ok_has {C f : Addr} {fd : FuncData} (F : Fun K "__contains__" "Algebra.__contains__" s_Algebra___contains__ f fd) (T : Blt mg) (c : AlgC K C) : FnOk P w K mg base CX0 1 f fd ["self", "name"] (spHasM C) := by
  refine F.ok sc_Algebra___contains__ (fun vs H Q E h => ?_) (fun cdv A outer s H vs Q E hr h => ?_)
  · obtain ⟨x, nm, xs, os, rfl, _⟩ := h
    rfl
  · obtain ⟨x, nm, xs, os, rfl, al, nd, k⟩ := h
    have hu := hu_of hr
    refine ⟨_, (pss_one (ps_ret (pe_and (pe_callB (call_isiK' K) (by rfl) T.isinstance (by decide +kernel) (pa_cons (pv 1) (pa_cons (pe_bty (n := "str") (by rfl) T.str (by decide +kernel)) pa_nil))) (pe_one (pe_cmp (pc_din hu (pv 1) (pe_fld (pv 0) rfl))))))), ?_⟩
    obtain ⟨dx, t, n, p, r, b, ss, ls, h1, h2, h3, h4, h5, h6, _⟩ := al
    refine ⟨_, rfl, .str nm, _, _, _, true, rfl, ClsV.ty _, .base (.str nm), kit_ty (by decide +kernel), true, rfl, iteT ⟨_, rfl, _, rfl, x, C, dx, _, _, rfl, h1, c.cl, c.n3, rfl, p, _, rfl, DGet.k (k := Sum.inr nm) h6, ?_⟩⟩
    by_cases hm : nm ∈ xs
    · obtain ⟨i, hi, rfl⟩ := List.mem_iff_getElem.mp hm
      rw [pl_in nd hi]
      rw [decide_eq_true hm] at k
      exact k
    · rw [pl_no hm]
      rw [decide_eq_false hm] at k
      exact k
end
end K02


set_option Elab.async false
set_option linter.all false
set_option maxRecDepth 100000
set_option maxHeartbeats 4000000
namespace K02
open PySem PySem.Spec PyProof.Rows L2 Evl NdefX
/-- the errors that an algebra raises -/
structure ErrC (P : Program) (K : PySem.W.Frag) (mg : Str → Option Value) (Ca Cc Cm Cs fm qm cm fs qs cs : Addr) (dm ds : FuncData) : Prop where
  xa : X0 K mg "BadAlgebra" Ca "ValueError" "ValueError.__new__" "ValueError.__init__" [.type "ValueError", .type "Exception", .type "BaseException", .type "object"]
  xc : X0 K mg "BadCount" Cc "ValueError" "ValueError.__new__" "ValueError.__init__" [.type "ValueError", .type "Exception", .type "BaseException", .type "object"]
  xm : XI P K mg "UnknownMember" "UnknownMember.__init__" (inClass (top 5) 0) ["self", "name"] Cm fm qm cm "LookupError" "LookupError.__new__" "LookupError.__init__" [.type "LookupError", .type "Exception", .type "BaseException", .type "object"] dm
  xs : XI P K mg "UnknownSign" "UnknownSign.__init__" (inClass (top 6) 0) ["self", "name"] Cs fs qs cs "LookupError" "LookupError.__new__" "LookupError.__init__" [.type "LookupError", .type "Exception", .type "BaseException", .type "object"] ds
  nm : PySem.W.findIn K (.ref Cm) "name" = some none
  ns : PySem.W.findIn K (.ref Cs) "name" = some none
section
variable {P : Program} {w : World} {K : PySem.W.Frag} {mg : Str → Option Value} {base : Heap} {C f cc c : Addr} {B nI iI : String} {bB : List Value} {fd : FuncData}
theorem init_UnknownMember (T : XI P K mg "UnknownMember" "UnknownMember.__init__" (inClass (top 5) 0) ["self", "name"] C f cc c B nI iI bB fd) (hno : PySem.W.findIn K (.ref C) "name" = some none) : FnOk P w K mg base (L2.CX P w) 1 f fd ["self", "name"] (spNm C) := by
  obtain ⟨oc, od, osl, kV, doc, pm, an, ct, rfl, lk⟩ := T.lk
  exact ok_nm T.xb T.xc T.xs (by decide +kernel) hno ⟨_, fun _ => rfl⟩ lk T.cd
theorem init_UnknownSign (T : XI P K mg "UnknownSign" "UnknownSign.__init__" (inClass (top 6) 0) ["self", "name"] C f cc c B nI iI bB fd) (hno : PySem.W.findIn K (.ref C) "name" = some none) : FnOk P w K mg base (L2.CX P w) 1 f fd ["self", "name"] (spNm C) := by
  obtain ⟨oc, od, osl, kV, doc, pm, an, ct, rfl, lk⟩ := T.lk
  exact ok_nm T.xb T.xc T.xs (by decide +kernel) hno ⟨_, fun _ => rfl⟩ lk T.cd
end
/-- an own error with a name is raised -/
def RaiseNm (C : Addr) (nm : Str) (H : Hp) (E : XK) : Prop := ∀ d H', H d = none → Same H H' → H' d = some (.xd [("name", .str nm)]) → E (.ref C) (some d) H'
/-- what value() tells -/
inductive Out where
  | ok (v : Str) | sign | count | member (a : Str)
def rowOf (xs as : List Str) : Nat := as.foldl (fun r a => r * xs.length + xs.idxOf a) 0
def valOut (xs : List Str) (os : List Opn) (sg : Str) (as : List Str) : Out := match os.find? fun o => o.1 == sg with
  | none => .sign
  | some o => if as.length ≠ o.2.1 then .count else match as.find? fun a => !xs.contains a with
    | some a => .member a
    | none => .ok (o.2.2.getD (rowOf xs as) Str.empty)
theorem find_first {α : Type} {p : α → Bool} {l : List α} {i : Nat} (h : i < l.length) (no : ∀ a ∈ l.take i, p a = false) (yes : p l[i] = true) : l.find? p = some l[i] := by
  have e2 : l.take i ++ l[i] :: l.drop (i + 1) = l := by rw [← List.drop_eq_getElem_cons h, List.take_append_drop]
  have z : (l.take i ++ l[i] :: l.drop (i + 1)).find? p = some l[i] := by
    rw [List.find?_append, List.find?_eq_none.mpr fun a ha => by simp [no a ha], Option.none_or, List.find?_cons]
    simp only [yes]
  rw [e2] at z
  exact z
theorem row_more (xs as : List Str) (a : Str) : rowOf xs (as ++ [a]) = rowOf xs as * xs.length + xs.idxOf a := by
  unfold rowOf
  rw [List.foldl_append]
  rfl
theorem row_lt' {xs : List Str} : ∀ (as : List Str) (r : Nat), (∀ a ∈ as, a ∈ xs) → as.foldl (fun r a => r * xs.length + xs.idxOf a) r < (r + 1) * xs.length ^ as.length
  | [], r, _ => by simp
  | a :: rest, r, h => by
    have h1 : xs.idxOf a < xs.length := List.idxOf_lt_length_of_mem (h a List.mem_cons_self)
    have ih := row_lt' rest (r * xs.length + xs.idxOf a) fun b hb => h b (List.mem_cons_of_mem _ hb)
    rw [List.foldl_cons, List.length_cons, Nat.pow_succ]
    refine Nat.lt_of_lt_of_le ih ?_
    rw [Nat.mul_comm (xs.length ^ rest.length) xs.length, ← Nat.mul_assoc]
    refine Nat.mul_le_mul_right _ ?_
    rw [Nat.add_mul, Nat.one_mul]
    omega
theorem row_lt {xs as : List Str} (h : ∀ a ∈ as, a ∈ xs) : rowOf xs as < xs.length ^ as.length := by
  have z := row_lt' as 0 h
  rw [Nat.zero_add, Nat.one_mul] at z
  exact z
theorem idx_at {xs : List Str} (nd : xs.Nodup) {a : Str} (h : a ∈ xs) : valV (plK xs) (Sum.inr a) = some (.int (xs.idxOf a : Nat)) := by
  have hi : xs.idxOf a < xs.length := List.idxOf_lt_length_of_mem h
  have z := pl_in nd hi
  rw [List.getElem_idxOf] at z
  exact z
theorem op_idx {os : List Opn} {o : Opn} (h : o ∈ os) : ∃ j, j < os.length ∧ os.getD j o0 = o := by
  obtain ⟨j, hj, e⟩ := List.mem_iff_getElem.mp h
  exact ⟨j, hj, by rw [List.getD_eq_getElem?_getD, List.getElem?_eq_getElem hj]; exact e⟩
theorem ar_at {os : List Opn} (nd : (os.map (·.1)).Nodup) {o : Opn} (h : o ∈ os) : valV (arK os) (Sum.inr o.1) = some (.int (o.2.1 : Int)) := by
  obtain ⟨j, hj, e⟩ := op_idx h
  have z := val_at (n := os.length) (k := fun i => Sum.inr (os.getD i o0).1) (v := fun i => V.int ((os.getD i o0).2.1 : Int)) (fun i j hi hj e => sign_ne nd hi hj e) hj
  rw [e] at z
  exact z
theorem ar_no {os : List Opn} {y : Str} (h : ∀ o ∈ os, o.1 ≠ y) : valV (arK os) (Sum.inr y) = none := by
  refine val_no fun i hi e => ?_
  have e := Sum.inr.inj e
  rw [List.getD_eq_getElem?_getD, List.getElem?_eq_getElem hi] at e
  exact h _ (List.getElem_mem hi) e
theorem tb_at {os : List Opn} {ls : List Addr} (nd : (os.map (·.1)).Nodup) (hl : ls.length = os.length) {o : Opn} (h : o ∈ os) : ∃ (j : Nat) (l : Addr), valV (tbK os ls) (Sum.inr o.1) = some (.ref l) ∧ ls[j]? = some l ∧ os.getD j o0 = o := by
  obtain ⟨j, hj, e⟩ := op_idx h
  have z := val_at (n := os.length) (k := fun i => Sum.inr (os.getD i o0).1) (v := fun i => V.ref (ls.getD i 0)) (fun i j hi hj e => sign_ne nd hi hj e) hj
  rw [e] at z
  have hj2 : j < ls.length := by omega
  have z : valV (tbK os ls) (Sum.inr o.1) = some (.ref (ls.getD j 0)) := z
  exact ⟨j, ls[j], by rw [z, List.getD_eq_getElem?_getD, List.getElem?_eq_getElem hj2]; rfl, List.getElem?_eq_getElem hj2, e⟩
section
variable {P : Program} {w : World} {K : PySem.W.Frag} {mg : Str → Option Value} {base : Heap} {Ca Cc Cm Cs fm qm cm fs qs cs : Addr} {dm ds : FuncData}
def spVal (K : PySem.W.Frag) (C Cc Cm Cs : Addr) : Sp := fun vs H Q E => ∃ (x l : Addr) (sg : Str) (as xs : List Str) (os : List Opn), vs = [.ref x, .str sg, .ref l] ∧ AlgAt C x xs os H ∧ SqL K H l (as.map V.str) ∧ as.length ≤ 1000 ∧ GoodM xs ∧ GoodO xs os ∧ Wee sg ∧ (∀ a ∈ as, Wee a) ∧
  match valOut xs os sg as with
  | .ok v => Q (.str v) H
  | .sign => RaiseNm Cs sg H E
  | .count => E (.ref Cc) none H
  | .member a => RaiseNm Cm a H E
theorem raise_nm {nm : Str} {C : Addr} {H : Hp} {E : XK} (hw : Wee nm) (k : RaiseNm C nm H E) : ∀ a, H a = none → spNm C (.ref a :: ([.str nm] ++ [])) (upd H a (exo a C none))
    (fun v H2 => v = .non ∧ ∃ (d : Addr) (fs : List (Str × V)), H2 a = some (exo a C (some d)) ∧ H2 d = some (exd d fs) ∧ H d = none ∧ E (.ref C) (some d) (upd (del H2 a) d (.xd fs))) (fun _ _ _ => False) := fun a na => by
  refine ⟨a, nm, rfl, hw, upd_same, fun dx hd ne => ⟨rfl, dx, [("name", .str nm)], upd_same, by rw [upd_ne ne, upd_same], (same_upd na).free hd, k dx _ ((same_upd na).free hd) (fun b o q => ?_) upd_same⟩⟩
  have nb : b ≠ a := ne_of_none q na
  have nd : b ≠ dx := ne_of_none (same_upd na _ _ q) hd
  rw [upd_ne nd]
  unfold del
  rw [if_neg nb, upd_ne nb, upd_ne nd, upd_ne nb]
  exact q
abbrev s_Algebra_value : Stmt := inClass (top 17) 3
abbrev N_Algebra_value : List Str := ["self", "sign", "arguments", "row", "name"]
theorem sc_Algebra_value : FnScope N_Algebra_value ["self", "sign", "arguments"] (defScope s_Algebra_value) := ⟨rfl, rfl, rfl, by decide +kernel, rfl, by decide +kernel, by decide +kernel⟩
theorem ok_value {C f : Addr} {fd fh : FuncData} {fa : Addr} (F : Fun K "value" "Algebra.value" s_Algebra_value f fd) (T : Blt mg) (c : AlgC K C) (U : ErrC P K mg Ca Cc Cm Cs fm qm cm fs qs cs dm ds) (mh : Meth K C "__contains__" fa) (F_has : FnOk P w K mg base (L2.CX P w) 1 fa fh ["self", "name"] (spHasM C)) (b_has : Binds K fh ["self", "name"] []) :
    FnOk P w K mg base (L2.CX P w) 3 f fd ["self", "sign", "arguments"] (spVal K C Cc Cm Cs) := by
  have F_mb : FnOk P w K mg base (L2.CX P w) 1 fm dm ["self", "name"] (spNm Cm) := init_UnknownMember U.xm U.nm
  have F_sg : FnOk P w K mg base (L2.CX P w) 1 fs ds ["self", "name"] (spNm Cs) := init_UnknownSign U.xs U.ns
  refine F.okX sc_Algebra_value (fun vs H Q E h => ?_) (fun cdv A outer s H vs Q E hr h => ?_)
  · obtain ⟨x, l, sg, as, xs, os, rfl, _⟩ := h
    rfl
  · obtain ⟨x, l, sg, as, xs, os, rfl, al, hl, la, gm, go, ws, wa, k⟩ := h
    have hu := hu_of hr
    have hu64 := hu64_of hr
    refine ⟨_, (pss_cons (ps_if (pt_cmp (pc_dnotin hu (pv 1) (pe_fld (pv 0) rfl))) (pss_one (ps_raise rfl (takes_of rfl rfl rfl rfl) (U.xs.pmk F_sg (hr.mono (by decide)) (by rfl) (pa_cons (pv 1) pa_nil)))) pss_nil)
      (pss_cons (ps_if (pt_cmpR op_ne (pe_callB (call_lenK K) (by rfl) T.len (by decide +kernel) (pa_cons (pv 2) pa_nil)) (pe_dget hu (pe_fld (pv 0) rfl) (pv 1) (fun _ _ => rfl)) (nomark _)) (pss_one (ps_raise rfl (takes_of rfl rfl rfl rfl) (U.xc.pmk (by rfl)))) pss_nil)
      (pss_cons (ps_set (i := 3) sc_Algebra_value.nd rfl (Or.inl rfl) (pe_int))
      (pss_cons (ps_for (passes_of rfl) rfl (pi_list (pv 2)) (pg_name (i := 4) sc_Algebra_value.nd rfl (Or.inl rfl)) (pss_cons (ps_if (pt_cmpR (op_hasNot F_has (hr.mono (by decide)) b_has passL) (pv 4) (pv 0) rfl) (pss_one (ps_raise rfl (takes_of rfl rfl rfl rfl) (U.xm.pmk F_mb (hr.mono (by decide)) (by rfl) (pa_cons (pv 4) pa_nil)))) pss_nil)
      (pss_one (ps_set (i := 3) sc_Algebra_value.nd rfl (Or.inl rfl) (pe_op op_add (pe_op op_mul (pv 3) (pe_callB (call_lenK K) (by rfl) T.len (by decide +kernel) (pa_cons (pe_fld (pv 0) rfl) pa_nil))) (pe_dget hu (pe_fld (pv 0) rfl) (pv 4) (fun _ _ => rfl)))))))
      (pss_one (ps_ret (pe_ix (ix_listK K) (pe_dget hu (pe_fld (pv 0) rfl) (pv 1) (fun _ _ => rfl)) (pv 3) (fun _ _ => rfl)))))))), ?_⟩
    obtain ⟨dx, t, n, p, r, b, ss, ls, h1, h2, h3, h4, h5, h6, h7, h8, h9, h10⟩ := id al
    have l6 := gm.hi
    have l1 := gm.lo
    have hla : (as.map V.str).length = as.length := List.length_map _
    have hlx : (xs.map V.str).length = xs.length := List.length_map _
    refine ⟨_, rfl, _, rfl, x, C, dx, _, _, rfl, h1, c.cl, c.n4, rfl, r, _, rfl, DGet.k (k := Sum.inr sg) h7, _, rfl, ?_⟩
    unfold valOut at k
    cases hf : os.find? (fun o => o.1 == sg) with
    | none =>
      rw [hf] at k
      have no : ∀ o ∈ os, o.1 ≠ sg := fun o ho e => by
        have := List.find?_eq_none.mp hf o ho
        simp [e] at this
      rw [ar_no no]
      exact if_true_of rfl ⟨_, rfl, by show 1 ≤ 1000; decide, raise_nm ws k⟩
    | some o =>
      rw [hf] at k
      dsimp only at k
      have ho : o ∈ os := List.mem_of_find?_eq_some hf
      have es : o.1 = sg := by simpa using List.find?_some hf
      subst es
      rw [ar_at go.nd ho]
      refine if_false_of rfl ?_
      have g7 : DGet H r (kV (Sum.inr o.1)) (some (.int (o.2.1 : Int))) := by
        have z := DGet.k (k := Sum.inr o.1) h7
        rw [ar_at go.nd ho] at z
        exact z
      refine ⟨_, rfl, l, _, rfl, .inl hl, _, rfl, x, C, dx, _, _, rfl, h1, c.cl, c.n4, rfl, _, rfl, r, _, rfl, g7, rfl, _, rfl, ?_⟩
      by_cases hne : as.length = o.2.1
      · rw [if_neg (by rw [hne]; simp)] at k
        refine if_false_of (by rw [hla, hne]; simp) ?_
        have gv := go.va o ho
        have ar := gv.ar
        have pw : ∀ i, i ≤ as.length → xs.length ^ i ≤ 36 := fun i hi => by
          have hh : i = 0 ∨ i = 1 ∨ i = 2 := by omega
          rcases hh with rfl | rfl | rfl
          · simp
          · rw [Nat.pow_one]; omega
          · rw [Nat.pow_two]
            have := Nat.mul_le_mul l6 l6
            omega
        refine ⟨_, rfl, l, rfl, ⟨_, hl⟩, for_list (K := K) (a := l) (xs := as.map V.str) (fun i σ' H' => H' = H ∧ (∃ v, σ' = [some (.ref x), some (.str o.1), some (.ref l), some (.int (rowOf xs (as.take i) : Nat)), v]) ∧ ∀ a ∈ as.take i, a ∈ xs)
          ⟨rfl, ⟨none, rfl⟩, fun a h => by simp at h⟩ (fun i σ' H' _ p => p.1 ▸ hl) (fun i v σ' H' hi p => ?_) (fun σ' H' p => ?_)⟩
        · obtain ⟨eH, ⟨v0, rfl⟩, hin⟩ := p
          subst H'
          have hi2 : i < as.length := by rw [← hla]; exact (List.getElem?_eq_some_iff.mp hi).1
          rw [List.getElem?_map, List.getElem?_eq_getElem hi2] at hi
          obtain rfl : V.str as[i] = v := Option.some.inj hi
          have hm : as[i] ∈ as := List.getElem_mem hi2
          have et : as.take (i + 1) = as.take i ++ [as[i]] := by rw [List.take_add_one, List.getElem?_eq_getElem hi2]; rfl
          refine gN ⟨_, rfl, _, rfl, x, C, dx, _, rfl, h1, mh, ⟨x, as[i], xs, os, rfl, al, gm.nd, _, rfl, _, rfl, ?_⟩⟩
          by_cases hx : as[i] ∈ xs
          · refine if_false_of (by rw [decide_eq_true hx]; rfl) ?_
            have lt := row_lt hin
            rw [List.length_take, Nat.min_eq_left (by omega)] at lt
            have := pw i (by omega)
            have g6 : DGet H p (kV (Sum.inr as[i])) (some (.int (xs.idxOf as[i] : Nat))) := by
              have z := DGet.k (k := Sum.inr as[i]) h6
              rw [idx_at gm.nd hx] at z
              exact z
            refine ⟨_, rfl, _, rfl, x, C, dx, _, _, rfl, h1, c.cl, c.n2, rfl, n, _, rfl, .inl (SqL.of h5), _, _, rfl, rfl, .inl ⟨by omega, by omega⟩, _, rfl, x, C, dx, _, _, rfl, h1, c.cl, c.n3, rfl, _, rfl, p, _, rfl, g6, _, _, rfl, rfl, ?_⟩
            refine gN ⟨rfl, ⟨some (.str as[i]), ?_⟩, fun a ha => ?_⟩
            · rw [et, row_more, hlx, Int.natCast_add, Int.natCast_mul]
              rfl
            · rw [et] at ha
              rcases List.mem_append.mp ha with z | z
              · exact hin a z
              · rw [List.mem_singleton.mp z]
                exact hx
          · refine if_true_of (by rw [decide_eq_false hx]; rfl) ⟨_, rfl, by show 1 ≤ 1000; decide, raise_nm (wa _ hm) ?_⟩
            have fd : as.find? (fun a => !xs.contains a) = some as[i] := by
              exact find_first (p := fun a => !xs.contains a) hi2 (fun a ha => by simp [hin a ha]) (by simp [hx])
            rw [fd] at k
            exact k
        · obtain ⟨eH, ⟨v0, rfl⟩, hin⟩ := p
          subst H'
          rw [hla, List.take_length] at hin ⊢
          obtain ⟨j, tl, g1, g2, g3⟩ := tb_at go.nd h9 ho
          have g8 : DGet H b (kV (Sum.inr o.1)) (some (.ref tl)) := by
            have z := DGet.k (k := Sum.inr o.1) h8
            rw [g1] at z
            exact z
          have ht := h10 j tl g2
          rw [g3] at ht
          have lt := row_lt hin
          have lt2 : rowOf xs as < o.2.2.length := by rw [gv.sz, ← hne]; exact lt
          have fn : as.find? (fun a => !xs.contains a) = none := List.find?_eq_none.mpr fun a ha => by simp [hin a ha]
          rw [fn] at k
          have ev : o.2.2.getD (rowOf xs as) Str.empty = o.2.2[rowOf xs as] := getD_at lt2
          rw [ev] at k
          exact ⟨_, rfl, x, C, dx, _, _, rfl, h1, c.cl, c.n5, rfl, _, rfl, b, _, rfl, g8, _, rfl, tl, _, _, .str o.2.2[rowOf xs as], rfl, rfl, SqL.of ht, atI_nat (by rw [List.getElem?_map, List.getElem?_eq_getElem lt2]; rfl), k⟩
      · rw [if_pos hne] at k
        exact if_true_of (by rw [hla]; simp; omega) k
end
end K02


set_option Elab.async false
set_option linter.all false
set_option maxRecDepth 100000
set_option maxHeartbeats 4000000
namespace K02
open PySem PySem.Spec PyProof.Rows L2 Evl NdefX
/-- a class of algebras, as isinstance sees it -/
structure AlgK (K : PySem.W.Frag) (C CA : Addr) : Prop where
  c : AlgC K C
  ha : PySem.W.findIn K (.ref C) "__class__" = some (some (.builtin "object.__class__"))
  hn : PySem.W.specialIn K (.builtin "object.__class__") "__get__" = some (some (.builtin "getset_descriptor.__get__"))
  ht : PySem.W.takesIn K (.builtin "object.__class__") = some true
  hm : PySem.W.mroIn K C (.type "object") = some true
  it : PySem.W.kitOne K (.ref C) (.ref CA) = some true
def sigD (os : List Opn) : PyData := .tuple (os.map fun o => .tuple [.str o.1, .int (o.2.1 : Int)])
def nmD (xs : List Str) : PyData := .list (xs.map .str)
section
variable {K : PySem.W.Frag} {H : Hp}
theorem paired_of {α β : Type} {R : α → β → Prop} {d : β} : ∀ {l : List α} {m : List β}, l.length = m.length → (∀ (j : Nat) a, l[j]? = some a → R a (m.getD j d)) → Paired R l m
  | [], [], _, _ => .nil
  | [], _ :: _, h, _ => by simp at h
  | _ :: _, [], h, _ => by simp at h
  | a :: l, b :: m, h, f => .cons (f 0 a rfl) (paired_of (d := d) (by simpa using h) fun j x e => by simpa using f (j + 1) x (by simpa using e))
theorem dp_sig {t : Addr} {ss : List Addr} {os : List Opn} (h : H t = some (.tup (ss.map V.ref))) (hl : ss.length = os.length) (hs : ∀ (j : Nat) s, ss[j]? = some s → H s = some (.tup [.str (os.getD j o0).1, .int ((os.getD j o0).2.1 : Int)])) : Dp K H (.ref t) (sigD os) := by
  refine .tup (SqT.of h) ?_
  have key : ∀ {ss : List Addr} {os : List Opn}, Paired (fun s (o : Opn) => H s = some (.tup [.str o.1, .int (o.2.1 : Int)])) ss os → DpAll K H (ss.map V.ref) (os.map fun o => .tuple [.str o.1, .int (o.2.1 : Int)]) := by
    intro ss os p
    induction p with
    | nil => exact .nil
    | cons a _ ih => exact .cons (.tup (SqT.of a) (.cons (.str _) (.cons (.int _) .nil))) ih
  exact key (paired_of (d := o0) hl hs)
theorem dp_nm {n : Addr} {xs : List Str} (h : H n = some (.lst (xs.map V.str))) : Dp K H (.ref n) (nmD xs) := by
  refine .lst (SqL.of h) ?_
  induction xs with
  | nil => exact .nil
  | cons x r ih =>
    have key : ∀ xs : List Str, DpAll K H (xs.map V.str) (xs.map PyData.str) := fun xs => by
      induction xs with
      | nil => exact .nil
      | cons x r ih => exact .cons (.str _) ih
    exact key _
end
section
variable {P : Program} {w : World} {K : PySem.W.Frag} {mg : Str → Option Value} {base : Heap}
/-- the law of ==, where it is known -/
def EqOut (xs ys : List Str) (os ps : List Opn) (Q : Bool → Prop) : Prop :=
  (xs = ys ∧ os = ps ∧ Q true) ∨ (PyData.eqv (sigD os) (sigD ps) = false ∧ Q false) ∨ (PyData.eqv (sigD os) (sigD ps) = true ∧ PyData.eqv (nmD xs) (nmD ys) = false ∧ Q false)
structure ShA (xs : List Str) (os : List Opn) : Prop where
  s : SeqAt.shaped (sigD os) = true
  n : SeqAt.shaped (nmD xs) = true
def spEqA (K : PySem.W.Frag) (CA : Addr) : Sp := fun vs H Q _ => ∃ (x y C C' : Addr) (xs ys : List Str) (os ps : List Opn), vs = [.ref x, .ref y] ∧ AlgK K C CA ∧ AlgK K C' CA ∧ AlgAt C x xs os H ∧ AlgAt C' y ys ps H ∧ GoodO xs os ∧ ShA xs os ∧ ShA ys ps ∧ EqOut xs ys os ps fun b => Q (.bl b) H
abbrev s_Algebra___eq__ : Stmt := inClass (top 17) 6
abbrev N_Algebra___eq__ : List Str := ["self", "other"]
theorem sc_Algebra___eq__ : FnScope N_Algebra___eq__ ["self", "other"] (defScope s_Algebra___eq__) := ⟨rfl, rfl, rfl, by decide +kernel, rfl, by decide +kernel, by decide +kernel⟩
theorem ok_eq {CA f : Addr} {fd : FuncData} (F : Fun K "__eq__" "Algebra.__eq__" s_Algebra___eq__ f fd) (T : Blt mg) (gA : mg "Algebra" = some (.ref CA)) : FnOk P w K mg base CX0 1 f fd ["self", "other"] (spEqA K CA) := by
  refine F.ok sc_Algebra___eq__ (fun vs H Q E h => ?_) (fun cdv A outer s H vs Q E hr h => ?_)
  · obtain ⟨x, y, C, C', xs, ys, os, ps, rfl, _⟩ := h
    rfl
  · obtain ⟨x, y, C, C', xs, ys, os, ps, rfl, c1, c2, al, bl, go, sh1, sh2, k⟩ := h
    have hu := hu_of hr
    have hu64 := hu64_of hr
    refine ⟨_, (pss_cons (ps_if (pt_not (pt_val (pe_callB (call_isiK' K) (by rfl) T.isinstance (by decide +kernel) (pa_cons (pv 1) (pa_cons (pe_gref rfl gA) pa_nil))))) (pss_one (ps_ret (pe_bl))) pss_nil)
      (pss_cons (ps_if (PW.pt (pw_or (pt_cmpR (op_neDK K hu64) (pe_fld (pv 0) rfl) (pe_fld (pv 1) rfl) (nomark _)) (pw_or1 (pt_cmpR (op_neDK K hu64) (pe_fld (pv 0) rfl) (pe_fld (pv 1) rfl) (nomark _))))) (pss_one (ps_ret (pe_bl))) pss_nil)
      (pss_one (ps_ret (pe_cmpR (op_eqV hu64) (pe_fld (pv 0) rfl) (pe_fld (pv 1) rfl) (nomark _)))))), ?_⟩
    obtain ⟨dx, t, n, p, r, b, ss, ls, h1, h2, h3, h4, h5, h6, h7, h8, h9, h10⟩ := al
    obtain ⟨ey, t', n', p', r', b', ss', ls', g1, g2, g3, g4, g5, g6, g7, g8, g9, g10⟩ := bl
    have e1 := dp_sig (K := K) h2 h3 h4
    have e2 := dp_sig (K := K) g2 g3 g4
    refine ⟨_, rfl, .ref y, _, _, _, true, rfl, ClsV.own CA, .base (.ins g1 c2.c.cl c2.ha c2.hn c2.ht c2.hm), c2.it, true, rfl, iteF ?_⟩
    refine ⟨_, rfl, x, C, dx, _, _, rfl, h1, c1.c.cl, c1.c.n1, rfl, _, rfl, y, C', ey, _, _, rfl, g1, c2.c.cl, c2.c.n1, rfl, sigD os, sigD ps, e1, e2, sh1.s, sh2.s, _, rfl, ?_⟩
    rcases k with ⟨rfl, rfl, k⟩ | ⟨ke, k⟩ | ⟨ke, kn, k⟩
    · have sg := SeqAt.eqv_refl (sigD os) (SeqAt.canLay_of_shaped sh1.s)
      have nm := SeqAt.eqv_refl (nmD xs) (SeqAt.canLay_of_shaped sh1.n)
      refine if_false_of (by rw [sg]; rfl) ⟨_, rfl, x, C, dx, _, _, rfl, h1, c1.c.cl, c1.c.n2, rfl, _, rfl, y, C', ey, _, _, rfl, g1, c2.c.cl, c2.c.n2, rfl, nmD xs, nmD xs, dp_nm h5, dp_nm g5, sh1.n, sh1.n, _, rfl, if_false_of (by rw [nm]; rfl) ?_⟩
      refine ⟨_, rfl, x, C, dx, _, _, rfl, h1, c1.c.cl, c1.c.n5, rfl, _, rfl, y, C', ey, _, _, rfl, g1, c2.c.cl, c2.c.n5, rfl, 2, by decide, .inr ⟨b, b', tbK os ls, tbK os ls', rfl, rfl, h8, g8, by simp [tbK], fun q hq => ?_⟩, k⟩
      obtain ⟨i, hi, rfl⟩ := List.mem_map.mp hq
      rw [List.mem_range] at hi
      have z := val_at (n := os.length) (k := fun i => Sum.inr (os.getD i o0).1) (v := fun i => V.ref (ls'.getD i 0)) (fun i j hi hj e => sign_ne go.nd hi hj e) hi
      have i1 : i < ls.length := by omega
      have i2 : i < ls'.length := by omega
      have l1 : ls[i]? = some (ls.getD i 0) := by rw [List.getD_eq_getElem?_getD, List.getElem?_eq_getElem i1]; rfl
      have l2 : ls'[i]? = some (ls'.getD i 0) := by rw [List.getD_eq_getElem?_getD, List.getElem?_eq_getElem i2]; rfl
      refine ⟨_, z, .inr (.inr (.inl ⟨_, _, _, _, rfl, rfl, SqL.of (h10 i _ l1), SqL.of (g10 i _ l2), ?_⟩))⟩
      generalize (os.getD i o0).2.2 = zs
      induction zs with
      | nil => exact .nil
      | cons s r ih => exact .cons (.inl ⟨rfl, rfl⟩) ih
    · exact if_true_of (by rw [ke]; rfl) k
    · exact if_false_of (by rw [ke]; rfl) ⟨_, rfl, x, C, dx, _, _, rfl, h1, c1.c.cl, c1.c.n2, rfl, _, rfl, y, C', ey, _, _, rfl, g1, c2.c.cl, c2.c.n2, rfl, nmD xs, nmD ys, dp_nm h5, dp_nm g5, sh1.n, sh2.n, _, rfl, if_true_of (by rw [kn]; rfl) k⟩
end
end K02


set_option Elab.async false
set_option linter.all false
set_option maxRecDepth 100000
set_option maxHeartbeats 4000000
namespace K02
open PySem PySem.Spec PyProof.Rows L2 Evl NdefX
def numS (i : Nat) : Str := toString (i : Int)
def nums (n : Nat) : List Str := (List.range n).map numS
section
variable {P : Program} {w : World} {K : PySem.W.Frag} {mg : Str → Option Value} {base : Heap} {Ca Cc Cm Cs fm qm cm fs qs cs : Addr} {dm ds : FuncData}
/-- names, or BadAlgebra -/
def spNames (Ca : Addr) (top : Int) (nm : Nat → List Str) : Sp := fun vs H Q E => ∃ i : Int, vs = [.int i] ∧ ((1 ≤ i ∧ i ≤ top ∧ RetL ((nm i.toNat).map V.str) H Q) ∨ (¬ (1 ≤ i ∧ i ≤ top) ∧ E (.ref Ca) none H))
abbrev s__number_names : Stmt := top 25
abbrev N__number_names : List Str := ["count", "number"]
theorem sc__number_names : FnScope N__number_names ["count"] (defScope s__number_names) := ⟨rfl, rfl, rfl, by decide +kernel, rfl, by decide +kernel, by decide +kernel⟩
theorem ok_number_names {f : Addr} {fd : FuncData} (F : Fun K "_number_names" "_number_names" s__number_names f fd) (T : Blt mg) (U : ErrC P K mg Ca Cc Cm Cs fm qm cm fs qs cs dm ds) : FnOk P w K mg base (L2.CX P w) 1 f fd ["count"] (spNames Ca 6 nums) := by
  refine F.okX sc__number_names (fun vs H Q E h => ?_) (fun cdv A outer s H vs Q E hr h => ?_)
  · obtain ⟨i, rfl, _⟩ := h
    rfl
  · obtain ⟨i, rfl, k⟩ := h
    refine ⟨_, (pss_cons (ps_if (pt_not (pt_chain op_le op_le (pe_int) (pv 0) (C8.pe_gc rfl T.c_MOST_MEMBERS))) (pss_one (ps_raise rfl (takes_of rfl rfl rfl rfl) (U.xa.pmk (by rfl)))) pss_nil)
      (pss_one (ps_ret (pe_lc (own := [("number", 1)]) (g := gName 1) (by rfl) sc__number_names.nd (pi_range1 (by rfl) T.range (pa_cons (pv 0) pa_nil)) (blkOk_by (own := [("number", 1)]) (N := N__number_names) (sc := defScope s__number_names) (by decide +kernel)) (fun _ _ _ _ _ => pg_name (i := 1) sc__number_names.nd rfl (Or.inl rfl)) (fun _ _ _ _ _ => pts_nil) (fun _ _ _ _ _ => pe_callTy call_str_int (by rfl) T.str (by decide +kernel) (pa_cons (pv 1) pa_nil)))))), ?_⟩
    rcases k with ⟨c1, c2, k⟩ | ⟨c, k⟩
    · refine ⟨_, rfl, 1, _, rfl, rfl, _, rfl, if_true_of (decide_eq_true c1) ⟨_, _, rfl, rfl, _, rfl, if_false_of (by rw [decide_eq_true c2]; rfl) ?_⟩⟩
      unfold tNext tRet
      dsimp only
      refine lc_use (J := Itr 0 i.toNat) (H1 := H) (g := gName 1) (fun j => .str (numS j)) (fun R r => ⟨_, rfl, i, rfl, by omega, by omega, r⟩) walk_range (by omega) (fun _ _ => trivial) (fun _ _ _ _ _ z => z.1 ▸ Same.refl _) (fun j y H' H2 hj e z R q => ?_) (fun _ _ _ _ h z => gn_mono h z) (fun D H' hD e hd => ?_)
      · obtain ⟨rfl, hy⟩ := z
        have hy : y = .int (j : Int) := hy.trans (by show V.int (0 + (j : Int)) = _; rw [Int.zero_add])
        subst hy
        exact gN ⟨rfl, _, rfl, j, rfl, int_log (by omega) (by omega), q _ (Same.refl _)⟩
      · refine k D H' hD e ?_
        rw [hd]
        unfold nums
        rw [List.map_map]
        rfl
    · by_cases c1 : 1 ≤ i
      · have c2 : ¬ i ≤ 6 := fun z => c ⟨c1, z⟩
        exact ⟨_, rfl, 1, _, rfl, rfl, _, rfl, if_true_of (decide_eq_true c1) ⟨_, _, rfl, rfl, _, rfl, if_true_of (by rw [decide_eq_false c2]; rfl) k⟩⟩
      · exact ⟨_, rfl, 1, _, rfl, rfl, _, rfl, if_false_of (decide_eq_false c1) ⟨false, rfl, if_true_of rfl k⟩⟩
abbrev s__bit_names : Stmt := top 26
abbrev N__bit_names : List Str := ["count", "names", "_", "name", "bit"]
theorem sc__bit_names : FnScope N__bit_names ["count"] (defScope s__bit_names) := ⟨rfl, rfl, rfl, by decide +kernel, rfl, by decide +kernel, by decide +kernel⟩
def bits : Nat → List Str
  | 0 => [""]
  | n + 1 => (bits n).flatMap fun x => [x ++ "0", x ++ "1"]
theorem ok_bit_names {f : Addr} {fd : FuncData} (F : Fun K "_bit_names" "_bit_names" s__bit_names f fd) (T : Blt mg) (U : ErrC P K mg Ca Cc Cm Cs fm qm cm fs qs cs dm ds) : FnOk P w K mg base (L2.CX P w) 1 f fd ["count"] (spNames Ca 2 bits) := by
  refine F.okX sc__bit_names (fun vs H Q E h => ?_) (fun cdv A outer s H vs Q E hr h => ?_)
  · obtain ⟨i, rfl, _⟩ := h
    rfl
  · obtain ⟨i, rfl, k⟩ := h
    refine ⟨_, (pss_cons (ps_if (pt_not (pt_chain op_le op_le (pe_int) (pv 0) (C8.pe_gc rfl T.c_MOST_BITS))) (pss_one (ps_raise rfl (takes_of rfl rfl rfl rfl) (U.xa.pmk (by rfl)))) pss_nil)
      (pss_cons (ps_set (i := 1) sc__bit_names.nd rfl (Or.inl rfl) (pe_lst (pa_cons (pe_str) pa_nil)))
      (pss_cons (ps_for (passes_of rfl) rfl (pi_range1 (by rfl) T.range (pa_cons (pv 0) pa_nil)) (pg_name (i := 2) sc__bit_names.nd rfl (Or.inl rfl)) (pss_one (ps_setLc2 (i := 1) (own := [("name", 3), ("bit", 4)]) (vs1 := [4]) (g := gName 3) (g1 := gName 4) (by rfl) sc__bit_names.nd rfl rfl (sw_true rfl rfl rfl (by decide +kernel)) (pi_list (pv 1)) (blkOk_by (own := [("name", 3), ("bit", 4)]) (N := N__bit_names) (sc := defScope s__bit_names) (by decide +kernel)) (by decide) (fun _ _ _ _ _ => pg_name (i := 3) sc__bit_names.nd rfl (Or.inl rfl)) (fun _ _ _ _ _ => pts_nil) (fun _ _ _ _ _ => pi_str (pe_str)) (fun _ _ _ _ _ => pg_name (i := 4) sc__bit_names.nd rfl (Or.inl rfl)) (fun _ _ _ _ _ => pts_nil) (fun _ _ _ _ _ => pe_op op_add_str (pv 3) (pv 4)))))
      (pss_one (ps_ret (pv 1)))))), ?_⟩
    rcases k with ⟨c1, c2, k⟩ | ⟨c, k⟩
    · refine ⟨_, rfl, 1, _, rfl, rfl, _, rfl, if_true_of (decide_eq_true c1) ⟨_, _, rfl, rfl, _, rfl, if_false_of (by rw [decide_eq_true c2]; rfl) ?_⟩⟩
      have ri : ∀ j : Nat, (j : Int) < i → j = 0 ∨ j = 1 := fun j h => by omega
      refine ⟨by show 1 ≤ sizeLine; decide, fun l0 nl0 => ?_⟩
      obtain ⟨H1, eG, s1, hl0⟩ := put_new (o := .lst [.str ""]) nl0
      refine gN ?_
      rw [eG]
      clear eG
      refine ⟨_, rfl, i, rfl, by omega, by omega, for_range (lo := 0) (n := i.toNat) (fun j σ' H' => ∃ (l : Addr) (v2 : Option V), σ' = [some (.int i), some (.ref l), v2, none, none] ∧ Same H H' ∧ H l = none ∧ H' l = some (.lst ((bits j).map V.str))) ⟨l0, none, rfl, s1, nl0, hl0⟩ (fun j σ' H' hj p => ?_) (fun σ' H' p => ?_)⟩
      · obtain ⟨l, v2, rfl, s2, nl, hl⟩ := p
        have hj2 := ri j (by omega)
        have hlen : ∀ x ∈ bits j, x.length ≤ 2 := by
          rcases hj2 with rfl | rfl
          · decide +kernel
          · decide +kernel
        have hb : (bits j).length ≤ 100 := by
          rcases hj2 with rfl | rfl
          · decide +kernel
          · decide +kernel
        have hm : ((bits j).map V.str).length = (bits j).length := List.length_map _
        refine gN ?_
        unfold tAsg
        refine lc2_use (J := Itl K l) (H1 := H') (fun _ => 2) (fun a b => .str ((bits j).getD a Str.empty ++ (if b = 0 then "0" else "1"))) (fun R r => ⟨_, rfl, l, rfl, ⟨_, SqL.of hl⟩, r⟩) (walk_list (xs := (bits j).map V.str)) (by rw [hm]; exact hb) (fun _ => by decide) (fun H2 e => e.seq (SqL.of hl)) (fun a H2 x H3 _ z => z.1 ▸ Same.refl _) (fun _ => rfl) (fun a x H2 H3 ha e z => ?_) (fun D H2 hD e hd => ?_)
        · obtain ⟨rfl, hx⟩ := z
          rw [hm] at ha
          rw [List.getElem?_map, List.getElem?_eq_getElem ha] at hx
          obtain rfl : V.str (bits j)[a] = x := Option.some.inj hx
          refine ⟨Its "01", fun _ => True, _, walk_str (z := "01"), fun _ _ => trivial, fun b H4 y H5 _ z => z.1 ▸ Same.refl _, fun R r => ⟨"01", rfl, r⟩, fun b y H4 H5 hb e4 z => ⟨rfl, fun R q => ?_⟩⟩
          obtain ⟨rfl, ch, hc, rfl⟩ := z
          have eg : (bits j).getD a Str.empty = (bits j)[a] := getD_at ha
          have hb2 : b = 0 ∨ b = 1 := by omega
          have ec : (⟨#[ch]⟩ : Str) = Str.ofString (if b = 0 then "0" else "1") := by
            rcases hb2 with rfl | rfl
            · have : ((#[48, 49] : Array Nat))[0]? = some ch := hc
              obtain rfl : 48 = ch := by simpa using this
              decide +kernel
            · have : ((#[48, 49] : Array Nat))[1]? = some ch := hc
              obtain rfl : 49 = ch := by simpa using this
              decide +kernel
          have z := q H5 (Same.refl _)
          rw [eg, ← ec] at z
          have := hlen _ (List.getElem_mem ha)
          exact ⟨_, rfl, _, rfl, _, _, rfl, rfl, by show _ + 1 ≤ sizeLine; rw [sizeLine_eq]; omega, z⟩
        · refine gN ⟨D, _, rfl, s2.trans e, s2.free hD, ?_⟩
          rw [hd, hm]
          have key : flat2 (fun _ => 2) (fun a b => V.str ((bits j).getD a Str.empty ++ (if b = 0 then "0" else "1"))) (bits j).length = (bits (j + 1)).map V.str := by
            rcases hj2 with rfl | rfl
            · decide +kernel
            · decide +kernel
          rw [key]
      · obtain ⟨l, v2, rfl, s2, nl, hl⟩ := p
        exact ⟨_, rfl, k l H' nl s2 hl⟩
    · by_cases c1 : 1 ≤ i
      · have c2 : ¬ i ≤ 2 := fun z => c ⟨c1, z⟩
        exact ⟨_, rfl, 1, _, rfl, rfl, _, rfl, if_true_of (decide_eq_true c1) ⟨_, _, rfl, rfl, _, rfl, if_true_of (by rw [decide_eq_false c2]; rfl) k⟩⟩
      · exact ⟨_, rfl, 1, _, rfl, rfl, _, rfl, if_false_of (decide_eq_false c1) ⟨false, rfl, if_true_of rfl k⟩⟩
end
end K02


set_option Elab.async false
set_option linter.all false
set_option maxRecDepth 100000
set_option maxHeartbeats 4000000
namespace K02
open PySem PySem.Spec PyProof.Rows L2 Evl NdefX
def goodMB (xs : List Str) : Bool := decide (1 ≤ xs.length) && decide (xs.length ≤ 6) && xs.all plainB && decide xs.Nodup
def goodOB (xs : List Str) (os : List Opn) : Bool := decide (os.length ≤ 5) && os.all (fun o => wordB o.1) && decide (os.map (·.1)).Nodup && os.all fun o => decide (o.2.1 ≤ 2) && decide (o.2.2.length = xs.length ^ o.2.1) && o.2.2.all fun y => decide (y ∈ xs)
theorem goodM_of {xs : List Str} (h : goodMB xs = true) : GoodM xs := by
  unfold goodMB at h
  simp only [Bool.and_eq_true, decide_eq_true_eq, List.all_eq_true] at h
  exact ⟨h.1.1.1, h.1.1.2, h.1.2, h.2⟩
theorem goodO_of {xs : List Str} {os : List Opn} (h : goodOB xs os = true) : GoodO xs os := by
  unfold goodOB at h
  simp only [Bool.and_eq_true, decide_eq_true_eq, List.all_eq_true] at h
  exact ⟨h.1.1.1, h.1.1.2, h.1.2, fun o ho => ⟨(h.2 o ho).1.1, (h.2 o ho).1.2, (h.2 o ho).2⟩⟩
def at_ (xs : List Str) (i : Nat) : Str := xs.getD i Str.empty
/-- all pairs of places, in order -/
def sq (n : Nat) (f : Nat → Nat → Str) : List Str := (List.range n).flatMap fun i => (List.range n).map (f i)
def turnO (n : Nat) : List Opn := [("add", 2, sq n fun i j => at_ (nums n) ((i + j) % n)), ("back", 1, (List.range n).map fun i => at_ (nums n) ((n - i) % n)), ("zero", 0, (nums n).take 1)]
def chainO (n : Nat) : List Opn := [("low", 2, sq n fun i j => at_ (nums n) (min i j)), ("high", 2, sq n fun i j => at_ (nums n) (max i j))]
def pickO (n : Nat) : List Opn := [("pick", 2, sq n fun i _ => at_ (nums n) i)]
theorem sq_map (n : Nat) (f : Nat → Nat → Str) : flat2 (fun _ => n) (fun i j => V.str (f i j)) n = (sq n f).map V.str := by
  unfold flat2 sq
  rw [List.map_flatMap]
  congr 1
  funext i
  rw [List.map_map]
  rfl
theorem turn_good : ∀ n, n < 7 → 1 ≤ n → goodMB (nums n) = true ∧ goodOB (nums n) (turnO n) = true ∧ cutV ((nums n).map V.str) none (some 1) = ((nums n).take 1).map V.str := by decide +kernel
section
variable {P : Program} {w : World} {K : PySem.W.Frag} {mg : Str → Option Value} {base : Heap} {Ca Cc Cm Cs fm qm cm fs qs cs : Addr} {dm ds : FuncData}
/-- an algebra of a family, or BadAlgebra -/
def spFam (C Ca : Addr) (top : Int) (xs : Nat → List Str) (os : Nat → List Opn) : Sp := fun vs H Q E => ∃ (x dx : Addr) (i : Int), vs = [.ref x, .int i] ∧ H x = some (.ins C dx []) ∧
  ((1 ≤ i ∧ i ≤ top ∧ ∀ H', Off x H H' → AlgAt C x (xs i.toNat) (os i.toNat) H' → Q .non H') ∨ (¬ (1 ≤ i ∧ i ≤ top) ∧ E (.ref Ca) none H))
theorem off_same {x : Addr} {H H1 H2 : Hp} (e : Same H H1) (h : Off x H1 H2) : Off x H H2 := fun y o q ne => h y o (e _ _ q) ne
abbrev s_TurnAlgebra___init__ : Stmt := inClass (top 18) 0
abbrev N_TurnAlgebra___init__ : List Str := ["self", "count", "names", "places", "sums", "backs", "one", "two"]
theorem sc_TurnAlgebra___init__ : FnScope N_TurnAlgebra___init__ ["self", "count"] (defScope s_TurnAlgebra___init__) := ⟨rfl, rfl, rfl, by decide +kernel, rfl, by decide +kernel, by decide +kernel⟩
theorem ok_turn {C CA f fA : Addr} {mc : Value} {fd fdA : FuncData} (F : Fun K "__init__" "TurnAlgebra.__init__" s_TurnAlgebra___init__ f fd) (T : Blt mg) (gA : mg "Algebra" = some (.ref CA)) (cf : CFn K CA mc "__init__" fA) (FA : FnOk P w K mg base (L2.CX P w) 4 fA fdA ["self", "members", "operations"] (spAlg K C)) (bA : Binds K fdA ["self", "members", "operations"] [])
    (c__number_names : Cal P w K mg base 1 "_number_names" ["count"] (spNames Ca 6 nums)) : FnOk P w K mg base (L2.CX P w) 5 f fd ["self", "count"] (spFam C Ca 6 nums turnO) := by
  refine F.okX sc_TurnAlgebra___init__ (fun vs H Q E h => ?_) (fun cdv A outer s H vs Q E hr h => ?_)
  · obtain ⟨x, dx, i, rfl, _⟩ := h
    rfl
  · obtain ⟨x, dx, i, rfl, hx, k⟩ := h
    refine ⟨_, (pss_cons (ps_set (i := 2) sc_TurnAlgebra___init__.nd rfl (Or.inr rfl) (pe_calE (E := E) c__number_names (hr.mono (by decide)) (by rfl) (passes_call (takes_of rfl rfl rfl rfl) (fun _ _ _ _ z => z)) (pa_cons (pv 1) pa_nil)))
      (pss_cons (ps_set (i := 3) sc_TurnAlgebra___init__.nd rfl (Or.inr rfl) (pe_callTy cr_range1 (by rfl) T.range (by decide +kernel) (pa_cons (pv 1) pa_nil)))
      (pss_cons (ps_setLc2 (i := 4) (own := [("one", 6), ("two", 7)]) (vs1 := [7]) (g := gName 6) (g1 := gName 7) (by rfl) sc_TurnAlgebra___init__.nd rfl rfl (sw_true rfl rfl rfl (by decide +kernel)) (pi_rngV (pv 3)) (blkOk_by (own := [("one", 6), ("two", 7)]) (N := N_TurnAlgebra___init__) (sc := defScope s_TurnAlgebra___init__) (by decide +kernel)) (by decide) (fun _ _ _ _ _ => pg_name (i := 6) sc_TurnAlgebra___init__.nd rfl (Or.inl rfl)) (fun _ _ _ _ _ => pts_nil) (fun _ _ _ _ _ => pi_rngV (pv 3)) (fun _ _ _ _ _ => pg_name (i := 7) sc_TurnAlgebra___init__.nd rfl (Or.inl rfl)) (fun _ _ _ _ _ => pts_nil) (fun _ _ _ _ _ => pe_ix (ix_listK K) (pv 2) (pe_op op_mod (pe_op op_add (pv 6) (pv 7)) (pv 1)) (fun _ _ => rfl)))
      (pss_cons (ps_setLc (i := 5) (own := [("one", 6)]) (g := gName 6) (by rfl) sc_TurnAlgebra___init__.nd rfl rfl (sw_true rfl rfl rfl (by decide +kernel)) (pi_rngV (pv 3)) (blkOk_by (own := [("one", 6)]) (N := N_TurnAlgebra___init__) (sc := defScope s_TurnAlgebra___init__) (by decide +kernel)) (fun _ _ _ _ _ => pg_name (i := 6) sc_TurnAlgebra___init__.nd rfl (Or.inl rfl)) (fun _ _ _ _ _ => pts_nil) (fun _ _ _ _ _ => pe_ix (ix_listK K) (pv 2) (pe_op op_mod (pe_op op_sub (pv 1) (pv 6)) (pv 1)) (fun _ _ => rfl)))
      (pss_one (ps_expr (pe_clsfn (pe_gref rfl gA) cf FA (hr.mono (by decide)) bA passL (pa_cons (pv 0) (pa_cons (pv 2) (pa_cons (pe_lst (pa_cons (pe_tup (pa_cons (pe_str) (pa_cons (pe_int) (pa_cons (pv 4) pa_nil)))) (pa_cons (pe_tup (pa_cons (pe_str) (pa_cons (pe_int) (pa_cons (pv 5) pa_nil)))) (pa_cons (pe_tup (pa_cons (pe_str) (pa_cons (pe_int) (pa_cons (pe_slice (sl_listK K) (pv 2) po_none (po_some (pe_int))) pa_nil)))) pa_nil)))) pa_nil)))))))))), ?_⟩
    rcases k with ⟨c1, c2, k⟩ | ⟨c, k⟩
    · obtain ⟨n, rfl⟩ := Int.eq_ofNat_of_zero_le (show 0 ≤ i by omega)
      have hn1 : 1 ≤ n := by omega
      have hn6 : n ≤ 6 := by omega
      have e0 : ((n : Int) - 0).toNat = n := by omega
      refine ⟨_, rfl, n, rfl, .inl ⟨c1, c2, fun nm H1 nnm s1 hnm => ?_⟩⟩
      have ln : (nums n).length = n := by unfold nums; rw [List.length_map, List.length_range]
      refine gN ⟨_, rfl, n, rfl, fun rg nrg => ?_⟩
      obtain ⟨H2, eG, s2, hrg⟩ := put_new (o := .rng 0 (n : Int)) nrg
      refine gN ?_
      rw [eG]
      clear eG
      have hnm2 := s2 _ _ hnm
      have item : ∀ {H' : Hp} {j : Nat}, Same H2 H' → j < n → SqL K H' nm ((nums n).map V.str) ∧ atI ((nums n).map V.str) (j : Int) = some (.str (at_ (nums n) j)) := fun e hj => ⟨e.seq (SqL.of hnm2), atI_nat (by
        rw [List.getElem?_map, List.getElem?_eq_getElem (by rw [ln]; exact hj)]
        unfold at_
        rw [getD_at (by rw [ln]; exact hj)]
        rfl)⟩
      -- sums
      unfold tSeq tAsg
      dsimp only
      refine lc2_use (J := Itr 0 ((n : Int) - 0).toNat) (H1 := H2) (fun _ => ((n : Int) - 0).toNat) (fun a b => .str (at_ (nums n) ((a + b) % n))) (fun R r => ⟨_, rfl, rg, 0, n, rfl, hrg, ⟨by omega, by omega, by omega, by omega⟩, r⟩) walk_range (by omega) (fun _ => by omega) (fun _ _ => trivial) (fun _ _ _ _ _ z => z.1 ▸ Same.refl _) (fun _ => rfl) (fun a y H' H3 ha e z => ?_) (fun sm H3 nsm s3 hsm => ?_)
      · obtain ⟨rfl, rfl⟩ := z
        refine ⟨Itr 0 ((n : Int) - 0).toNat, fun _ => True, _, walk_range, fun _ _ => trivial, fun _ _ _ _ _ z => z.1 ▸ Same.refl _, fun R r => ⟨_, rfl, rg, 0, n, rfl, e _ _ hrg, ⟨by omega, by omega, by omega, by omega⟩, r⟩, fun b y H4 H5 hb e4 z => ⟨rfl, fun R q => ?_⟩⟩
        obtain ⟨rfl, rfl⟩ := z
        have hm : (a + b) % n < n := Nat.mod_lt _ (by omega)
        obtain ⟨i1, i2⟩ := item e4 hm
        refine ⟨_, rfl, _, rfl, _, rfl, _, _, rfl, rfl, _, rfl, _, _, rfl, rfl, by omega, nm, _, _, _, rfl, rfl, i1, ?_, q _ (Same.refl _)⟩
        have ec : ((0 : Int) + (a : Int) + (0 + (b : Int))) % (n : Int) = ((a + b) % n : Nat) := by rw [Int.zero_add, Int.zero_add, ← Int.natCast_add, ← Int.natCast_emod]
        rw [ec]
        exact i2
      rw [e0, sq_map] at hsm
      refine gN ?_
      -- backs
      refine lc_use (J := Itr 0 ((n : Int) - 0).toNat) (H1 := H3) (g := gName 6) (fun a => .str (at_ (nums n) ((n - a) % n))) (fun R r => ⟨_, rfl, rg, 0, n, rfl, s3 _ _ hrg, ⟨by omega, by omega, by omega, by omega⟩, r⟩) walk_range (by omega) (fun _ _ => trivial) (fun _ _ _ _ _ z => z.1 ▸ Same.refl _) (fun a y H' H4 ha e z R q => ?_) (fun _ _ _ _ h z => gn_mono h z) (fun bk H4 nbk s4 hbk => ?_)
      · obtain ⟨rfl, rfl⟩ := z
        have hm : (n - a) % n < n := Nat.mod_lt _ (by omega)
        obtain ⟨i1, i2⟩ := item (s3.trans e) hm
        refine gN ⟨rfl, _, rfl, _, rfl, _, rfl, _, _, rfl, rfl, _, rfl, _, _, rfl, rfl, by omega, nm, _, _, _, rfl, rfl, i1, ?_, q _ (Same.refl _)⟩
        have ec : ((n : Int) - (0 + (a : Int))) % (n : Int) = ((n - a) % n : Nat) := by rw [Int.zero_add, ← Int.natCast_sub (by omega), ← Int.natCast_emod]
        rw [ec]
        exact i2
      rw [e0] at hbk
      refine gN ?_
      rw [Int.toNat_natCast] at k
      obtain ⟨g1, g2, g3⟩ := turn_good n (by omega) hn1
      have s24 := s3.trans s4
      have e2 : Same H H4 := (Same.trans s1 s2).trans s24
      refine ⟨rfl, _, rfl, _, rfl, _, rfl, by show 3 ≤ sizeLine; decide, fun t1 n1 => ?_⟩
      obtain ⟨H5, eG, s5, ht1⟩ := put_new (o := .tup [.str "add", .int 2, .ref sm]) n1
      rw [eG]
      clear eG
      refine ⟨_, rfl, by show 3 ≤ sizeLine; decide, fun t2 n2 => ?_⟩
      obtain ⟨H6, eG, s6, ht2⟩ := put_new (o := .tup [.str "back", .int 1, .ref bk]) n2
      rw [eG]
      clear eG
      refine ⟨_, rfl, 1, rfl, nm, _, rfl, SqL.of (s6 _ _ (s5 _ _ (s24 _ _ hnm2))), fun zr nzr => ?_⟩
      rw [Int.toNat_natCast, g3]
      obtain ⟨H7, eG, s7, hzr⟩ := put_new (o := .lst (((nums n).take 1).map V.str)) nzr
      rw [eG]
      clear eG
      refine ⟨by show 3 ≤ sizeLine; decide, fun t3 n3 => ?_⟩
      obtain ⟨H8, eG, s8, ht3⟩ := put_new (o := .tup [.str "zero", .int 0, .ref zr]) n3
      rw [eG]
      clear eG
      refine ⟨by show 3 ≤ sizeLine; decide, fun ol nol => ?_⟩
      obtain ⟨H9, eG, s9, hol⟩ := put_new (o := .lst [.ref t1, .ref t2, .ref t3]) nol
      rw [eG]
      clear eG
      have u5 := ((s5.trans s6).trans s7).trans (s8.trans s9)
      have u6 := (s6.trans s7).trans (s8.trans s9)
      have u7 := s7.trans (s8.trans s9)
      have u8 := s8.trans s9
      have e9 := e2.trans u5
      refine ⟨x, nm, ol, dx, nums n, turnO n, rfl, e9 _ _ hx, SqL.of (u5 _ _ (s24 _ _ hnm2)), ⟨[t1, t2, t3], SqL.of hol, ?_⟩, goodM_of g1, goodO_of g2, fun H' off al => k H' (off_same e9 off) al⟩
      refine .cons ⟨sm, SqT.of (u6 _ _ ht1), SqL.of (u5 _ _ (s4 _ _ hsm))⟩ (.cons ⟨bk, SqT.of (u7 _ _ ht2), SqL.of ?_⟩ (.cons ⟨zr, SqT.of (s9 _ _ ht3), SqL.of (u8 _ _ hzr)⟩ .nil))
      rw [List.map_map]
      exact u5 _ _ hbk
    · exact ⟨_, rfl, i, rfl, .inr ⟨c, k⟩⟩
end
end K02


set_option Elab.async false
set_option linter.all false
set_option maxRecDepth 100000
set_option maxHeartbeats 4000000
namespace K02
open PySem PySem.Spec PyProof.Rows L2 Evl NdefX
theorem chain_good : ∀ n, n < 7 → 1 ≤ n → goodMB (nums n) = true ∧ goodOB (nums n) (chainO n) = true := by decide +kernel
theorem pick_good : ∀ n, n < 7 → 1 ≤ n → goodMB (nums n) = true ∧ goodOB (nums n) (pickO n) = true := by decide +kernel
section
variable {P : Program} {w : World} {K : PySem.W.Frag} {mg : Str → Option Value} {base : Heap} {Ca Cc Cm Cs fm qm cm fs qs cs : Addr} {dm ds : FuncData}
abbrev s_ChainAlgebra___init__ : Stmt := inClass (top 19) 0
abbrev N_ChainAlgebra___init__ : List Str := ["self", "count", "names", "places", "lows", "highs", "one", "two"]
theorem sc_ChainAlgebra___init__ : FnScope N_ChainAlgebra___init__ ["self", "count"] (defScope s_ChainAlgebra___init__) := ⟨rfl, rfl, rfl, by decide +kernel, rfl, by decide +kernel, by decide +kernel⟩
theorem ok_chain {C CA f fA : Addr} {mc : Value} {fd fdA : FuncData} (F : Fun K "__init__" "ChainAlgebra.__init__" s_ChainAlgebra___init__ f fd) (T : Blt mg) (gA : mg "Algebra" = some (.ref CA)) (cf : CFn K CA mc "__init__" fA) (FA : FnOk P w K mg base (L2.CX P w) 4 fA fdA ["self", "members", "operations"] (spAlg K C)) (bA : Binds K fdA ["self", "members", "operations"] [])
    (c__number_names : Cal P w K mg base 1 "_number_names" ["count"] (spNames Ca 6 nums)) : FnOk P w K mg base (L2.CX P w) 5 f fd ["self", "count"] (spFam C Ca 6 nums chainO) := by
  refine F.okX sc_ChainAlgebra___init__ (fun vs H Q E h => ?_) (fun cdv A outer s H vs Q E hr h => ?_)
  · obtain ⟨x, dx, i, rfl, _⟩ := h
    rfl
  · obtain ⟨x, dx, i, rfl, hx, k⟩ := h
    refine ⟨_, (pss_cons (ps_set (i := 2) sc_ChainAlgebra___init__.nd rfl (Or.inr rfl) (pe_calE (E := E) c__number_names (hr.mono (by decide)) (by rfl) (passes_call (takes_of rfl rfl rfl rfl) (fun _ _ _ _ z => z)) (pa_cons (pv 1) pa_nil)))
      (pss_cons (ps_set (i := 3) sc_ChainAlgebra___init__.nd rfl (Or.inr rfl) (pe_callTy cr_range1 (by rfl) T.range (by decide +kernel) (pa_cons (pv 1) pa_nil)))
      (pss_cons (ps_setLc2 (i := 4) (own := [("one", 6), ("two", 7)]) (vs1 := [7]) (g := gName 6) (g1 := gName 7) (by rfl) sc_ChainAlgebra___init__.nd rfl rfl (sw_true rfl rfl rfl (by decide +kernel)) (pi_rngV (pv 3)) (blkOk_by (own := [("one", 6), ("two", 7)]) (N := N_ChainAlgebra___init__) (sc := defScope s_ChainAlgebra___init__) (by decide +kernel)) (by decide) (fun _ _ _ _ _ => pg_name (i := 6) sc_ChainAlgebra___init__.nd rfl (Or.inl rfl)) (fun _ _ _ _ _ => pts_nil) (fun _ _ _ _ _ => pi_rngV (pv 3)) (fun _ _ _ _ _ => pg_name (i := 7) sc_ChainAlgebra___init__.nd rfl (Or.inl rfl)) (fun _ _ _ _ _ => pts_nil) (fun _ _ _ _ _ => pe_ix (ix_listK K) (pv 2) (pe_callB (call_min2 rfl) (by rfl) T.min (by decide +kernel) (pa_cons (pv 6) (pa_cons (pv 7) pa_nil))) (fun _ _ => rfl)))
      (pss_cons (ps_setLc2 (i := 5) (own := [("one", 6), ("two", 7)]) (vs1 := [7]) (g := gName 6) (g1 := gName 7) (by rfl) sc_ChainAlgebra___init__.nd rfl rfl (sw_true rfl rfl rfl (by decide +kernel)) (pi_rngV (pv 3)) (blkOk_by (own := [("one", 6), ("two", 7)]) (N := N_ChainAlgebra___init__) (sc := defScope s_ChainAlgebra___init__) (by decide +kernel)) (by decide) (fun _ _ _ _ _ => pg_name (i := 6) sc_ChainAlgebra___init__.nd rfl (Or.inl rfl)) (fun _ _ _ _ _ => pts_nil) (fun _ _ _ _ _ => pi_rngV (pv 3)) (fun _ _ _ _ _ => pg_name (i := 7) sc_ChainAlgebra___init__.nd rfl (Or.inl rfl)) (fun _ _ _ _ _ => pts_nil) (fun _ _ _ _ _ => pe_ix (ix_listK K) (pv 2) (pe_callB (call_max2 rfl) (by rfl) T.max (by decide +kernel) (pa_cons (pv 6) (pa_cons (pv 7) pa_nil))) (fun _ _ => rfl)))
      (pss_one (ps_expr (pe_clsfn (pe_gref rfl gA) cf FA (hr.mono (by decide)) bA passL (pa_cons (pv 0) (pa_cons (pv 2) (pa_cons (pe_lst (pa_cons (pe_tup (pa_cons (pe_str) (pa_cons (pe_int) (pa_cons (pv 4) pa_nil)))) (pa_cons (pe_tup (pa_cons (pe_str) (pa_cons (pe_int) (pa_cons (pv 5) pa_nil)))) pa_nil))) pa_nil)))))))))), ?_⟩
    rcases k with ⟨c1, c2, k⟩ | ⟨c, k⟩
    · obtain ⟨n, rfl⟩ := Int.eq_ofNat_of_zero_le (show 0 ≤ i by omega)
      have hn1 : 1 ≤ n := by omega
      have hn6 : n ≤ 6 := by omega
      have e0 : ((n : Int) - 0).toNat = n := by omega
      refine ⟨_, rfl, n, rfl, .inl ⟨c1, c2, fun nm H1 nnm s1 hnm => ?_⟩⟩
      have ln : (nums n).length = n := by unfold nums; rw [List.length_map, List.length_range]
      refine gN ⟨_, rfl, n, rfl, fun rg nrg => ?_⟩
      obtain ⟨H2, eG, s2, hrg⟩ := put_new (o := .rng 0 (n : Int)) nrg
      refine gN ?_
      rw [eG]
      clear eG
      have hnm2 := s2 _ _ hnm
      have item : ∀ {H' : Hp} {j : Nat}, Same H2 H' → j < n → SqL K H' nm ((nums n).map V.str) ∧ atI ((nums n).map V.str) (j : Int) = some (.str (at_ (nums n) j)) := fun e hj => ⟨e.seq (SqL.of hnm2), atI_nat (by
        rw [List.getElem?_map, List.getElem?_eq_getElem (by rw [ln]; exact hj)]
        unfold at_
        rw [getD_at (by rw [ln]; exact hj)]
        rfl)⟩
      unfold tSeq tAsg
      dsimp only
      refine lc2_use (J := Itr 0 ((n : Int) - 0).toNat) (H1 := H2) (fun _ => ((n : Int) - 0).toNat) (fun a b => .str (at_ (nums n) (min a b))) (fun R r => ⟨_, rfl, rg, 0, n, rfl, hrg, ⟨by omega, by omega, by omega, by omega⟩, r⟩) walk_range (by omega) (fun _ => by omega) (fun _ _ => trivial) (fun _ _ _ _ _ z => z.1 ▸ Same.refl _) (fun _ => rfl) (fun a y H' H3 ha e z => ?_) (fun sm H3 nsm s3 hsm => ?_)
      · obtain ⟨rfl, rfl⟩ := z
        refine ⟨Itr 0 ((n : Int) - 0).toNat, fun _ => True, _, walk_range, fun _ _ => trivial, fun _ _ _ _ _ z => z.1 ▸ Same.refl _, fun R r => ⟨_, rfl, rg, 0, n, rfl, e _ _ (hrg), ⟨by omega, by omega, by omega, by omega⟩, r⟩, fun b y H4 H5 hb e4 z => ⟨rfl, fun R q => ?_⟩⟩
        obtain ⟨rfl, rfl⟩ := z
        have hm : min a b < n := by omega
        obtain ⟨i1, i2⟩ := item (e4) hm
        refine ⟨_, rfl, _, rfl, _, rfl, _, _, rfl, nm, _, _, _, rfl, rfl, i1, ?_, q _ (Same.refl _)⟩
        have ec : (if (0 : Int) + (b : Int) < 0 + (a : Int) then (0 : Int) + (b : Int) else 0 + (a : Int)) = (min a b : Nat) := by split <;> omega
        rw [ec]
        exact i2
      rw [e0, sq_map] at hsm
      refine gN ?_
      refine lc2_use (J := Itr 0 ((n : Int) - 0).toNat) (H1 := H3) (fun _ => ((n : Int) - 0).toNat) (fun a b => .str (at_ (nums n) (max a b))) (fun R r => ⟨_, rfl, rg, 0, n, rfl, s3 _ _ hrg, ⟨by omega, by omega, by omega, by omega⟩, r⟩) walk_range (by omega) (fun _ => by omega) (fun _ _ => trivial) (fun _ _ _ _ _ z => z.1 ▸ Same.refl _) (fun _ => rfl) (fun a y H' H3 ha e z => ?_) (fun bk H4 nbk s4 hbk => ?_)
      · obtain ⟨rfl, rfl⟩ := z
        refine ⟨Itr 0 ((n : Int) - 0).toNat, fun _ => True, _, walk_range, fun _ _ => trivial, fun _ _ _ _ _ z => z.1 ▸ Same.refl _, fun R r => ⟨_, rfl, rg, 0, n, rfl, e _ _ (s3 _ _ hrg), ⟨by omega, by omega, by omega, by omega⟩, r⟩, fun b y H4 H5 hb e4 z => ⟨rfl, fun R q => ?_⟩⟩
        obtain ⟨rfl, rfl⟩ := z
        have hm : max a b < n := by omega
        obtain ⟨i1, i2⟩ := item ((s3.trans e4)) hm
        refine ⟨_, rfl, _, rfl, _, rfl, _, _, rfl, nm, _, _, _, rfl, rfl, i1, ?_, q _ (Same.refl _)⟩
        have ec : (if (0 : Int) + (b : Int) > 0 + (a : Int) then (0 : Int) + (b : Int) else 0 + (a : Int)) = (max a b : Nat) := by split <;> omega
        rw [ec]
        exact i2
      rw [e0, sq_map] at hbk
      refine gN ?_
      rw [Int.toNat_natCast] at k
      obtain ⟨g1, g2⟩ := chain_good n (by omega) hn1
      have s24 := s3.trans s4
      have e2 : Same H H4 := (Same.trans s1 s2).trans s24
      refine ⟨rfl, _, rfl, _, rfl, _, rfl, by show 3 ≤ sizeLine; decide, fun t1 n1 => ?_⟩
      obtain ⟨H5, eG, s5, ht1⟩ := put_new (o := .tup [.str "low", .int 2, .ref sm]) n1
      rw [eG]
      clear eG
      refine ⟨_, rfl, by show 3 ≤ sizeLine; decide, fun t2 n2 => ?_⟩
      obtain ⟨H6, eG, s6, ht2⟩ := put_new (o := .tup [.str "high", .int 2, .ref bk]) n2
      rw [eG]
      clear eG
      refine ⟨by show 2 ≤ sizeLine; decide, fun ol nol => ?_⟩
      obtain ⟨H9, eG, s9, hol⟩ := put_new (o := .lst [.ref t1, .ref t2]) nol
      rw [eG]
      clear eG
      have u5 := (s5.trans s6).trans s9
      have u6 := s6.trans s9
      have e9 := e2.trans u5
      refine ⟨x, nm, ol, dx, nums n, chainO n, rfl, e9 _ _ hx, SqL.of (by have z := u5 _ _ (s24 _ _ hnm2); rw [Int.toNat_natCast] at z; exact z), ⟨[t1, t2], SqL.of hol, ?_⟩, goodM_of g1, goodO_of g2, fun H' off al => k H' (off_same e9 off) al⟩
      exact .cons ⟨sm, SqT.of (u6 _ _ ht1), SqL.of (u5 _ _ (s4 _ _ hsm))⟩ (.cons ⟨bk, SqT.of (s9 _ _ ht2), SqL.of (u5 _ _ hbk)⟩ .nil)
    · exact ⟨_, rfl, i, rfl, .inr ⟨c, k⟩⟩
abbrev s_PickAlgebra___init__ : Stmt := inClass (top 20) 0
abbrev N_PickAlgebra___init__ : List Str := ["self", "count", "names", "picks", "one", "_"]
theorem sc_PickAlgebra___init__ : FnScope N_PickAlgebra___init__ ["self", "count"] (defScope s_PickAlgebra___init__) := ⟨rfl, rfl, rfl, by decide +kernel, rfl, by decide +kernel, by decide +kernel⟩
theorem ok_pick1 {C CA f fA : Addr} {mc : Value} {fd fdA : FuncData} (F : Fun K "__init__" "PickAlgebra.__init__" s_PickAlgebra___init__ f fd) (T : Blt mg) (gA : mg "Algebra" = some (.ref CA)) (cf : CFn K CA mc "__init__" fA) (FA : FnOk P w K mg base (L2.CX P w) 4 fA fdA ["self", "members", "operations"] (spAlg K C)) (bA : Binds K fdA ["self", "members", "operations"] [])
    (c__number_names : Cal P w K mg base 1 "_number_names" ["count"] (spNames Ca 6 nums)) : FnOk P w K mg base (L2.CX P w) 5 f fd ["self", "count"] (spFam C Ca 6 nums pickO) := by
  refine F.okX sc_PickAlgebra___init__ (fun vs H Q E h => ?_) (fun cdv A outer s H vs Q E hr h => ?_)
  · obtain ⟨x, dx, i, rfl, _⟩ := h
    rfl
  · obtain ⟨x, dx, i, rfl, hx, k⟩ := h
    refine ⟨_, (pss_cons (ps_set (i := 2) sc_PickAlgebra___init__.nd rfl (Or.inr rfl) (pe_calE (E := E) c__number_names (hr.mono (by decide)) (by rfl) (passes_call (takes_of rfl rfl rfl rfl) (fun _ _ _ _ z => z)) (pa_cons (pv 1) pa_nil)))
      (pss_cons (ps_setLc2 (i := 3) (own := [("one", 4), ("_", 5)]) (vs1 := [5]) (g := gName 4) (g1 := gName 5) (by rfl) sc_PickAlgebra___init__.nd rfl rfl (sw_true rfl rfl rfl (by decide +kernel)) (pi_list (pv 2)) (blkOk_by (own := [("one", 4), ("_", 5)]) (N := N_PickAlgebra___init__) (sc := defScope s_PickAlgebra___init__) (by decide +kernel)) (by decide) (fun _ _ _ _ _ => pg_name (i := 4) sc_PickAlgebra___init__.nd rfl (Or.inl rfl)) (fun _ _ _ _ _ => pts_nil) (fun _ _ _ _ _ => by exact pi_listK K (pv 2)) (fun _ _ _ _ _ => pg_name (i := 5) sc_PickAlgebra___init__.nd rfl (Or.inl rfl)) (fun _ _ _ _ _ => pts_nil) (fun _ _ _ _ _ => pv 4))
      (pss_one (ps_expr (pe_clsfn (pe_gref rfl gA) cf FA (hr.mono (by decide)) bA passL (pa_cons (pv 0) (pa_cons (pv 2) (pa_cons (pe_lst (pa_cons (pe_tup (pa_cons (pe_str) (pa_cons (pe_int) (pa_cons (pv 3) pa_nil)))) pa_nil)) pa_nil)))))))), ?_⟩
    rcases k with ⟨c1, c2, k⟩ | ⟨c, k⟩
    · obtain ⟨n, rfl⟩ := Int.eq_ofNat_of_zero_le (show 0 ≤ i by omega)
      have hn1 : 1 ≤ n := by omega
      have hn6 : n ≤ 6 := by omega
      have e0 : ((n : Int) - 0).toNat = n := by omega
      refine ⟨_, rfl, n, rfl, .inl ⟨c1, c2, fun nm H1 nnm s1 hnm => ?_⟩⟩
      have ln : (nums n).length = n := by unfold nums; rw [List.length_map, List.length_range]
      rw [Int.toNat_natCast] at k hnm
      obtain ⟨g1, g2⟩ := pick_good n (by omega) hn1
      have hm : ((nums n).map V.str).length = n := by rw [List.length_map]; exact ln
      refine gN ?_
      unfold tSeq tAsg
      dsimp only
      refine lc2_use (J := Itl K nm) (H1 := H1) (fun _ => n) (fun a b => .str (at_ (nums n) a)) (fun R r => ⟨_, rfl, nm, rfl, ⟨_, SqL.of hnm⟩, r⟩) (walk_list (xs := (nums n).map V.str)) (by rw [hm]; omega) (fun _ => by omega) (fun H2 e => e.seq (SqL.of hnm)) (fun a H2 x H3 _ z => z.1 ▸ Same.refl _) (fun _ => rfl) (fun a y H' H3 ha e z => ?_) (fun sm H3 nsm s3 hsm => ?_)
      · obtain ⟨rfl, hy⟩ := z
        have e3 : Same H1 H3 := e
        refine ⟨Itl K nm, fun H => SqL K H nm ((nums n).map V.str), YAt ((nums n).map V.str), by have w := walk_list (K := K) (a := nm) (xs := (nums n).map V.str); rw [hm] at w; exact w, fun H2 e => e.seq (SqL.of hnm), fun b H4 y2 H5 _ z => z.1 ▸ Same.refl _, fun R r => ⟨_, rfl, nm, rfl, ⟨_, e3.seq (SqL.of hnm)⟩, r⟩, fun b y2 H4 H5 hb e4 z => ⟨rfl, fun R q => ⟨_, rfl, ?_⟩⟩⟩
        obtain ⟨rfl, hy2⟩ := z
        rw [hm] at ha
        rw [List.getElem?_map, List.getElem?_eq_getElem (by rw [ln]; exact ha)] at hy
        obtain rfl := Option.some.inj hy
        have z := q H5 (Same.refl _)
        unfold at_ at z
        rw [getD_at (by rw [ln]; exact ha)] at z
        exact z
      rw [hm, sq_map n fun a _ => at_ (nums n) a] at hsm
      refine gN ?_
      have e2 : Same H H3 := Same.trans s1 s3
      refine ⟨rfl, _, rfl, _, rfl, _, rfl, by show 3 ≤ sizeLine; decide, fun t1 n1 => ?_⟩
      obtain ⟨H5, eG, s5, ht1⟩ := put_new (o := .tup [.str "pick", .int 2, .ref sm]) n1
      rw [eG]
      clear eG
      refine ⟨by show 1 ≤ sizeLine; decide, fun ol nol => ?_⟩
      obtain ⟨H9, eG, s9, hol⟩ := put_new (o := .lst [.ref t1]) nol
      rw [eG]
      clear eG
      have u5 := s5.trans s9
      have e9 := e2.trans u5
      refine ⟨x, nm, ol, dx, nums n, pickO n, rfl, e9 _ _ hx, SqL.of (u5 _ _ (s3 _ _ hnm)), ⟨[t1], SqL.of hol, ?_⟩, goodM_of g1, goodO_of g2, fun H' off al => k H' (off_same e9 off) al⟩
      exact .cons ⟨sm, SqT.of (s9 _ _ ht1), SqL.of (u5 _ _ hsm)⟩ .nil
    · exact ⟨_, rfl, i, rfl, .inr ⟨c, k⟩⟩
end
end K02


set_option Elab.async false
set_option linter.all false
set_option maxRecDepth 100000
set_option maxHeartbeats 4000000
namespace K02
open PySem PySem.Spec PyProof.Rows L2 Evl NdefX
def setO (c : Nat) : List Opn := [("and", 2, sq (bits c).length fun i j => at_ (bits c) (i &&& j)), ("or", 2, sq (bits c).length fun i j => at_ (bits c) (i ||| j)), ("not", 1, (bits c).reverse), ("none", 0, (bits c).take 1), ("all", 0, (bits c).drop ((bits c).length - 1))]
theorem and_at {n : Nat} (hn : n = 2 ∨ n = 4) (a b : Nat) (ha : a < n) (hb : b < n) : Builtin.bitAnd (a : Int) (b : Int) = ((a &&& b : Nat) : Int) ∧ a &&& b < n := by
  have h2 : ∀ a : Nat, a < 2 → ∀ b : Nat, b < 2 → Builtin.bitAnd (a : Int) (b : Int) = ((a &&& b : Nat) : Int) ∧ a &&& b < 2 := by decide +kernel
  have h4 : ∀ a : Nat, a < 4 → ∀ b : Nat, b < 4 → Builtin.bitAnd (a : Int) (b : Int) = ((a &&& b : Nat) : Int) ∧ a &&& b < 4 := by decide +kernel
  rcases hn with rfl | rfl
  · exact h2 a ha b hb
  · exact h4 a ha b hb
theorem or_at {n : Nat} (hn : n = 2 ∨ n = 4) (a b : Nat) (ha : a < n) (hb : b < n) : Builtin.bitOr (a : Int) (b : Int) = ((a ||| b : Nat) : Int) ∧ a ||| b < n := by
  have h2 : ∀ a : Nat, a < 2 → ∀ b : Nat, b < 2 → Builtin.bitOr (a : Int) (b : Int) = ((a ||| b : Nat) : Int) ∧ a ||| b < 2 := by decide +kernel
  have h4 : ∀ a : Nat, a < 4 → ∀ b : Nat, b < 4 → Builtin.bitOr (a : Int) (b : Int) = ((a ||| b : Nat) : Int) ∧ a ||| b < 4 := by decide +kernel
  rcases hn with rfl | rfl
  · exact h2 a ha b hb
  · exact h4 a ha b hb
theorem set_good : ∀ c, c < 3 → 1 ≤ c → ((bits c).length = 2 ∨ (bits c).length = 4) ∧ goodMB (bits c) = true ∧ goodOB (bits c) (setO c) = true ∧ cutV ((bits c).map V.str) none (some 1) = ((bits c).take 1).map V.str ∧ cutV ((bits c).map V.str) (some (-1)) none = ((bits c).drop ((bits c).length - 1)).map V.str := by decide +kernel
section
variable {P : Program} {w : World} {K : PySem.W.Frag} {mg : Str → Option Value} {base : Heap} {Ca Cc Cm Cs fm qm cm fs qs cs : Addr} {dm ds : FuncData}
abbrev s_SetAlgebra___init__ : Stmt := inClass (top 21) 0
abbrev N_SetAlgebra___init__ : List Str := ["self", "count", "names", "places", "ands", "ors", "one", "two"]
theorem sc_SetAlgebra___init__ : FnScope N_SetAlgebra___init__ ["self", "count"] (defScope s_SetAlgebra___init__) := ⟨rfl, rfl, rfl, by decide +kernel, rfl, by decide +kernel, by decide +kernel⟩
theorem ok_set {C CA f fA : Addr} {mc : Value} {fd fdA : FuncData} (F : Fun K "__init__" "SetAlgebra.__init__" s_SetAlgebra___init__ f fd) (T : Blt mg) (gA : mg "Algebra" = some (.ref CA)) (cf : CFn K CA mc "__init__" fA) (FA : FnOk P w K mg base (L2.CX P w) 4 fA fdA ["self", "members", "operations"] (spAlg K C)) (bA : Binds K fdA ["self", "members", "operations"] [])
    (c__bit_names : Cal P w K mg base 1 "_bit_names" ["count"] (spNames Ca 2 bits)) : FnOk P w K mg base (L2.CX P w) 5 f fd ["self", "count"] (spFam C Ca 2 bits setO) := by
  refine F.okX sc_SetAlgebra___init__ (fun vs H Q E h => ?_) (fun cdv A outer s H vs Q E hr h => ?_)
  · obtain ⟨x, dx, i, rfl, _⟩ := h
    rfl
  · obtain ⟨x, dx, i, rfl, hx, k⟩ := h
    refine ⟨_, (pss_cons (ps_set (i := 2) sc_SetAlgebra___init__.nd rfl (Or.inr rfl) (pe_calE (E := E) c__bit_names (hr.mono (by decide)) (by rfl) (passes_call (takes_of rfl rfl rfl rfl) (fun _ _ _ _ z => z)) (pa_cons (pv 1) pa_nil)))
      (pss_cons (ps_set (i := 3) sc_SetAlgebra___init__.nd rfl (Or.inr rfl) (pe_callTy cr_range1 (by rfl) T.range (by decide +kernel) (pa_cons (pe_callB (call_lenK K) (by rfl) T.len (by decide +kernel) (pa_cons (pv 2) pa_nil)) pa_nil)))
      (pss_cons (ps_setLc2 (i := 4) (own := [("one", 6), ("two", 7)]) (vs1 := [7]) (g := gName 6) (g1 := gName 7) (by rfl) sc_SetAlgebra___init__.nd rfl rfl (sw_true rfl rfl rfl (by decide +kernel)) (pi_rngV (pv 3)) (blkOk_by (own := [("one", 6), ("two", 7)]) (N := N_SetAlgebra___init__) (sc := defScope s_SetAlgebra___init__) (by decide +kernel)) (by decide) (fun _ _ _ _ _ => pg_name (i := 6) sc_SetAlgebra___init__.nd rfl (Or.inl rfl)) (fun _ _ _ _ _ => pts_nil) (fun _ _ _ _ _ => pi_rngV (pv 3)) (fun _ _ _ _ _ => pg_name (i := 7) sc_SetAlgebra___init__.nd rfl (Or.inl rfl)) (fun _ _ _ _ _ => pts_nil) (fun _ _ _ _ _ => pe_ix (ix_listK K) (pv 2) (pe_op op_and (pv 6) (pv 7)) (fun _ _ => rfl)))
      (pss_cons (ps_setLc2 (i := 5) (own := [("one", 6), ("two", 7)]) (vs1 := [7]) (g := gName 6) (g1 := gName 7) (by rfl) sc_SetAlgebra___init__.nd rfl rfl (sw_true rfl rfl rfl (by decide +kernel)) (pi_rngV (pv 3)) (blkOk_by (own := [("one", 6), ("two", 7)]) (N := N_SetAlgebra___init__) (sc := defScope s_SetAlgebra___init__) (by decide +kernel)) (by decide) (fun _ _ _ _ _ => pg_name (i := 6) sc_SetAlgebra___init__.nd rfl (Or.inl rfl)) (fun _ _ _ _ _ => pts_nil) (fun _ _ _ _ _ => pi_rngV (pv 3)) (fun _ _ _ _ _ => pg_name (i := 7) sc_SetAlgebra___init__.nd rfl (Or.inl rfl)) (fun _ _ _ _ _ => pts_nil) (fun _ _ _ _ _ => pe_ix (ix_listK K) (pv 2) (pe_op op_or (pv 6) (pv 7)) (fun _ _ => rfl)))
      (pss_one (ps_expr (pe_clsfn (pe_gref rfl gA) cf FA (hr.mono (by decide)) bA passL (pa_cons (pv 0) (pa_cons (pv 2) (pa_cons (pe_lst (pa_cons (pe_tup (pa_cons (pe_str) (pa_cons (pe_int) (pa_cons (pv 4) pa_nil)))) (pa_cons (pe_tup (pa_cons (pe_str) (pa_cons (pe_int) (pa_cons (pv 5) pa_nil)))) (pa_cons (pe_tup (pa_cons (pe_str) (pa_cons (pe_int) (pa_cons (pe_revL (pv 2)) pa_nil)))) (pa_cons (pe_tup (pa_cons (pe_str) (pa_cons (pe_int) (pa_cons (pe_slice (sl_listK K) (pv 2) po_none (po_some (pe_int))) pa_nil)))) (pa_cons (pe_tup (pa_cons (pe_str) (pa_cons (pe_int) (pa_cons (pe_slice (sl_listK K) (pv 2) (po_some (pe_un un_neg pe_int)) po_none) pa_nil)))) pa_nil)))))) pa_nil)))))))))), ?_⟩
    rcases k with ⟨c1, c2, k⟩ | ⟨c, k⟩
    · obtain ⟨c, rfl⟩ := Int.eq_ofNat_of_zero_le (show 0 ≤ i by omega)
      rw [Int.toNat_natCast] at k
      obtain ⟨hn4, g1, g2, g3, g4⟩ := set_good c (by omega) (by omega)
      obtain ⟨n, ln⟩ : ∃ n, (bits c).length = n := ⟨_, rfl⟩
      rw [ln] at hn4
      have hn1 : n ≤ 4 := by omega
      have hm : ((bits c).map V.str).length = n := by rw [List.length_map]; exact ln
      have e0 : ((n : Int) - 0).toNat = n := by omega
      refine ⟨_, rfl, c, rfl, .inl ⟨c1, c2, fun nm H1 nnm s1 hnm => ?_⟩⟩
      rw [Int.toNat_natCast] at hnm
      refine gN ⟨_, rfl, nm, _, rfl, .inl (SqL.of hnm), _, rfl, fun rg nrg => ?_⟩
      rw [hm]
      obtain ⟨H2, eG, s2, hrg⟩ := put_new (o := .rng 0 (n : Int)) nrg
      refine gN ?_
      rw [eG]
      clear eG
      have hnm2 := s2 _ _ hnm
      have item : ∀ {H' : Hp} {j : Nat}, Same H2 H' → j < n → SqL K H' nm ((bits c).map V.str) ∧ atI ((bits c).map V.str) (j : Int) = some (.str (at_ (bits c) j)) := fun e hj => ⟨e.seq (SqL.of hnm2), atI_nat (by
        rw [List.getElem?_map, List.getElem?_eq_getElem (by rw [ln]; exact hj)]
        unfold at_
        rw [getD_at (by rw [ln]; exact hj)]
        rfl)⟩
      unfold tSeq tAsg
      dsimp only
      refine lc2_use (J := Itr 0 ((n : Int) - 0).toNat) (H1 := H2) (fun _ => ((n : Int) - 0).toNat) (fun a b => .str (at_ (bits c) (a &&& b))) (fun R r => ⟨_, rfl, rg, 0, n, rfl, hrg, ⟨by omega, by omega, by omega, by omega⟩, r⟩) walk_range (by omega) (fun _ => by omega) (fun _ _ => trivial) (fun _ _ _ _ _ z => z.1 ▸ Same.refl _) (fun _ => rfl) (fun a y H' H3 ha e z => ?_) (fun sm H3 nsm s3 hsm => ?_)
      · obtain ⟨rfl, rfl⟩ := z
        refine ⟨Itr 0 ((n : Int) - 0).toNat, fun _ => True, _, walk_range, fun _ _ => trivial, fun _ _ _ _ _ z => z.1 ▸ Same.refl _, fun R r => ⟨_, rfl, rg, 0, n, rfl, e _ _ (hrg), ⟨by omega, by omega, by omega, by omega⟩, r⟩, fun b y H4 H5 hb e4 z => ⟨rfl, fun R q => ?_⟩⟩
        obtain ⟨rfl, rfl⟩ := z
        obtain ⟨ec, hm⟩ := and_at hn4 a b (by omega) (by omega)
        obtain ⟨i1, i2⟩ := item (e4) hm
        refine ⟨_, rfl, _, rfl, _, rfl, _, _, rfl, rfl, nm, _, _, _, rfl, rfl, i1, ?_, q _ (Same.refl _)⟩
        rw [Int.zero_add, Int.zero_add, ec]
        exact i2
      rw [e0, sq_map] at hsm
      refine gN ?_
      refine lc2_use (J := Itr 0 ((n : Int) - 0).toNat) (H1 := H3) (fun _ => ((n : Int) - 0).toNat) (fun a b => .str (at_ (bits c) (a ||| b))) (fun R r => ⟨_, rfl, rg, 0, n, rfl, s3 _ _ hrg, ⟨by omega, by omega, by omega, by omega⟩, r⟩) walk_range (by omega) (fun _ => by omega) (fun _ _ => trivial) (fun _ _ _ _ _ z => z.1 ▸ Same.refl _) (fun _ => rfl) (fun a y H' H3 ha e z => ?_) (fun bk H4 nbk s4 hbk => ?_)
      · obtain ⟨rfl, rfl⟩ := z
        refine ⟨Itr 0 ((n : Int) - 0).toNat, fun _ => True, _, walk_range, fun _ _ => trivial, fun _ _ _ _ _ z => z.1 ▸ Same.refl _, fun R r => ⟨_, rfl, rg, 0, n, rfl, e _ _ (s3 _ _ hrg), ⟨by omega, by omega, by omega, by omega⟩, r⟩, fun b y H4 H5 hb e4 z => ⟨rfl, fun R q => ?_⟩⟩
        obtain ⟨rfl, rfl⟩ := z
        obtain ⟨ec, hm⟩ := or_at hn4 a b (by omega) (by omega)
        obtain ⟨i1, i2⟩ := item ((s3.trans e4)) hm
        refine ⟨_, rfl, _, rfl, _, rfl, _, _, rfl, rfl, nm, _, _, _, rfl, rfl, i1, ?_, q _ (Same.refl _)⟩
        rw [Int.zero_add, Int.zero_add, ec]
        exact i2
      rw [e0, sq_map] at hbk
      refine gN ?_
      have s24 := s3.trans s4
      have e2 : Same H H4 := (Same.trans s1 s2).trans s24
      refine ⟨rfl, _, rfl, _, rfl, _, rfl, by show 3 ≤ sizeLine; decide, fun t1 n1 => ?_⟩
      obtain ⟨H5, eG, s5, ht1⟩ := put_new (o := .tup [.str "and", .int 2, .ref sm]) n1
      rw [eG]
      clear eG
      refine ⟨_, rfl, by show 3 ≤ sizeLine; decide, fun t2 n2 => ?_⟩
      obtain ⟨H6, eG, s6, ht2⟩ := put_new (o := .tup [.str "or", .int 2, .ref bk]) n2
      rw [eG]
      clear eG
      refine ⟨_, rfl, nm, _, rfl, SqL.of (s6 _ _ (s5 _ _ (s24 _ _ hnm2))), fun rv nrv => ?_⟩
      obtain ⟨H7, eG, s7, hrv⟩ := put_new (o := .lst ((bits c).map V.str).reverse) nrv
      rw [eG]
      clear eG
      refine ⟨by show 3 ≤ sizeLine; decide, fun t3 n3 => ?_⟩
      obtain ⟨H8, eG, s8, ht3⟩ := put_new (o := .tup [.str "not", .int 1, .ref rv]) n3
      rw [eG]
      clear eG
      have w8 := ((s5.trans s6).trans s7).trans s8
      refine ⟨_, rfl, 1, rfl, nm, _, rfl, SqL.of (w8 _ _ (s24 _ _ hnm2)), fun zr nzr => ?_⟩
      rw [g3]
      obtain ⟨H9, eG, s9, hzr⟩ := put_new (o := .lst (((bits c).take 1).map V.str)) nzr
      rw [eG]
      clear eG
      refine ⟨by show 3 ≤ sizeLine; decide, fun t4 n4 => ?_⟩
      obtain ⟨HA, eG, sA, ht4⟩ := put_new (o := .tup [.str "none", .int 0, .ref zr]) n4
      rw [eG]
      clear eG
      refine ⟨_, rfl, 1, rfl, -1, rfl, nm, _, rfl, SqL.of (sA _ _ (s9 _ _ (w8 _ _ (s24 _ _ hnm2)))), fun ar nar => ?_⟩
      rw [g4]
      obtain ⟨HB, eG, sB, har⟩ := put_new (o := .lst (((bits c).drop ((bits c).length - 1)).map V.str)) nar
      rw [eG]
      clear eG
      refine ⟨by show 3 ≤ sizeLine; decide, fun t5 n5 => ?_⟩
      obtain ⟨HD, eG, sD, ht5⟩ := put_new (o := .tup [.str "all", .int 0, .ref ar]) n5
      rw [eG]
      clear eG
      refine ⟨by show 5 ≤ sizeLine; decide, fun ol nol => ?_⟩
      obtain ⟨HE, eG, sE, hol⟩ := put_new (o := .lst [.ref t1, .ref t2, .ref t3, .ref t4, .ref t5]) nol
      rw [eG]
      clear eG
      have vD := sD.trans sE
      have vB := sB.trans vD
      have vA := sA.trans vB
      have v9 := s9.trans vA
      have v8 := s8.trans v9
      have v7 := s7.trans v8
      have v6 := s6.trans v7
      have v5 := s5.trans v6
      have eE := e2.trans v5
      refine ⟨x, nm, ol, dx, bits c, setO c, rfl, eE _ _ hx, SqL.of (v5 _ _ (s24 _ _ hnm2)), ⟨[t1, t2, t3, t4, t5], SqL.of hol, ?_⟩, goodM_of g1, goodO_of g2, fun H' off al => k H' (off_same eE off) al⟩
      subst ln
      refine .cons ⟨sm, SqT.of (v6 _ _ ht1), SqL.of (v5 _ _ (s4 _ _ hsm))⟩ (.cons ⟨bk, SqT.of (v7 _ _ ht2), SqL.of (v5 _ _ hbk)⟩ (.cons ⟨rv, SqT.of (v9 _ _ ht3), SqL.of ?_⟩ (.cons ⟨zr, SqT.of (vB _ _ ht4), SqL.of (vA _ _ hzr)⟩ (.cons ⟨ar, SqT.of (sE _ _ ht5), SqL.of (vD _ _ har)⟩ .nil))))
      rw [List.map_reverse]
      exact v8 _ _ hrv
    · exact ⟨_, rfl, i, rfl, .inr ⟨c, k⟩⟩
end
end K02


set_option Elab.async false
set_option linter.all false
set_option maxRecDepth 100000
set_option maxHeartbeats 4000000
namespace K02
open PySem PySem.Spec PyProof.Rows L2 Evl NdefX
def xsF (k n : Nat) : List Str := if k < 3 then nums n else bits n
def osF : Nat → Nat → List Opn
  | 0, n => turnO n
  | 1, n => chainO n
  | 2, n => pickO n
  | _, n => setO n
def topF (k : Nat) : Int := if k < 3 then 6 else 2
section
variable {P : Program} {w : World} {K : PySem.W.Frag} {mg : Str → Option Value} {base : Heap} {Ca : Addr} {Cf : Nat → Addr}
/-- the four families can be made -/
structure Fams (P : Program) (w : World) (K : PySem.W.Frag) (mg : Str → Option Value) (base : Heap) (Ca : Addr) (Cf : Nat → Addr) : Prop where
  m0 : Mkr P w K mg base 5 "TurnAlgebra" (Cf 0) ["self", "count"] (spFam (Cf 0) Ca 6 nums turnO)
  m1 : Mkr P w K mg base 5 "ChainAlgebra" (Cf 1) ["self", "count"] (spFam (Cf 1) Ca 6 nums chainO)
  m2 : Mkr P w K mg base 5 "PickAlgebra" (Cf 2) ["self", "count"] (spFam (Cf 2) Ca 6 nums pickO)
  m3 : Mkr P w K mg base 5 "SetAlgebra" (Cf 3) ["self", "count"] (spFam (Cf 3) Ca 2 bits setO)
def spMade (Ca : Addr) (Cf : Nat → Addr) : Sp := fun vs H Q E => ∃ (k : Nat) (i : Int), vs = [.int (k : Int), .int i] ∧ k < 4 ∧
  ((1 ≤ i ∧ i ≤ topF k ∧ ∀ x H', H x = none → Same H H' → AlgAt (Cf k) x (xsF k i.toNat) (osF k i.toNat) H' → Q (.ref x) H') ∨ (¬ (1 ≤ i ∧ i ≤ topF k) ∧ ∀ H', Same H H' → E (.ref Ca) none H'))
theorem made_go {C : Addr} {top : Int} {xs : Nat → List Str} {os : Nat → List Opn} {H : Hp} {i : Int} {Q : VK} {E : XK} (k : (1 ≤ i ∧ i ≤ top ∧ ∀ x H', H x = none → Same H H' → AlgAt C x (xs i.toNat) (os i.toNat) H' → Q (.ref x) H') ∨ (¬ (1 ≤ i ∧ i ≤ top) ∧ ∀ H', Same H H' → E (.ref Ca) none H')) :
    ∀ x dx, H x = none → H dx = none → dx ≠ x → spFam C Ca top xs os (.ref x :: ([.int i] ++ [])) (upd (upd H dx (.own x)) x (.ins C dx [])) (fun v H2 => v = .non ∧ Q (.ref x) H2) E := fun x dx nx nd ne => by
  have s0 : Same H (upd (upd H dx (.own x)) x (.ins C dx [])) := fun b o q => by
    rw [upd_ne (ne_of_none q nx), upd_ne (ne_of_none q nd)]
    exact q
  refine ⟨x, dx, i, rfl, upd_same, ?_⟩
  rcases k with ⟨c1, c2, k⟩ | ⟨c, k⟩
  · exact .inl ⟨c1, c2, fun H' off al => ⟨rfl, k x H' nx (fun b o q => off b o (s0 b o q) (ne_of_none q nx)) al⟩⟩
  · exact .inr ⟨c, k _ s0⟩
abbrev s__law_made : Stmt := top 33
abbrev N__law_made : List Str := ["kind", "count"]
theorem sc__law_made : FnScope N__law_made ["kind", "count"] (defScope s__law_made) := ⟨rfl, rfl, rfl, by decide +kernel, rfl, by decide +kernel, by decide +kernel⟩
theorem ok_made {f : Addr} {fd : FuncData} (F : Fun K "_law_made" "_law_made" s__law_made f fd) (V : Fams P w K mg base Ca Cf) : FnOk P w K mg base (L2.CX P w) 7 f fd ["kind", "count"] (spMade Ca Cf) := by
  refine F.okX sc__law_made (fun vs H Q E h => ?_) (fun cdv A outer s H vs Q E hr h => ?_)
  · obtain ⟨k, i, rfl, _⟩ := h
    rfl
  · obtain ⟨k, i, rfl, hk, g⟩ := h
    refine ⟨_, (pss_cons (ps_if (pt_cmpR op_eq (pv 0) (pe_int) (nomark _)) (pss_one (ps_ret (pe_mkr (E := E) V.m0 (hr.mono (by decide)) (by rfl) (passes_call (takes_of rfl rfl rfl rfl) (fun _ _ _ _ z => z)) (pa_cons (pv 1) pa_nil)))) pss_nil)
      (pss_cons (ps_if (pt_cmpR op_eq (pv 0) (pe_int) (nomark _)) (pss_one (ps_ret (pe_mkr (E := E) V.m1 (hr.mono (by decide)) (by rfl) (passes_call (takes_of rfl rfl rfl rfl) (fun _ _ _ _ z => z)) (pa_cons (pv 1) pa_nil)))) pss_nil)
      (pss_one (ps_ret (pe_ifExp (pt_cmpR op_eq (pv 0) (pe_int) (nomark _)) (pe_mkr (E := E) V.m2 (hr.mono (by decide)) (by rfl) (passes_call (takes_of rfl rfl rfl rfl) (fun _ _ _ _ z => z)) (pa_cons (pv 1) pa_nil)) (pe_mkr (E := E) V.m3 (hr.mono (by decide)) (by rfl) (passes_call (takes_of rfl rfl rfl rfl) (fun _ _ _ _ z => z)) (pa_cons (pv 1) pa_nil))))))), ?_⟩
    have hh : k = 0 ∨ k = 1 ∨ k = 2 ∨ k = 3 := by omega
    rcases hh with rfl | rfl | rfl | rfl
    · exact ⟨_, rfl, rfl, true, rfl, iteT ⟨_, rfl, made_go g⟩⟩
    · exact ⟨_, rfl, rfl, false, rfl, iteF ⟨_, rfl, rfl, true, rfl, iteT ⟨_, rfl, made_go g⟩⟩⟩
    · exact ⟨_, rfl, rfl, false, rfl, iteF ⟨_, rfl, rfl, false, rfl, iteF ⟨_, rfl, rfl, true, rfl, iteT ⟨_, rfl, made_go g⟩⟩⟩⟩
    · exact ⟨_, rfl, rfl, false, rfl, iteF ⟨_, rfl, rfl, false, rfl, iteF ⟨_, rfl, rfl, false, rfl, iteF ⟨_, rfl, made_go g⟩⟩⟩⟩
end
end K02


set_option Elab.async false
set_option linter.all false
set_option maxRecDepth 100000
set_option maxHeartbeats 4000000
namespace K02
open PySem PySem.Spec PyProof.Rows L2 Evl NdefX
theorem call_lenIK {X : Cx} (K : PySem.W.Frag) {CX : CXT} {k : Nat} {f : Addr} {fd : FuncData} {ps : List Str} {sp : Sp} {E : XK} (F : FnOk X.prog X.w X.K X.mg X.base CX k f fd ps sp) (hr : Room (k + 1) X.A) (hb : Binds X.K fd ps []) (hx : Passes CX X E) (h : X.K = K := by rfl) : CallR X (.builtin "len") (rLenI K f sp E) := by
  subst h
  exact call_lenI F hr hb hx
section
variable {P : Program} {w : World} {K : PySem.W.Frag} {mg : Str → Option Value} {base : Heap} {Ca : Addr} {Cf : Nat → Addr}
/-- numbers that make no algebra are refused -/
def spRef : Sp := fun vs H Q _ => ∃ (k : Nat) (i : Int), vs = [.int (k : Int), .int i] ∧ k < 4 ∧ ¬ (1 ≤ i ∧ i ≤ topF k) ∧ ∀ H', Same H H' → Q (.bl true) H'
abbrev s__law_refused : Stmt := top 37
abbrev N__law_refused : List Str := ["kind", "count", "said"]
theorem sc__law_refused : FnScope N__law_refused ["kind", "count"] (defScope s__law_refused) := ⟨rfl, rfl, rfl, by decide +kernel, rfl, by decide +kernel, by decide +kernel⟩
theorem ok_refused {C f fl : Addr} {fd fdl : FuncData} (F : Fun K "_law_refused" "_law_refused" s__law_refused f fd) (T : Blt mg) (gA : mg "BadAlgebra" = some (.ref Ca)) (ex : PySem.W.exmOne K (.ref Ca) (.ref Ca) = some true) (c_made : Cal P w K mg base 7 "_law_made" ["kind", "count"] (spMade Ca Cf))
    (FL : FnOk P w K mg base CX0 1 fl fdl ["self"] (spLen C)) (bL : Binds K fdl ["self"] []) : FnOk P w K mg base CX0 8 f fd ["kind", "count"] spRef := by
  refine F.ok sc__law_refused (fun vs H Q E h => ?_) (fun cdv A outer s H vs Q E hr h => ?_)
  · obtain ⟨k, i, rfl, _⟩ := h
    rfl
  · obtain ⟨k, i, rfl, hk, hn, g⟩ := h
    refine ⟨_, (pss_cons (ps_set (i := 2) sc__law_refused.nd rfl (Or.inl rfl) pe_bl)
      (pss_cons (ps_try_only (Wout := fun _ _ _ _ => False) rfl rfl ⟨rfl, by decide, Or.inl gA⟩ takes0
        (fun W pn xe tk _ => pss_one (ps_set (i := 2) sc__law_refused.nd rfl (Or.inl rfl) (pe_cmpR op_lt (pe_callB (call_lenIK K FL (hr.mono (by decide)) bL pass0) (by rfl) T.len (by decide +kernel) (pa_cons (pe_calT c_made (hr.mono (by decide)) (by rfl) tk (pa_cons (pv 0) (pa_cons (pv 1) pa_nil))) pa_nil)) pe_int (nomark _))))
        (fun _ _ _ _ _ _ _ => pss_one (ps_set (i := 2) sc__law_refused.nd rfl (Or.inl rfl) pe_bl)))
      (pss_one (ps_ret (pv 2))))), ?_⟩
    refine ⟨_, rfl, _, rfl, k, i, rfl, hk, .inr ⟨hn, fun H' e => ⟨true, ex, fun _ a na => ?_, fun z => by cases z⟩⟩⟩
    exact ⟨_, rfl, g H' e⟩
end
end K02


set_option Elab.async false
set_option linter.all false
set_option maxRecDepth 100000
set_option maxHeartbeats 4000000
namespace K02
open PySem PySem.Spec PyProof.Rows L2 Evl NdefX
def sayOut (sg : Str) : Out → Str
  | .ok v => v
  | .sign => "sign " ++ sg
  | .count => "count"
  | .member a => "member " ++ a
/-- which clause takes which of the errors of value() -/
structure Cats (K : PySem.W.Frag) (Cc Cm Cs : Addr) : Prop where
  ss : PySem.W.exmOne K (.ref Cs) (.ref Cs) = some true
  cs : PySem.W.exmOne K (.ref Cc) (.ref Cs) = some false
  cc : PySem.W.exmOne K (.ref Cc) (.ref Cc) = some true
  ms : PySem.W.exmOne K (.ref Cm) (.ref Cs) = some false
  mc : PySem.W.exmOne K (.ref Cm) (.ref Cc) = some false
  mm : PySem.W.exmOne K (.ref Cm) (.ref Cm) = some true
  xs : XfC K Cs
  xm : XfC K Cm
section
variable {P : Program} {w : World} {K : PySem.W.Frag} {mg : Str → Option Value} {base : Heap} {Ca Cc Cm Cs fm qm cm fs qs cs : Addr} {dm ds : FuncData}
def spSaid (K : PySem.W.Frag) (C : Addr) : Sp := fun vs H Q _ => ∃ (x l : Addr) (sg : Str) (as xs : List Str) (os : List Opn), vs = [.ref x, .str sg, .ref l] ∧ AlgAt C x xs os H ∧ SqL K H l (as.map V.str) ∧ as.length ≤ 1000 ∧ GoodM xs ∧ GoodO xs os ∧ Wee sg ∧ (∀ a ∈ as, Wee a) ∧
  ∀ H', Same H H' → Q (.str (sayOut sg (valOut xs os sg as))) H'
theorem member_of {xs : List Str} {os : List Opn} {sg : Str} {as : List Str} {a : Str} (h : valOut xs os sg as = .member a) : a ∈ as := by
  unfold valOut at h
  split at h
  · cases h
  · split at h
    · cases h
    · split at h
      · rename_i e
        injection h with h
        subst h
        exact List.mem_of_find?_eq_some e
      · cases h
theorem say_len {x y : Str} (hx : x.length ≤ 10) (h : Wee y) : x.length + y.length ≤ sizeLine := by
  rw [sizeLine_eq]
  have := h
  unfold Wee at this
  omega
abbrev s__law_said : Stmt := top 35
abbrev N__law_said : List Str := ["made", "sign", "row", "said", "e"]
theorem sc__law_said : FnScope N__law_said ["made", "sign", "row"] (defScope s__law_said) := ⟨rfl, rfl, rfl, by decide +kernel, rfl, by decide +kernel, by decide +kernel⟩
theorem ok_said {C f : Addr} {fd : FuncData} (F : Fun K "_law_said" "_law_said" s__law_said f fd) (U : ErrC P K mg Ca Cc Cm Cs fm qm cm fs qs cs dm ds) (V : Cats K Cc Cm Cs) (mv : Mtd P w K mg base 3 C "value" ["self", "sign", "arguments"] (spVal K C Cc Cm Cs)) : FnOk P w K mg base CX0 4 f fd ["made", "sign", "row"] (spSaid K C) := by
  refine F.ok sc__law_said (fun vs H Q E h => ?_) (fun cdv A outer s H vs Q E hr h => ?_)
  · obtain ⟨x, l, sg, as, xs, os, rfl, _⟩ := h
    rfl
  · obtain ⟨x, l, sg, as, xs, os, rfl, al, hl, la, gm, go, ws, wa, g⟩ := h
    refine ⟨_, (pss_cons (ps_set (i := 3) sc__law_said.nd rfl (Or.inl rfl) pe_str)
      (pss_cons (ps_try_mix (Wout := fun _ _ _ _ => False) (l := [(.ref Cs, some 4, fun a cls d => tAsg (tOp _ (tC (.str "sign ")) (tXf a cls d Cs "name" (tVar 4))) (gName 3)), (.ref Cc, none, fun _ _ _ => tAsg (tC (.str "count")) (gName 3)), (.ref Cm, some 4, fun a cls d => tAsg (tOp _ (tC (.str "member ")) (tXf a cls d Cm "name" (tVar 4))) (gName 3))]) rfl rfl takes0
        (fun W pn xe tk _ => pss_one (ps_set (i := 3) sc__law_said.nd rfl (Or.inl rfl) (pe_mtdT mv (hr.mono (by decide)) tk (pv 0) (pa_cons (pv 1) (pa_cons (pv 2) pa_nil)))))
        (.cons ⟨rfl, by decide, Or.inl U.xs.g⟩ (.as sc__law_said.nd rfl rfl) (fun _ _ _ _ _ hz hf => pss_one (ps_set (i := 3) sc__law_said.nd rfl (Or.inl rfl) (pe_op op_add_str pe_str (pe_xf V.xs U.ns hz hf (pv 4)))))
          (.cons ⟨rfl, by decide, Or.inl U.xc.g⟩ .no (fun _ _ _ _ _ hz hf => pss_one (ps_set (i := 3) sc__law_said.nd rfl (Or.inl rfl) pe_str))
            (.cons ⟨rfl, by decide, Or.inl U.xm.g⟩ (.as sc__law_said.nd rfl rfl) (fun _ _ _ _ _ hz hf => pss_one (ps_set (i := 3) sc__law_said.nd rfl (Or.inl rfl) (pe_op op_add_str pe_str (pe_xf V.xm U.nm hz hf (pv 4))))) .nil))))
      (pss_one (ps_ret (pv 3))))), ?_⟩
    have al' := al
    obtain ⟨dx, t, n, p, r, b, ss, ls, h1, h2, h3, h4, h5, h6, h7, h8, h9, h10⟩ := al'
    refine ⟨_, rfl, x, dx, _, rfl, h1, rfl, _, rfl, _, rfl, x, l, sg, as, xs, os, rfl, al, hl, la, gm, go, ws, wa, ?_⟩
    generalize hv : valOut xs os sg as = out at g ⊢
    cases out with
    | ok v => exact ⟨_, rfl, g H (Same.refl _)⟩
    | sign => exact fun d H' hd e hx => ⟨true, V.ss, fun _ a na => ⟨_, rfl, rfl, rfl, d, _, _, rfl, hx, rfl, "sign ", sg, rfl, rfl, say_len (by decide) ws, _, rfl, g H' e⟩, fun z => by cases z⟩
    | count => exact ⟨false, V.cs, fun z => (by cases z), fun _ => ⟨true, V.cc, fun _ a na => ⟨_, rfl, g H (Same.refl _)⟩, fun z => by cases z⟩⟩
    | member a =>
      have wz : Wee a := wa a (member_of hv)
      exact fun d H' hd e hx => ⟨false, V.ms, fun z => (by cases z), fun _ => ⟨false, V.mc, fun z => (by cases z), fun _ => ⟨true, V.mm, fun _ b nb => ⟨_, rfl, rfl, rfl, d, _, _, rfl, hx, rfl, "member ", a, rfl, rfl, say_len (by decide) wz, _, rfl, g H' e⟩, fun z => by cases z⟩⟩⟩
end
end K02


set_option Elab.async false
set_option linter.all false
set_option maxRecDepth 100000
set_option maxHeartbeats 4000000
namespace K02
open PySem PySem.Spec PyProof.Rows L2 Evl NdefX
def tup (xs : List Str) : Nat → List (List Str)
  | 0 => [[]]
  | n + 1 => (tup xs n).flatMap fun r => xs.map fun x => r ++ [x]
def RowsAt (H : Hp) (D : Addr) (rows : List (List Str)) : Prop := ∃ ps : List Addr, H D = some (.lst (ps.map V.ref)) ∧ Paired (fun p r => H p = some (.lst (r.map V.str))) ps rows
theorem RowsAt.same {H H' : Hp} {D : Addr} {rows : List (List Str)} (h : RowsAt H D rows) (e : Same H H') : RowsAt H' D rows := h.imp fun _ z => ⟨e _ _ z.1, Paired.mapP z.2 fun _ _ q => e _ _ q⟩
theorem paired_app {α β : Type} {R : α → β → Prop} : ∀ {l : List α} {m : List β} {l' : List α} {m' : List β}, Paired R l m → Paired R l' m' → Paired R (l ++ l') (m ++ m')
  | _, _, _, _, .nil, s => s
  | _, _, _, _, .cons r t, s => .cons r (paired_app t s)
theorem fm_len (xs : List Str) (f : List Str → Str → List Str) : ∀ l : List (List Str), (l.flatMap fun r => xs.map (f r)).length = l.length * xs.length
  | [] => by simp
  | r :: l => by
    rw [List.flatMap_cons, List.length_append, List.length_map, fm_len xs f l, List.length_cons, Nat.succ_mul]
    omega
theorem tup_len (xs : List Str) : ∀ n, (tup xs n).length = xs.length ^ n
  | 0 => rfl
  | n + 1 => by
    show ((tup xs n).flatMap fun r => xs.map fun x => r ++ [x]).length = _
    rw [fm_len xs (fun r x => r ++ [x]), tup_len xs n, Nat.pow_succ]
section
variable {P : Program} {w : World} {K : PySem.W.Frag} {mg : Str → Option Value} {base : Heap}
def spTup (K : PySem.W.Frag) : Sp := fun vs H Q _ => ∃ (a : Addr) (n : Nat) (xs : List Str), vs = [.ref a, .int (n : Int)] ∧ SqL K H a (xs.map V.str) ∧ xs.length ≤ 6 ∧ n ≤ 2 ∧ (∀ i, i ≤ n → ∀ r ∈ tup xs i, r.length = i) ∧ ∀ D H', H D = none → Same H H' → RowsAt H' D (tup xs n) → Q (.ref D) H'
abbrev s__law_tuples : Stmt := top 34
abbrev N__law_tuples : List Str := ["members", "arity", "found", "k", "longer", "row", "name"]
theorem sc__law_tuples : FnScope N__law_tuples ["members", "arity"] (defScope s__law_tuples) := ⟨rfl, rfl, rfl, by decide +kernel, rfl, by decide +kernel, by decide +kernel⟩
theorem ok_tuples {f : Addr} {fd : FuncData} (F : Fun K "_law_tuples" "_law_tuples" s__law_tuples f fd) (T : Blt mg) : FnOk P w K mg base CX0 1 f fd ["members", "arity"] (spTup K) := by
  refine F.ok sc__law_tuples (fun vs H Q E h => ?_) (fun cdv A outer s H vs Q E hr h => ?_)
  · obtain ⟨a, n, xs, rfl, _⟩ := h
    rfl
  · obtain ⟨a, n, xs, rfl, hA, lx, ln, lr, k⟩ := h
    refine ⟨_, (pss_cons (ps_set (i := 2) sc__law_tuples.nd rfl (Or.inl rfl) (pe_lst (pa_cons (pe_lst pa_nil) pa_nil)))
      (pss_cons (ps_for PassesOwn.never rfl (pi_range1 (by rfl) T.range (pa_cons (pv 1) pa_nil)) (pg_name (i := 3) sc__law_tuples.nd rfl (Or.inl rfl)) (pss_cons (ps_set (i := 4) sc__law_tuples.nd rfl (Or.inl rfl) (pe_lst pa_nil))
      (pss_cons (ps_for PassesOwn.never rfl (pi_list (pv 2)) (pg_name (i := 5) sc__law_tuples.nd rfl (Or.inr rfl)) (pss_one (ps_set (i := 4) sc__law_tuples.nd rfl (Or.inl rfl) (pe_op op_cat (pv 4) (pe_lc (own := [("name", 6)]) (g := gName 6) (by rfl) sc__law_tuples.nd (pi_list (pv 0)) (blkOk_by (own := [("name", 6)]) (N := N__law_tuples) (sc := defScope s__law_tuples) (by decide +kernel)) (fun _ _ _ _ _ => pg_name (i := 6) sc__law_tuples.nd rfl (Or.inl rfl)) (fun _ _ _ _ _ => pts_nil) (fun _ _ _ _ _ => pe_op op_cat (pv 5) (pe_lst (pa_cons (pv 6) pa_nil))))))))
      (pss_one (ps_set (i := 2) sc__law_tuples.nd rfl (Or.inl rfl) (pv 4))))))
      (pss_one (ps_ret (pv 2))))), ?_⟩
    have hlx : (xs.map V.str).length = xs.length := List.length_map _
    have pw : ∀ j, j ≤ n → xs.length ^ j ≤ 36 := fun j hj => by
      have hh : j = 0 ∨ j = 1 ∨ j = 2 := by omega
      rcases hh with rfl | rfl | rfl
      · simp
      · rw [Nat.pow_one]; omega
      · rw [Nat.pow_two]
        have := Nat.mul_le_mul lx lx
        omega
    refine ⟨by show 0 ≤ sizeLine; decide, fun p0 n0 => ?_⟩
    obtain ⟨H1, eG, s1, h1⟩ := put_new (o := .lst []) n0
    rw [eG]
    clear eG
    refine ⟨by show 1 ≤ sizeLine; decide, fun l0 nl0 => ?_⟩
    obtain ⟨H2, eG, s2, h2⟩ := put_new (o := .lst [.ref p0]) nl0
    refine gN ?_
    rw [eG]
    clear eG
    refine ⟨_, rfl, (n : Int), rfl, by omega, by omega, for_range (lo := 0) (n := ((n : Int)).toNat) (fun j σ' H' => ∃ (l : Addr) (v3 v4 v5 : Option V), σ' = [some (.ref a), some (.int (n : Int)), some (.ref l), v3, v4, v5, none] ∧ Same H H' ∧ H l = none ∧ RowsAt H' l (tup xs j))
      ⟨l0, none, none, none, rfl, s1.trans s2, s1.free nl0, [p0], h2, .cons (s2 _ _ h1) .nil⟩ (fun j σ' H' hj p => ?_) (fun σ' H' p => ?_)⟩
    · obtain ⟨l, v3, v4, v5, rfl, s3, nl, ps, hl, pr⟩ := p
      rw [Int.toNat_natCast] at hj
      have hps : ps.length = xs.length ^ j := by rw [Paired.length pr, tup_len]
      have hpw := pw j (by omega)
      refine gN ⟨by show 0 ≤ sizeLine; decide, fun m0 nm0 => ?_⟩
      obtain ⟨H4, eG, s4, h4⟩ := put_new (o := .lst []) nm0
      refine gN ?_
      rw [eG]
      clear eG
      have s34 := s3.trans s4
      refine ⟨_, rfl, l, rfl, ⟨_, SqL.of (s4 _ _ hl)⟩, for_list (K := K) (a := l) (xs := ps.map V.ref) (fun i σ' H' => ∃ (m : Addr) (v5 : Option V), σ' = [some (.ref a), some (.int (n : Int)), some (.ref l), some (.int (0 + (j : Int))), some (.ref m), v5, none] ∧ Same H4 H' ∧ H m = none ∧ RowsAt H' m (((tup xs j).take i).flatMap fun r => xs.map fun x => r ++ [x]))
        ⟨m0, v5, rfl, Same.refl _, s3.free nm0, [], h4, .nil⟩ (fun i σ' H' _ p => by obtain ⟨_, _, _, e, _⟩ := p; exact SqL.of (e _ _ (s4 _ _ hl))) (fun i v σ' H' hi p => ?_) (fun σ' H' p => ?_)⟩
      · obtain ⟨m, v5, rfl, e5, nm, qs, hm, pq⟩ := p
        have hi2 : i < ps.length := by
          have := (List.getElem?_eq_some_iff.mp hi).1
          rw [List.length_map] at this
          exact this
        obtain ⟨p, hp, rfl⟩ : ∃ p, ps[i]? = some p ∧ v = .ref p := by
          rw [List.getElem?_map, List.getElem?_eq_getElem hi2] at hi
          exact ⟨ps[i], List.getElem?_eq_getElem hi2, (Option.some.inj hi).symm⟩
        obtain ⟨r, hr2, hpr⟩ := paired_get pr hp
        have hp5 := e5 _ _ (s4 _ _ hpr)
        have hA5 := e5.seq (s34.seq hA)
        have lr2 : r.length = j := lr j (by omega) r (List.mem_of_getElem? hr2)
        refine gN ⟨_, rfl, ?_⟩
        refine lc_new (J := Itl K a) (H1 := H') (g := gName 6) (fun b => .lst ((r ++ [xs.getD b Str.empty]).map V.str)) (fun R r => ⟨_, rfl, a, rfl, ⟨_, hA5⟩, r⟩) (walk_list (xs := xs.map V.str)) (by rw [hlx]; omega) (fun H2 e => e.seq hA5) (fun b H2 y H3 _ z => z.1 ▸ Same.refl _) (fun b y H6 H7 hb e6 z R q => ?_) (fun _ _ _ _ h z => gn_mono h z) (fun D H6 ws hD e6 hws hd hw => ?_)
        · obtain ⟨rfl, hy⟩ := z
          rw [hlx] at hb
          rw [List.getElem?_map, List.getElem?_eq_getElem hb] at hy
          obtain rfl : V.str xs[b] = y := Option.some.inj hy
          rw [getD_at hb] at q
          refine gN ⟨rfl, _, rfl, _, rfl, by show 1 ≤ sizeLine; decide, fun o1 no1 => ?_⟩
          obtain ⟨H8, eG, s8, h8⟩ := put_new (o := .lst [.str xs[b]]) no1
          rw [eG]
          clear eG
          refine ⟨p, o1, _, _, rfl, rfl, s8 _ _ (e6 _ _ hp5), h8, by rw [List.length_map, lr2, sizeLine_eq]; show j + 1 ≤ _; omega, fun w nw => ?_⟩
          refine q w _ (s8.free nw) (s8.trans (same_upd nw)) ?_
          rw [upd_same, List.map_append]
          rfl
        · have l1 : qs.length = i * xs.length := by
            rw [Paired.length pq, fm_len xs (fun r x => r ++ [x]), List.length_take, tup_len]
            rw [Nat.min_eq_left (by omega)]
          have l2 : i * xs.length ≤ 36 * 6 := Nat.mul_le_mul (by omega) lx
          refine ⟨m, D, _, _, rfl, rfl, e6 _ _ hm, hd, by rw [List.length_map, List.length_map, l1, hws, hlx, sizeLine_eq]; omega, fun z nz => ?_⟩
          rw [← List.map_append]
          obtain ⟨H9, eG, s9, h9⟩ := put_new (o := .lst ((qs ++ ws).map V.ref)) nz
          refine gN ?_
          rw [eG]
          clear eG
          have hz : H z = none := s34.free (e5.free (e6.free nz))
          refine ⟨z, _, rfl, (e5.trans e6).trans s9, hz, qs ++ ws, h9, ?_⟩
          rw [List.take_add_one, hr2, List.flatMap_append]
          refine paired_app (Paired.mapP pq fun _ _ q => s9 _ _ (e6 _ _ q)) ?_
          have one : (Option.toList (some r)).flatMap (fun r => xs.map fun x => r ++ [x]) = xs.map fun x => r ++ [x] := by simp
          rw [one]
          refine paired_of (d := []) (by rw [hws, hlx, List.length_map]) fun b y hy => ?_
          have hb : b < xs.length := by
            have := (List.getElem?_eq_some_iff.mp hy).1
            rw [hws, hlx] at this
            exact this
          rw [List.getD_eq_getElem?_getD, List.getElem?_map, List.getElem?_eq_getElem hb]
          have z2 := (hw b y hy).2
          rw [getD_at hb] at z2
          exact s9 _ _ z2
      · obtain ⟨m, v5, rfl, e5, nm, hR⟩ := p
        have e : (ps.map V.ref).length = (tup xs j).length := by rw [List.length_map]; exact Paired.length pr
        rw [e, List.take_length] at hR
        exact ⟨_, rfl, m, _, _, _, rfl, s34.trans e5, nm, hR⟩
    · obtain ⟨l, v3, v4, v5, rfl, s3, nl, hR⟩ := p
      rw [Int.toNat_natCast] at hR
      exact ⟨_, rfl, k l H' nl s3 hR⟩
end
end K02


set_option Elab.async false
set_option linter.all false
set_option maxRecDepth 100000
set_option maxHeartbeats 4000000
namespace K02
open PySem PySem.Spec PyProof.Rows L2 Evl NdefX
def sigL : Nat → List (Str × Nat)
  | 0 => [("add", 2), ("back", 1), ("zero", 0)]
  | 1 => [("low", 2), ("high", 2)]
  | _ => [("pick", 2)]
def SigAt (H : Hp) (t : Addr) (sg : List (Str × Nat)) : Prop := ∃ ss : List Addr, H t = some (.tup (ss.map V.ref)) ∧ Paired (fun s (o : Str × Nat) => H s = some (.tup [.str o.1, .int (o.2 : Int)])) ss sg
theorem SigAt.same {H H' : Hp} {t : Addr} {sg : List (Str × Nat)} (h : SigAt H t sg) (e : Same H H') : SigAt H' t sg := h.imp fun _ z => ⟨e _ _ z.1, Paired.mapP z.2 fun _ _ q => e _ _ q⟩
section
variable {P : Program} {w : World} {K : PySem.W.Frag} {mg : Str → Option Value} {base : Heap}
def spNumbers : Sp := fun vs H Q _ => ∃ k n : Nat, vs = [.int (k : Int), .int (n : Int)] ∧ k < 3 ∧ n ≤ 6 ∧ ∀ D m t H', H D = none → H m = none → Same H H' → H' D = some (.lst [.ref m, .ref t]) → H' m = some (.lst ((nums n).map V.str)) → SigAt H' t (sigL k) → Q (.ref D) H'
abbrev s__law_numbers : Stmt := top 30
abbrev N__law_numbers : List Str := ["kind", "count", "members", "signature", "k"]
theorem sc__law_numbers : FnScope N__law_numbers ["kind", "count"] (defScope s__law_numbers) := ⟨rfl, rfl, rfl, by decide +kernel, rfl, by decide +kernel, by decide +kernel⟩
theorem ok_numbers {f : Addr} {fd : FuncData} (F : Fun K "_law_numbers" "_law_numbers" s__law_numbers f fd) (T : Blt mg) : FnOk P w K mg base CX0 1 f fd ["kind", "count"] spNumbers := by
  refine F.ok sc__law_numbers (fun vs H Q E h => ?_) (fun cdv A outer s H vs Q E hr h => ?_)
  · obtain ⟨k, n, rfl, _⟩ := h
    rfl
  · obtain ⟨k, n, rfl, hk, hn, g⟩ := h
    refine ⟨_, (pss_cons (ps_setLc (i := 2) (own := [("k", 4)]) (g := gName 4) (by rfl) sc__law_numbers.nd rfl rfl (sw_true rfl rfl rfl (by decide +kernel)) (pi_range1 (by rfl) T.range (pa_cons (pv 1) pa_nil)) (blkOk_by (own := [("k", 4)]) (N := N__law_numbers) (sc := defScope s__law_numbers) (by decide +kernel)) (fun _ _ _ _ _ => pg_name (i := 4) sc__law_numbers.nd rfl (Or.inl rfl)) (fun _ _ _ _ _ => pts_nil) (fun _ _ _ _ _ => pe_callTy call_str_int (by rfl) T.str (by decide +kernel) (pa_cons (pv 4) pa_nil)))
      (pss_cons (ps_set (i := 3) sc__law_numbers.nd rfl (Or.inl rfl) (pe_ix (ix_listK K) (pe_lst (pa_cons (pe_lst (pa_cons (pe_tup (pa_cons (pe_str) (pa_cons (pe_int) pa_nil))) (pa_cons (pe_tup (pa_cons (pe_str) (pa_cons (pe_int) pa_nil))) (pa_cons (pe_tup (pa_cons (pe_str) (pa_cons (pe_int) pa_nil))) pa_nil)))) (pa_cons (pe_lst (pa_cons (pe_tup (pa_cons (pe_str) (pa_cons (pe_int) pa_nil))) (pa_cons (pe_tup (pa_cons (pe_str) (pa_cons (pe_int) pa_nil))) pa_nil))) (pa_cons (pe_lst (pa_cons (pe_tup (pa_cons (pe_str) (pa_cons (pe_int) pa_nil))) pa_nil)) pa_nil)))) (pv 0) (fun _ _ => rfl)))
      (pss_one (ps_ret (pe_lst (pa_cons (pv 2) (pa_cons (pe_callTy (call_tupK K) (by rfl) T.tuple (by decide +kernel) (pa_cons (pv 3) pa_nil)) pa_nil))))))), ?_⟩
    unfold tSeq tAsg
    dsimp only
    refine lc_use (J := Itr 0 ((n : Int)).toNat) (H1 := H) (g := gName 4) (fun j => .str (numS j)) (fun R r => ⟨_, rfl, n, rfl, by omega, by omega, r⟩) walk_range (by omega) (fun _ _ => trivial) (fun _ _ _ _ _ z => z.1 ▸ Same.refl _) (fun j y H' H2 hj e z R q => ?_) (fun _ _ _ _ h z => gn_mono h z) (fun m H0 nm e0 hm => ?_)
    · obtain ⟨rfl, hy⟩ := z
      have hy : y = .int (j : Int) := hy.trans (by show V.int (0 + (j : Int)) = _; rw [Int.zero_add])
      subst hy
      exact gN ⟨rfl, _, rfl, j, rfl, int_log (by omega) (by omega), q _ (Same.refl _)⟩
    rw [Int.toNat_natCast] at hm
    have hm : H0 m = some (.lst ((nums n).map V.str)) := by rw [hm]; unfold nums; rw [List.map_map]; rfl
    refine gN ?_
    refine ⟨by show 2 ≤ sizeLine; decide, fun t1 nt1 => ?_⟩
    obtain ⟨H1, eG, e1, ht1⟩ := put_new (o := .tup [.str "add", .int 2]) nt1
    rw [eG]
    clear eG
    refine ⟨by show 2 ≤ sizeLine; decide, fun t2 nt2 => ?_⟩
    obtain ⟨H2, eG, e2, ht2⟩ := put_new (o := .tup [.str "back", .int 1]) nt2
    rw [eG]
    clear eG
    refine ⟨by show 2 ≤ sizeLine; decide, fun t3 nt3 => ?_⟩
    obtain ⟨H3, eG, e3, ht3⟩ := put_new (o := .tup [.str "zero", .int 0]) nt3
    rw [eG]
    clear eG
    refine ⟨by show 3 ≤ sizeLine; decide, fun l1 nl1 => ?_⟩
    obtain ⟨H4, eG, e4, hl1⟩ := put_new (o := .lst [.ref t1, .ref t2, .ref t3]) nl1
    rw [eG]
    clear eG
    refine ⟨by show 2 ≤ sizeLine; decide, fun t4 nt4 => ?_⟩
    obtain ⟨H5, eG, e5, ht4⟩ := put_new (o := .tup [.str "low", .int 2]) nt4
    rw [eG]
    clear eG
    refine ⟨by show 2 ≤ sizeLine; decide, fun t5 nt5 => ?_⟩
    obtain ⟨H6, eG, e6, ht5⟩ := put_new (o := .tup [.str "high", .int 2]) nt5
    rw [eG]
    clear eG
    refine ⟨by show 2 ≤ sizeLine; decide, fun l2 nl2 => ?_⟩
    obtain ⟨H7, eG, e7, hl2⟩ := put_new (o := .lst [.ref t4, .ref t5]) nl2
    rw [eG]
    clear eG
    refine ⟨by show 2 ≤ sizeLine; decide, fun t6 nt6 => ?_⟩
    obtain ⟨H8, eG, e8, ht6⟩ := put_new (o := .tup [.str "pick", .int 2]) nt6
    rw [eG]
    clear eG
    refine ⟨by show 1 ≤ sizeLine; decide, fun l3 nl3 => ?_⟩
    obtain ⟨H9, eG, e9, hl3⟩ := put_new (o := .lst [.ref t6]) nl3
    rw [eG]
    clear eG
    refine ⟨by show 3 ≤ sizeLine; decide, fun l4 nl4 => ?_⟩
    obtain ⟨H10, eG, e10, hl4⟩ := put_new (o := .lst [.ref l1, .ref l2, .ref l3]) nl4
    rw [eG]
    clear eG
    have s10 : Same H10 H10 := Same.refl _
    have s9 : Same H9 H10 := e10
    have s8 : Same H8 H10 := e9.trans s9
    have s7 : Same H7 H10 := e8.trans s8
    have s6 : Same H6 H10 := e7.trans s7
    have s5 : Same H5 H10 := e6.trans s6
    have s4 : Same H4 H10 := e5.trans s5
    have s3 : Same H3 H10 := e4.trans s4
    have s2 : Same H2 H10 := e3.trans s3
    have s1 : Same H1 H10 := e2.trans s2
    have s0 : Same H0 H10 := e1.trans s1
    obtain ⟨lk, ss, a1, a2, a3⟩ : ∃ (lk : Addr) (ss : List Addr), atI [V.ref l1, .ref l2, .ref l3] (k : Int) = some (.ref lk) ∧ H10 lk = some (.lst (ss.map V.ref)) ∧ Paired (fun s (o : Str × Nat) => H10 s = some (.tup [.str o.1, .int (o.2 : Int)])) ss (sigL k) := by
      have hh : k = 0 ∨ k = 1 ∨ k = 2 := by omega
      rcases hh with rfl | rfl | rfl
      · exact ⟨l1, [t1, t2, t3], rfl, s4 _ _ hl1, .cons (s1 _ _ ht1) (.cons (s2 _ _ ht2) (.cons (s3 _ _ ht3) .nil))⟩
      · exact ⟨l2, [t4, t5], rfl, s7 _ _ hl2, .cons (s5 _ _ ht4) (.cons (s6 _ _ ht5) .nil)⟩
      · exact ⟨l3, [t6], rfl, s9 _ _ hl3, .cons (s8 _ _ ht6) .nil⟩
    refine ⟨_, rfl, l4, _, _, _, rfl, rfl, SqL.of hl4, a1, ?_⟩
    refine gN ⟨_, rfl, _, rfl, lk, _, rfl, .inl ⟨SqL.of a2, fun t nt => ?_⟩⟩
    obtain ⟨H11, eG, e11, ht⟩ := put_new (o := .tup (ss.map V.ref)) nt
    rw [eG]
    clear eG
    refine ⟨by show 2 ≤ sizeLine; decide, fun D nD => ?_⟩
    obtain ⟨H12, eG, e12, hD⟩ := put_new (o := .lst [.ref m, .ref t]) nD
    rw [eG]
    have u : Same H0 H12 := s0.trans (e11.trans e12)
    exact g D m t H12 ((Same.trans e0 (s0.trans e11)).free nD) nm (Same.trans e0 u) hD (u _ _ hm) ⟨ss, e12 _ _ ht, Paired.mapP a3 fun _ _ q => e12 _ _ (e11 _ _ q)⟩
end
end K02


set_option Elab.async false
set_option linter.all false
set_option maxRecDepth 100000
set_option maxHeartbeats 4000000
namespace K02
open PySem PySem.Spec PyProof.Rows L2 Evl NdefX
theorem sign_find {os : List Opn} (nd : (os.map (·.1)).Nodup) {o : Opn} (h : o ∈ os) : os.find? (fun p => p.1 == o.1) = some o := by
  induction os with
  | nil => cases h
  | cons p os ih =>
    rw [List.map_cons, List.nodup_cons] at nd
    rcases List.mem_cons.mp h with rfl | h'
    · rw [List.find?_cons_of_pos (by simp)]
    · rw [List.find?_cons_of_neg (by
        intro e
        have e : p.1 = o.1 := by simpa using e
        exact nd.1 (e ▸ List.mem_map_of_mem h'))]
      exact ih nd.2 h'
theorem wee_plain {x : Str} (h : plainB x = true) : Wee x := by
  refine ⟨Nat.le_trans (plain_len h) (by decide), fun c hc => ?_⟩
  unfold plainB at h
  rw [Bool.and_eq_true, List.all_eq_true] at h
  obtain ⟨i, hi, e⟩ := List.mem_iff_getElem.mp hc
  rw [Array.length_toList] at hi
  have z := h.2 _ (List.mem_map.mpr ⟨i, List.mem_range.mpr hi, rfl⟩)
  have z := of_decide_eq_true (show decide (x.cps.getD i 0 ∈ abc9.cps.toList) = true from z)
  have ei : x.cps.getD i 0 = c := by
    rw [Array.getD_eq_getD_getElem?, Array.getElem?_eq_getElem hi, ← e]
    rfl
  rw [ei] at z
  have all : ∀ c ∈ abc9.cps.toList, c < 0x110000 := by decide +kernel
  exact all c z
theorem wee_word {x : Str} (h : wordB x = true) : Wee x := by
  unfold wordB at h
  rw [Bool.and_eq_true] at h
  exact wee_plain h.1
/-- the arguments that the law tries: first members, then one that there is not -/
def fillW (xs : List Str) (n : Nat) (nm : Str) : List Str := List.replicate (n - 1) (xs.getD 0 Str.empty) ++ [nm]
theorem fill_len {xs : List Str} {n : Nat} {nm : Str} : (fillW xs n nm).length = n - 1 + 1 := by
  unfold fillW
  rw [List.length_append, List.length_replicate, List.length_singleton]
theorem say_one {xs : List Str} {os : List Opn} {o : Opn} {nm : Str} (gm : GoodM xs) (go : GoodO xs os) (ho : o ∈ os) (hn : nm ∉ xs) : sayOut o.1 (valOut xs os o.1 (fillW xs o.2.1 nm)) = if 0 < o.2.1 then "member " ++ nm else "count" := by
  unfold valOut
  rw [sign_find go.nd ho]
  dsimp only
  rw [fill_len]
  by_cases h : 0 < o.2.1
  · rw [if_pos h, if_neg (by omega)]
    have m0 : xs.getD 0 Str.empty ∈ xs := by
      have := gm.lo
      rw [List.getD_eq_getElem?_getD, List.getElem?_eq_getElem (by omega)]
      exact List.getElem_mem _
    have e : (fillW xs o.2.1 nm).find? (fun a => !xs.contains a) = some nm := by
      unfold fillW
      rw [List.find?_append, List.find?_eq_none.mpr fun a ha => by rw [List.eq_of_mem_replicate ha]; simpa using m0, Option.none_or, List.find?_cons_of_pos (by simp [hn])]
    rw [e]
    rfl
  · rw [if_neg h, if_pos (by omega)]
    rfl
theorem say_two {xs : List Str} {os : List Opn} {o : Opn} {nm : Str} (go : GoodO xs os) (ho : o ∈ os) : sayOut o.1 (valOut xs os o.1 (fillW xs o.2.1 nm ++ [nm])) = "count" := by
  unfold valOut
  rw [sign_find go.nd ho]
  dsimp only
  rw [List.length_append, fill_len, List.length_singleton, if_pos (by omega)]
  rfl
theorem say_three {xs : List Str} {os : List Opn} {as : List Str} (no : ∀ o ∈ os, o.1 ≠ "no") : sayOut "no" (valOut xs os "no" as) = "sign no" := by
  unfold valOut
  rw [List.find?_eq_none.mpr fun o ho => by simp [no o ho]]
  rfl
def cand : List Str := ["no1", "6", "x", "000"]
section
variable {P : Program} {w : World} {K : PySem.W.Frag} {mg : Str → Option Value} {base : Heap}
def spLost (K : PySem.W.Frag) (C : Addr) : Sp := fun vs H Q _ => ∃ (x m s : Addr) (xs : List Str) (os : List Opn), vs = [.ref x, .ref m, .ref s] ∧ AlgAt C x xs os H ∧ SqL K H m (xs.map V.str) ∧ SigAt H s (os.map fun o => (o.1, o.2.1)) ∧ GoodM xs ∧ GoodO xs os ∧ (∀ o ∈ os, o.1 ≠ "no") ∧
  ∀ H', Same H H' → Q (.bl true) H'
abbrev s__law_lost_right : Stmt := top 36
abbrev N__law_lost_right : List Str := ["made", "members", "signature", "pair", "name", "filled", "due"]
theorem sc__law_lost_right : FnScope N__law_lost_right ["made", "members", "signature"] (defScope s__law_lost_right) := ⟨rfl, rfl, rfl, by decide +kernel, rfl, by decide +kernel, by decide +kernel⟩
theorem ok_lost {C f fh : Addr} {fd fdh : FuncData} (F : Fun K "_law_lost_right" "_law_lost_right" s__law_lost_right f fd) (T : Blt mg) (c : AlgC K C) (c__law_said : Cal P w K mg base 4 "_law_said" ["made", "sign", "row"] (spSaid K C)) (mh : Meth K C "__contains__" fh)
    (F_has : FnOk P w K mg base CX0 1 fh fdh ["self", "name"] (spHasM C)) (b_has : Binds K fdh ["self", "name"] []) : FnOk P w K mg base CX0 5 f fd ["made", "members", "signature"] (spLost K C) := by
  refine F.ok sc__law_lost_right (fun vs H Q E h => ?_) (fun cdv A outer s H vs Q E hr h => ?_)
  · obtain ⟨x, m, s, xs, os, rfl, _⟩ := h
    rfl
  · obtain ⟨x, m, sa, xs, os, rfl, al, hm, ⟨ss, hs, pr⟩, gm, go, no, g⟩ := h
    refine ⟨_, (pss_cons (ps_for PassesOwn.never rfl (pi_tup (pv 2)) (pg_name (i := 3) sc__law_lost_right.nd rfl (Or.inl rfl)) (pss_one (ps_for PassesOwn.never rfl (pi_list (pe_lc (own := [("name", 4)]) (g := gName 4) (by rfl) sc__law_lost_right.nd (pi_list (pe_lst (pa_cons (pe_str) (pa_cons (pe_str) (pa_cons (pe_str) (pa_cons (pe_str) pa_nil)))))) (blkOk_by (own := [("name", 4)]) (N := N__law_lost_right) (sc := defScope s__law_lost_right) (by decide +kernel)) (fun _ _ _ _ _ => pg_name (i := 4) sc__law_lost_right.nd rfl (Or.inl rfl)) (fun _ _ _ _ _ => pts_one (pt_cmpR (op_notInK K) (pv 4) (pv 1) rfl)) (fun _ _ _ _ _ => pv 4))) (pg_name (i := 4) sc__law_lost_right.nd rfl (Or.inl rfl)) (pss_cons (ps_set (i := 5) sc__law_lost_right.nd rfl (Or.inl rfl) (pe_op op_cat (pe_op op_rep (pe_lst (pa_cons (pe_ix (ix_listK K) (pv 1) (pe_int) (fun _ _ => rfl)) pa_nil)) (pe_callB (call_max2 rfl) (by rfl) T.max (by decide +kernel) (pa_cons (pe_int) (pa_cons (pe_op op_sub (pe_ix (ix_tupK K) (pv 3) (pe_int) (fun _ _ => rfl)) (pe_int)) pa_nil)))) (pe_lst (pa_cons (pv 4) pa_nil))))
      (pss_cons (ps_set (i := 6) sc__law_lost_right.nd rfl (Or.inl rfl) (pe_ifExp (pt_cmpR op_gt (pe_ix (ix_tupK K) (pv 3) (pe_int) (fun _ _ => rfl)) (pe_int) (nomark _)) (pe_op op_add_str (pe_str) (pv 4)) (pe_str)))
      (pss_cons (ps_if (PW.pt (pw_or (pt_cmpR op_ne (pe_cal c__law_said (hr.mono (by decide)) (by rfl) (pa_cons (pv 0) (pa_cons (pe_ix (ix_tupK K) (pv 3) (pe_int) (fun _ _ => rfl)) (pa_cons (pv 5) pa_nil)))) (pv 6) (nomark _)) (pw_or1 (pt_cmpR op_ne (pe_cal c__law_said (hr.mono (by decide)) (by rfl) (pa_cons (pv 0) (pa_cons (pe_ix (ix_tupK K) (pv 3) (pe_int) (fun _ _ => rfl)) (pa_cons (pe_op op_cat (pv 5) (pe_lst (pa_cons (pv 4) pa_nil))) pa_nil)))) (pe_str) (nomark _))))) (pss_one (ps_ret (pe_bl))) pss_nil)
      (pss_one (ps_if (PW.pt (pw_or (pt_cmpR op_ne (pe_cal c__law_said (hr.mono (by decide)) (by rfl) (pa_cons (pv 0) (pa_cons (pe_str) (pa_cons (pv 5) pa_nil)))) (pe_str) (nomark _)) (pw_or1 (pt_cmpR (op_has F_has (hr.mono (by decide)) b_has pass0) (pv 4) (pv 0) rfl)))) (pss_one (ps_ret (pe_bl))) pss_nil))))))))
      (pss_one (ps_ret (pe_bl)))), ?_⟩
    refine ⟨_, rfl, sa, rfl, ⟨_, SqT.of hs⟩, for_tup (K := K) (a := sa) (xs := ss.map V.ref) (fun i σ' H' => (∃ v3 v4 v5 v6, σ' = [some (.ref x), some (.ref m), some (.ref sa), v3, v4, v5, v6]) ∧ Same H H')
      ⟨⟨_, _, _, _, rfl⟩, Same.refl _⟩ (fun i σ' H' _ p => SqT.of (p.2 _ _ hs)) (fun i y σ' H' hy p => ?_) (fun σ' H' p => ?_)⟩
    · obtain ⟨⟨v3, v4, v5, v6, rfl⟩, e⟩ := p
      rw [List.getElem?_map, Option.map_eq_some_iff] at hy
      obtain ⟨t, ht, rfl⟩ := hy
      have hp : ∃ o, os[i]? = some o ∧ H t = some (.tup [.str o.1, .int (o.2.1 : Int)]) := by
        obtain ⟨b, hb, q⟩ := paired_get pr ht
        rw [List.getElem?_map, Option.map_eq_some_iff] at hb
        obtain ⟨o, ho, rfl⟩ := hb
        exact ⟨o, ho, q⟩
      obtain ⟨o, hoi, hto⟩ := hp
      have ho : o ∈ os := List.mem_of_getElem? hoi
      refine gN ?_
      delta tFor iList
      refine lc_filtL (K := K) (cand.map V.str) (g := gName 4) (p := fun i => decide (cand.getD i Str.empty ∉ xs)) (v := fun i => V.str (cand.getD i Str.empty)) (fun R r => ⟨by show 4 ≤ sizeLine; decide, fun L nL => ⟨L, rfl, ⟨_, SqL.of upd_same⟩, r L _ (same_upd nL) upd_same⟩⟩) (by decide) (fun i y H2 hy e2 R N q1 q2 => ?_) (fun D H2 e2 hd => ?_)
      · rw [List.getElem?_map, Option.map_eq_some_iff] at hy
        obtain ⟨nm, hn, rfl⟩ := hy
        have en : cand.getD i Str.empty = nm := by rw [List.getD_eq_getElem?_getD, hn]; rfl
        rw [en] at q1 q2
        refine gN ⟨rfl, _, rfl, _, rfl, m, xs.map V.str, rfl, .inl ((e.trans e2).seq hm), rfl, all_flat xs, ?_⟩
        refine ⟨_, rfl, ?_⟩
        by_cases h : nm ∈ xs
        · rw [in_strs.mpr h]
          exact q2 (by simp [h]) _ (Same.refl _)
        · rw [show inV (V.str nm) (xs.map V.str) = false from Bool.eq_false_iff.mpr fun z => h (in_strs.mp z)]
          exact ⟨_, rfl, q1 (by simp [h]) _ (Same.refl _)⟩
      · have hd : H2 D = some (.lst ((((List.range 4).filter fun i => decide (cand.getD i Str.empty ∉ xs)).map fun i => cand.getD i Str.empty).map V.str)) := by rw [List.map_map]; exact hd
        have all : ∀ nm ∈ ((List.range 4).filter fun i => decide (cand.getD i Str.empty ∉ xs)).map fun i => cand.getD i Str.empty, nm ∉ xs ∧ nm.length ≤ 3 ∧ Wee nm := by
          intro nm h
          obtain ⟨i, hi, rfl⟩ := List.mem_map.mp h
          rw [List.mem_filter, List.mem_range] at hi
          have c4 : i = 0 ∨ i = 1 ∨ i = 2 ∨ i = 3 := by omega
          refine ⟨of_decide_eq_true hi.2, ?_⟩
          rcases c4 with rfl | rfl | rfl | rfl
          · exact ⟨by decide +kernel, wee_of _ (by decide)⟩
          · exact ⟨by decide +kernel, wee_of _ (by decide)⟩
          · exact ⟨by decide +kernel, wee_of _ (by decide)⟩
          · exact ⟨by decide +kernel, wee_of _ (by decide)⟩
        generalize ((List.range 4).filter fun i => decide (cand.getD i Str.empty ∉ xs)).map (fun i => cand.getD i Str.empty) = nms at hd all
        have e02 : Same H H2 := e.trans e2
        refine ⟨D, rfl, ⟨_, SqL.of hd⟩, for_list (K := K) (a := D) (xs := nms.map V.str) (fun j σ' H' => (∃ v4 v5 v6, σ' = [some (.ref x), some (.ref m), some (.ref sa), some (.ref t), v4, v5, v6]) ∧ Same H2 H')
          ⟨⟨_, _, _, rfl⟩, Same.refl _⟩ (fun j σ' H' _ p => SqL.of (p.2 _ _ hd)) (fun j y σ' H3 hy p => ?_) (fun σ' H' p => ?_)⟩
        · obtain ⟨⟨w4, w5, w6, rfl⟩, e3⟩ := p
          rw [List.getElem?_map, Option.map_eq_some_iff] at hy
          obtain ⟨nm, hn, rfl⟩ := hy
          obtain ⟨nx, nl, nw⟩ := all nm (List.mem_of_getElem? hn)
          have e03 := e02.trans e3
          have gv := go.va o ho
          have a2 := gv.ar
          obtain ⟨x0, xr, ex⟩ : ∃ x0 xr, xs = x0 :: xr := by
            cases hx : xs with
            | nil => have := gm.lo; rw [hx] at this; cases this
            | cons x0 xr => exact ⟨_, _, rfl⟩
          refine gN ?_
          refine ⟨_, rfl, m, _, 0, .str x0, rfl, rfl, e03.seq hm, by rw [ex]; show atI _ ((0 : Nat) : Int) = _; exact atI_nat rfl, by show 1 ≤ sizeLine; decide, fun l1 nl1 => ?_⟩
          obtain ⟨H4, eG, e4, hl1⟩ := put_new (o := .lst [.str x0]) nl1
          rw [eG]
          clear eG
          refine ⟨_, rfl, t, _, 1, .int (o.2.1 : Int), rfl, rfl, SqT.of (e4 _ _ (e03 _ _ hto)), rfl, _, _, rfl, rfl, _, _, rfl, ?_⟩
          have hk : (if (o.2.1 : Int) - 1 > 0 then (o.2.1 : Int) - 1 else 0).toNat = o.2.1 - 1 := by split <;> omega
          have hk1 : 0 ≤ (if (o.2.1 : Int) - 1 > 0 then (o.2.1 : Int) - 1 else 0) ∧ (if (o.2.1 : Int) - 1 > 0 then (o.2.1 : Int) - 1 else 0) ≤ 1 := by constructor <;> split <;> omega
          refine ⟨l1, _, _, rfl, rfl, hl1, by omega, by omega, by rw [hk]; show 1 * _ ≤ _; rw [sizeLine_eq]; omega, fun p np => ?_⟩
          rw [hk, List.flatten_replicate_singleton]
          obtain ⟨H5, eG, e5, hp5⟩ := put_new (o := .lst (List.replicate (o.2.1 - 1) (V.str x0))) np
          rw [eG]
          clear eG
          refine ⟨_, rfl, by show 1 ≤ sizeLine; decide, fun l2 nl2 => ?_⟩
          obtain ⟨H6, eG, e6, hl2⟩ := put_new (o := .lst [.str nm]) nl2
          rw [eG]
          clear eG
          refine ⟨p, l2, _, _, rfl, rfl, e6 _ _ hp5, hl2, by rw [List.length_replicate, sizeLine_eq]; show _ + 1 ≤ _; omega, fun fl nfl => ?_⟩
          have ef : List.replicate (o.2.1 - 1) (V.str x0) ++ [V.str nm] = (fillW xs o.2.1 nm).map V.str := by
            unfold fillW
            rw [ex, List.map_append, List.map_replicate]
            rfl
          rw [ef]
          obtain ⟨H7, eG, e7, hfl⟩ := put_new (o := .lst ((fillW xs o.2.1 nm).map V.str)) nfl
          rw [eG]
          clear eG
          have e37 : Same H3 H7 := e4.trans (e5.trans (e6.trans e7))
          have e07 : Same H H7 := e03.trans e37
          refine gN ?_
          refine ⟨_, rfl, t, _, 1, .int (o.2.1 : Int), rfl, rfl, SqT.of (e07 _ _ hto), rfl, _, _, rfl, rfl, _, rfl, ?_⟩
          have z1 := say_one gm go ho nx
          have z2 := say_two (nm := nm) go ho
          by_cases h0 : 0 < o.2.1
          all_goals first
            | refine if_true_of (by simp; omega) ⟨_, rfl, _, _, rfl, rfl, say_len (by decide) nw, ?_⟩; rw [if_pos h0] at z1
            | refine if_false_of (by simp; omega) ?_; rw [if_neg h0] at z1
          all_goals refine gN ?_
          all_goals
            have a7 : AlgAt C x xs os H7 := al.same e07
            have wl : (fillW xs o.2.1 nm).length ≤ 1000 := by rw [fill_len]; omega
            have ww : ∀ a ∈ fillW xs o.2.1 nm, Wee a := by
              intro a ha
              unfold fillW at ha
              rcases List.mem_append.mp ha with h | h
              · rw [List.eq_of_mem_replicate h, ex]
                exact wee_plain (gm.pl x0 (by rw [ex]; exact List.mem_cons_self))
              · rw [List.mem_singleton.mp h]
                exact nw
            have wo : Wee o.1 := wee_word (go.wd o ho)
            refine ⟨_, rfl, _, rfl, t, _, 0, .str o.1, rfl, rfl, SqT.of (e07 _ _ hto), rfl, _, rfl, x, fl, o.1, fillW xs o.2.1 nm, xs, os, rfl, a7, SqL.of hfl, wl, gm, go, wo, ww, fun H8 e8 => ?_⟩
            rw [z1]
            refine ⟨_, rfl, rfl, _, rfl, if_false_of (by simp) ?_⟩
            have e08 : Same H H8 := e07.trans e8
            refine ⟨_, rfl, _, rfl, t, _, 0, .str o.1, rfl, rfl, SqT.of (e08 _ _ hto), rfl, _, rfl, _, rfl, by show 1 ≤ sizeLine; decide, fun l3 nl3 => ?_⟩
            obtain ⟨H9, eG, e9, hl3⟩ := put_new (o := .lst [.str nm]) nl3
            rw [eG]
            clear eG
            refine ⟨fl, l3, _, _, rfl, rfl, (e8.trans e9) _ _ hfl, hl3, by rw [List.length_map, sizeLine_eq]; show _ + 1 ≤ _; omega, fun f2 nf2 => ?_⟩
            have ef2 : (fillW xs o.2.1 nm).map V.str ++ [V.str nm] = (fillW xs o.2.1 nm ++ [nm]).map V.str := by rw [List.map_append]; rfl
            rw [ef2]
            obtain ⟨H10, eG, e10, hf2⟩ := put_new (o := .lst ((fillW xs o.2.1 nm ++ [nm]).map V.str)) nf2
            rw [eG]
            clear eG
            have e0A : Same H H10 := e08.trans (e9.trans e10)
            refine ⟨x, f2, o.1, fillW xs o.2.1 nm ++ [nm], xs, os, rfl, al.same e0A, SqL.of hf2, by rw [List.length_append, fill_len]; show _ + 1 ≤ _; omega, gm, go, wo, fun a ha => ?_, fun H11 e11 => ?_⟩
            · rcases List.mem_append.mp ha with h | h
              · exact ww a h
              · rw [List.mem_singleton.mp h]
                exact nw
            rw [z2]
            refine ⟨rfl, _, rfl, if_false_of (by simp) ?_⟩
            have e7B : Same H7 H11 := e8.trans (e9.trans (e10.trans e11))
            have e0B : Same H H11 := e0A.trans e11
            refine ⟨_, rfl, _, rfl, x, fl, "no", fillW xs o.2.1 nm, xs, os, rfl, al.same e0B, SqL.of (e7B _ _ hfl), wl, gm, go, wee_of "no" (by decide), ww, fun H12 eC => ?_⟩
            rw [say_three no]
            have a12 : AlgAt C x xs os H12 := al.same (e0B.trans eC)
            obtain ⟨dx, q1, q2, q3, q4, q5, q6, q7, hx, _⟩ := id a12
            refine ⟨rfl, _, rfl, if_false_of (by simp) ⟨_, rfl, _, rfl, x, C, dx, _, rfl, hx, mh, x, nm, xs, os, rfl, a12, gm.nd, _, rfl, _, rfl, if_false_of (by simp [nx]) ?_⟩⟩
            exact ⟨⟨_, _, _, rfl⟩, e3.trans (e37.trans (e7B.trans eC))⟩
        · obtain ⟨⟨_, _, _, rfl⟩, e3⟩ := p
          exact ⟨⟨_, _, _, _, rfl⟩, e02.trans e3⟩
    · obtain ⟨⟨_, _, _, _, rfl⟩, e⟩ := p
      exact g H' e
end
end K02


set_option Elab.async false
set_option linter.all false
set_option maxRecDepth 100000
set_option maxHeartbeats 4000000
namespace K02
open PySem PySem.Spec PyProof.Rows L2 Evl NdefX
theorem num_back : ∀ i, i < 7 → PySem.intText? (numS i) = some (i : Int) ∧ (numS i).length ≤ 640 := by decide +kernel
inductive Due (n : Nat) : Str → List Nat → Str → Prop where
  | add (a b : Nat) : Due n "add" [a, b] (numS ((a + b) % n))
  | back (a : Nat) : Due n "back" [a] (numS ((n - a) % n))
  | zero : Due n "zero" [] "0"
  | low (a b : Nat) : Due n "low" [a, b] (numS (min a b))
  | high (a b : Nat) : Due n "high" [a, b] (numS (max a b))
  | pick (a b : Nat) : Due n "pick" [a, b] (numS a)
section
variable {P : Program} {w : World} {K : PySem.W.Frag} {mg : Str → Option Value} {base : Heap}
def spDue (K : PySem.W.Frag) : Sp := fun vs H Q _ => ∃ (k : Int) (n : Nat) (sg : Str) (l : Addr) (idx : List Nat) (out : Str), vs = [.int k, .int (n : Int), .str sg, .ref l] ∧ SqL K H l ((idx.map numS).map V.str) ∧ 1 ≤ n ∧ n ≤ 6 ∧ (∀ i ∈ idx, i < n) ∧ Due n sg idx out ∧ ∀ H', Same H H' → Q (.str out) H'
abbrev s__law_due : Stmt := top 31
abbrev N__law_due : List Str := ["kind", "count", "sign", "row", "numbers", "name"]
theorem sc__law_due : FnScope N__law_due ["kind", "count", "sign", "row"] (defScope s__law_due) := ⟨rfl, rfl, rfl, by decide +kernel, rfl, by decide +kernel, by decide +kernel⟩
theorem ok_due {f : Addr} {fd : FuncData} (F : Fun K "_law_due" "_law_due" s__law_due f fd) (T : Blt mg) : FnOk P w K mg base CX0 1 f fd ["kind", "count", "sign", "row"] (spDue K) := by
  refine F.ok sc__law_due (fun vs H Q E h => ?_) (fun cdv A outer s H vs Q E hr h => ?_)
  · obtain ⟨k, n, sg, l, idx, out, rfl, _⟩ := h
    rfl
  · obtain ⟨k, n, sg, l, idx, out, rfl, hl, n1, n6, hi, du, g⟩ := h
    refine ⟨_, (pss_cons (ps_setLc (i := 4) (own := [("name", 5)]) (g := gName 5) (by rfl) sc__law_due.nd rfl rfl (sw_true rfl rfl rfl (by decide +kernel)) (pi_list (pv 3)) (blkOk_by (own := [("name", 5)]) (N := N__law_due) (sc := defScope s__law_due) (by decide +kernel)) (fun _ _ _ _ _ => pg_name (i := 5) sc__law_due.nd rfl (Or.inl rfl)) (fun _ _ _ _ _ => pts_nil) (fun _ _ _ _ _ => pe_callTy call_int_str (by rfl) T.int (by decide +kernel) (pa_cons (pv 5) pa_nil)))
      (pss_cons (ps_if (pt_cmpR op_eq (pv 2) (pe_str) (nomark _)) (pss_one (ps_ret (pe_callTy call_str_int (by rfl) T.str (by decide +kernel) (pa_cons (pe_op op_mod (pe_callB (cr_sumK K rfl) (by rfl) T.sum (by decide +kernel) (pa_cons (pv 4) pa_nil)) (pv 1)) pa_nil)))) pss_nil)
      (pss_cons (ps_if (pt_cmpR op_eq (pv 2) (pe_str) (nomark _)) (pss_one (ps_ret (pe_callTy call_str_int (by rfl) T.str (by decide +kernel) (pa_cons (pe_op op_mod (pe_op op_sub (pv 1) (pe_ix (ix_listK K) (pv 4) (pe_int) (fun _ _ => rfl))) (pv 1)) pa_nil)))) pss_nil)
      (pss_cons (ps_if (pt_cmpR op_eq (pv 2) (pe_str) (nomark _)) (pss_one (ps_ret (pe_str))) pss_nil)
      (pss_cons (ps_if (pt_cmpR op_eq (pv 2) (pe_str) (nomark _)) (pss_one (ps_ret (pe_callTy call_str_int (by rfl) T.str (by decide +kernel) (pa_cons (pe_callB (cr_minK K rfl) (by rfl) T.min (by decide +kernel) (pa_cons (pv 4) pa_nil)) pa_nil)))) pss_nil)
      (pss_one (ps_ret (pe_ifExp (pt_cmpR op_eq (pv 2) (pe_str) (nomark _)) (pe_callTy call_str_int (by rfl) T.str (by decide +kernel) (pa_cons (pe_callB (cr_maxK K rfl) (by rfl) T.max (by decide +kernel) (pa_cons (pv 4) pa_nil)) pa_nil)) (pe_callTy call_str_int (by rfl) T.str (by decide +kernel) (pa_cons (pe_ix (ix_listK K) (pv 4) (pe_int) (fun _ _ => rfl)) pa_nil)))))))))), ?_⟩
    have hm : ((idx.map numS).map V.str).length = idx.length := by rw [List.length_map, List.length_map]
    have hlen : idx.length ≤ 2 := by cases du <;> simp
    unfold tSeq tAsg
    dsimp only
    refine lc_use (J := Itl K l) (H1 := H) (g := gName 5) (fun j => .int ((idx.getD j 0 : Nat) : Int)) (fun R r => ⟨_, rfl, l, rfl, ⟨_, hl⟩, r⟩) (walk_list (xs := (idx.map numS).map V.str)) (by rw [hm]; omega) (fun H' e => e.seq hl) (fun i H' y H2 _ z => z.1 ▸ Same.refl _) (fun i y H' H2 hi2 e z R q => ?_) (fun _ _ _ _ h z => gn_mono h z) (fun D H1 hD e hd => ?_)
    · obtain ⟨rfl, hy⟩ := z
      rw [hm] at hi2
      rw [List.getElem?_map, List.getElem?_map, List.getElem?_eq_getElem hi2] at hy
      obtain rfl := Option.some.inj hy
      have lt := hi _ (List.getElem_mem hi2)
      obtain ⟨t1, t2⟩ := num_back idx[i] (by omega)
      have eg : idx.getD i 0 = idx[i] := by rw [List.getD_eq_getElem?_getD, List.getElem?_eq_getElem hi2]; rfl
      rw [eg] at q
      exact gN ⟨rfl, _, rfl, _, _, rfl, t1, t2, q _ (Same.refl _)⟩
    rw [hm] at hd
    refine gN ?_
    have hd : H1 D = some (.lst ((idx.map fun (i : Nat) => (i : Int)).map V.int)) := by
      rw [hd]
      congr 2
      apply List.ext_getElem?
      intro j
      rw [List.getElem?_map, List.getElem?_map, List.getElem?_map]
      by_cases c : j < idx.length
      · rw [List.getElem?_range c, List.getElem?_eq_getElem c]
        simp [List.getD_eq_getElem?_getD, List.getElem?_eq_getElem c]
      · rw [List.getElem?_eq_none (by rw [List.length_range]; omega), List.getElem?_eq_none (by omega)]
        rfl
    have fin := g H1 e
    have lg : ∀ m : Nat, m < 7 → ((m : Int)).natAbs.log2 < 1920 := fun m h => int_log (by omega) (by omega)
    cases du with
    | add a b =>
      have ha := hi a (by simp)
      have hb := hi b (by simp)
      have hm : (a + b) % n < n := Nat.mod_lt _ (by omega)
      have ec : [(a : Int), (b : Int)].sum % (n : Int) = ((a + b) % n : Nat) := by simp [List.sum_cons]
      refine ⟨_, rfl, rfl, _, rfl, if_true_of (by decide +kernel) ⟨_, rfl, D, [(a : Int), (b : Int)], rfl, SqL.of hd, _, rfl, _, _, rfl, rfl, by show (0 : Int) < n; omega, _, rfl, ?_⟩⟩
      rw [ec]
      exact ⟨lg _ (by omega), fin⟩
    | back a =>
      have ha := hi a (by simp)
      have hm : (n - a) % n < n := Nat.mod_lt _ (by omega)
      have ec : ((n : Int) - (a : Int)) % (n : Int) = ((n - a) % n : Nat) := by rw [← Int.natCast_sub (by omega), ← Int.natCast_emod]
      refine ⟨_, rfl, rfl, _, rfl, if_false_of (by decide +kernel) ⟨_, rfl, rfl, _, rfl, if_true_of (by decide +kernel) ⟨_, rfl, _, rfl, D, _, 0, .int (a : Int), rfl, rfl, SqL.of hd, rfl, _, _, rfl, rfl, _, rfl, _, _, rfl, rfl, by show (0 : Int) < n; omega, _, rfl, ?_⟩⟩⟩
      rw [ec]
      exact ⟨lg _ (by omega), fin⟩
    | zero => exact ⟨_, rfl, rfl, _, rfl, if_false_of (by decide +kernel) ⟨_, rfl, rfl, _, rfl, if_false_of (by decide +kernel) ⟨_, rfl, rfl, _, rfl, if_true_of (by decide +kernel) fin⟩⟩⟩
    | low a b =>
      have ha := hi a (by simp)
      have hb := hi b (by simp)
      refine ⟨_, rfl, rfl, _, rfl, if_false_of (by decide +kernel) ⟨_, rfl, rfl, _, rfl, if_false_of (by decide +kernel) ⟨_, rfl, rfl, _, rfl, if_false_of (by decide +kernel) ⟨_, rfl, rfl, _, rfl, if_true_of (by decide +kernel) ⟨_, rfl, D, [(a : Int), (b : Int)], rfl, SqL.of hd, by show 0 < 2; decide, fun m hm hle => ⟨_, rfl, ?_⟩⟩⟩⟩⟩⟩
      have h1 := hle a (by simp)
      have h2 := hle b (by simp)
      have ec : m = (min a b : Nat) := by
        simp at hm
        omega
      rw [ec]
      exact ⟨lg _ (by omega), fin⟩
    | high a b =>
      have ha := hi a (by simp)
      have hb := hi b (by simp)
      refine ⟨_, rfl, rfl, _, rfl, if_false_of (by decide +kernel) ⟨_, rfl, rfl, _, rfl, if_false_of (by decide +kernel) ⟨_, rfl, rfl, _, rfl, if_false_of (by decide +kernel) ⟨_, rfl, rfl, _, rfl, if_false_of (by decide +kernel) ⟨_, rfl, rfl, _, rfl, if_true_of (by decide +kernel) ⟨_, rfl, D, [(a : Int), (b : Int)], rfl, SqL.of hd, by show 0 < 2; decide, fun m hm hle => ⟨_, rfl, ?_⟩⟩⟩⟩⟩⟩⟩
      have h1 := hle a (by simp)
      have h2 := hle b (by simp)
      have ec : m = (max a b : Nat) := by
        simp at hm
        omega
      rw [ec]
      exact ⟨lg _ (by omega), fin⟩
    | pick a b =>
      have ha := hi a (by simp)
      exact ⟨_, rfl, rfl, _, rfl, if_false_of (by decide +kernel) ⟨_, rfl, rfl, _, rfl, if_false_of (by decide +kernel) ⟨_, rfl, rfl, _, rfl, if_false_of (by decide +kernel) ⟨_, rfl, rfl, _, rfl, if_false_of (by decide +kernel) ⟨_, rfl, rfl, _, rfl, if_false_of (by decide +kernel) ⟨_, rfl, D, _, 0, .int (a : Int), rfl, rfl, SqL.of hd, rfl, _, rfl, lg _ (by omega), fin⟩⟩⟩⟩⟩⟩
end
end K02


set_option Elab.async false
set_option linter.all false
set_option maxRecDepth 100000
set_option maxHeartbeats 4000000
namespace K02
open PySem PySem.Spec PyProof.Rows L2 Evl NdefX
def ch (x : Str) (k : Nat) : Str := ⟨#[x.cps.getD k 0]⟩
def notB (x : Str) : Str := Txt.join Str.empty ((List.range x.cps.size).map fun i => if x.cps.getD i 0 = 48 then ("1" : Str) else "0")
def accB (g : List Str → Str) (x y : Str) (j : Nat) : Str := (List.range j).foldl (fun s k => s ++ g [ch x k, ch y k]) Str.empty
theorem acc_more (g : List Str → Str) (x y : Str) (j : Nat) : accB g x y (j + 1) = accB g x y j ++ g [ch x j, ch y j] := by
  unfold accB
  rw [List.range_succ, List.foldl_append]
  rfl
/-- words that the law takes apart -/
structure BitsOk (g : List Str → Str) (x y : Str) : Prop where
  sz : x.length ≤ 10
  eq : y.length = x.length
  ok : ∀ j, j < x.length → (accB g x y j).length ≤ 100 ∧ (g [ch x j, ch y j]).length ≤ 10
inductive BitsDue : Str → List Str → Str → Prop where
  | not (x : Str) (h : x.length ≤ 10) : BitsDue "not" [x] (notB x)
  | and (x y : Str) (h : BitsOk minS x y) : BitsDue "and" [x, y] (accB minS x y x.length)
  | or (x y : Str) (h : BitsOk maxS x y) : BitsDue "or" [x, y] (accB maxS x y x.length)
theorem ones_sum {f : Nat → Str} (h : ∀ i, (f i).length = 1) : ∀ n, (((List.range n).map f).map fun x => x.length).sum = n
  | 0 => rfl
  | n + 1 => by
    rw [List.range_succ, List.map_append, List.map_append, List.sum_append, ones_sum h n]
    simp [h]
theorem ch_at {x : Str} {k : Nat} (h : k < x.length) : x.cps[k]? = some (x.cps.getD k 0) := by
  have h : k < x.cps.size := h
  rw [Array.getElem?_eq_getElem h, Array.getD_eq_getD_getElem?, Array.getElem?_eq_getElem h]
  rfl
section
variable {P : Program} {w : World} {K : PySem.W.Frag} {mg : Str → Option Value} {base : Heap}
def spBits (K : PySem.W.Frag) : Sp := fun vs H Q _ => ∃ (sg : Str) (l : Addr) (row : List Str) (out : Str), vs = [.str sg, .ref l] ∧ SqL K H l (row.map V.str) ∧ BitsDue sg row out ∧ ∀ H', Same H H' → Q (.str out) H'
abbrev s__law_bits : Stmt := top 32
abbrev N__law_bits : List Str := ["sign", "row", "found", "k", "bits", "bit", "word"]
theorem sc__law_bits : FnScope N__law_bits ["sign", "row"] (defScope s__law_bits) := ⟨rfl, rfl, rfl, by decide +kernel, rfl, by decide +kernel, by decide +kernel⟩
theorem ok_bits {f : Addr} {fd : FuncData} (F : Fun K "_law_bits" "_law_bits" s__law_bits f fd) (T : Blt mg) : FnOk P w K mg base CX0 1 f fd ["sign", "row"] (spBits K) := by
  refine F.ok sc__law_bits (fun vs H Q E h => ?_) (fun cdv A outer s H vs Q E hr h => ?_)
  · obtain ⟨sg, l, row, out, rfl, _⟩ := h
    rfl
  · obtain ⟨sg, l, row, out, rfl, hl, du, g⟩ := h
    refine ⟨_, (pss_cons (ps_if (pt_cmpR op_eq (pv 0) (pe_str) (nomark _)) (pss_one (ps_ret (pe_join (pe_str) (pe_lc (own := [("bit", 5)]) (g := gName 5) (by rfl) sc__law_bits.nd (pi_str (pe_ix (ix_listK K) (pv 1) (pe_int) (fun _ _ => rfl))) (blkOk_by (own := [("bit", 5)]) (N := N__law_bits) (sc := defScope s__law_bits) (by decide +kernel)) (fun _ _ _ _ _ => pg_name (i := 5) sc__law_bits.nd rfl (Or.inl rfl)) (fun _ _ _ _ _ => pts_nil) (fun _ _ _ _ _ => pe_item_str (pe_str) (pe_callTy call_int1 (by rfl) T.int (by decide +kernel) (pa_cons (pe_cmpR op_eq (pv 5) (pe_str) (nomark _)) pa_nil)) (fun _ _ => rfl)))))) pss_nil)
      (pss_cons (ps_set (i := 2) sc__law_bits.nd rfl (Or.inl rfl) (pe_str))
      (pss_cons (ps_for PassesOwn.never rfl (pi_range1 (by rfl) T.range (pa_cons (pe_callB call_len_str (by rfl) T.len (by decide +kernel) (pa_cons (pe_ix (ix_listK K) (pv 1) (pe_int) (fun _ _ => rfl)) pa_nil)) pa_nil)) (pg_name (i := 3) sc__law_bits.nd rfl (Or.inr rfl)) (pss_cons (ps_setLc (i := 4) (own := [("word", 6)]) (g := gName 6) (by rfl) sc__law_bits.nd rfl rfl (sw_true rfl rfl rfl (by decide +kernel)) (pi_list (pv 1)) (blkOk_by (own := [("word", 6)]) (N := N__law_bits) (sc := defScope s__law_bits) (by decide +kernel)) (fun _ _ _ _ _ => pg_name (i := 6) sc__law_bits.nd rfl (Or.inl rfl)) (fun _ _ _ _ _ => pts_nil) (fun _ _ _ _ _ => pe_item_str (pv 6) (pv 3) (fun _ _ => rfl)))
      (pss_one (ps_set (i := 2) sc__law_bits.nd rfl (Or.inl rfl) (pe_op op_add_str (pv 2) (pe_ifExp (pt_cmpR op_eq (pv 0) (pe_str) (nomark _)) (pe_callB (cr_minS K) (by rfl) T.min (by decide +kernel) (pa_cons (pv 4) pa_nil)) (pe_callB (cr_maxS K) (by rfl) T.max (by decide +kernel) (pa_cons (pv 4) pa_nil))))))))
      (pss_one (ps_ret (pv 2)))))), ?_⟩
    -- the two loops' text is the same but for min, max
    cases du with
    | not x hx =>
      have hs : x.cps.size = x.length := rfl
      refine ⟨_, rfl, rfl, _, rfl, if_true_of (by decide +kernel) ?_⟩
      unfold tRet tM1
      dsimp only
      refine ⟨⟨_, rfl⟩, ?_⟩
      refine lc_use (J := Its x) (H1 := H) (g := gName 5) (fun i => .str (if x.cps.getD i 0 = 48 then ("1" : Str) else "0")) (fun R r => ⟨_, rfl, l, _, 0, .str x, rfl, rfl, hl, rfl, x, rfl, r⟩) walk_str (by omega) (fun _ _ => trivial) (fun i H' y H2 _ z => z.1 ▸ Same.refl _) (fun i y H' H2 hi e z R q => ?_) (fun _ _ _ _ h z => gn_mono h z) (fun D H' hD e hd => ?_)
      · obtain ⟨rfl, c, hc, rfl⟩ := z
        have ec : x.cps.getD i 0 = c := by rw [Array.getD_eq_getD_getElem?, hc]; rfl
        rw [ec] at q
        by_cases h0 : c = 48
        · subst h0
          have z := q H2 (Same.refl _)
          rw [if_pos rfl] at z
          exact gN ⟨rfl, _, rfl, rfl, .inr ⟨true, rfl, "01", 1, 49, rfl, rfl, by decide, by decide, by decide, rfl, z⟩⟩
        · have z := q H2 (Same.refl _)
          rw [if_neg h0] at z
          have hne : decide (V.str ⟨#[c]⟩ = V.str "0") = false := by
            refine decide_eq_false fun e => h0 ?_
            have e := V.str.inj e
            have e2 : (⟨#[c]⟩ : Str) = ⟨#[48]⟩ := e
            have e3 : #[c] = #[48] := congrArg Str.cps e2
            simpa using e3
          exact gN ⟨rfl, _, rfl, rfl, .inr ⟨false, by rw [hne], "01", 0, 48, rfl, rfl, by decide, by decide, by decide, rfl, z⟩⟩
      · refine ⟨_, D, (List.range x.cps.size).map fun i => if x.cps.getD i 0 = 48 then ("1" : Str) else "0", rfl, rfl, .inl (SqL.of (by rw [List.map_map]; exact hd)), ?_, g H' e⟩
        rw [ones_sum (f := fun i => if x.cps.getD i 0 = 48 then ("1" : Str) else "0") (fun i => by split <;> rfl) x.cps.size, List.length_map, List.length_range]
        show x.cps.size + x.cps.size * 0 ≤ _
        omega
    | and x y h =>
      have hx := h.sz
      have hyx := h.eq
      refine ⟨_, rfl, rfl, _, rfl, if_false_of (by decide +kernel) ?_⟩
      refine ⟨_, rfl, l, _, 0, .str x, rfl, rfl, hl, rfl, x, rfl, by rw [sizeLine_eq]; omega, _, rfl, by omega, by omega, for_range (lo := 0) (n := ((x.length : Int)).toNat) (fun j σ' H' => ∃ v3 v4, σ' = [some (.str "and"), some (.ref l), some (.str (accB minS x y j)), v3, v4, none, none] ∧ Same H H')
        ⟨none, none, rfl, Same.refl _⟩ (fun j σ' H' hj p => ?_) (fun σ' H' p => ?_)⟩
      · obtain ⟨v3, v4, rfl, e⟩ := p
        rw [Int.toNat_natCast] at hj
        obtain ⟨b1, b2⟩ := h.ok j hj
        refine gN ?_
        unfold tSeq tAsg
        dsimp only
        refine lc_use (J := Itl K l) (H1 := H') (g := gName 6) (fun i => .str (ch ([x, y].getD i Str.empty) j)) (fun R r => ⟨_, rfl, l, rfl, ⟨_, e.seq hl⟩, r⟩) (walk_list (xs := [x, y].map V.str)) (by show 2 ≤ 50000; decide) (fun H2 e2 => e2.seq (e.seq hl)) (fun i H2 y2 H3 _ z => z.1 ▸ Same.refl _) (fun i y2 H2 H3 hi e2 z R q => ?_) (fun _ _ _ _ h z => gn_mono h z) (fun D H2 hD e2 hd => ?_)
        · obtain ⟨rfl, hy⟩ := z
          have hi : i < 2 := hi
          have hh : i = 0 ∨ i = 1 := by omega
          have z := q H3 (Same.refl _)
          rcases hh with rfl | rfl
          · obtain rfl : V.str x = y2 := Option.some.inj hy
            refine gN ⟨rfl, _, rfl, _, rfl, x, (0 + (j : Int)), _, rfl, rfl, by omega, by omega, by omega, ?_, z⟩
            rw [Int.zero_add, Int.toNat_natCast]
            exact ch_at hj
          · obtain rfl : V.str y = y2 := Option.some.inj hy
            refine gN ⟨rfl, _, rfl, _, rfl, y, (0 + (j : Int)), _, rfl, rfl, by omega, by omega, by omega, ?_, z⟩
            rw [Int.zero_add, Int.toNat_natCast]
            exact ch_at (by omega)
        · refine gN ⟨_, rfl, _, rfl, rfl, _, rfl, if_true_of (by decide +kernel) ⟨_, rfl, D, [ch x j, ch y j], rfl, SqL.of hd, by show 0 < 2; decide, _, _, rfl, rfl, by rw [sizeLine_eq]; omega, ?_⟩⟩
          rw [← acc_more]
          exact gN ⟨_, _, rfl, e.trans e2⟩
      · obtain ⟨v3, v4, rfl, e⟩ := p
        rw [Int.toNat_natCast]
        exact ⟨_, rfl, g H' e⟩
    | or x y h =>
      have hx := h.sz
      have hyx := h.eq
      refine ⟨_, rfl, rfl, _, rfl, if_false_of (by decide +kernel) ?_⟩
      refine ⟨_, rfl, l, _, 0, .str x, rfl, rfl, hl, rfl, x, rfl, by rw [sizeLine_eq]; omega, _, rfl, by omega, by omega, for_range (lo := 0) (n := ((x.length : Int)).toNat) (fun j σ' H' => ∃ v3 v4, σ' = [some (.str "or"), some (.ref l), some (.str (accB maxS x y j)), v3, v4, none, none] ∧ Same H H')
        ⟨none, none, rfl, Same.refl _⟩ (fun j σ' H' hj p => ?_) (fun σ' H' p => ?_)⟩
      · obtain ⟨v3, v4, rfl, e⟩ := p
        rw [Int.toNat_natCast] at hj
        obtain ⟨b1, b2⟩ := h.ok j hj
        refine gN ?_
        unfold tSeq tAsg
        dsimp only
        refine lc_use (J := Itl K l) (H1 := H') (g := gName 6) (fun i => .str (ch ([x, y].getD i Str.empty) j)) (fun R r => ⟨_, rfl, l, rfl, ⟨_, e.seq hl⟩, r⟩) (walk_list (xs := [x, y].map V.str)) (by show 2 ≤ 50000; decide) (fun H2 e2 => e2.seq (e.seq hl)) (fun i H2 y2 H3 _ z => z.1 ▸ Same.refl _) (fun i y2 H2 H3 hi e2 z R q => ?_) (fun _ _ _ _ h z => gn_mono h z) (fun D H2 hD e2 hd => ?_)
        · obtain ⟨rfl, hy⟩ := z
          have hi : i < 2 := hi
          have hh : i = 0 ∨ i = 1 := by omega
          have z := q H3 (Same.refl _)
          rcases hh with rfl | rfl
          · obtain rfl : V.str x = y2 := Option.some.inj hy
            refine gN ⟨rfl, _, rfl, _, rfl, x, (0 + (j : Int)), _, rfl, rfl, by omega, by omega, by omega, ?_, z⟩
            rw [Int.zero_add, Int.toNat_natCast]
            exact ch_at hj
          · obtain rfl : V.str y = y2 := Option.some.inj hy
            refine gN ⟨rfl, _, rfl, _, rfl, y, (0 + (j : Int)), _, rfl, rfl, by omega, by omega, by omega, ?_, z⟩
            rw [Int.zero_add, Int.toNat_natCast]
            exact ch_at (by omega)
        · refine gN ⟨_, rfl, _, rfl, rfl, _, rfl, if_false_of (by decide +kernel) ⟨_, rfl, D, [ch x j, ch y j], rfl, SqL.of hd, by show 0 < 2; decide, _, _, rfl, rfl, by rw [sizeLine_eq]; omega, ?_⟩⟩
          rw [← acc_more]
          exact gN ⟨_, _, rfl, e.trans e2⟩
      · obtain ⟨v3, v4, rfl, e⟩ := p
        rw [Int.toNat_natCast]
        exact ⟨_, rfl, g H' e⟩
end
end K02


set_option Elab.async false
set_option linter.all false
set_option maxRecDepth 100000
set_option maxHeartbeats 4000000
namespace K02
open PySem PySem.Spec PyProof.Rows L2 Evl NdefX
def Out.is : Out → Str → Bool
  | .ok v, x => decide (v = x)
  | _, _ => false
theorem Out.of_is {o : Out} {x : Str} (h : o.is x = true) : o = .ok x := by
  cases o with
  | ok v => rw [of_decide_eq_true (show decide (v = x) = true from h)]
  | sign => cases h
  | count => cases h
  | member a => cases h
/-! what is so of the four families, looked through by the kernel -/
def allB (p : Nat → Nat → Bool) : Bool := ((List.range 3).all fun k => (List.range 6).all fun m => p k (m + 1)) && (List.range 2).all fun m => p 3 (m + 1)
theorem all_of {p : Nat → Nat → Bool} (h : allB p = true) {kd n : Nat} (hk : kd < 4) (h1 : 1 ≤ n) (h2 : n ≤ if kd < 3 then 6 else 2) : p kd n = true := by
  unfold allB at h
  simp only [Bool.and_eq_true, List.all_eq_true, List.mem_range] at h
  obtain ⟨m, rfl⟩ : ∃ m, n = m + 1 := ⟨n - 1, by omega⟩
  by_cases h3 : kd < 3
  · rw [if_pos h3] at h2
    exact h.1 kd h3 m (by omega)
  · rw [if_neg h3] at h2
    obtain rfl : kd = 3 := by omega
    exact h.2 m (by omega)
def valB (xs : List Str) (os : List Opn) : Bool := os.all fun o => (List.range (tup xs o.2.1).length).all fun i => (valOut xs os o.1 ((tup xs o.2.1).getD i [])).is (o.2.2.getD i Str.empty)
def tupB (xs : List Str) : Bool := (List.range 3).all fun i => (tup xs i).all fun r => decide (r.length = i)
def signB (os : List Opn) : Bool := os.all fun o => decide (o.1 ≠ "no") && decide (o.1 ≠ "cells")
def shB (xs : List Str) (os : List Opn) : Bool := SeqAt.shaped (sigD os) && SeqAt.shaped (nmD xs)
theorem fam_val : allB (fun k n => valB (xsF k n) (osF k n)) = true := by decide +kernel
theorem fam_tup : allB (fun k n => tupB (xsF k n)) = true := by decide +kernel
theorem fam_sign : allB (fun k n => signB (osF k n)) = true := by decide +kernel
theorem fam_sh : allB (fun k n => shB (xsF k n) (osF k n)) = true := by decide +kernel
theorem fam_m : allB (fun k n => goodMB (xsF k n)) = true := by decide +kernel
theorem fam_o : allB (fun k n => goodOB (xsF k n) (osF k n)) = true := by decide +kernel
theorem fam_e : allB (fun k n => decide (osF k n ≠ [])) = true := by decide +kernel
theorem tup_of {xs : List Str} (h : tupB xs = true) {i : Nat} (hi : i ≤ 2) : ∀ r ∈ tup xs i, r.length = i := by
  unfold tupB at h
  simp only [List.all_eq_true, List.mem_range, decide_eq_true_eq] at h
  exact h i (by omega)
theorem val_of {xs : List Str} {os : List Opn} (h : valB xs os = true) {o : Opn} (ho : o ∈ os) {i : Nat} {r : List Str} (hr : (tup xs o.2.1)[i]? = some r) : valOut xs os o.1 r = .ok (o.2.2.getD i Str.empty) := by
  unfold valB at h
  simp only [List.all_eq_true, List.mem_range] at h
  have hi := (List.getElem?_eq_some_iff.mp hr).1
  have z := h o ho i hi
  rw [List.getD_eq_getElem?_getD, hr] at z
  exact Out.of_is z
theorem sign_of {os : List Opn} (h : signB os = true) {o : Opn} (ho : o ∈ os) : o.1 ≠ "no" ∧ o.1 ≠ "cells" := by
  unfold signB at h
  simp only [List.all_eq_true, Bool.and_eq_true, decide_eq_true_eq] at h
  exact h o ho
theorem sh_of {xs : List Str} {os : List Opn} (h : shB xs os = true) : ShA xs os := by
  unfold shB at h
  rw [Bool.and_eq_true] at h
  exact ⟨h.1, h.2⟩
def shvB (os : List Opn) : Bool := os.all fun o => SeqAt.shaped (nmD o.2.2)
theorem fam_shv : allB (fun k n => shvB (osF k n)) = true := by decide +kernel
theorem shv_of {os : List Opn} (h : shvB os = true) {o : Opn} (ho : o ∈ os) : SeqAt.shaped (nmD o.2.2) = true := by
  unfold shvB at h
  simp only [List.all_eq_true] at h
  exact h o ho
theorem tup_mem {xs : List Str} : ∀ (n : Nat) (r : List Str), r ∈ tup xs n → ∀ a ∈ r, a ∈ xs
  | 0, r, h, a, ha => by
    rw [List.mem_singleton.mp h] at ha
    cases ha
  | n + 1, r, h, a, ha => by
    obtain ⟨q, hq, h⟩ := List.mem_flatMap.mp h
    obtain ⟨x, hx, rfl⟩ := List.mem_map.mp h
    rcases List.mem_append.mp ha with z | z
    · exact tup_mem n q hq a z
    · rw [List.mem_singleton.mp z]
      exact hx
/-! the values of numbers -/
def tupI (n : Nat) : Nat → List (List Nat)
  | 0 => [[]]
  | k + 1 => (tupI n k).flatMap fun r => (List.range n).map fun x => r ++ [x]
def dueO (n : Nat) (sg : Str) (idx : List Nat) : Option Str := match idx with
  | [a, b] => if sg = "add" then some (numS ((a + b) % n)) else if sg = "low" then some (numS (min a b)) else if sg = "high" then some (numS (max a b)) else if sg = "pick" then some (numS a) else none
  | [a] => if sg = "back" then some (numS ((n - a) % n)) else none
  | [] => if sg = "zero" then some "0" else none
  | _ => none
theorem due_of {n : Nat} {sg : Str} {idx : List Nat} {out : Str} (h : dueO n sg idx = some out) : Due n sg idx out := by
  unfold dueO at h
  split at h
  · split at h
    · rename_i e; subst e; injection h with h; subst h; exact .add _ _
    · split at h
      · rename_i e; subst e; injection h with h; subst h; exact .low _ _
      · split at h
        · rename_i e; subst e; injection h with h; subst h; exact .high _ _
        · split at h
          · rename_i e; subst e; injection h with h; subst h; exact .pick _ _
          · cases h
  · split at h
    · rename_i e; subst e; injection h with h; subst h; exact .back _
    · cases h
  · split at h
    · rename_i e; subst e; injection h with h; subst h; exact .zero
    · cases h
  · cases h
def dueB (n : Nat) (xs : List Str) (os : List Opn) : Bool := os.all fun o => (List.range (tup xs o.2.1).length).all fun i =>
  decide ((tup xs o.2.1).getD i [] = ((tupI n o.2.1).getD i []).map numS) && ((tupI n o.2.1).getD i []).all (fun a => decide (a < n)) && decide (dueO n o.1 ((tupI n o.2.1).getD i []) = some (o.2.2.getD i Str.empty))
theorem fam_due : ((List.range 3).all fun k => (List.range 6).all fun m => dueB (m + 1) (xsF k (m + 1)) (osF k (m + 1))) = true := by decide +kernel
theorem due_row {k n : Nat} (hk : k < 3) (h1 : 1 ≤ n) (h6 : n ≤ 6) {o : Opn} (ho : o ∈ osF k n) {i : Nat} {r : List Str} (hr : (tup (xsF k n) o.2.1)[i]? = some r) : ∃ idx : List Nat, r = idx.map numS ∧ (∀ a ∈ idx, a < n) ∧ Due n o.1 idx (o.2.2.getD i Str.empty) := by
  have h := fam_due
  obtain ⟨m, rfl⟩ : ∃ m, n = m + 1 := ⟨n - 1, by omega⟩
  simp only [List.all_eq_true, List.mem_range] at h
  have h := h k hk m (by omega)
  unfold dueB at h
  simp only [List.all_eq_true, List.mem_range, Bool.and_eq_true, decide_eq_true_eq] at h
  have hi := (List.getElem?_eq_some_iff.mp hr).1
  obtain ⟨⟨a1, a2⟩, a3⟩ := h o ho i hi
  rw [List.getD_eq_getElem?_getD (l := tup _ _), hr] at a1
  exact ⟨_, a1, a2, due_of a3⟩
/-! the values of strings -/
def okB (g : List Str → Str) (x y : Str) : Bool := decide (x.length ≤ 10) && decide (y.length = x.length) && (List.range x.length).all fun j => decide ((accB g x y j).length ≤ 100) && decide ((g [ch x j, ch y j]).length ≤ 10)
theorem ok_of {g : List Str → Str} {x y : Str} (h : okB g x y = true) : BitsOk g x y := by
  unfold okB at h
  simp only [List.all_eq_true, List.mem_range, Bool.and_eq_true, decide_eq_true_eq] at h
  exact ⟨h.1.1, h.1.2, fun j hj => h.2 j hj⟩
def bitO (sg : Str) (row : List Str) : Option Str := match row with
  | [x] => if sg = "not" ∧ x.length ≤ 10 then some (notB x) else none
  | [x, y] => if sg = "and" ∧ okB minS x y = true then some (accB minS x y x.length) else if sg = "or" ∧ okB maxS x y = true then some (accB maxS x y x.length) else none
  | _ => none
theorem bit_of {sg : Str} {row : List Str} {out : Str} (h : bitO sg row = some out) : BitsDue sg row out := by
  unfold bitO at h
  split at h
  · split at h
    · rename_i e; obtain ⟨e, e2⟩ := e; subst e; injection h with h; subst h; exact .not _ e2
    · cases h
  · split at h
    · rename_i e; obtain ⟨e, e2⟩ := e; subst e; injection h with h; subst h; exact .and _ _ (ok_of e2)
    · split at h
      · rename_i e; obtain ⟨e, e2⟩ := e; subst e; injection h with h; subst h; exact .or _ _ (ok_of e2)
      · cases h
  · cases h
def bitB (xs : List Str) (os : List Opn) : Bool := os.all fun o => decide (o.2.1 = 0) || (List.range (tup xs o.2.1).length).all fun i => decide (bitO o.1 ((tup xs o.2.1).getD i []) = some (o.2.2.getD i Str.empty))
def endB (xs : List Str) (os : List Opn) : Bool := os.all fun o => decide (0 < o.2.1) || decide (o.2.2 = [if o.1 = "none" then xs.getD 0 Str.empty else xs.getD (xs.length - 1) Str.empty])
theorem fam_bit : ((List.range 2).all fun m => bitB (xsF 3 (m + 1)) (osF 3 (m + 1)) && endB (xsF 3 (m + 1)) (osF 3 (m + 1))) = true := by decide +kernel
theorem bit_row {n : Nat} (h1 : 1 ≤ n) (h2 : n ≤ 2) {o : Opn} (ho : o ∈ osF 3 n) (h0 : 0 < o.2.1) {i : Nat} {r : List Str} (hr : (tup (xsF 3 n) o.2.1)[i]? = some r) : BitsDue o.1 r (o.2.2.getD i Str.empty) := by
  have h := fam_bit
  obtain ⟨m, rfl⟩ : ∃ m, n = m + 1 := ⟨n - 1, by omega⟩
  simp only [List.all_eq_true, List.mem_range] at h
  have h := h m (by omega)
  unfold bitB at h
  simp only [List.all_eq_true, List.mem_range, Bool.and_eq_true, Bool.or_eq_true, decide_eq_true_eq] at h
  have hi := (List.getElem?_eq_some_iff.mp hr).1
  have z := (h.1 o ho).resolve_left (by omega) i hi
  rw [List.getD_eq_getElem?_getD (l := tup _ _), hr] at z
  exact bit_of z
theorem end_row {n : Nat} (h1 : 1 ≤ n) (h2 : n ≤ 2) {o : Opn} (ho : o ∈ osF 3 n) (h0 : o.2.1 = 0) : o.2.2 = [if o.1 = "none" then (xsF 3 n).getD 0 Str.empty else (xsF 3 n).getD ((xsF 3 n).length - 1) Str.empty] := by
  have h := fam_bit
  obtain ⟨m, rfl⟩ : ∃ m, n = m + 1 := ⟨n - 1, by omega⟩
  simp only [List.all_eq_true, List.mem_range] at h
  have h := h m (by omega)
  unfold endB at h
  simp only [List.all_eq_true, List.mem_range, Bool.and_eq_true, Bool.or_eq_true, decide_eq_true_eq] at h
  exact (h.2 o ho).resolve_left (by omega)
/-! two of them beside one another -/
def eqB (k n k' : Nat) : Bool := decide (k = k' ∧ n = 2) || (!decide (k = k' ∧ n = 2) && (!PyData.eqv (sigD (osF k n)) (sigD (osF k' 2)) || (PyData.eqv (sigD (osF k n)) (sigD (osF k' 2)) && !PyData.eqv (nmD (xsF k n)) (nmD (xsF k' 2)))))
theorem fam_eq : allB (fun k n => (List.range 4).all fun k' => eqB k n k') = true := by decide +kernel
theorem eq_out {k n k' : Nat} (hk : k < 4) (h1 : 1 ≤ n) (h2 : n ≤ if k < 3 then 6 else 2) (hk' : k' < 4) {Q : Bool → Prop} (q : Q (decide (k = k' ∧ n = 2))) : EqOut (xsF k n) (xsF k' 2) (osF k n) (osF k' 2) Q := by
  have h := all_of fam_eq hk h1 h2
  simp only [List.all_eq_true, List.mem_range] at h
  have h := h k' hk'
  unfold eqB at h
  unfold EqOut
  by_cases e : k = k' ∧ n = 2
  · rw [decide_eq_true e] at q
    obtain ⟨rfl, rfl⟩ := e
    exact .inl ⟨rfl, rfl, q⟩
  · rw [decide_eq_false e] at q h
    simp only [Bool.false_or, Bool.not_false, Bool.true_and, Bool.or_eq_true, Bool.and_eq_true, Bool.not_eq_true'] at h
    rcases h with h | ⟨h, g⟩
    · exact .inr (.inl ⟨h, q⟩)
    · exact .inr (.inr ⟨h, g, q⟩)
end K02


set_option Elab.async false
set_option linter.all false
set_option maxRecDepth 100000
set_option maxHeartbeats 4000000
namespace K02
open PySem PySem.Spec PyProof.Rows L2 Evl NdefX
section
variable {X : Cx} {k : Nat} {D : Addr → Prop} {m : Str} {ps : List Str} {sp : Sp} {o e : Expr} {es : List Expr} {ta : TE} {t : TA} {apos pos : Pos} {pl : Sem Bool}
theorem pe_mtd (c : MtdA X.prog X.w X.K X.mg X.base k D m ps sp) (hr : Room k X.A) (he : PE X o ta) (ha : PA X (e :: es) t)
    (hst : starEach (e :: es) X.env = (false, eval e X.env) :: starEach es X.env := by rfl) (hpl : (backTo pos (starEach es X.env)).any (·.1) = false := by rfl)
    (ht : eval (.Call (.Attribute o m apos) (e :: es) [] pos) X.env = (do
      let ov ← eval o X.env
      standAt apos.atName
      let (g, first) ← holding [ov] (getMethod ov m pl)
      callWith pos g first (backTo pos (starEach (e :: es) X.env)) (backToKw pos (keywordEach [] X.env))) := by rfl) : PE X (.Call (.Attribute o m apos) (e :: es) [] pos) (tMethA D m sp E0 ta t) := pe_mtdA c hr passL he ha hst hpl ht
theorem pe_mtd0 (c : MtdA X.prog X.w X.K X.mg X.base k D m ps sp) (hr : Room k X.A) (he : PE X o ta)
    (ht : eval (.Call (.Attribute o m apos) [] [] pos) X.env = (do
      let ov ← eval o X.env
      standAt apos.atName
      let (g, first) ← holding [ov] (getMethod ov m pl)
      callWith pos g first (backTo pos (starEach [] X.env)) (backToKw pos (keywordEach [] X.env))) := by rfl) : PE X (.Call (.Attribute o m apos) [] [] pos) (tMethA D m sp E0 ta tNil) := pe_mtdA0 c hr passL he ht
end
section
variable {P : Program} {w : World} {K : PySem.W.Frag} {mg : Str → Option Value} {base : Heap} {Ca CA Cc Cm Cs : Addr} {Cf : Nat → Addr}
theorem seq_go {t u : TS} {D : Ends} {σ : L2.St} {H : Hp} (h : t { D with nx := u D } σ H) : tSeq t u D σ H := h
/-- both ways of an if end alike -/
theorem ifS_join {c : TT} {t u : TS} {D : Ends} {σ : L2.St} {H : Hp} (J : L2.St → Hp → Prop) (h : ∀ D' : Ends, (∀ σ' H', J σ' H' → D'.nx σ' H') → tIfS c t u D' σ H) (hJ : ∀ σ' H', J σ' H' → D.nx σ' H') : tIfS c t u D σ H := h D hJ
def sigF (k n : Nat) : List (Str × Nat) := (osF k n).map fun o => (o.1, o.2.1)
theorem sigF_low {k n : Nat} (h : k < 3) : sigF k n = sigL k := by
  have hh : k = 0 ∨ k = 1 ∨ k = 2 := by omega
  rcases hh with rfl | rfl | rfl <;> rfl
def sigTop : List (Str × Nat) := [("and", 2), ("or", 2), ("not", 1), ("none", 0), ("all", 0)]
theorem sigF_top {k n : Nat} (h : ¬ k < 3) (h4 : k < 4) : sigF k n = sigTop := by
  have hh : k = 3 := by omega
  subst hh
  rfl
def twos : List Str := ["0", "1"]
def fours : List Str := ["00", "01", "10", "11"]
theorem ite_tC {b : Bool} {c : Prop} [Decidable c] (hb : b = decide c) {i j : Int} {σ : L2.St} {H : Hp} {Q : VK} (h : Q (.int (if c then i else j)) H) : if b = true then tC (.int i) σ H Q else tC (.int j) σ H Q := by
  by_cases hc : c
  · rw [if_pos hc] at h
    rw [hb, decide_eq_true hc, if_pos rfl]
    exact h
  · rw [if_neg hc] at h
    rw [hb, decide_eq_false hc, if_neg Bool.false_ne_true]
    exact h
theorem ite_new {b : Bool} {c : Prop} [Decidable c] (hb : b = decide c) {ta tb : TA} {σ : L2.St} {H : Hp} {Q : VK} {A B : List V} (hA : ∀ R : List V → Hp → Prop, R A H → ta σ H R) (hB : ∀ R : List V → Hp → Prop, R B H → tb σ H R) (sA : A.length ≤ sizeLine) (sB : B.length ≤ sizeLine)
    (h : ∀ l, H l = none → Q (.ref l) (upd H l (.lst (if c then A else B)))) : if b = true then tLst ta σ H Q else tLst tb σ H Q := by
  by_cases hc : c
  · rw [hb, decide_eq_true hc, if_pos rfl]
    exact hA _ ⟨sA, fun l nl => by have z := h l nl; rw [if_pos hc] at z; exact z⟩
  · rw [hb, decide_eq_false hc, if_neg Bool.false_ne_true]
    exact hB _ ⟨sB, fun l nl => by have z := h l nl; rw [if_neg hc] at z; exact z⟩
/-- one of the four families -/
def Fam (Cf : Nat → Addr) (C : Addr) : Prop := ∃ k, k < 4 ∧ C = Cf k
def spLaw (K : PySem.W.Frag) : Sp := fun vs H Q _ => ∃ (a : Addr) (ns : List Int), vs = [.ref a] ∧ SqL K H a (ns.map V.int) ∧ ns.length ≤ 63 ∧ ∀ H', Q (.bl true) H'
theorem AlgAt.but {C x d L : Addr} {xs : List Str} {os : List Opn} {H H' : Hp} (al : AlgAt C x xs os H) (S : Src d L H) (b : But d L H H') (hx : xs ≠ []) (ho : os ≠ []) (hs : ∀ o ∈ os, o.1 ≠ "cells" ∧ o.2.2 ≠ []) : AlgAt C x xs os H' := by
  obtain ⟨cs, l, m, t, g1, g2, _⟩ := S.ex
  obtain ⟨dx, t', n, p, r, b', ss, ls, h1, h2, h3, h4, h5, h6, h7, h8, h9, h10⟩ := al
  have go : ∀ y o, H y = some o → o ≠ .dK (srcD L l m t) → o ≠ .lst (cs.map V.int) → H' y = some o := fun y o h n1 n2 => b y o h (ne_of h g1 n1) (ne_of h g2 n2)
  have ls_ne : ∀ ys : List Str, ys ≠ [] → HO.lst (ys.map V.str) ≠ .lst (cs.map V.int) := fun ys hy z => by
    injection z with z
    cases ys with
    | nil => exact hy rfl
    | cons y r =>
      cases cs with
      | nil => simp at z
      | cons c cs =>
        rw [List.map_cons, List.map_cons] at z
        injection z with z _
        cases z
  have hd : ∀ (k : Nat → Key × V) (n : Nat), 0 < n → ((List.range n).map k).head? = some (k 0) := fun k n h => by
    obtain ⟨j, rfl⟩ : ∃ j, n = j + 1 := ⟨n - 1, by omega⟩
    rw [List.range_succ_eq_map, List.map_cons, List.head?_cons]
  have lx : 0 < xs.length := List.length_pos_iff.mpr hx
  have lo : 0 < os.length := List.length_pos_iff.mpr ho
  have n6 : HO.dK (plK xs) ≠ .dK (srcD L l m t) := fun z => by
    injection z with z
    have e := congrArg List.head? z
    unfold plK at e
    rw [hd _ _ lx] at e
    injection e with e
    injection e with _ e
    cases e
  have n7 : HO.dK (arK os) ≠ .dK (srcD L l m t) := fun z => by
    injection z with z
    have e := congrArg List.head? z
    unfold arK at e
    rw [hd _ _ lo] at e
    injection e with e
    injection e with _ e
    cases e
  have n8 : HO.dK (tbK os ls) ≠ .dK (srcD L l m t) := fun z => by
    injection z with z
    have e := congrArg List.head? z
    unfold tbK at e
    rw [hd _ _ lo] at e
    injection e with e
    injection e with e _
    injection e with e
    rw [List.getD_eq_getElem?_getD, List.getElem?_eq_getElem lo] at e
    exact (hs _ (List.getElem_mem lo)).1 e
  refine ⟨dx, t', n, p, r, b', ss, ls, go _ _ h1 (fun z => nomatch z) (fun z => nomatch z), go _ _ h2 (fun z => nomatch z) (fun z => nomatch z), h3, fun j s q => go _ _ (h4 j s q) (fun z => nomatch z) (fun z => nomatch z), go _ _ h5 (fun z => nomatch z) (ls_ne _ hx), go _ _ h6 n6 (fun z => nomatch z), go _ _ h7 n7 (fun z => nomatch z), go _ _ h8 n8 (fun z => nomatch z), h9, fun j l' q => go _ _ (h10 j l' q) (fun z => nomatch z) (ls_ne _ ?_)⟩
  have hj : j < os.length := by
    have := (List.getElem?_eq_some_iff.mp q).1
    omega
  rw [List.getD_eq_getElem?_getD, List.getElem?_eq_getElem hj]
  exact (hs _ (List.getElem_mem hj)).2
theorem dp_sigF {H : Hp} {t : Addr} {os : List Opn} (h : SigAt H t (os.map fun o => (o.1, o.2.1))) : Dp K H (.ref t) (sigD os) := by
  obtain ⟨ss, hs, pr⟩ := h
  refine dp_sig hs (by rw [Paired.length pr, List.length_map]) fun j s q => ?_
  obtain ⟨o, ho, z⟩ := paired_get pr q
  rw [List.getElem?_map, Option.map_eq_some_iff] at ho
  obtain ⟨o', ho', rfl⟩ := ho
  rw [List.getD_eq_getElem?_getD, ho']
  exact z
/-- an operation told in the list L -/
def OpH (H : Hp) (L p : Addr) (o : Opn) : Prop := ∃ va, H p = some (.tup [.str o.1, .int (o.2.1 : Int), .ref va]) ∧ H va = some (.lst (o.2.2.map V.str)) ∧ va ≠ L
theorem OpH.same {H H' : Hp} {L p : Addr} {o : Opn} (h : OpH H L p o) (e : Same H H') : OpH H' L p o := h.imp fun _ z => ⟨e _ _ z.1, e _ _ z.2.1, z.2.2⟩
theorem OpH.put {H : Hp} {L p : Addr} {o : Opn} {ys : List V} {u : HO} (h : OpH H L p o) (hL : H L = some (.lst ys)) : OpH (upd H L u) L p o := h.imp fun _ z => ⟨by rw [upd_ne (ne_of z.1 hL fun z => nomatch z)]; exact z.1, by rw [upd_ne z.2.2]; exact z.2.1, z.2.2⟩
theorem seq3_join {t1 t2 t3 u : TS} {D : Ends} {σ : L2.St} {H : Hp} (J : L2.St → Hp → Prop) (h : ∀ D' : Ends, (∀ σ' H', J σ' H' → D'.nx σ' H') → tSeq t1 (tSeq t2 t3) D' σ H) (hJ : ∀ σ' H', J σ' H' → u D σ' H') : tSeq t1 (tSeq t2 (tSeq t3 u)) D σ H := h { D with nx := u D } hJ
/-- what the law asks of the classes -/
structure FamK (K : PySem.W.Frag) (CA fE fL : Addr) (Cf : Nat → Addr) : Prop where
  k : ∀ C, Fam Cf C → AlgK K C CA
  ka : AlgK K CA CA
  cmp : ∀ C, Fam Cf C → CmpC K C fE
  n1 : ∀ C, Fam Cf C → PySem.W.notFirst K C (.ref CA) = true
  n2 : ∀ C C', Fam Cf C → Fam Cf C' → PySem.W.notFirst K C (.ref C') = true
  ln : ∀ C, Fam Cf C → Meth K C "__len__" fL
  sb : ∀ C, Fam Cf C → C ≠ CA ∧ PySem.W.subIn K (.ref C) (.ref CA) = some true
abbrev s_law : Stmt := top 38
abbrev N_law : List Str := ["script", "source", "kind", "count", "made", "members", "signature", "both", "told", "pair", "rows", "values", "again", "other", "bad", "row"]
theorem sc_law : FnScope N_law ["script"] (defScope s_law) := ⟨rfl, rfl, rfl, by decide +kernel, rfl, by decide +kernel, by decide +kernel⟩
theorem ok_law {f fL fE : Addr} {fd fdL fdE : FuncData} (F : Fun K "law" "law" s_law f fd) (T : Blt mg) (gA : mg "Algebra" = some (.ref CA))
    (c__law_source : Cal P w K mg base 1 "_law_source" ["script"] (spSource K)) (c__law_pick : Cal P w K mg base 1 "_law_pick" ["source", "many"] spPick) (c__law_made : Cal P w K mg base 7 "_law_made" ["kind", "count"] (spMade Ca Cf))
    (c__law_numbers : Cal P w K mg base 1 "_law_numbers" ["kind", "count"] spNumbers) (c__law_tuples : Cal P w K mg base 1 "_law_tuples" ["members", "arity"] (spTup K)) (c__law_due : Cal P w K mg base 1 "_law_due" ["kind", "count", "sign", "row"] (spDue K)) (c__law_bits : Cal P w K mg base 1 "_law_bits" ["sign", "row"] (spBits K))
    (c__law_lost_right : Cal P w K mg base 5 "_law_lost_right" ["made", "members", "signature"] (anyC (Fam Cf) (spLost K))) (c__law_refused : Cal P w K mg base 8 "_law_refused" ["kind", "count"] spRef)
    (m_members : MtdA P w K mg base 1 (Fam Cf) "members" ["self"] (anyC (Fam Cf) spMem)) (m_value : MtdA P w K mg base 3 (Fam Cf) "value" ["self", "sign", "arguments"] (anyC (Fam Cf) fun C => spVal K C Cc Cm Cs))
    (MA : Mkr P w K mg base 4 "Algebra" CA ["self", "members", "operations"] (spAlg K CA)) (FL : FnOk P w K mg base CX0 1 fL fdL ["self"] (anyC (Fam Cf) spLen)) (bL : Binds K fdL ["self"] []) (FE : FnOk P w K mg base CX0 1 fE fdE ["self", "other"] (spEqA K CA)) (bE : Binds K fdE ["self", "other"] []) (W0 : FamK K CA fE fL Cf) :
    FnOk P w K mg base CX0 9 f fd ["script"] (spLaw K) := by
  refine F.ok sc_law (fun vs H Q E h => ?_) (fun cdv A outer s H vs Q E hr h => ?_)
  · obtain ⟨a, ns, rfl, _⟩ := h
    rfl
  · obtain ⟨a, ns, rfl, ha, hn, g⟩ := h
    have hu64 := hu64_of hr
    refine ⟨_, (pss_cons (ps_set (i := 1) sc_law.nd rfl (Or.inl rfl) (pe_cal c__law_source (hr.mono (by decide)) (by rfl) (pa_cons (pv 0) pa_nil)))
      (pss_cons (ps_set (i := 2) sc_law.nd rfl (Or.inr rfl) (pe_cal c__law_pick (hr.mono (by decide)) (by rfl) (pa_cons (pv 1) (pa_cons (pe_int) pa_nil))))
      (pss_cons (ps_set (i := 3) sc_law.nd rfl (Or.inr rfl) (pe_op op_add (pe_int) (pe_cal c__law_pick (hr.mono (by decide)) (by rfl) (pa_cons (pv 1) (pa_cons (pe_ifExp (pt_cmpR op_lt (pv 2) (pe_int) (nomark _)) (pe_int) (pe_int)) pa_nil)))))
      (pss_cons (ps_set (i := 4) sc_law.nd rfl (Or.inr rfl) (pe_cal c__law_made (hr.mono (by decide)) (by rfl) (pa_cons (pv 2) (pa_cons (pv 3) pa_nil))))
      (pss_cons (ps_set (i := 5) sc_law.nd rfl (Or.inl rfl) (pe_ifExp (pt_cmpR op_eq (pv 3) (pe_int) (nomark _)) (pe_lst (pa_cons (pe_str) (pa_cons (pe_str) pa_nil))) (pe_lst (pa_cons (pe_str) (pa_cons (pe_str) (pa_cons (pe_str) (pa_cons (pe_str) pa_nil)))))))
      (pss_cons (ps_set (i := 6) sc_law.nd rfl (Or.inl rfl) (pe_tup (pa_cons (pe_tup (pa_cons (pe_str) (pa_cons (pe_int) pa_nil))) (pa_cons (pe_tup (pa_cons (pe_str) (pa_cons (pe_int) pa_nil))) (pa_cons (pe_tup (pa_cons (pe_str) (pa_cons (pe_int) pa_nil))) (pa_cons (pe_tup (pa_cons (pe_str) (pa_cons (pe_int) pa_nil))) (pa_cons (pe_tup (pa_cons (pe_str) (pa_cons (pe_int) pa_nil))) pa_nil)))))))
      (pss_cons (ps_if (pt_cmpR op_lt (pv 2) (pe_int) (nomark _)) (pss_cons (ps_set (i := 7) sc_law.nd rfl (Or.inl rfl) (pe_cal c__law_numbers (hr.mono (by decide)) (by rfl) (pa_cons (pv 2) (pa_cons (pv 3) pa_nil))))
      (pss_cons (ps_set (i := 5) sc_law.nd rfl (Or.inl rfl) (pe_ix (ix_listK K) (pv 7) (pe_int) (fun _ _ => rfl)))
      (pss_one (ps_set (i := 6) sc_law.nd rfl (Or.inl rfl) (pe_ix (ix_listK K) (pv 7) (pe_int) (fun _ _ => rfl)))))) pss_nil)
      (pss_cons (ps_if (PW.pt (pw_or (pt_cmpR (op_neDK K hu64) (pe_mtd0 m_members (hr.mono (by decide)) (pv 4)) (pv 5) (nomark _)) (pw_or (pt_cmpR (op_neDK K hu64) (pe_fld (pv 4) rfl) (pv 6) (nomark _)) (pw_or1 (pt_not (pt_val (pe_callB (call_isiK' K) (by rfl) T.isinstance (by decide +kernel) (pa_cons (pv 4) (pa_cons (pe_gref rfl gA) pa_nil))))))))) (pss_one (ps_ret (pe_bl))) pss_nil)
      (pss_cons (ps_set (i := 8) sc_law.nd rfl (Or.inl rfl) (pe_lst pa_nil))
      (pss_cons (ps_for PassesOwn.never rfl (pi_tup (pv 6)) (pg_name (i := 9) sc_law.nd rfl (Or.inr rfl)) (pss_cons (ps_set (i := 10) sc_law.nd rfl (Or.inl rfl) (pe_cal c__law_tuples (hr.mono (by decide)) (by rfl) (pa_cons (pv 5) (pa_cons (pe_ix (ix_tupK K) (pv 9) (pe_int) (fun _ _ => rfl)) pa_nil))))
      (pss_cons (ps_set (i := 11) sc_law.nd rfl (Or.inl rfl) (pe_ifExp (pt_cmpR op_lt (pv 2) (pe_int) (nomark _)) (pe_lc (own := [("row", 15)]) (g := gName 15) (by rfl) sc_law.nd (pi_list (pv 10)) (blkOk_by (own := [("row", 15)]) (N := N_law) (sc := defScope s_law) (by decide +kernel)) (fun _ _ _ _ _ => pg_name (i := 15) sc_law.nd rfl (Or.inl rfl)) (fun _ _ _ _ _ => pts_nil) (fun _ _ _ _ _ => pe_cal c__law_due (hr.mono (by decide)) (by rfl) (pa_cons (pv 2) (pa_cons (pv 3) (pa_cons (pe_ix (ix_tupK K) (pv 9) (pe_int) (fun _ _ => rfl)) (pa_cons (pv 15) pa_nil)))))) (pe_lst pa_nil)))
      (pss_cons (ps_if (PW.pt (pw_and (pt_cmpR op_eq (pv 2) (pe_int) (nomark _)) (pw_and1 (pt_cmpR op_gt (pe_ix (ix_tupK K) (pv 9) (pe_int) (fun _ _ => rfl)) (pe_int) (nomark _))))) (pss_one (ps_setLc (i := 11) (own := [("row", 15)]) (g := gName 15) (by rfl) sc_law.nd rfl rfl (sw_true rfl rfl rfl (by decide +kernel)) (pi_list (pv 10)) (blkOk_by (own := [("row", 15)]) (N := N_law) (sc := defScope s_law) (by decide +kernel)) (fun _ _ _ _ _ => pg_name (i := 15) sc_law.nd rfl (Or.inl rfl)) (fun _ _ _ _ _ => pts_nil) (fun _ _ _ _ _ => pe_cal c__law_bits (hr.mono (by decide)) (by rfl) (pa_cons (pe_ix (ix_tupK K) (pv 9) (pe_int) (fun _ _ => rfl)) (pa_cons (pv 15) pa_nil))))) pss_nil)
      (pss_cons (ps_if (PW.pt (pw_and (pt_cmpR op_eq (pv 2) (pe_int) (nomark _)) (pw_and1 (pt_cmpR op_eq (pe_ix (ix_tupK K) (pv 9) (pe_int) (fun _ _ => rfl)) (pe_int) (nomark _))))) (pss_one (ps_set (i := 11) sc_law.nd rfl (Or.inl rfl) (pe_lst (pa_cons (pe_ifExp (pt_cmpR op_eq (pe_ix (ix_tupK K) (pv 9) (pe_int) (fun _ _ => rfl)) (pe_str) (nomark _)) (pe_ix (ix_listK K) (pv 5) (pe_int) (fun _ _ => rfl)) (pe_ix (ix_listK K) (pv 5) (pe_op op_sub (pe_callB (call_lenK K) (by rfl) T.len (by decide +kernel) (pa_cons (pv 5) pa_nil)) (pe_int)) (fun _ _ => rfl))) pa_nil)))) pss_nil)
      (pss_cons (ps_if (pt_cmpR (op_neDK K hu64) (pe_lc (own := [("row", 15)]) (g := gName 15) (by rfl) sc_law.nd (pi_list (pv 10)) (blkOk_by (own := [("row", 15)]) (N := N_law) (sc := defScope s_law) (by decide +kernel)) (fun _ _ _ _ _ => pg_name (i := 15) sc_law.nd rfl (Or.inl rfl)) (fun _ _ _ _ _ => pts_nil) (fun _ _ _ _ _ => pe_mtd m_value (hr.mono (by decide)) (pv 4) (pa_cons (pe_ix (ix_tupK K) (pv 9) (pe_int) (fun _ _ => rfl)) (pa_cons (pv 15) pa_nil)))) (pv 11) (nomark _)) (pss_one (ps_ret (pe_bl))) pss_nil)
      (pss_one (ps_expr (pe_bm PySem.F.plainAttrs_list PySem.F.slot_list_append PySem.F.type_list_append mt_append (pv 8) (pa_cons (pe_tup (pa_cons (pe_ix (ix_tupK K) (pv 9) (pe_int) (fun _ _ => rfl)) (pa_cons (pe_ix (ix_tupK K) (pv 9) (pe_int) (fun _ _ => rfl)) (pa_cons (pv 11) pa_nil)))) pa_nil))))))))))
      (pss_cons (ps_expr (pe_bm PySem.F.plainAttrs_list PySem.F.slot_list_append PySem.F.type_list_append mt_append (pe_mtd0 m_members (hr.mono (by decide)) (pv 4)) (pa_cons (pe_str) pa_nil)))
      (pss_cons (ps_set (i := 12) sc_law.nd rfl (Or.inl rfl) (pe_mkr (E := E0) MA (hr.mono (by decide)) (by rfl) passL (pa_cons (pv 5) (pa_cons (pv 8) pa_nil))))
      (pss_cons (ps_if (PW.pt (pw_or (pt_cmpR (op_neI FE (hr.mono (by decide)) bE pass0) (pv 4) (pv 12) (nomark _)) (pw_or (pt_cmpR (op_neI FE (hr.mono (by decide)) bE pass0) (pv 12) (pv 4) (nomark _)) (pw_or (pt_cmpR (op_neDK K hu64) (pe_mtd0 m_members (hr.mono (by decide)) (pv 4)) (pv 5) (nomark _)) (pw_or1 (pt_cmpR op_ne (pe_callB (call_lenIK K FL (hr.mono (by decide)) bL pass0) (by rfl) T.len (by decide +kernel) (pa_cons (pv 4) pa_nil)) (pe_callB (call_lenK K) (by rfl) T.len (by decide +kernel) (pa_cons (pv 5) pa_nil)) (nomark _))))))) (pss_one (ps_ret (pe_bl))) pss_nil)
      (pss_cons (ps_if (pt_not (pt_val (pe_cal c__law_lost_right (hr.mono (by decide)) (by rfl) (pa_cons (pv 4) (pa_cons (pv 5) (pa_cons (pv 6) pa_nil)))))) (pss_one (ps_ret (pe_bl))) pss_nil)
      (pss_cons (ps_set (i := 13) sc_law.nd rfl (Or.inl rfl) (pe_cal c__law_pick (hr.mono (by decide)) (by rfl) (pa_cons (pv 1) (pa_cons (pe_int) pa_nil))))
      (pss_cons (ps_for PassesOwn.never rfl (pi_list (pe_ifExp (pt_cmpR op_lt (pv 13) (pe_int) (nomark _)) (pe_lst (pa_cons (pe_int) (pa_cons (pe_un un_neg pe_int) (pa_cons (pe_int) pa_nil)))) (pe_lst (pa_cons (pe_int) (pa_cons (pe_int) (pa_cons (pe_un un_neg pe_int) pa_nil)))))) (pg_name (i := 14) sc_law.nd rfl (Or.inl rfl)) (pss_one (ps_if (pt_not (pt_val (pe_cal c__law_refused (hr.mono (by decide)) (by rfl) (pa_cons (pv 13) (pa_cons (pv 14) pa_nil))))) (pss_one (ps_ret (pe_bl))) pss_nil)))
      (pss_one (ps_ret (pe_cmpR op_eq (pe_cmpR (op_eqI FE (hr.mono (by decide)) bE pass0) (pv 4) (pe_cal c__law_made (hr.mono (by decide)) (by rfl) (pa_cons (pv 13) (pa_cons (pe_int) pa_nil))) (nomark _)) (pe_and (pe_cmpR op_eq (pv 2) (pv 13) (nomark _)) (pe_one (pe_cmpR op_eq (pv 3) (pe_int) (nomark _)))) (nomark _)))))))))))))))))))), ?_⟩
    -- source, kind
    refine ⟨_, rfl, a, ns, rfl, ha, hn, fun d L H1 hd hL S1 s1 => ?_⟩
    refine gN ⟨_, rfl, d, L, 4, rfl, S1, by decide, fun kz H2 k0 k1 S2 b2 => ?_⟩
    obtain ⟨kd, rfl⟩ := Int.eq_ofNat_of_zero_le k0
    have hk : kd < 4 := by omega
    refine gN ?_
    -- count
    refine ⟨_, rfl, _, rfl, _, _, rfl, rfl, _, rfl, ?_⟩
    refine ite_tC (c := kd < 3) (by rw [decide_eq_decide]; omega) ?_
    refine ⟨d, L, if kd < 3 then 6 else 2, rfl, S2, by split <;> decide, fun cz H3 c0 c1 S3 b3 => ?_⟩
    obtain ⟨cn, rfl⟩ := Int.eq_ofNat_of_zero_le c0
    have hc : cn + 1 ≤ (if kd < 3 then 6 else 2) := by split <;> split at c1 <;> omega
    refine ⟨1, (cn : Int), rfl, rfl, gN ?_⟩
    -- made
    refine ⟨_, rfl, _, rfl, kd, _, rfl, hk, .inl ⟨by omega, ?_, fun x H4 nx s4 al => ?_⟩⟩
    · show (1 : Int) + cn ≤ topF kd
      unfold topF
      split <;> split at hc <;> omega
    · refine gN ?_
      -- members
      refine ⟨_, rfl, rfl, _, rfl, ite_new (c := cn = 0) (by rw [decide_eq_decide]; constructor <;> intro z <;> first | (have z := V.int.inj z; omega) | (subst z; rfl)) (A := twos.map V.str) (B := fours.map V.str) (fun R r => r) (fun R r => r) (by decide) (by decide) fun m0 nm0 => ?_⟩
      obtain ⟨H5, eG, s5, hm0⟩ := put_new (o := .lst (if cn = 0 then twos.map V.str else fours.map V.str)) nm0
      rw [eG]
      clear eG
      refine gN ?_
      -- signature
      refine ⟨by show 2 ≤ sizeLine; decide, fun t1 nt1 => ?_⟩
      obtain ⟨H6, eG, s6, ht1⟩ := put_new (o := .tup [.str "and", .int 2]) nt1
      rw [eG]
      clear eG
      refine ⟨by show 2 ≤ sizeLine; decide, fun t2 nt2 => ?_⟩
      obtain ⟨H7, eG, s7, ht2⟩ := put_new (o := .tup [.str "or", .int 2]) nt2
      rw [eG]
      clear eG
      refine ⟨by show 2 ≤ sizeLine; decide, fun t3 nt3 => ?_⟩
      obtain ⟨H8, eG, s8, ht3⟩ := put_new (o := .tup [.str "not", .int 1]) nt3
      rw [eG]
      clear eG
      refine ⟨by show 2 ≤ sizeLine; decide, fun t4 nt4 => ?_⟩
      obtain ⟨H9, eG, s9, ht4⟩ := put_new (o := .tup [.str "none", .int 0]) nt4
      rw [eG]
      clear eG
      refine ⟨by show 2 ≤ sizeLine; decide, fun t5 nt5 => ?_⟩
      obtain ⟨HA, eG, sA, ht5⟩ := put_new (o := .tup [.str "all", .int 0]) nt5
      rw [eG]
      clear eG
      refine ⟨by show 5 ≤ sizeLine; decide, fun t6 nt6 => ?_⟩
      obtain ⟨HB, eG, sB, ht6⟩ := put_new (o := .tup [.ref t1, .ref t2, .ref t3, .ref t4, .ref t5]) nt6
      rw [eG]
      clear eG
      refine gN ?_
      have sAll : Same H4 HB := s5.trans (s6.trans (s7.trans (s8.trans (s9.trans (sA.trans sB)))))
      dsimp only
      refine seq_go (t := tIfS _ _ _) ?_
      refine ifS_join (fun σ' H' => ∃ (m' t' : Addr) (v7 : Option V), σ' = [some (.ref a), some (.ref d), some (.int (kd : Int)), some (.int (1 + (cn : Int))), some (.ref x), some (.ref m'), some (.ref t'), v7, none, none, none, none, none, none, none, none] ∧ Same HB H' ∧ H' m' = some (.lst ((xsF kd (cn + 1)).map V.str)) ∧ SigAt H' t' (sigF kd (cn + 1))) (fun D' hD => ?_) (fun σ' H' p => ?_)
      · refine ⟨_, rfl, _, _, rfl, rfl, _, rfl, ?_⟩
        by_cases h3 : kd < 3
        · refine if_true_of (by simp; omega) ?_
          have hn6 : cn + 1 ≤ 6 := by rw [if_pos h3] at hc; exact hc
          refine ⟨_, rfl, _, rfl, kd, cn + 1, by rw [show ((cn + 1 : Nat) : Int) = 1 + (cn : Int) by omega]; rfl, h3, hn6, fun B m1 t1' HC nB nm sC hB hm1 ht1' => ?_⟩
          refine gN ⟨_, rfl, B, _, 0, .ref m1, rfl, rfl, SqL.of hB, rfl, gN ⟨_, rfl, B, _, 1, .ref t1', rfl, rfl, SqL.of hB, rfl, gN (hD _ _ ⟨m1, t1', _, rfl, sC, ?_, ?_⟩)⟩⟩
          · unfold xsF
            rw [if_pos h3]
            exact hm1
          · rw [sigF_low h3]
            exact ht1'
        · refine if_false_of (by simp; omega) (hD _ _ ⟨m0, t6, none, rfl, Same.refl _, ?_, ?_⟩)
          · have z := (s6.trans (s7.trans (s8.trans (s9.trans (sA.trans sB))))) _ _ hm0
            rw [z]
            unfold xsF
            rw [if_neg h3] at hc ⊢
            have h2 : cn = 0 ∨ cn = 1 := by omega
            rcases h2 with rfl | rfl <;> rfl
          · rw [sigF_top h3 hk]
            exact ⟨[t1, t2, t3, t4, t5], ht6, .cons ((s7.trans (s8.trans (s9.trans (sA.trans sB)))) _ _ ht1) (.cons ((s8.trans (s9.trans (sA.trans sB))) _ _ ht2) (.cons ((s9.trans (sA.trans sB)) _ _ ht3) (.cons ((sA.trans sB) _ _ ht4) (.cons (sB _ _ ht5) .nil))))⟩
      · obtain ⟨m', t', v7, rfl, sp, hm, hsg⟩ := p
        have n1 : 1 ≤ cn + 1 := by omega
        have gm : GoodM (xsF kd (cn + 1)) := goodM_of (all_of fam_m hk n1 hc)
        have go : GoodO (xsF kd (cn + 1)) (osF kd (cn + 1)) := goodO_of (all_of fam_o hk n1 hc)
        have sh : ShA (xsF kd (cn + 1)) (osF kd (cn + 1)) := sh_of (all_of fam_sh hk n1 hc)
        have vb : valB (xsF kd (cn + 1)) (osF kd (cn + 1)) = true := all_of fam_val hk n1 hc
        have tb : tupB (xsF kd (cn + 1)) = true := all_of fam_tup hk n1 hc
        have sb : signB (osF kd (cn + 1)) = true := all_of fam_sign hk n1 hc
        have eb : osF kd (cn + 1) ≠ [] := of_decide_eq_true (all_of fam_e hk n1 hc)
        have eN : (1 + (cn : Int)).toNat = cn + 1 := by omega
        rw [eN] at al
        have al := al.same (sAll.trans sp)
        have fC : Fam Cf (Cf kd) := ⟨kd, hk, rfl⟩
        obtain ⟨dx, t, n, p, r, b, ss, ls, h1, h2, h3, h4, h5, h6, h7, h8, h9, h10⟩ := id al
        dsimp only
        refine seq_go (t := tIfS _ _ _) ?_
        have ck := W0.k _ fC
        have eb' := W0.ka
        have hsv : shvB (osF kd (cn + 1)) = true := all_of fam_shv hk n1 hc
        -- what was told of made
        refine ⟨_, rfl, x, Cf kd, dx, _, fC, rfl, h1, rfl, Cf kd, fC, x, _, _, rfl, al, fun lm HA nlm eA hlm => ?_⟩
        refine ⟨_, rfl, neD_same (dp_nm hlm) (dp_nm (eA _ _ hm)) sh.n (tst (if_false_of rfl ?_))⟩
        refine ⟨_, rfl, x, Cf kd, dx, _, _, rfl, eA _ _ h1, ck.c.cl, ck.c.n1, rfl, _, rfl, neD_same (dp_sig (eA _ _ h2) h3 fun j s q => eA _ _ (h4 j s q)) (dp_sigF (hsg.same eA)) sh.s (tst (if_false_of rfl ?_))⟩
        refine ⟨_, rfl, .ref x, _, _, _, true, rfl, ClsV.own CA, .base (.ins (eA _ _ h1) ck.c.cl ck.ha ck.hn ck.ht ck.hm), ck.it, true, rfl, iteF ?_⟩
        -- told
        refine ⟨by show 0 ≤ sizeLine; decide, fun L8 nL8 => ?_⟩
        obtain ⟨HB1, eG, eB, hL8⟩ := put_new (o := .lst []) nL8
        refine gN ?_
        rw [eG]
        clear eG
        obtain ⟨ss', hs', prS⟩ := id hsg
        have eAB := eA.trans eB
        have lss : (ss'.map V.ref).length = (osF kd (cn + 1)).length := by rw [List.length_map, Paired.length prS]; exact List.length_map _
        have l6 := gm.hi
        have l5 := go.hi
        refine ⟨_, rfl, t', rfl, ⟨_, SqT.of (eAB _ _ hs')⟩, for_tup (K := K) (a := t') (xs := ss'.map V.ref) (fun i σ' H2 => (∃ v9 v10 v11, σ' = [some (.ref a), some (.ref d), some (.int (kd : Int)), some (.int (1 + (cn : Int))), some (.ref x), some (.ref m'), some (.ref t'), v7, some (.ref L8), v9, v10, v11, none, none, none, none]) ∧ Same HA H2 ∧ ∃ ps : List Addr, H2 L8 = some (.lst (ps.map V.ref)) ∧ Paired (OpH H2 L8) ps ((osF kd (cn + 1)).take i))
          ⟨⟨none, none, none, rfl⟩, eB, [], hL8, .nil⟩ (fun i σ' H2 _ p => SqT.of (p.2.1 _ _ (eA _ _ hs'))) (fun i y σ' H2 hy p => ?_) (fun σ' H2 p => ?_)⟩
        · obtain ⟨⟨v9, v10, v11, rfl⟩, e2, ps, hps, prP⟩ := p
          have hi : i < (osF kd (cn + 1)).length := by rw [← lss]; exact (List.getElem?_eq_some_iff.mp hy).1
          rw [List.getElem?_map, Option.map_eq_some_iff] at hy
          obtain ⟨s', hs_i, rfl⟩ := hy
          obtain ⟨o', ho', hso⟩ := paired_get prS hs_i
          unfold sigF at ho'
          rw [List.getElem?_map, Option.map_eq_some_iff] at ho'
          obtain ⟨o, hoi, rfl⟩ := ho'
          have ho : o ∈ osF kd (cn + 1) := List.mem_of_getElem? hoi
          have gv := go.va o ho
          have a2 := gv.ar
          have eA2 : Same H' H2 := eA.trans e2
          have hs2 := eA2 _ _ hso
          have hm2 := eA2 _ _ hm
          refine gN ?_
          refine ⟨_, rfl, _, rfl, s', _, 1, .int (o.2.1 : Int), rfl, rfl, SqT.of hs2, rfl, m', o.2.1, _, rfl, SqL.of hm2, l6, a2, fun j hj => tup_of tb (by omega), fun D H3 nD e3 hR => ?_⟩
          refine gN ?_
          obtain ⟨qs, hD, prQ⟩ := id hR
          have lq : qs.length = o.2.2.length := by rw [Paired.length prQ, tup_len, gv.sz]
          have lqm : (qs.map V.ref).length = o.2.2.length := by rw [List.length_map, lq]
          have lv : o.2.2.length ≤ 36 := by
            have hh : o.2.1 = 0 ∨ o.2.1 = 1 ∨ o.2.1 = 2 := by omega
            rw [gv.sz]
            rcases hh with e | e | e
            · rw [e]; simp
            · rw [e, Nat.pow_one]; omega
            · rw [e, Nat.pow_two]
              have := Nat.mul_le_mul l6 l6
              omega
          have sq_vals : (List.range o.2.2.length).map (fun j => V.str (o.2.2.getD j Str.empty)) = o.2.2.map V.str := by
            apply List.ext_getElem?
            intro j
            rw [List.getElem?_map, List.getElem?_map]
            by_cases c : j < o.2.2.length
            · rw [List.getElem?_range c, List.getElem?_eq_getElem c]
              simp [List.getD_eq_getElem?_getD, List.getElem?_eq_getElem c]
            · rw [List.getElem?_eq_none (by rw [List.length_range]; omega), List.getElem?_eq_none (by omega)]
              rfl
          dsimp only
          refine seq3_join (fun σ' H' => ∃ v, σ' = [some (.ref a), some (.ref d), some (.int (kd : Int)), some (.int (1 + (cn : Int))), some (.ref x), some (.ref m'), some (.ref t'), v7, some (.ref L8), some (.ref s'), some (.ref D), some (.ref v), none, none, none, none] ∧ Same H3 H' ∧ H' v = some (.lst (o.2.2.map V.str)) ∧ H3 v = none) (fun D' hD' => ?_) (fun σ' H4 p => ?_)
          · by_cases h3 : kd < 3
            · refine ⟨_, rfl, _, _, rfl, rfl, _, rfl, if_true_of (by simp; omega) ?_⟩
              have hn6 : cn + 1 ≤ 6 := by rw [if_pos h3] at hc; exact hc
              refine lc_use (J := Itl K D) (H1 := H3) (g := gName 15) (fun j => .str (o.2.2.getD j Str.empty)) (fun R r => ⟨_, rfl, D, rfl, ⟨_, SqL.of hD⟩, r⟩) (walk_list (xs := qs.map V.ref)) (by rw [lqm]; omega) (fun H' e => e.seq (SqL.of hD)) (fun j H' y H2 _ z => z.1 ▸ Same.refl _) (fun j y H' H4 hj e z R q => ?_) (fun _ _ _ _ h z => gn_mono h z) (fun v H4 nv e4 hv => ?_)
              · obtain ⟨rfl, hy⟩ := z
                rw [List.getElem?_map, Option.map_eq_some_iff] at hy
                obtain ⟨p, hp, rfl⟩ := hy
                obtain ⟨r, hr', hpr⟩ := paired_get prQ hp
                obtain ⟨idx, rfl, hlt, du⟩ := due_row h3 n1 hn6 ho hr'
                exact gN ⟨rfl, _, rfl, _, rfl, _, rfl, s', _, 0, .str o.1, rfl, rfl, SqT.of ((e3.trans e) _ _ hs2), rfl, _, rfl, _, cn + 1, o.1, p, idx, _, by rw [show ((cn + 1 : Nat) : Int) = 1 + (cn : Int) by omega]; rfl, SqL.of (e _ _ hpr), n1, hn6, hlt, du, fun H6 e6 => q _ e6⟩
              · rw [lqm, sq_vals] at hv
                refine gN ?_
                have nk : decide (V.int (kd : Int) = V.int 3) = false := decide_eq_false fun z => by have z := V.int.inj z; omega
                refine ⟨_, rfl, rfl, _, rfl, if_false_of nk (if_false_of rfl ?_)⟩
                refine ⟨_, rfl, rfl, _, rfl, if_false_of nk (if_false_of rfl ?_)⟩
                exact hD' _ _ ⟨v, rfl, e4, hv, nv⟩
            · obtain rfl : kd = 3 := by omega
              have hn2 : cn + 1 ≤ 2 := by rw [if_neg (by decide)] at hc; exact hc
              refine ⟨_, rfl, _, _, rfl, rfl, _, rfl, if_false_of (by decide) ⟨by show 0 ≤ sizeLine; decide, fun l0 nl0 => ?_⟩⟩
              obtain ⟨HC, eG, eC, hl0⟩ := put_new (o := .lst []) nl0
              refine gN ?_
              rw [eG]
              clear eG
              have yk : decide (V.int ((3 : Nat) : Int) = V.int 3) = true := by decide
              have hsC : HC s' = some (.tup [.str o.1, .int (o.2.1 : Int)]) := eC _ _ (e3 _ _ hs2)
              have hDC := eC _ _ hD
              by_cases h0 : 0 < o.2.1
              · refine ⟨_, rfl, rfl, _, rfl, if_true_of yk ⟨_, rfl, s', _, 1, .int (o.2.1 : Int), rfl, rfl, SqT.of hsC, rfl, _, _, rfl, rfl, _, rfl, if_true_of (by simp; omega) ?_⟩⟩
                refine lc_use (J := Itl K D) (H1 := HC) (g := gName 15) (fun j => .str (o.2.2.getD j Str.empty)) (fun R r => ⟨_, rfl, D, rfl, ⟨_, SqL.of hDC⟩, r⟩) (walk_list (xs := qs.map V.ref)) (by rw [lqm]; omega) (fun H' e => e.seq (SqL.of hDC)) (fun j H' y H2 _ z => z.1 ▸ Same.refl _) (fun j y H' H4 hj e z R q => ?_) (fun _ _ _ _ h z => gn_mono h z) (fun v H4 nv e4 hv => ?_)
                · obtain ⟨rfl, hy⟩ := z
                  rw [List.getElem?_map, Option.map_eq_some_iff] at hy
                  obtain ⟨p, hp, rfl⟩ := hy
                  obtain ⟨r, hr', hpr⟩ := paired_get prQ hp
                  exact gN ⟨rfl, _, rfl, s', _, 0, .str o.1, rfl, rfl, SqT.of (e _ _ hsC), rfl, _, rfl, o.1, p, r, _, rfl, SqL.of (e _ _ (eC _ _ hpr)), bit_row n1 hn2 ho h0 hr', fun H6 e6 => q _ e6⟩
                · rw [lqm, sq_vals] at hv
                  refine gN ?_
                  refine ⟨_, rfl, rfl, _, rfl, if_true_of yk ⟨_, rfl, s', _, 1, .int (o.2.1 : Int), rfl, rfl, SqT.of (e4 _ _ hsC), rfl, rfl, _, rfl, if_false_of (decide_eq_false fun z => by have z := V.int.inj z; omega) ?_⟩⟩
                  exact hD' _ _ ⟨v, rfl, eC.trans e4, hv, eC.free nv⟩
              · have z0 : o.2.1 = 0 := by omega
                refine ⟨_, rfl, rfl, _, rfl, if_true_of yk ⟨_, rfl, s', _, 1, .int (o.2.1 : Int), rfl, rfl, SqT.of hsC, rfl, _, _, rfl, rfl, _, rfl, if_false_of (by simp; omega) ?_⟩⟩
                refine ⟨_, rfl, rfl, _, rfl, if_true_of yk ⟨_, rfl, s', _, 1, .int (o.2.1 : Int), rfl, rfl, SqT.of hsC, rfl, rfl, _, rfl, if_true_of (decide_eq_true (by rw [z0]; rfl)) ?_⟩⟩
                have hmC : HC m' = some (.lst ((xsF 3 (cn + 1)).map V.str)) := eC _ _ (e3 _ _ hm2)
                have er := end_row n1 hn2 ho z0
                have lx := gm.lo
                by_cases hz : o.1 = "none"
                · rw [if_pos hz] at er
                  refine ⟨_, rfl, s', _, 0, .str o.1, rfl, rfl, SqT.of hsC, rfl, rfl, _, rfl, if_true_of (decide_eq_true (by rw [hz])) ?_⟩
                  refine ⟨_, rfl, m', _, ((0 : Nat) : Int), .str ((xsF 3 (cn + 1)).getD 0 Str.empty), rfl, rfl, SqL.of hmC, atI_nat (by rw [List.getElem?_map, List.getElem?_eq_getElem (by omega), List.getD_eq_getElem?_getD, List.getElem?_eq_getElem (by omega)]; rfl), by show 1 ≤ sizeLine; decide, fun v nv => ?_⟩
                  obtain ⟨H4, eG, e4, hv⟩ := put_new (o := .lst [.str ((xsF 3 (cn + 1)).getD 0 Str.empty)]) nv
                  refine gN ?_
                  rw [eG]
                  clear eG
                  exact hD' _ _ ⟨v, rfl, eC.trans e4, by rw [er]; exact hv, eC.free nv⟩
                · rw [if_neg hz] at er
                  refine ⟨_, rfl, s', _, 0, .str o.1, rfl, rfl, SqT.of hsC, rfl, rfl, _, rfl, if_false_of (decide_eq_false fun z => hz (V.str.inj z)) ?_⟩
                  refine ⟨_, rfl, _, rfl, m', _, rfl, .inl (SqL.of hmC), _, _, rfl, rfl, m', _, _, .str ((xsF 3 (cn + 1)).getD ((xsF 3 (cn + 1)).length - 1) Str.empty), rfl, rfl, SqL.of hmC, ?_, by show 1 ≤ sizeLine; decide, fun v nv => ?_⟩
                  · rw [List.length_map, show (((xsF 3 (cn + 1)).length : Int) - 1) = (((xsF 3 (cn + 1)).length - 1 : Nat) : Int) by omega]
                    exact atI_nat (by rw [List.getElem?_map, List.getElem?_eq_getElem (by omega), List.getD_eq_getElem?_getD, List.getElem?_eq_getElem (by omega)]; rfl)
                  · obtain ⟨H4, eG, e4, hv⟩ := put_new (o := .lst [.str ((xsF 3 (cn + 1)).getD ((xsF 3 (cn + 1)).length - 1) Str.empty)]) nv
                    refine gN ?_
                    rw [eG]
                    clear eG
                    exact hD' _ _ ⟨v, rfl, eC.trans e4, by rw [er]; exact hv, eC.free nv⟩
          · obtain ⟨v, rfl, e4, hv, nv⟩ := p
            have e24 : Same H2 H4 := e3.trans e4
            have al4 := al.same (eA2.trans e24)
            have hs4 := e24 _ _ hs2
            have hD4 := e4 _ _ hD
            have wo : Wee o.1 := wee_word (go.wd o ho)
            refine seq_go (t := tIfS _ _ _) ?_
            unfold tIfS tTest tOp
            dsimp only
            refine lc_use (J := Itl K D) (H1 := H4) (g := gName 15) (fun j => .str (o.2.2.getD j Str.empty)) (fun R r => ⟨_, rfl, D, rfl, ⟨_, SqL.of hD4⟩, r⟩) (walk_list (xs := qs.map V.ref)) (by rw [lqm]; omega) (fun H' e => e.seq (SqL.of hD4)) (fun j H' y H2 _ z => z.1 ▸ Same.refl _) (fun j y H' H5 hj e z R q => ?_) (fun _ _ _ _ h z => gn_mono h z) (fun D2 H5 nD2 e5 hD2 => ?_)
            · obtain ⟨rfl, hy⟩ := z
              rw [List.getElem?_map, Option.map_eq_some_iff] at hy
              obtain ⟨p, hp, rfl⟩ := hy
              obtain ⟨r, hr', hpr⟩ := paired_get prQ hp
              have rm := List.mem_of_getElem? hr'
              have rl := tup_of tb a2 r rm
              refine gN ⟨rfl, _, rfl, x, Cf kd, dx, _, fC, rfl, (eA2.trans (e24.trans e)) _ _ h1, rfl, _, rfl, s', _, 0, .str o.1, rfl, rfl, SqT.of (e _ _ hs4), rfl, _, rfl, Cf kd, fC, x, p, o.1, r, _, _, rfl, al4.same e, SqL.of (e _ _ (e4 _ _ hpr)), by omega, gm, go, wo, fun a ha => wee_plain (gm.pl a (tup_mem _ r rm a ha)), ?_⟩
              rw [val_of vb ho hr']
              exact q _ (Same.refl _)
            · rw [lqm, sq_vals] at hD2
              refine ⟨_, rfl, neD_same (dp_nm hD2) (dp_nm (e5 _ _ hv)) (shv_of hsv ho) (tst (if_false_of rfl ?_))⟩
              have hs5 := e5 _ _ hs4
              have e25 : Same H2 H5 := e24.trans e5
              have h85 := e25 _ _ hps
              refine ⟨_, rfl, .inl ⟨rfl, _, SqL.of h85⟩, _, rfl, s', _, 0, .str o.1, rfl, rfl, SqT.of hs5, rfl, _, rfl, s', _, 1, .int (o.2.1 : Int), rfl, rfl, SqT.of hs5, rfl, _, rfl, by show 3 ≤ sizeLine; decide, fun tp ntp => ?_⟩
              obtain ⟨H6, eG, e6, htp⟩ := put_new (o := .tup [.str o.1, .int (o.2.1 : Int), .ref v]) ntp
              rw [eG]
              clear eG
              have h86 := e6 _ _ h85
              have lps : ps.length ≤ 5 := by rw [Paired.length prP, List.length_take]; omega
              refine ⟨L8, _, _, rfl, rfl, h86, by rw [List.length_map, sizeLine_eq]; omega, ?_⟩
              have e26 : Same H2 H6 := e25.trans e6
              refine ⟨⟨_, _, _, rfl⟩, same_mut (e2.trans e26) nL8, ps ++ [tp], by rw [upd_same, List.map_append]; rfl, ?_⟩
              rw [List.take_add_one, hoi]
              exact paired_app (Paired.mapP prP fun _ _ q => (q.same e26).put h86) (.cons (OpH.put ⟨v, htp, e6 _ _ (e5 _ _ hv), (ne_of_none (e3 _ _ hps) nv).symm⟩ h86) .nil)
        · obtain ⟨⟨v9, v10, v11, rfl⟩, e2, ps, hps, prP⟩ := p
          rw [lss, List.take_length] at prP
          have eA2 : Same H' H2 := eA.trans e2
          have al2 := al.same eA2
          have hx2 := eA2 _ _ h1
          have hm2 := eA2 _ _ hm
          -- a told list, changed
          refine ⟨_, rfl, x, Cf kd, dx, _, fC, rfl, hx2, rfl, Cf kd, fC, x, _, _, rfl, al2, fun lz HZ nlz eZ hlz => ?_⟩
          refine ⟨.inl ⟨rfl, _, SqL.of hlz⟩, lz, _, _, rfl, rfl, hlz, by rw [List.length_map, sizeLine_eq]; omega, ?_⟩
          obtain ⟨H3, eG⟩ : ∃ H3, upd HZ lz (.lst ((xsF kd (cn + 1)).map V.str ++ [.str "zz"])) = H3 := ⟨_, rfl⟩
          have e3 : Same H2 H3 := by rw [← eG]; exact same_mut eZ nlz
          rw [eG]
          clear eG
          -- the algebra told anew
          refine ⟨_, rfl, _, rfl, fun x2 dx2 nx2 nd2 ne2 => ?_⟩
          have s0 : Same H3 (upd (upd H3 dx2 (.own x2)) x2 (.ins CA dx2 [])) := fun b o q => by
            rw [upd_ne (ne_of_none q nx2), upd_ne (ne_of_none q nd2)]
            exact q
          have u3 := e3.trans s0
          refine ⟨x2, m', L8, dx2, _, _, rfl, upd_same, SqL.of (u3 _ _ hm2), ⟨ps, SqL.of (u3 _ _ hps), Paired.mapP prP fun _ _ q => (q.same u3).imp fun _ z => ⟨SqT.of z.1, SqL.of z.2.1⟩⟩, gm, go, fun H4 off aln => ⟨rfl, ?_⟩⟩
          have e4 : Same H3 H4 := fun b o q => off b o (s0 b o q) (ne_of_none q nx2)
          refine gN ?_
          have eH4 : Same H' H4 := eA2.trans (e3.trans e4)
          have al4 := al.same eH4
          have hx4 := eH4 _ _ h1
          obtain ⟨dn, tn, nn, pn, rn, bn, ssn, lsn, g1, _⟩ := id aln
          -- the two are the same
          refine ⟨_, rfl, _, rfl, x, Cf kd, dx, _, x2, CA, dn, _, rfl, rfl, hx4, g1, .inl ⟨W0.cmp _ fC, W0.n1 _ fC, x, x2, Cf kd, CA, _, _, _, _, rfl, ck, W0.ka, al4, aln, go, sh, sh, .inl ⟨rfl, rfl, true, rfl, tst (if_false_of rfl ?_)⟩⟩⟩
          refine ⟨_, rfl, _, rfl, x2, CA, dn, _, x, Cf kd, dx, _, rfl, rfl, g1, hx4, .inr ⟨W0.cmp _ fC, (W0.sb _ fC).1, (W0.sb _ fC).2, x, x2, Cf kd, CA, _, _, _, _, rfl, ck, W0.ka, al4, aln, go, sh, sh, .inl ⟨rfl, rfl, true, rfl, tst (if_false_of rfl ?_)⟩⟩⟩
          refine ⟨_, rfl, x, Cf kd, dx, _, fC, rfl, hx4, rfl, Cf kd, fC, x, _, _, rfl, al4, fun ln H5 nln e5 hln => ?_⟩
          have eH5 : Same H' H5 := eH4.trans e5
          refine ⟨_, rfl, neD_same (dp_nm hln) (dp_nm (eH5 _ _ hm)) sh.n (tst (if_false_of rfl ?_))⟩
          refine ⟨_, rfl, x, Cf kd, dx, _, rfl, eH5 _ _ h1, W0.ln _ fC, Cf kd, fC, x, _, _, rfl, al.same eH5, _, rfl, by omega, _, rfl, m', _, rfl, .inl (SqL.of (eH5 _ _ hm)), rfl, _, rfl, if_false_of (by rw [List.length_map]; simp) ?_⟩
          -- what is refused
          refine ⟨_, rfl, _, rfl, _, rfl, Cf kd, fC, x, m', t', _, _, rfl, al.same eH5, SqL.of (eH5 _ _ hm), hsg.same eH5, gm, go, fun o ho => (sign_of sb ho).1, fun H6 e6 => ⟨true, rfl, iteF ?_⟩⟩
          have eH6 : Same H' H6 := eH5.trans e6
          have S6 : Src d L H6 := S3.same (s4.trans (sAll.trans (sp.trans eH6)))
          refine ⟨_, rfl, d, L, 4, rfl, S6, by decide, fun oz H7 o0 o1 S7 b7 => ?_⟩
          obtain ⟨ot, rfl⟩ := Int.eq_ofNat_of_zero_le o0
          have hot : ot < 4 := by omega
          have al7 : AlgAt (Cf kd) x (xsF kd (cn + 1)) (osF kd (cn + 1)) H7 := (al.same eH6).but S6 b7 (List.length_pos_iff.mp (by have := gm.lo; omega)) eb fun o ho => ⟨(sign_of sb ho).2, fun z => by
            have sz := (go.va o ho).sz
            rw [z] at sz
            have : 0 < (xsF kd (cn + 1)).length ^ o.2.1 := Nat.pow_pos gm.lo
            rw [← sz] at this
            cases this⟩
          refine gN ?_
          refine ⟨_, rfl, _, _, rfl, rfl, _, rfl, ite_new (c := ot < 3) (by rw [decide_eq_decide]; show (ot : Int) < 3 ↔ _; omega) (A := [V.int 0, .int (-1), .int 7]) (B := [V.int 0, .int 3, .int (-1)]) (fun R r => ⟨1, rfl, r⟩) (fun R r => ⟨1, rfl, r⟩) (by decide) (by decide) fun L9 nL9 => ?_⟩
          obtain ⟨H8, eG, e8, hL9⟩ := put_new (o := .lst (if ot < 3 then [V.int 0, .int (-1), .int 7] else [V.int 0, .int 3, .int (-1)])) nL9
          rw [eG]
          clear eG
          have bad : ∀ y ∈ (if ot < 3 then [V.int 0, .int (-1), .int 7] else [V.int 0, .int 3, .int (-1)]), ∃ z : Int, y = V.int z ∧ ¬ (1 ≤ z ∧ z ≤ topF ot) := by
            unfold topF
            intro y hy
            split at hy
            · rw [if_pos (by assumption)]
              simp only [List.mem_cons, List.not_mem_nil, or_false] at hy
              rcases hy with rfl | rfl | rfl
              · exact ⟨_, rfl, by omega⟩
              · exact ⟨_, rfl, by omega⟩
              · exact ⟨_, rfl, by omega⟩
            · rw [if_neg (by assumption)]
              simp only [List.mem_cons, List.not_mem_nil, or_false] at hy
              rcases hy with rfl | rfl | rfl
              · exact ⟨_, rfl, by omega⟩
              · exact ⟨_, rfl, by omega⟩
              · exact ⟨_, rfl, by omega⟩
          generalize (if ot < 3 then [V.int 0, .int (-1), .int 7] else [V.int 0, .int 3, .int (-1)]) = bads at hL9 bad
          refine ⟨L9, rfl, ⟨_, SqL.of hL9⟩, for_list (K := K) (a := L9) (xs := bads) (fun i σ' H9 => (∃ v14, σ' = [some (.ref a), some (.ref d), some (.int (kd : Int)), some (.int (1 + (cn : Int))), some (.ref x), some (.ref m'), some (.ref t'), v7, some (.ref L8), v9, v10, v11, some (.ref x2), some (.int (ot : Int)), v14, none]) ∧ Same H8 H9)
            ⟨⟨none, rfl⟩, Same.refl _⟩ (fun i σ' H9 _ p => SqL.of (p.2 _ _ hL9)) (fun i y σ' H9 hy p => ?_) (fun σ' H9 p => ?_)⟩
          · obtain ⟨⟨v14, rfl⟩, e9⟩ := p
            obtain ⟨z, rfl, hz⟩ := bad y (List.mem_of_getElem? hy)
            refine gN ⟨_, rfl, _, rfl, ot, z, rfl, hot, hz, fun H10 e10 => ⟨true, rfl, iteF ?_⟩⟩
            exact ⟨⟨_, rfl⟩, e9.trans e10⟩
          · obtain ⟨⟨v14, rfl⟩, e9⟩ := p
            have t2 : (2 : Nat) ≤ if ot < 3 then 6 else 2 := by split <;> decide
            have sh2 : ShA (xsF ot 2) (osF ot 2) := sh_of (all_of fam_sh hot (by decide) t2)
            have fO : Fam Cf (Cf ot) := ⟨ot, hot, rfl⟩
            have al9 := al7.same (e8.trans e9)
            have hx9 := al9
            obtain ⟨ex, tx, nx', px, rx, bx, ssx, lsx, k1', _⟩ := hx9
            refine ⟨_, rfl, _, rfl, ot, 2, rfl, hot, .inl ⟨by decide, by unfold topF; split <;> decide, fun y HA' ny eY aly => ?_⟩⟩
            have aly : AlgAt (Cf ot) y (xsF ot 2) (osF ot 2) HA' := aly
            have al10 := al9.same eY
            obtain ⟨ey, ty, ny', py, ry, by_, ssy, lsy, k2', _⟩ := id aly
            refine ⟨x, Cf kd, ex, _, y, Cf ot, ey, _, rfl, rfl, eY _ _ k1', k2', .inl ⟨W0.cmp _ fC, W0.n2 _ _ fC fO, x, y, Cf kd, Cf ot, _, _, _, _, rfl, ck, W0.k _ fO, al10, aly, go, sh, sh2, eq_out hk n1 hc hot ?_⟩⟩
            refine ⟨_, rfl, ?_⟩
            have fin : ∀ b c : Bool, b = c → rEq (V.bl b) (V.bl c) HA' Q := fun b c e => ⟨rfl, by rw [e, decide_eq_true rfl]; exact g _⟩
            by_cases ek : kd = ot
            · refine ⟨_, rfl, _, rfl, rfl, _, rfl, if_true_of (decide_eq_true (by rw [ek])) ⟨_, rfl, rfl, fin _ _ ?_⟩⟩
              show decide (kd = ot ∧ cn + 1 = 2) = decide (V.int (1 + (cn : Int)) = V.int 2)
              rw [decide_eq_decide]
              exact ⟨fun z => by rw [show (1 + (cn : Int)) = 2 by omega], fun z => ⟨ek, by have z := V.int.inj z; omega⟩⟩
            · refine ⟨_, rfl, _, rfl, rfl, _, rfl, if_false_of (decide_eq_false fun z => ek (by have z := V.int.inj z; omega)) (fin _ _ ?_)⟩
              show decide (kd = ot ∧ cn + 1 = 2) = false
              exact decide_eq_false fun z => ek z.1
end
end K02


set_option Elab.async false
set_option linter.all false
set_option maxRecDepth 100000
set_option maxHeartbeats 4000000
namespace K02
open PySem PySem.Spec PyProof.Rows L2 Evl NdefX
/-! ### what the top has written -/
def pick : List Addr → Nat → Addr
  | [], _ => 0
  | a :: _, 0 => a
  | _ :: r, i + 1 => pick r i
theorem at_rep {α : Type} {n : Nat} {f : Nat → α} {c : α} (h : (List.range n).map f = List.replicate n c) (i : Nat) (hi : i < n) : f i = c := by
  have e := congrArg (fun l : List α => l[i]?) h
  simp only [List.getElem?_map, List.getElem?_range hi, List.getElem?_replicate, if_pos hi] at e
  exact Option.some.inj e
theorem at_map {α : Type} {n : Nat} {f g : Nat → α} (h : (List.range n).map f = (List.range n).map g) (i : Nat) (hi : i < n) : f i = g i := by
  have e := congrArg (fun l : List α => l[i]?) h
  simp only [List.getElem?_map, List.getElem?_range hi] at e
  exact Option.some.inj e
def bases (i : Nat) : List Value := if i < 2 then [.type "ValueError", .type "Exception", .type "BaseException", .type "object"] else [.type "LookupError", .type "Exception", .type "BaseException", .type "object"]
def news (i : Nat) : String := if i < 2 then "ValueError.__new__" else "LookupError.__new__"
structure TabE (K : PySem.W.Frag) (E : Nat → Addr) : Prop where
  ci : (List.range 4).map (fun i => PySem.W.excInitIn K (E i) (bases i) (news i)) = List.replicate 4 true
  ov : (List.range 4).map (fun i => PySem.W.excOver K (E i) (bases i)) = List.replicate 4 true
  sa : (List.range 4).map (fun i => PySem.W.findIn K (.ref (E i)) "__setattr__") = List.replicate 4 (some (some (.builtin "object.__setattr__")))
  hd : (List.range 4).map (fun i => PySem.W.hasDictIn K (E i)) = List.replicate 4 true
  eb : (List.range 4).map (fun i => PySem.W.subIn K (.ref (E i)) (.type "BaseException")) = List.replicate 4 (some true)
  ty : (List.range 4).map (fun i => PySem.W.typeIn K (.ref (E i))) = List.replicate 4 (some (.type "type"))
  kp : (List.range 4).map (fun i => PySem.W.keepIn K (.ref (E i))) = List.replicate 4 true
  hi : (List.range 2).map (fun i => PySem.W.findIn K (.ref (E i)) "__init__") = List.replicate 2 (some (some (.builtin "ValueError.__init__")))
  nm : (List.range 4).map (fun i => PySem.W.findIn K (.ref (E i)) "name") = List.replicate 4 (some none)
  xm : (List.range 4).map (fun i => (List.range 4).map fun j => PySem.W.exmOne K (.ref (E i)) (.ref (E j))) = (List.range 4).map fun i => (List.range 4).map fun j => some (decide (i = j))
  xf : (List.range 4).map (fun i => xfB K (E i)) = List.replicate 4 true
structure TabC (K : PySem.W.Frag) (C M : Nat → Addr) : Prop where
  pg : (List.range 5).map (fun i => PySem.W.plainGet K (C i) Str.empty) = List.replicate 5 true
  hd : (List.range 5).map (fun i => PySem.W.hasDictIn K (C i)) = List.replicate 5 true
  po : (List.range 5).map (fun i => PySem.W.plainOver K (C i)) = List.replicate 5 true
  sa : (List.range 5).map (fun i => PySem.W.findIn K (.ref (C i)) "__setattr__") = List.replicate 5 (some (some (.builtin "object.__setattr__")))
  n1 : (List.range 5).map (fun i => PySem.W.findIn K (.ref (C i)) "signature") = List.replicate 5 (some none)
  n2 : (List.range 5).map (fun i => PySem.W.findIn K (.ref (C i)) "_names") = List.replicate 5 (some none)
  n3 : (List.range 5).map (fun i => PySem.W.findIn K (.ref (C i)) "_places") = List.replicate 5 (some none)
  n4 : (List.range 5).map (fun i => PySem.W.findIn K (.ref (C i)) "_arities") = List.replicate 5 (some none)
  n5 : (List.range 5).map (fun i => PySem.W.findIn K (.ref (C i)) "_tables") = List.replicate 5 (some none)
  ha : (List.range 5).map (fun i => PySem.W.findIn K (.ref (C i)) "__class__") = List.replicate 5 (some (some (.builtin "object.__class__")))
  hn : PySem.W.specialIn K (.builtin "object.__class__") "__get__" = some (some (.builtin "getset_descriptor.__get__"))
  ht : PySem.W.takesIn K (.builtin "object.__class__") = some true
  hm : (List.range 5).map (fun i => PySem.W.mroIn K (C i) (.type "object")) = List.replicate 5 (some true)
  it : (List.range 5).map (fun i => PySem.W.kitOne K (.ref (C i)) (.ref (C 0))) = List.replicate 5 (some true)
  mkd : (List.range 5).map (fun i => PySem.W.makesIn K (C i)) = List.replicate 5 true
  kp : (List.range 5).map (fun i => PySem.W.keepIn K (.ref (C i))) = List.replicate 5 true
  ne : (List.range 5).map (fun i => PySem.W.findIn K (.ref (C i)) "__ne__") = List.replicate 5 (some (some (.builtin "object.__ne__")))
  nf : (List.range 4).map (fun i => (List.range 5).map fun j => PySem.W.notFirst K (C (i + 1)) (.ref (C j))) = List.replicate 4 (List.replicate 5 true)
  sb : (List.range 5).map (fun i => PySem.W.subIn K (.ref (C i)) (.ref (C 0))) = List.replicate 5 (some true)
  un : (List.range 4).map (fun i => decide (C (i + 1) = C 0)) = List.replicate 4 false
  in_ : (List.range 5).map (fun i => PySem.W.findIn K (.ref (C i)) "__init__") = (List.range 5).map fun i => some (some (.ref (M (if i = 0 then 0 else i + 6))))
  m1 : (List.range 5).map (fun i => PySem.W.findIn K (.ref (C i)) "_fill") = List.replicate 5 (some (some (.ref (M 1))))
  m2 : (List.range 5).map (fun i => PySem.W.findIn K (.ref (C i)) "members") = List.replicate 5 (some (some (.ref (M 2))))
  m3 : (List.range 5).map (fun i => PySem.W.findIn K (.ref (C i)) "value") = List.replicate 5 (some (some (.ref (M 3))))
  m4 : (List.range 5).map (fun i => PySem.W.findIn K (.ref (C i)) "__contains__") = List.replicate 5 (some (some (.ref (M 4))))
  m5 : (List.range 5).map (fun i => PySem.W.findIn K (.ref (C i)) "__len__") = List.replicate 5 (some (some (.ref (M 5))))
  m6 : (List.range 5).map (fun i => PySem.W.findIn K (.ref (C i)) "__eq__") = List.replicate 5 (some (some (.ref (M 6))))
  fn : (List.range 11).map (fun i => PySem.W.isFn K (.ref (M i))) = List.replicate 11 true
  fk : (List.range 11).map (fun i => PySem.W.keepIn K (.ref (M i))) = List.replicate 11 true
  rd : PySem.W.readsIn K (C 0) (.type "type") = true
  ga : PySem.W.specialIn K (.ref (C 0)) "__getattribute__" = some (some (.builtin "type.__getattribute__"))
  fc : PySem.W.findCls K (.ref (C 0)) (.type "type") "__init__" = some (.val (.ref (M 0)))
section
variable {P : Program} {w : World} {K : PySem.W.Frag} {mg : Str → Option Value} {h : Heap} {E C M : Nat → Addr}
theorem TabE.cls (t : TabE K E) (i : Nat) (hi : i < 4) : XCls K (E i) (news i) (bases i) := ⟨at_rep t.ci i hi, at_rep t.ov i hi, at_rep t.sa i hi, at_rep t.hd i hi, at_rep t.eb i hi, at_rep t.ty i hi, at_rep t.kp i hi⟩
theorem TabE.cats (t : TabE K E) : Cats K (E 1) (E 2) (E 3) where
  ss := at_map (at_map t.xm 3 (by decide)) 3 (by decide)
  cs := at_map (at_map t.xm 1 (by decide)) 3 (by decide)
  cc := at_map (at_map t.xm 1 (by decide)) 1 (by decide)
  ms := at_map (at_map t.xm 2 (by decide)) 3 (by decide)
  mc := at_map (at_map t.xm 2 (by decide)) 1 (by decide)
  mm := at_map (at_map t.xm 2 (by decide)) 2 (by decide)
  xs := xfB_ok (at_rep t.xf 3 (by decide))
  xm := xfB_ok (at_rep t.xf 2 (by decide))
theorem TabC.cls (t : TabC K C M) (i : Nat) (hi : i < 5) : Cls K (C i) := ⟨at_rep t.pg i hi, at_rep t.hd i hi, at_rep t.po i hi, at_rep t.sa i hi⟩
theorem TabC.ac (t : TabC K C M) (i : Nat) (hi : i < 5) : AlgC K (C i) := ⟨t.cls i hi, at_rep t.n1 i hi, at_rep t.n2 i hi, at_rep t.n3 i hi, at_rep t.n4 i hi, at_rep t.n5 i hi⟩
theorem TabC.ak (t : TabC K C M) (i : Nat) (hi : i < 5) : AlgK K (C i) (C 0) := ⟨t.ac i hi, at_rep t.ha i hi, t.hn, t.ht, at_rep t.hm i hi, at_rep t.it i hi⟩
theorem TabC.me1 (t : TabC K C M) (i : Nat) (hi : i < 5) : Meth K (C i) "_fill" (M 1) := ⟨at_rep t.m1 i hi, at_rep t.fn 1 (by decide), at_rep t.fk 1 (by decide)⟩
theorem TabC.me2 (t : TabC K C M) (i : Nat) (hi : i < 5) : Meth K (C i) "members" (M 2) := ⟨at_rep t.m2 i hi, at_rep t.fn 2 (by decide), at_rep t.fk 2 (by decide)⟩
theorem TabC.me3 (t : TabC K C M) (i : Nat) (hi : i < 5) : Meth K (C i) "value" (M 3) := ⟨at_rep t.m3 i hi, at_rep t.fn 3 (by decide), at_rep t.fk 3 (by decide)⟩
theorem TabC.me4 (t : TabC K C M) (i : Nat) (hi : i < 5) : Meth K (C i) "__contains__" (M 4) := ⟨at_rep t.m4 i hi, at_rep t.fn 4 (by decide), at_rep t.fk 4 (by decide)⟩
theorem TabC.me5 (t : TabC K C M) (i : Nat) (hi : i < 5) : Meth K (C i) "__len__" (M 5) := ⟨at_rep t.m5 i hi, at_rep t.fn 5 (by decide), at_rep t.fk 5 (by decide)⟩
theorem TabC.me6 (t : TabC K C M) (i : Nat) (hi : i < 5) : Meth K (C i) "__eq__" (M 6) := ⟨at_rep t.m6 i hi, at_rep t.fn 6 (by decide), at_rep t.fk 6 (by decide)⟩
theorem TabC.cmp (t : TabC K C M) (i : Nat) (hi : i < 5) : CmpC K (C i) (M 6) := ⟨t.me6 i hi, at_rep t.ne i hi, at_rep t.hm i hi⟩
theorem TabC.cf (t : TabC K C M) : CFn K (C 0) (.type "type") "__init__" (M 0) := ⟨⟨t.rd, t.ga⟩, t.fc, at_rep t.fk 0 (by decide)⟩
theorem TabC.maker (t : TabC K C M) (i : Nat) (hi : i < 5) : Mk K (C i) (M (if i = 0 then 0 else i + 6)) := ⟨at_rep t.mkd i hi, at_map t.in_ i hi, at_rep t.fn _ (by split <;> omega), at_rep t.kp i hi⟩
theorem TabC.fam (t : TabC K C M) : FamK K (C 0) (M 6) (M 5) (fun k => C (k + 1)) where
  k := fun D ⟨k, hk, e⟩ => e ▸ t.ak (k + 1) (by omega)
  ka := t.ak 0 (by decide)
  cmp := fun D ⟨k, hk, e⟩ => e ▸ t.cmp (k + 1) (by omega)
  n1 := fun D ⟨k, hk, e⟩ => by
    subst e
    exact at_rep (at_rep t.nf k hk) 0 (by decide)
  n2 := fun D D' ⟨k, hk, e⟩ ⟨k', hk', e'⟩ => by
    subst e
    subst e'
    exact at_rep (at_rep t.nf k hk) (k' + 1) (by omega)
  ln := fun D ⟨k, hk, e⟩ => e ▸ t.me5 (k + 1) (by omega)
  sb := fun D ⟨k, hk, e⟩ => by
    subst e
    exact ⟨of_decide_eq_false (at_rep t.un k hk), at_rep t.sb (k + 1) (by omega)⟩
theorem xi_mk (KX : K.In h) (G : h.Ns mainGlobals mg) {x q : Str} {st : Stmt} {ps : List Str} {D f cc c : Addr} {B nI iI : String} {bB : List Value} {oc kV doc pm ct o1 o2 : Value} {od an d1 d2 : Option Addr} {osl s1 s2 : Array (Option Value)} {vs : Array Value} {file : Str} {tf : Tok} {cd : ClassData}
    (xb : XBase B nI iI bB) (xc : XCls K D nI bB) (g : PySem.W.nsIn K mainGlobals x = some (some (.ref D))) (iC : PySem.W.findIn K (.ref D) "__init__" = some (some (.ref f))) (tI : PySem.W.typeIn K (.ref f) = some (.type "function"))
    (l : K.lookup f = some ⟨oc, od, .func (PySem.W.fnX "__init__" q (defArgs st) (defBody st) (defScope st) [(("__class__" : Str), cc)] .none kV doc pm an (.ref c) ct), osl⟩)
    (lc : K.lookup cc = some ⟨o1, d1, .cell (some (.ref D)), s1⟩) (lo : K.lookup c = some ⟨o2, d2, .fields vs, s2⟩) (lv : vs[2]? = some (.str file tf)) (lf : ((P.main.file : Str) == file) = true)
    (cl : PySem.W.clsIn K D = some cd) (sb : PySem.W.mroIn K D (.ref D) = some true) (up : PySem.W.ks_superIn K D D "__init__" = some (some (.builtin iI))) (isB : PySem.W.subIn K (.ref D) (.type B) = some true)
    (opq : PySem.W.nsIn K cStatics "thirdparty.any" = some none) (noS : mg "super" = none) (tp : (P.main.scope.names.lookup ("super" : Str)).isSome = false)
    (sf : ∃ ar, ((defArgs st).posonlyargs ++ (defArgs st).args).head? = some ar ∧ ar.arg = "self") (kS : (defScope st).names.lookup ("super" : Str) = some .globalImplicit) (kC : (defScope st).names.lookup ("__class__" : Str) = some .free) (kA : (defScope st).names.lookup ("self" : Str) = some .local)
    (hc : PySem.W.codeIn K (.ref c) q = true) (bd : ∀ us : List Value, us.length = ps.length → bindArgs (PySem.W.fnX "__init__" q (defArgs st) (defBody st) (defScope st) [(("__class__" : Str), cc)] .none kV doc pm an (.ref c) ct) ⟨us, []⟩ = pure (ps.zip us)) :
    XI P K mg x q st ps D f cc c B nI iI bB (PySem.W.fnX "__init__" q (defArgs st) (defBody st) (defScope st) [(("__class__" : Str), cc)] .none kV doc pm an (.ref c) ct) where
  xb := xb
  g := PySem.W.mg_of KX G g
  xc := xc
  iC := iC
  tI := tI
  xs := { cl := rfl, cell := ⟨_, _, _, lc⟩, code := ⟨_, _, _, _, _, _, lo, lv, lf⟩, cls := ⟨_, cl⟩, sub := sb, up := up, isB := isB, opq := opq, noS := noS, top := tp, self := sf, kS := kS, kC := kC, kA := kA }
  lk := ⟨_, _, _, _, _, _, _, _, rfl, l⟩
  cd := hc
  bd := .all bd
end
section
variable {P : Program} {w : World} {K : PySem.W.Frag} {mg : Str → Option Value} {h : Heap}
set_option maxHeartbeats 16000000 in
theorem all_mk {fa : Addr} (X : K.In h) (G : h.Ns mainGlobals mg) (hfa : mg "law" = some (.ref fa)) (lf : ((P.main.file : Str) == "/claim/cut.py") = true) (tp : (P.main.scope.names.lookup ("super" : Str)).isSome = false)
    {E0 E1 E2 E3 C0 C1 C2 C3 C4 M0 M1 M2 M3 M4 M5 M6 M7 M8 M9 M10 : Addr}
    {f2 f3 : Addr}
    {q2 q3 : Addr}
    {c2 c3 : Addr}
    {oc2 oc3 : Value}
    {kV2 kV3 : Value}
    {dc2 dc3 : Value}
    {pm2 pm3 : Value}
    {ct2 ct3 : Value}
    {oo2 oo3 : Value}
    {pp2 pp3 : Value}
    {od2 od3 : Option Addr}
    {an2 an3 : Option Addr}
    {dd2 dd3 : Option Addr}
    {ee2 ee3 : Option Addr}
    {sl2 sl3 : Array (Option Value)}
    {sm2 sm3 : Array (Option Value)}
    {sn2 sn3 : Array (Option Value)}
    {vs2 vs3 : Array Value}
    {tf2 tf3 tk0 tk1 tk2 tk3 tk4 tk5 : Tok}
    {cd2 cd3 : ClassData}
    {g0 g1 g2 g3 g4 g5 g6 g7 g8 g9 g10 g11 g12 g13 g14 g15 g16 g17 : Addr}
    {Oc0 Oc1 Oc2 Oc3 Oc4 Oc5 Oc6 Oc7 Oc8 Oc9 Oc10 Oc11 Oc12 Oc13 Oc14 Oc15 Oc16 Oc17 Ocm0 Ocm1 Ocm2 Ocm3 Ocm4 Ocm5 Ocm6 Ocm7 Ocm8 Ocm9 Ocm10 : Value}
    {Kv0 Kv1 Kv2 Kv3 Kv4 Kv5 Kv6 Kv7 Kv8 Kv9 Kv10 Kv11 Kv12 Kv13 Kv14 Kv15 Kv16 Kv17 Kvm0 Kvm1 Kvm2 Kvm3 Kvm4 Kvm5 Kvm6 Kvm7 Kvm8 Kvm9 Kvm10 : Value}
    {Dc0 Dc1 Dc2 Dc3 Dc4 Dc5 Dc6 Dc7 Dc8 Dc9 Dc10 Dc11 Dc12 Dc13 Dc14 Dc15 Dc16 Dc17 Dcm0 Dcm1 Dcm2 Dcm3 Dcm4 Dcm5 Dcm6 Dcm7 Dcm8 Dcm9 Dcm10 : Value}
    {Pm0 Pm1 Pm2 Pm3 Pm4 Pm5 Pm6 Pm7 Pm8 Pm9 Pm10 Pm11 Pm12 Pm13 Pm14 Pm15 Pm16 Pm17 Pmm0 Pmm1 Pmm2 Pmm3 Pmm4 Pmm5 Pmm6 Pmm7 Pmm8 Pmm9 Pmm10 : Value}
    {Cd0 Cd1 Cd2 Cd3 Cd4 Cd5 Cd6 Cd7 Cd8 Cd9 Cd10 Cd11 Cd12 Cd13 Cd14 Cd15 Cd16 Cd17 Cdm0 Cdm1 Cdm2 Cdm3 Cdm4 Cdm5 Cdm6 Cdm7 Cdm8 Cdm9 Cdm10 : Value}
    {Ct0 Ct1 Ct2 Ct3 Ct4 Ct5 Ct6 Ct7 Ct8 Ct9 Ct10 Ct11 Ct12 Ct13 Ct14 Ct15 Ct16 Ct17 Ctm0 Ctm1 Ctm2 Ctm3 Ctm4 Ctm5 Ctm6 Ctm7 Ctm8 Ctm9 Ctm10 : Value}
    {Od0 Od1 Od2 Od3 Od4 Od5 Od6 Od7 Od8 Od9 Od10 Od11 Od12 Od13 Od14 Od15 Od16 Od17 Odm0 Odm1 Odm2 Odm3 Odm4 Odm5 Odm6 Odm7 Odm8 Odm9 Odm10 : Option Addr}
    {An0 An1 An2 An3 An4 An5 An6 An7 An8 An9 An10 An11 An12 An13 An14 An15 An16 An17 Anm0 Anm1 Anm2 Anm3 Anm4 Anm5 Anm6 Anm7 Anm8 Anm9 Anm10 : Option Addr}
    {Sl0 Sl1 Sl2 Sl3 Sl4 Sl5 Sl6 Sl7 Sl8 Sl9 Sl10 Sl11 Sl12 Sl13 Sl14 Sl15 Sl16 Sl17 Slm0 Slm1 Slm2 Slm3 Slm4 Slm5 Slm6 Slm7 Slm8 Slm9 Slm10 : Array (Option Value)}
    (e0 : PySem.W.nsIn K mainGlobals "BadAlgebra" = some (some (.ref E0)))
    (e1 : PySem.W.nsIn K mainGlobals "BadCount" = some (some (.ref E1)))
    (e2 : PySem.W.nsIn K mainGlobals "UnknownMember" = some (some (.ref E2)))
    (e3 : PySem.W.nsIn K mainGlobals "UnknownSign" = some (some (.ref E3)))
    (a0 : PySem.W.nsIn K mainGlobals "Algebra" = some (some (.ref C0)))
    (a1 : PySem.W.nsIn K mainGlobals "TurnAlgebra" = some (some (.ref C1)))
    (a2 : PySem.W.nsIn K mainGlobals "ChainAlgebra" = some (some (.ref C2)))
    (a3 : PySem.W.nsIn K mainGlobals "PickAlgebra" = some (some (.ref C3)))
    (a4 : PySem.W.nsIn K mainGlobals "SetAlgebra" = some (some (.ref C4)))
    (i2 : PySem.W.findIn K (.ref E2) "__init__" = some (some (.ref f2)))
    (l2 : K.lookup f2 = some ⟨oc2, od2, .func (PySem.W.fnX "__init__" "UnknownMember.__init__" (defArgs (inClass (top 5) 0)) (defBody (inClass (top 5) 0)) (defScope (inClass (top 5) 0)) [(("__class__" : Str), q2)] .none kV2 dc2 pm2 an2 (.ref c2) ct2), sl2⟩)
    (m2 : K.lookup q2 = some ⟨oo2, dd2, .cell (some (.ref E2)), sm2⟩)
    (n2 : K.lookup c2 = some ⟨pp2, ee2, .fields vs2, sn2⟩)
    (v2 : vs2[2]? = some (.str "/claim/cut.py" tf2))
    (d2 : PySem.W.clsIn K E2 = some cd2)
    (t2 : PySem.W.typeIn K (.ref f2) = some (.type "function"))
    (s2 : PySem.W.mroIn K E2 (.ref E2) = some true)
    (u2 : PySem.W.ks_superIn K E2 E2 "__init__" = some (some (.builtin "LookupError.__init__")))
    (b2 : PySem.W.subIn K (.ref E2) (.type "LookupError") = some true)
    (h2 : PySem.W.codeIn K (.ref c2) "UnknownMember.__init__" = true)
    (i3 : PySem.W.findIn K (.ref E3) "__init__" = some (some (.ref f3)))
    (l3 : K.lookup f3 = some ⟨oc3, od3, .func (PySem.W.fnX "__init__" "UnknownSign.__init__" (defArgs (inClass (top 6) 0)) (defBody (inClass (top 6) 0)) (defScope (inClass (top 6) 0)) [(("__class__" : Str), q3)] .none kV3 dc3 pm3 an3 (.ref c3) ct3), sl3⟩)
    (m3 : K.lookup q3 = some ⟨oo3, dd3, .cell (some (.ref E3)), sm3⟩)
    (n3 : K.lookup c3 = some ⟨pp3, ee3, .fields vs3, sn3⟩)
    (v3 : vs3[2]? = some (.str "/claim/cut.py" tf3))
    (d3 : PySem.W.clsIn K E3 = some cd3)
    (t3 : PySem.W.typeIn K (.ref f3) = some (.type "function"))
    (s3 : PySem.W.mroIn K E3 (.ref E3) = some true)
    (u3 : PySem.W.ks_superIn K E3 E3 "__init__" = some (some (.builtin "LookupError.__init__")))
    (b3 : PySem.W.subIn K (.ref E3) (.type "LookupError") = some true)
    (h3 : PySem.W.codeIn K (.ref c3) "UnknownSign.__init__" = true)
    (A0 : PySem.W.nsIn K mainGlobals "_law_source" = some (some (.ref g0)))
    (Lk0 : K.lookup g0 = some ⟨Oc0, Od0, .func (PySem.W.fnOf "_law_source" "_law_source" (defArgs s__law_source) (defBody s__law_source) (defScope s__law_source) .none Kv0 Dc0 Pm0 An0 Cd0 Ct0), Sl0⟩)
    (Hk0 : PySem.W.codeIn K Cd0 "_law_source" = true)
    (Kk0 : PySem.W.keepIn K (.ref g0) = true)
    (A1 : PySem.W.nsIn K mainGlobals "_law_pick" = some (some (.ref g1)))
    (Lk1 : K.lookup g1 = some ⟨Oc1, Od1, .func (PySem.W.fnOf "_law_pick" "_law_pick" (defArgs sPick) (defBody sPick) (defScope sPick) .none Kv1 Dc1 Pm1 An1 Cd1 Ct1), Sl1⟩)
    (Hk1 : PySem.W.codeIn K Cd1 "_law_pick" = true)
    (Kk1 : PySem.W.keepIn K (.ref g1) = true)
    (A2 : PySem.W.nsIn K mainGlobals "is_plain" = some (some (.ref g2)))
    (Lk2 : K.lookup g2 = some ⟨Oc2, Od2, .func (PySem.W.fnOf "is_plain" "is_plain" (defArgs s_is_plain) (defBody s_is_plain) (defScope s_is_plain) .none Kv2 Dc2 Pm2 An2 Cd2 Ct2), Sl2⟩)
    (Hk2 : PySem.W.codeIn K Cd2 "is_plain" = true)
    (Kk2 : PySem.W.keepIn K (.ref g2) = true)
    (A3 : PySem.W.nsIn K mainGlobals "is_word" = some (some (.ref g3)))
    (Lk3 : K.lookup g3 = some ⟨Oc3, Od3, .func (PySem.W.fnOf "is_word" "is_word" (defArgs s_is_word) (defBody s_is_word) (defScope s_is_word) .none Kv3 Dc3 Pm3 An3 Cd3 Ct3), Sl3⟩)
    (Hk3 : PySem.W.codeIn K Cd3 "is_word" = true)
    (Kk3 : PySem.W.keepIn K (.ref g3) = true)
    (A4 : PySem.W.nsIn K mainGlobals "_check_members" = some (some (.ref g4)))
    (Lk4 : K.lookup g4 = some ⟨Oc4, Od4, .func (PySem.W.fnOf "_check_members" "_check_members" (defArgs s__check_members) (defBody s__check_members) (defScope s__check_members) .none Kv4 Dc4 Pm4 An4 Cd4 Ct4), Sl4⟩)
    (Hk4 : PySem.W.codeIn K Cd4 "_check_members" = true)
    (Kk4 : PySem.W.keepIn K (.ref g4) = true)
    (A5 : PySem.W.nsIn K mainGlobals "_check_values" = some (some (.ref g5)))
    (Lk5 : K.lookup g5 = some ⟨Oc5, Od5, .func (PySem.W.fnOf "_check_values" "_check_values" (defArgs s__check_values) (defBody s__check_values) (defScope s__check_values) .none Kv5 Dc5 Pm5 An5 Cd5 Ct5), Sl5⟩)
    (Hk5 : PySem.W.codeIn K Cd5 "_check_values" = true)
    (Kk5 : PySem.W.keepIn K (.ref g5) = true)
    (A6 : PySem.W.nsIn K mainGlobals "_check_operations" = some (some (.ref g6)))
    (Lk6 : K.lookup g6 = some ⟨Oc6, Od6, .func (PySem.W.fnOf "_check_operations" "_check_operations" (defArgs s__check_operations) (defBody s__check_operations) (defScope s__check_operations) .none Kv6 Dc6 Pm6 An6 Cd6 Ct6), Sl6⟩)
    (Hk6 : PySem.W.codeIn K Cd6 "_check_operations" = true)
    (Kk6 : PySem.W.keepIn K (.ref g6) = true)
    (A7 : PySem.W.nsIn K mainGlobals "_number_names" = some (some (.ref g7)))
    (Lk7 : K.lookup g7 = some ⟨Oc7, Od7, .func (PySem.W.fnOf "_number_names" "_number_names" (defArgs s__number_names) (defBody s__number_names) (defScope s__number_names) .none Kv7 Dc7 Pm7 An7 Cd7 Ct7), Sl7⟩)
    (Hk7 : PySem.W.codeIn K Cd7 "_number_names" = true)
    (Kk7 : PySem.W.keepIn K (.ref g7) = true)
    (A8 : PySem.W.nsIn K mainGlobals "_bit_names" = some (some (.ref g8)))
    (Lk8 : K.lookup g8 = some ⟨Oc8, Od8, .func (PySem.W.fnOf "_bit_names" "_bit_names" (defArgs s__bit_names) (defBody s__bit_names) (defScope s__bit_names) .none Kv8 Dc8 Pm8 An8 Cd8 Ct8), Sl8⟩)
    (Hk8 : PySem.W.codeIn K Cd8 "_bit_names" = true)
    (Kk8 : PySem.W.keepIn K (.ref g8) = true)
    (A9 : PySem.W.nsIn K mainGlobals "_law_made" = some (some (.ref g9)))
    (Lk9 : K.lookup g9 = some ⟨Oc9, Od9, .func (PySem.W.fnOf "_law_made" "_law_made" (defArgs s__law_made) (defBody s__law_made) (defScope s__law_made) .none Kv9 Dc9 Pm9 An9 Cd9 Ct9), Sl9⟩)
    (Hk9 : PySem.W.codeIn K Cd9 "_law_made" = true)
    (Kk9 : PySem.W.keepIn K (.ref g9) = true)
    (A10 : PySem.W.nsIn K mainGlobals "_law_tuples" = some (some (.ref g10)))
    (Lk10 : K.lookup g10 = some ⟨Oc10, Od10, .func (PySem.W.fnOf "_law_tuples" "_law_tuples" (defArgs s__law_tuples) (defBody s__law_tuples) (defScope s__law_tuples) .none Kv10 Dc10 Pm10 An10 Cd10 Ct10), Sl10⟩)
    (Hk10 : PySem.W.codeIn K Cd10 "_law_tuples" = true)
    (Kk10 : PySem.W.keepIn K (.ref g10) = true)
    (A11 : PySem.W.nsIn K mainGlobals "_law_numbers" = some (some (.ref g11)))
    (Lk11 : K.lookup g11 = some ⟨Oc11, Od11, .func (PySem.W.fnOf "_law_numbers" "_law_numbers" (defArgs s__law_numbers) (defBody s__law_numbers) (defScope s__law_numbers) .none Kv11 Dc11 Pm11 An11 Cd11 Ct11), Sl11⟩)
    (Hk11 : PySem.W.codeIn K Cd11 "_law_numbers" = true)
    (Kk11 : PySem.W.keepIn K (.ref g11) = true)
    (A12 : PySem.W.nsIn K mainGlobals "_law_due" = some (some (.ref g12)))
    (Lk12 : K.lookup g12 = some ⟨Oc12, Od12, .func (PySem.W.fnOf "_law_due" "_law_due" (defArgs s__law_due) (defBody s__law_due) (defScope s__law_due) .none Kv12 Dc12 Pm12 An12 Cd12 Ct12), Sl12⟩)
    (Hk12 : PySem.W.codeIn K Cd12 "_law_due" = true)
    (Kk12 : PySem.W.keepIn K (.ref g12) = true)
    (A13 : PySem.W.nsIn K mainGlobals "_law_bits" = some (some (.ref g13)))
    (Lk13 : K.lookup g13 = some ⟨Oc13, Od13, .func (PySem.W.fnOf "_law_bits" "_law_bits" (defArgs s__law_bits) (defBody s__law_bits) (defScope s__law_bits) .none Kv13 Dc13 Pm13 An13 Cd13 Ct13), Sl13⟩)
    (Hk13 : PySem.W.codeIn K Cd13 "_law_bits" = true)
    (Kk13 : PySem.W.keepIn K (.ref g13) = true)
    (A14 : PySem.W.nsIn K mainGlobals "_law_refused" = some (some (.ref g14)))
    (Lk14 : K.lookup g14 = some ⟨Oc14, Od14, .func (PySem.W.fnOf "_law_refused" "_law_refused" (defArgs s__law_refused) (defBody s__law_refused) (defScope s__law_refused) .none Kv14 Dc14 Pm14 An14 Cd14 Ct14), Sl14⟩)
    (Hk14 : PySem.W.codeIn K Cd14 "_law_refused" = true)
    (Kk14 : PySem.W.keepIn K (.ref g14) = true)
    (A15 : PySem.W.nsIn K mainGlobals "_law_said" = some (some (.ref g15)))
    (Lk15 : K.lookup g15 = some ⟨Oc15, Od15, .func (PySem.W.fnOf "_law_said" "_law_said" (defArgs s__law_said) (defBody s__law_said) (defScope s__law_said) .none Kv15 Dc15 Pm15 An15 Cd15 Ct15), Sl15⟩)
    (Hk15 : PySem.W.codeIn K Cd15 "_law_said" = true)
    (Kk15 : PySem.W.keepIn K (.ref g15) = true)
    (A16 : PySem.W.nsIn K mainGlobals "_law_lost_right" = some (some (.ref g16)))
    (Lk16 : K.lookup g16 = some ⟨Oc16, Od16, .func (PySem.W.fnOf "_law_lost_right" "_law_lost_right" (defArgs s__law_lost_right) (defBody s__law_lost_right) (defScope s__law_lost_right) .none Kv16 Dc16 Pm16 An16 Cd16 Ct16), Sl16⟩)
    (Hk16 : PySem.W.codeIn K Cd16 "_law_lost_right" = true)
    (Kk16 : PySem.W.keepIn K (.ref g16) = true)
    (A17 : PySem.W.nsIn K mainGlobals "law" = some (some (.ref g17)))
    (Lk17 : K.lookup g17 = some ⟨Oc17, Od17, .func (PySem.W.fnOf "law" "law" (defArgs s_law) (defBody s_law) (defScope s_law) .none Kv17 Dc17 Pm17 An17 Cd17 Ct17), Sl17⟩)
    (Hk17 : PySem.W.codeIn K Cd17 "law" = true)
    (Kk17 : PySem.W.keepIn K (.ref g17) = true)
    (Am0 : PySem.W.findIn K (.ref C0) "__init__" = some (some (.ref M0)))
    (Lm0 : K.lookup M0 = some ⟨Ocm0, Odm0, .func (PySem.W.fnOf "__init__" "Algebra.__init__" (defArgs s_Algebra___init__) (defBody s_Algebra___init__) (defScope s_Algebra___init__) .none Kvm0 Dcm0 Pmm0 Anm0 Cdm0 Ctm0), Slm0⟩)
    (Hm0 : PySem.W.codeIn K Cdm0 "Algebra.__init__" = true)
    (Km0 : PySem.W.keepIn K (.ref M0) = true)
    (Am1 : PySem.W.findIn K (.ref C0) "_fill" = some (some (.ref M1)))
    (Lm1 : K.lookup M1 = some ⟨Ocm1, Odm1, .func (PySem.W.fnOf "_fill" "Algebra._fill" (defArgs s_Algebra__fill) (defBody s_Algebra__fill) (defScope s_Algebra__fill) .none Kvm1 Dcm1 Pmm1 Anm1 Cdm1 Ctm1), Slm1⟩)
    (Hm1 : PySem.W.codeIn K Cdm1 "Algebra._fill" = true)
    (Km1 : PySem.W.keepIn K (.ref M1) = true)
    (Am2 : PySem.W.findIn K (.ref C0) "members" = some (some (.ref M2)))
    (Lm2 : K.lookup M2 = some ⟨Ocm2, Odm2, .func (PySem.W.fnOf "members" "Algebra.members" (defArgs s_Algebra_members) (defBody s_Algebra_members) (defScope s_Algebra_members) .none Kvm2 Dcm2 Pmm2 Anm2 Cdm2 Ctm2), Slm2⟩)
    (Hm2 : PySem.W.codeIn K Cdm2 "Algebra.members" = true)
    (Km2 : PySem.W.keepIn K (.ref M2) = true)
    (Am3 : PySem.W.findIn K (.ref C0) "value" = some (some (.ref M3)))
    (Lm3 : K.lookup M3 = some ⟨Ocm3, Odm3, .func (PySem.W.fnOf "value" "Algebra.value" (defArgs s_Algebra_value) (defBody s_Algebra_value) (defScope s_Algebra_value) .none Kvm3 Dcm3 Pmm3 Anm3 Cdm3 Ctm3), Slm3⟩)
    (Hm3 : PySem.W.codeIn K Cdm3 "Algebra.value" = true)
    (Km3 : PySem.W.keepIn K (.ref M3) = true)
    (Am4 : PySem.W.findIn K (.ref C0) "__contains__" = some (some (.ref M4)))
    (Lm4 : K.lookup M4 = some ⟨Ocm4, Odm4, .func (PySem.W.fnOf "__contains__" "Algebra.__contains__" (defArgs s_Algebra___contains__) (defBody s_Algebra___contains__) (defScope s_Algebra___contains__) .none Kvm4 Dcm4 Pmm4 Anm4 Cdm4 Ctm4), Slm4⟩)
    (Hm4 : PySem.W.codeIn K Cdm4 "Algebra.__contains__" = true)
    (Km4 : PySem.W.keepIn K (.ref M4) = true)
    (Am5 : PySem.W.findIn K (.ref C0) "__len__" = some (some (.ref M5)))
    (Lm5 : K.lookup M5 = some ⟨Ocm5, Odm5, .func (PySem.W.fnOf "__len__" "Algebra.__len__" (defArgs s_Algebra___len__) (defBody s_Algebra___len__) (defScope s_Algebra___len__) .none Kvm5 Dcm5 Pmm5 Anm5 Cdm5 Ctm5), Slm5⟩)
    (Hm5 : PySem.W.codeIn K Cdm5 "Algebra.__len__" = true)
    (Km5 : PySem.W.keepIn K (.ref M5) = true)
    (Am6 : PySem.W.findIn K (.ref C0) "__eq__" = some (some (.ref M6)))
    (Lm6 : K.lookup M6 = some ⟨Ocm6, Odm6, .func (PySem.W.fnOf "__eq__" "Algebra.__eq__" (defArgs s_Algebra___eq__) (defBody s_Algebra___eq__) (defScope s_Algebra___eq__) .none Kvm6 Dcm6 Pmm6 Anm6 Cdm6 Ctm6), Slm6⟩)
    (Hm6 : PySem.W.codeIn K Cdm6 "Algebra.__eq__" = true)
    (Km6 : PySem.W.keepIn K (.ref M6) = true)
    (Am7 : PySem.W.findIn K (.ref C1) "__init__" = some (some (.ref M7)))
    (Lm7 : K.lookup M7 = some ⟨Ocm7, Odm7, .func (PySem.W.fnOf "__init__" "TurnAlgebra.__init__" (defArgs s_TurnAlgebra___init__) (defBody s_TurnAlgebra___init__) (defScope s_TurnAlgebra___init__) .none Kvm7 Dcm7 Pmm7 Anm7 Cdm7 Ctm7), Slm7⟩)
    (Hm7 : PySem.W.codeIn K Cdm7 "TurnAlgebra.__init__" = true)
    (Km7 : PySem.W.keepIn K (.ref M7) = true)
    (Am8 : PySem.W.findIn K (.ref C2) "__init__" = some (some (.ref M8)))
    (Lm8 : K.lookup M8 = some ⟨Ocm8, Odm8, .func (PySem.W.fnOf "__init__" "ChainAlgebra.__init__" (defArgs s_ChainAlgebra___init__) (defBody s_ChainAlgebra___init__) (defScope s_ChainAlgebra___init__) .none Kvm8 Dcm8 Pmm8 Anm8 Cdm8 Ctm8), Slm8⟩)
    (Hm8 : PySem.W.codeIn K Cdm8 "ChainAlgebra.__init__" = true)
    (Km8 : PySem.W.keepIn K (.ref M8) = true)
    (Am9 : PySem.W.findIn K (.ref C3) "__init__" = some (some (.ref M9)))
    (Lm9 : K.lookup M9 = some ⟨Ocm9, Odm9, .func (PySem.W.fnOf "__init__" "PickAlgebra.__init__" (defArgs s_PickAlgebra___init__) (defBody s_PickAlgebra___init__) (defScope s_PickAlgebra___init__) .none Kvm9 Dcm9 Pmm9 Anm9 Cdm9 Ctm9), Slm9⟩)
    (Hm9 : PySem.W.codeIn K Cdm9 "PickAlgebra.__init__" = true)
    (Km9 : PySem.W.keepIn K (.ref M9) = true)
    (Am10 : PySem.W.findIn K (.ref C4) "__init__" = some (some (.ref M10)))
    (Lm10 : K.lookup M10 = some ⟨Ocm10, Odm10, .func (PySem.W.fnOf "__init__" "SetAlgebra.__init__" (defArgs s_SetAlgebra___init__) (defBody s_SetAlgebra___init__) (defScope s_SetAlgebra___init__) .none Kvm10 Dcm10 Pmm10 Anm10 Cdm10 Ctm10), Slm10⟩)
    (Hm10 : PySem.W.codeIn K Cdm10 "SetAlgebra.__init__" = true)
    (Km10 : PySem.W.keepIn K (.ref M10) = true)
    (z_len : PySem.W.nsIn K mainGlobals "len" = some none)
    (z_int : PySem.W.nsIn K mainGlobals "int" = some none)
    (z_abs : PySem.W.nsIn K mainGlobals "abs" = some none)
    (z_range : PySem.W.nsIn K mainGlobals "range" = some none)
    (z_str : PySem.W.nsIn K mainGlobals "str" = some none)
    (z_list : PySem.W.nsIn K mainGlobals "list" = some none)
    (z_tuple : PySem.W.nsIn K mainGlobals "tuple" = some none)
    (z_isinstance : PySem.W.nsIn K mainGlobals "isinstance" = some none)
    (z_all : PySem.W.nsIn K mainGlobals "all" = some none)
    (z_set : PySem.W.nsIn K mainGlobals "set" = some none)
    (z_enumerate : PySem.W.nsIn K mainGlobals "enumerate" = some none)
    (z_sum : PySem.W.nsIn K mainGlobals "sum" = some none)
    (z_max : PySem.W.nsIn K mainGlobals "max" = some none)
    (z_min : PySem.W.nsIn K mainGlobals "min" = some none)
    (z_bool : PySem.W.nsIn K mainGlobals "bool" = some none)
    (z_super : PySem.W.nsIn K mainGlobals "super" = some none)
    (y0 : PySem.W.nsIn K mainGlobals "_LETTERS" = some (some (.str "abcdefghijklmnopqrstuvwxyz" tk0)))
    (y1 : PySem.W.nsIn K mainGlobals "_CHARACTERS" = some (some (.str "abcdefghijklmnopqrstuvwxyz0123456789" tk1)))
    (y2 : PySem.W.nsIn K mainGlobals "_LONGEST" = some (some (.int 12 tk2)))
    (y3 : PySem.W.nsIn K mainGlobals "_MOST_MEMBERS" = some (some (.int 6 tk3)))
    (y4 : PySem.W.nsIn K mainGlobals "_MOST_BITS" = some (some (.int 2 tk4)))
    (y5 : PySem.W.nsIn K mainGlobals "_MOST_OPERATIONS" = some (some (.int 5 tk5)))
    (opq : PySem.W.nsIn K cStatics "thirdparty.any" = some none)
    (te : TabE K (pick [E0, E1, E2, E3]))
    (tc : TabC K (pick [C0, C1, C2, C3, C4]) (pick [M0, M1, M2, M3, M4, M5, M6, M7, M8, M9, M10]))
    : ∃ fd : FuncData, (∀ (s : Shared) (v : Value), BindsTo s fd ⟨[v], []⟩ [("script", v)]) ∧ ∀ base : Heap, K.In base → base.Ns mainGlobals mg → FnOk P w K mg base CX0 9 fa fd ["script"] (spLaw K) := by
  have e := hfa.symm.trans (PySem.W.mg_of X G A17)
  cases e
  have noS : mg "super" = none := PySem.W.mg_none_of X G z_super
  have BL : Blt mg := {
    len := PySem.W.mg_none_of X G z_len
    int := PySem.W.mg_none_of X G z_int
    abs := PySem.W.mg_none_of X G z_abs
    range := PySem.W.mg_none_of X G z_range
    str := PySem.W.mg_none_of X G z_str
    list := PySem.W.mg_none_of X G z_list
    tuple := PySem.W.mg_none_of X G z_tuple
    isinstance := PySem.W.mg_none_of X G z_isinstance
    all := PySem.W.mg_none_of X G z_all
    set := PySem.W.mg_none_of X G z_set
    enumerate := PySem.W.mg_none_of X G z_enumerate
    sum := PySem.W.mg_none_of X G z_sum
    max := PySem.W.mg_none_of X G z_max
    min := PySem.W.mg_none_of X G z_min
    bool := PySem.W.mg_none_of X G z_bool
    c_LETTERS := ⟨_, PySem.W.mg_of X G y0, ⟨_, rfl⟩⟩
    c_CHARACTERS := ⟨_, PySem.W.mg_of X G y1, ⟨_, rfl⟩⟩
    c_LONGEST := ⟨_, PySem.W.mg_of X G y2, ⟨_, rfl⟩⟩
    c_MOST_MEMBERS := ⟨_, PySem.W.mg_of X G y3, ⟨_, rfl⟩⟩
    c_MOST_BITS := ⟨_, PySem.W.mg_of X G y4, ⟨_, rfl⟩⟩
    c_MOST_OPERATIONS := ⟨_, PySem.W.mg_of X G y5, ⟨_, rfl⟩⟩ }
  have x2 : XI P K mg "UnknownMember" "UnknownMember.__init__" (inClass (top 5) 0) ["self", "name"] E2 f2 q2 c2 "LookupError" "LookupError.__new__" "LookupError.__init__" [.type "LookupError", .type "Exception", .type "BaseException", .type "object"] (PySem.W.fnX "__init__" "UnknownMember.__init__" (defArgs (inClass (top 5) 0)) (defBody (inClass (top 5) 0)) (defScope (inClass (top 5) 0)) [(("__class__" : Str), q2)] .none kV2 dc2 pm2 an2 (.ref c2) ct2) := xi_mk X G xbL (te.cls 2 (by decide)) e2 i2 t2 l2 m2 n2 v2 lf d2 s2 u2 b2 opq noS tp ⟨_, rfl, rfl⟩ (by decide +kernel) (by decide +kernel) (by decide +kernel) h2 fun us hl => match us, hl with | [_, _], _ => rfl
  have x3 : XI P K mg "UnknownSign" "UnknownSign.__init__" (inClass (top 6) 0) ["self", "name"] E3 f3 q3 c3 "LookupError" "LookupError.__new__" "LookupError.__init__" [.type "LookupError", .type "Exception", .type "BaseException", .type "object"] (PySem.W.fnX "__init__" "UnknownSign.__init__" (defArgs (inClass (top 6) 0)) (defBody (inClass (top 6) 0)) (defScope (inClass (top 6) 0)) [(("__class__" : Str), q3)] .none kV3 dc3 pm3 an3 (.ref c3) ct3) := xi_mk X G xbL (te.cls 3 (by decide)) e3 i3 t3 l3 m3 n3 v3 lf d3 s3 u3 b3 opq noS tp ⟨_, rfl, rfl⟩ (by decide +kernel) (by decide +kernel) (by decide +kernel) h3 fun us hl => match us, hl with | [_, _], _ => rfl
  have U : ErrC P K mg E0 E1 E2 E3 f2 q2 c2 f3 q3 c3 (PySem.W.fnX "__init__" "UnknownMember.__init__" (defArgs (inClass (top 5) 0)) (defBody (inClass (top 5) 0)) (defScope (inClass (top 5) 0)) [(("__class__" : Str), q2)] .none kV2 dc2 pm2 an2 (.ref c2) ct2) (PySem.W.fnX "__init__" "UnknownSign.__init__" (defArgs (inClass (top 6) 0)) (defBody (inClass (top 6) 0)) (defScope (inClass (top 6) 0)) [(("__class__" : Str), q3)] .none kV3 dc3 pm3 an3 (.ref c3) ct3) := ⟨⟨xbV, PySem.W.mg_of X G e0, te.cls 0 (by decide), at_rep te.hi 0 (by decide)⟩, ⟨xbV, PySem.W.mg_of X G e1, te.cls 1 (by decide), at_rep te.hi 1 (by decide)⟩, x2, x3, at_rep te.nm 2 (by decide), at_rep te.nm 3 (by decide)⟩
  have F0 := fun_mk (st := s__law_source) Lk0 Hk0 Kk0
  have B0 := F0.binds (ps := ["script"]) fun _ _ _ _ _ _ us hl => match us, hl with | [_], _ => rfl
  have F1 := fun_mk (st := sPick) Lk1 Hk1 Kk1
  have B1 := F1.binds (ps := ["source", "many"]) fun _ _ _ _ _ _ us hl => match us, hl with | [_, _], _ => rfl
  have F2 := fun_mk (st := s_is_plain) Lk2 Hk2 Kk2
  have B2 := F2.binds (ps := ["thing"]) fun _ _ _ _ _ _ us hl => match us, hl with | [_], _ => rfl
  have F3 := fun_mk (st := s_is_word) Lk3 Hk3 Kk3
  have B3 := F3.binds (ps := ["thing"]) fun _ _ _ _ _ _ us hl => match us, hl with | [_], _ => rfl
  have F4 := fun_mk (st := s__check_members) Lk4 Hk4 Kk4
  have B4 := F4.binds (ps := ["members"]) fun _ _ _ _ _ _ us hl => match us, hl with | [_], _ => rfl
  have F5 := fun_mk (st := s__check_values) Lk5 Hk5 Kk5
  have B5 := F5.binds (ps := ["members", "arity", "values"]) fun _ _ _ _ _ _ us hl => match us, hl with | [_, _, _], _ => rfl
  have F6 := fun_mk (st := s__check_operations) Lk6 Hk6 Kk6
  have B6 := F6.binds (ps := ["members", "operations"]) fun _ _ _ _ _ _ us hl => match us, hl with | [_, _], _ => rfl
  have F7 := fun_mk (st := s__number_names) Lk7 Hk7 Kk7
  have B7 := F7.binds (ps := ["count"]) fun _ _ _ _ _ _ us hl => match us, hl with | [_], _ => rfl
  have F8 := fun_mk (st := s__bit_names) Lk8 Hk8 Kk8
  have B8 := F8.binds (ps := ["count"]) fun _ _ _ _ _ _ us hl => match us, hl with | [_], _ => rfl
  have F9 := fun_mk (st := s__law_made) Lk9 Hk9 Kk9
  have B9 := F9.binds (ps := ["kind", "count"]) fun _ _ _ _ _ _ us hl => match us, hl with | [_, _], _ => rfl
  have F10 := fun_mk (st := s__law_tuples) Lk10 Hk10 Kk10
  have B10 := F10.binds (ps := ["members", "arity"]) fun _ _ _ _ _ _ us hl => match us, hl with | [_, _], _ => rfl
  have F11 := fun_mk (st := s__law_numbers) Lk11 Hk11 Kk11
  have B11 := F11.binds (ps := ["kind", "count"]) fun _ _ _ _ _ _ us hl => match us, hl with | [_, _], _ => rfl
  have F12 := fun_mk (st := s__law_due) Lk12 Hk12 Kk12
  have B12 := F12.binds (ps := ["kind", "count", "sign", "row"]) fun _ _ _ _ _ _ us hl => match us, hl with | [_, _, _, _], _ => rfl
  have F13 := fun_mk (st := s__law_bits) Lk13 Hk13 Kk13
  have B13 := F13.binds (ps := ["sign", "row"]) fun _ _ _ _ _ _ us hl => match us, hl with | [_, _], _ => rfl
  have F14 := fun_mk (st := s__law_refused) Lk14 Hk14 Kk14
  have B14 := F14.binds (ps := ["kind", "count"]) fun _ _ _ _ _ _ us hl => match us, hl with | [_, _], _ => rfl
  have F15 := fun_mk (st := s__law_said) Lk15 Hk15 Kk15
  have B15 := F15.binds (ps := ["made", "sign", "row"]) fun _ _ _ _ _ _ us hl => match us, hl with | [_, _, _], _ => rfl
  have F16 := fun_mk (st := s__law_lost_right) Lk16 Hk16 Kk16
  have B16 := F16.binds (ps := ["made", "members", "signature"]) fun _ _ _ _ _ _ us hl => match us, hl with | [_, _, _], _ => rfl
  have F17 := fun_mk (st := s_law) Lk17 Hk17 Kk17
  have Fm0 := fun_mk (st := s_Algebra___init__) Lm0 Hm0 Km0
  have Bm0 := Fm0.binds (ps := ["self", "members", "operations"]) fun _ _ _ _ _ _ us hl => match us, hl with | [_, _, _], _ => rfl
  have Fm1 := fun_mk (st := s_Algebra__fill) Lm1 Hm1 Km1
  have Bm1 := Fm1.binds (ps := ["self", "members", "operations"]) fun _ _ _ _ _ _ us hl => match us, hl with | [_, _, _], _ => rfl
  have Fm2 := fun_mk (st := s_Algebra_members) Lm2 Hm2 Km2
  have Bm2 := Fm2.binds (ps := ["self"]) fun _ _ _ _ _ _ us hl => match us, hl with | [_], _ => rfl
  have Fm3 := fun_mk (st := s_Algebra_value) Lm3 Hm3 Km3
  have Bm3 := Fm3.binds (ps := ["self", "sign", "arguments"]) fun _ _ _ _ _ _ us hl => match us, hl with | [_, _, _], _ => rfl
  have Fm4 := fun_mk (st := s_Algebra___contains__) Lm4 Hm4 Km4
  have Bm4 := Fm4.binds (ps := ["self", "name"]) fun _ _ _ _ _ _ us hl => match us, hl with | [_, _], _ => rfl
  have Fm5 := fun_mk (st := s_Algebra___len__) Lm5 Hm5 Km5
  have Bm5 := Fm5.binds (ps := ["self"]) fun _ _ _ _ _ _ us hl => match us, hl with | [_], _ => rfl
  have Fm6 := fun_mk (st := s_Algebra___eq__) Lm6 Hm6 Km6
  have Bm6 := Fm6.binds (ps := ["self", "other"]) fun _ _ _ _ _ _ us hl => match us, hl with | [_, _], _ => rfl
  have Fm7 := fun_mk (st := s_TurnAlgebra___init__) Lm7 Hm7 Km7
  have Bm7 := Fm7.binds (ps := ["self", "count"]) fun _ _ _ _ _ _ us hl => match us, hl with | [_, _], _ => rfl
  have Fm8 := fun_mk (st := s_ChainAlgebra___init__) Lm8 Hm8 Km8
  have Bm8 := Fm8.binds (ps := ["self", "count"]) fun _ _ _ _ _ _ us hl => match us, hl with | [_, _], _ => rfl
  have Fm9 := fun_mk (st := s_PickAlgebra___init__) Lm9 Hm9 Km9
  have Bm9 := Fm9.binds (ps := ["self", "count"]) fun _ _ _ _ _ _ us hl => match us, hl with | [_, _], _ => rfl
  have Fm10 := fun_mk (st := s_SetAlgebra___init__) Lm10 Hm10 Km10
  have Bm10 := Fm10.binds (ps := ["self", "count"]) fun _ _ _ _ _ _ us hl => match us, hl with | [_, _], _ => rfl
  have gA : mg "Algebra" = some (.ref C0) := PySem.W.mg_of X G a0
  refine ⟨PySem.W.fnOf "law" "law" (defArgs s_law) (defBody s_law) (defScope s_law) .none Kv17 Dc17 Pm17 An17 Cd17 Ct17, fun s v => .of_eq rfl, fun base _ _ => ?_⟩
  have k__law_source : Cal P w K mg base 1 "_law_source" ["script"] (spSource K) := ⟨_, _, PySem.W.mg_of X G A0, Kk0, B0, (ok_source F0 BL).toX⟩
  have k__law_pick : Cal P w K mg base 1 "_law_pick" ["source", "many"] spPick := ⟨_, _, PySem.W.mg_of X G A1, Kk1, B1, (ok_pick F1 BL).toX⟩
  have k_is_plain : Cal P w K mg base 1 "is_plain" ["thing"] (spText plainB) := ⟨_, _, PySem.W.mg_of X G A2, Kk2, B2, (ok_is_plain F2 BL).toX⟩
  have k_is_word : Cal P w K mg base 2 "is_word" ["thing"] (spText wordB) := ⟨_, _, PySem.W.mg_of X G A3, Kk3, B3, (ok_is_word F3 BL k_is_plain).toX⟩
  have k__check_members : Cal P w K mg base 2 "_check_members" ["members"] (spChkM K) := ⟨_, _, PySem.W.mg_of X G A4, Kk4, B4, (ok_check_members F4 BL k_is_plain).toX⟩
  have k__check_values : Cal P w K mg base 1 "_check_values" ["members", "arity", "values"] (spChkV K) := ⟨_, _, PySem.W.mg_of X G A5, Kk5, B5, (ok_check_values F5 BL).toX⟩
  have k__check_operations : Cal P w K mg base 3 "_check_operations" ["members", "operations"] (spChkO K) := ⟨_, _, PySem.W.mg_of X G A6, Kk6, B6, (ok_check_operations F6 BL k_is_word k__check_values).toX⟩
  have k__number_names : Cal P w K mg base 1 "_number_names" ["count"] (spNames E0 6 nums) := ⟨_, _, PySem.W.mg_of X G A7, Kk7, B7, ok_number_names F7 BL U⟩
  have k__bit_names : Cal P w K mg base 1 "_bit_names" ["count"] (spNames E0 2 bits) := ⟨_, _, PySem.W.mg_of X G A8, Kk8, B8, ok_bit_names F8 BL U⟩
  have FA : ∀ i, i < 5 → FnOk P w K mg base CX0 4 M0 _ ["self", "members", "operations"] (spAlg K ((pick [C0, C1, C2, C3, C4]) i)) := fun i hi => ok_alg Fm0 k__check_members k__check_operations ⟨tc.cls i hi, _, _, tc.me1 i hi, Bm1, (ok_fill Fm1 BL (tc.ac i hi)).toX⟩
  have VF : Fams P w K mg base E0 (fun k => (pick [C0, C1, C2, C3, C4]) (k + 1)) := ⟨⟨_, _, tc.maker 1 (by decide), PySem.W.mg_of X G a1, Bm7, ok_turn Fm7 BL gA tc.cf (FA 1 (by decide)).toX Bm0 k__number_names⟩, ⟨_, _, tc.maker 2 (by decide), PySem.W.mg_of X G a2, Bm8, ok_chain Fm8 BL gA tc.cf (FA 2 (by decide)).toX Bm0 k__number_names⟩, ⟨_, _, tc.maker 3 (by decide), PySem.W.mg_of X G a3, Bm9, ok_pick1 Fm9 BL gA tc.cf (FA 3 (by decide)).toX Bm0 k__number_names⟩, ⟨_, _, tc.maker 4 (by decide), PySem.W.mg_of X G a4, Bm10, ok_set Fm10 BL gA tc.cf (FA 4 (by decide)).toX Bm0 k__bit_names⟩⟩
  have k__law_made : Cal P w K mg base 7 "_law_made" ["kind", "count"] (spMade E0 (fun k => (pick [C0, C1, C2, C3, C4]) (k + 1))) := ⟨_, _, PySem.W.mg_of X G A9, Kk9, B9, ok_made F9 VF⟩
  have k__law_tuples : Cal P w K mg base 1 "_law_tuples" ["members", "arity"] (spTup K) := ⟨_, _, PySem.W.mg_of X G A10, Kk10, B10, (ok_tuples F10 BL).toX⟩
  have k__law_numbers : Cal P w K mg base 1 "_law_numbers" ["kind", "count"] spNumbers := ⟨_, _, PySem.W.mg_of X G A11, Kk11, B11, (ok_numbers F11 BL).toX⟩
  have k__law_due : Cal P w K mg base 1 "_law_due" ["kind", "count", "sign", "row"] (spDue K) := ⟨_, _, PySem.W.mg_of X G A12, Kk12, B12, (ok_due F12 BL).toX⟩
  have k__law_bits : Cal P w K mg base 1 "_law_bits" ["sign", "row"] (spBits K) := ⟨_, _, PySem.W.mg_of X G A13, Kk13, B13, (ok_bits F13 BL).toX⟩
  have k__law_refused : Cal P w K mg base 8 "_law_refused" ["kind", "count"] spRef := ⟨_, _, PySem.W.mg_of X G A14, Kk14, B14, (ok_refused F14 BL (PySem.W.mg_of X G e0) (at_map (at_map te.xm 0 (by decide)) 0 (by decide)) k__law_made (ok_len Fm5 BL (tc.ac 0 (by decide))) Bm5).toX⟩
  have FH : ∀ i, i < 5 → FnOk P w K mg base CX0 1 M4 _ ["self", "name"] (spHasM ((pick [C0, C1, C2, C3, C4]) i)) := fun i hi => ok_has Fm4 BL (tc.ac i hi)
  have FV : ∀ i, i < 5 → FnOk P w K mg base (L2.CX P w) 3 M3 _ ["self", "sign", "arguments"] (spVal K ((pick [C0, C1, C2, C3, C4]) i) E1 E2 E3) := fun i hi => ok_value Fm3 BL (tc.ac i hi) U (tc.me4 i hi) (FH i hi).toX Bm4
  have kS : ∀ i, i < 5 → Cal P w K mg base 4 "_law_said" ["made", "sign", "row"] (spSaid K ((pick [C0, C1, C2, C3, C4]) i)) := fun i hi => ⟨_, _, PySem.W.mg_of X G A15, Kk15, B15, (ok_said F15 U te.cats ⟨tc.cls i hi, _, _, tc.me3 i hi, Bm3, FV i hi⟩).toX⟩
  have kL : Cal P w K mg base 5 "_law_lost_right" ["made", "members", "signature"] (anyC (Fam (fun k => (pick [C0, C1, C2, C3, C4]) (k + 1))) (spLost K)) := ⟨_, _, PySem.W.mg_of X G A16, Kk16, B16, FnOk.any fun D ⟨k, hk, e⟩ => by subst e; exact (ok_lost F16 BL (tc.ac (k + 1) (by omega)) (kS (k + 1) (by omega)) (tc.me4 (k + 1) (by omega)) (FH (k + 1) (by omega)) Bm4).toX⟩
  have mM : MtdA P w K mg base 1 (Fam (fun k => (pick [C0, C1, C2, C3, C4]) (k + 1))) "members" ["self"] (anyC (Fam (fun k => (pick [C0, C1, C2, C3, C4]) (k + 1))) spMem) := ⟨M2, _, fun D ⟨k, hk, e⟩ => by subst e; exact ⟨tc.cls (k + 1) (by omega), tc.me2 (k + 1) (by omega)⟩, Km2, Bm2, FnOk.any fun D ⟨k, hk, e⟩ => by subst e; exact (ok_members Fm2 BL (tc.ac (k + 1) (by omega))).toX⟩
  have mV : MtdA P w K mg base 3 (Fam (fun k => (pick [C0, C1, C2, C3, C4]) (k + 1))) "value" ["self", "sign", "arguments"] (anyC (Fam (fun k => (pick [C0, C1, C2, C3, C4]) (k + 1))) fun D => spVal K D E1 E2 E3) := ⟨M3, _, fun D ⟨k, hk, e⟩ => by subst e; exact ⟨tc.cls (k + 1) (by omega), tc.me3 (k + 1) (by omega)⟩, Km3, Bm3, FnOk.any fun D ⟨k, hk, e⟩ => by subst e; exact FV (k + 1) (by omega)⟩
  have FL : FnOk P w K mg base CX0 1 M5 _ ["self"] (anyC (Fam (fun k => (pick [C0, C1, C2, C3, C4]) (k + 1))) spLen) := FnOk.any fun D ⟨k, hk, e⟩ => by subst e; exact ok_len Fm5 BL (tc.ac (k + 1) (by omega))
  exact ok_law F17 BL gA k__law_source k__law_pick k__law_made k__law_numbers k__law_tuples k__law_due k__law_bits kL k__law_refused mM mV ⟨_, _, tc.maker 0 (by decide), gA, Bm0, (FA 0 (by decide)).toX⟩ FL Bm5 (ok_eq Fm6 BL gA) Bm6 tc.fam
end
theorem walk {l : PySem.W.OpenLaw} {q : Program} {loose : List Str} {XP : (Str → Option Value) → Heap → Prop} {YP : World → Heap → Prop} {d : DefRec} {K : Params → PySem.W.Frag} (hn : l.most = some 63) (hdf : d.params.defaults = [])
    (hY : ∀ (w : World) (h : Heap), YP w h → (K w.params).In h)
    (F : ∀ (w : World) (mg : Str → Option Value) (fa : Addr) (h : Heap), (K w.params).In h → h.Ns mainGlobals mg → mg d.name = some (.ref fa) →
      ∃ fd : FuncData, (∀ (s : Shared) (u : Value), BindsTo s fd ⟨[u], []⟩ [("script", u)]) ∧ ∀ base : Heap, (K w.params).In base → base.Ns mainGlobals mg → FnOk l.prog w (K w.params) mg base CX0 9 fa fd ["script"] (spLaw (K w.params))) :
    PySem.W.WalkO q loose XP YP l.row.toRowW d [] (fun f vs => PySem.call f vs) :=
  L2.walk_of (n := 63) (k := 9) (x := "script") (CX := fun _ => CX0) (sp := fun w => spLaw (K w.params)) hn (by decide) hdf ⟨rfl, by decide, by decide⟩ hY F (fun _ _ a ns hl _ hS => ⟨a, ns, rfl, hS, hl, fun _ => rfl⟩) fun _ _ _ _ _ z => z
end K02


set_option Elab.async false
set_option linter.all false
open PySem PySem.W PyProof.Rows
set_option maxRecDepth 100000 in
set_option maxHeartbeats 0 in
theorem PySem.Challenge.cw_equalkin_k02_families_of_algebras_holds : PySem.Challenge.rw_equalkin_k02_families_of_algebras.Holds := by
  w_on; o_law; k_head; (case hw => w_witness2)
  k_fill
  refine K02.walk (l := PySem.Challenge.rw_equalkin_k02_families_of_algebras) rfl rfl (fun w h Y => PySem.W.kIn_of Y) ?F
  case F =>
    intro w mg fa h KX G hmg
    refine' K02.all_mk KX G hmg ?lf ?tp ?e0 ?e1 ?e2 ?e3 ?a0 ?a1 ?a2 ?a3 ?a4 ?i2 ?l2 ?m2 ?n2 ?v2 ?d2 ?t2 ?s2 ?u2 ?b2 ?h2 ?i3 ?l3 ?m3 ?n3 ?v3 ?d3 ?t3 ?s3 ?u3 ?b3 ?h3 ?A0 ?Lk0 ?Hk0 ?Kk0 ?A1 ?Lk1 ?Hk1 ?Kk1 ?A2 ?Lk2 ?Hk2 ?Kk2 ?A3 ?Lk3 ?Hk3 ?Kk3 ?A4 ?Lk4 ?Hk4 ?Kk4 ?A5 ?Lk5 ?Hk5 ?Kk5 ?A6 ?Lk6 ?Hk6 ?Kk6 ?A7 ?Lk7 ?Hk7 ?Kk7 ?A8 ?Lk8 ?Hk8 ?Kk8 ?A9 ?Lk9 ?Hk9 ?Kk9 ?A10 ?Lk10 ?Hk10 ?Kk10 ?A11 ?Lk11 ?Hk11 ?Kk11 ?A12 ?Lk12 ?Hk12 ?Kk12 ?A13 ?Lk13 ?Hk13 ?Kk13 ?A14 ?Lk14 ?Hk14 ?Kk14 ?A15 ?Lk15 ?Hk15 ?Kk15 ?A16 ?Lk16 ?Hk16 ?Kk16 ?A17 ?Lk17 ?Hk17 ?Kk17 ?Am0 ?Lm0 ?Hm0 ?Km0 ?Am1 ?Lm1 ?Hm1 ?Km1 ?Am2 ?Lm2 ?Hm2 ?Km2 ?Am3 ?Lm3 ?Hm3 ?Km3 ?Am4 ?Lm4 ?Hm4 ?Km4 ?Am5 ?Lm5 ?Hm5 ?Km5 ?Am6 ?Lm6 ?Hm6 ?Km6 ?Am7 ?Lm7 ?Hm7 ?Km7 ?Am8 ?Lm8 ?Hm8 ?Km8 ?Am9 ?Lm9 ?Hm9 ?Km9 ?Am10 ?Lm10 ?Hm10 ?Km10 ?z_len ?z_int ?z_abs ?z_range ?z_str ?z_list ?z_tuple ?z_isinstance ?z_all ?z_set ?z_enumerate ?z_sum ?z_max ?z_min ?z_bool ?z_super ?y0 ?y1 ?y2 ?y3 ?y4 ?y5 ?opq ?te ?tc
    (case lf => kernel_rfl); (case tp => kernel_rfl)
    (case e0 => k_is); (case e1 => k_is); (case e2 => k_is); (case e3 => k_is); (case a0 => k_is); (case a1 => k_is)
    (case a2 => k_is); (case a3 => k_is); (case a4 => k_is); (case i2 => k_is); (case l2 => k_is); (case m2 => k_is)
    (case n2 => k_is); (case v2 => rfl); (case d2 => k_is); (case t2 => k_is); (case s2 => k_is); (case u2 => ks_is)
    (case b2 => k_is); (case h2 => k_is); (case i3 => k_is); (case l3 => k_is); (case m3 => k_is); (case n3 => k_is)
    (case v3 => rfl); (case d3 => k_is); (case t3 => k_is); (case s3 => k_is); (case u3 => ks_is); (case b3 => k_is)
    (case h3 => k_is); (case A0 => k_is); (case Lk0 => k_is); (case Hk0 => k_is); (case Kk0 => k_is); (case A1 => k_is)
    (case Lk1 => k_is); (case Hk1 => k_is); (case Kk1 => k_is); (case A2 => k_is); (case Lk2 => k_is); (case Hk2 => k_is)
    (case Kk2 => k_is); (case A3 => k_is); (case Lk3 => k_is); (case Hk3 => k_is); (case Kk3 => k_is); (case A4 => k_is)
    (case Lk4 => k_is); (case Hk4 => k_is); (case Kk4 => k_is); (case A5 => k_is); (case Lk5 => k_is); (case Hk5 => k_is)
    (case Kk5 => k_is); (case A6 => k_is); (case Lk6 => k_is); (case Hk6 => k_is); (case Kk6 => k_is); (case A7 => k_is)
    (case Lk7 => k_is); (case Hk7 => k_is); (case Kk7 => k_is); (case A8 => k_is); (case Lk8 => k_is); (case Hk8 => k_is)
    (case Kk8 => k_is); (case A9 => k_is); (case Lk9 => k_is); (case Hk9 => k_is); (case Kk9 => k_is); (case A10 => k_is)
    (case Lk10 => k_is); (case Hk10 => k_is); (case Kk10 => k_is); (case A11 => k_is); (case Lk11 => k_is); (case Hk11 => k_is)
    (case Kk11 => k_is); (case A12 => k_is); (case Lk12 => k_is); (case Hk12 => k_is); (case Kk12 => k_is); (case A13 => k_is)
    (case Lk13 => k_is); (case Hk13 => k_is); (case Kk13 => k_is); (case A14 => k_is); (case Lk14 => k_is); (case Hk14 => k_is)
    (case Kk14 => k_is); (case A15 => k_is); (case Lk15 => k_is); (case Hk15 => k_is); (case Kk15 => k_is); (case A16 => k_is)
    (case Lk16 => k_is); (case Hk16 => k_is); (case Kk16 => k_is); (case A17 => k_is); (case Lk17 => k_is); (case Hk17 => k_is)
    (case Kk17 => k_is); (case Am0 => k_is); (case Lm0 => k_is); (case Hm0 => k_is); (case Km0 => k_is); (case Am1 => k_is)
    (case Lm1 => k_is); (case Hm1 => k_is); (case Km1 => k_is); (case Am2 => k_is); (case Lm2 => k_is); (case Hm2 => k_is)
    (case Km2 => k_is); (case Am3 => k_is); (case Lm3 => k_is); (case Hm3 => k_is); (case Km3 => k_is); (case Am4 => k_is)
    (case Lm4 => k_is); (case Hm4 => k_is); (case Km4 => k_is); (case Am5 => k_is); (case Lm5 => k_is); (case Hm5 => k_is)
    (case Km5 => k_is); (case Am6 => k_is); (case Lm6 => k_is); (case Hm6 => k_is); (case Km6 => k_is); (case Am7 => k_is)
    (case Lm7 => k_is); (case Hm7 => k_is); (case Km7 => k_is); (case Am8 => k_is); (case Lm8 => k_is); (case Hm8 => k_is)
    (case Km8 => k_is); (case Am9 => k_is); (case Lm9 => k_is); (case Hm9 => k_is); (case Km9 => k_is); (case Am10 => k_is)
    (case Lm10 => k_is); (case Hm10 => k_is); (case Km10 => k_is); (case z_len => k_is); (case z_int => k_is); (case z_abs => k_is)
    (case z_range => k_is); (case z_str => k_is); (case z_list => k_is); (case z_tuple => k_is); (case z_isinstance => k_is); (case z_all => k_is)
    (case z_set => k_is); (case z_enumerate => k_is); (case z_sum => k_is); (case z_max => k_is); (case z_min => k_is); (case z_bool => k_is)
    (case z_super => k_is); (case y0 => k_is); (case y1 => k_is); (case y2 => k_is); (case y3 => k_is); (case y4 => k_is)
    (case y5 => k_is); (case opq => k_is)
    case te =>
      refine' ⟨?_, ?_, ?_, ?_, ?_, ?_, ?_, ?_, ?_, ?_, ?_⟩ <;> kernel_rfl
    case tc =>
      refine' ⟨?_, ?_, ?_, ?_, ?_, ?_, ?_, ?_, ?_, ?_, ?_, ?_, ?_, ?_, ?_, ?_, ?_, ?_, ?_, ?_, ?_, ?_, ?_, ?_, ?_, ?_, ?_, ?_, ?_, ?_, ?_, ?_⟩ <;> kernel_rfl

