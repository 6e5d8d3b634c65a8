import PyProof.Rows.All
import Wide.All
import OpenK.AllK
import Wide.FinOn
import KE.KExcTry
import KE.KExcStr
import HandS.ForMost
import HandS.Exc
import HandS.ExcOwn
import HandS.ExcInit
import HandS.Nested
import HandS.Flow
import HandS.FStr
import HandS.More
import HandS.TryMany
import HandS.ExcField
import HandS.IsInst
import HandS.RaiseMore
import HandS.WordsExc
import HandS.Evl
import HandS.Conv
import HandS.Deep
import HandS.Style
import HandS.NoneIn
import HandS.ExcValue
import HandS.ExcIs
import KE.KExcIs
import PyProof.InstEq
import HandS.ClsMeth
import HandS.Walk
import HandS.DictComp
import PySem.Challenge.RW_equalkin_k14_texts_that_tell_no_term
import HandS.Codes
import HandS.Strs
import HandS.SetKeys
import HandS.Sort
import PyProof.WalkInts
import PyProof.StrOps2
import HandS.Star
set_option Elab.async false
set_option linter.all false
set_option maxRecDepth 100000
set_option maxHeartbeats 4000000
/-! Own errors over any base whose __init__ begins with super().__init__(text): the classes' facts, stores, the def's rule, the making. -/
namespace L2
open PySem PySem.Spec PyProof.Rows NdefX

/-- the built-in base of an own error: its name, maker, initializer, chain -/
structure XBase (B nI iI : String) (bB : List Value) : Prop where
  fb : ExcBaseFacts B nI iI bB
  sf : StoreFacts B bB "object.__setattr__" "object"
  kf : PySem.W.KxsFacts B iI

theorem xbV : XBase "ValueError" "ValueError.__new__" "ValueError.__init__" [.type "ValueError", .type "Exception", .type "BaseException", .type "object"] :=
  ⟨F.excBase_ValueError, F.store_ValueError, PySem.W.kxs_ValueError⟩
theorem xbL : XBase "LookupError" "LookupError.__new__" "LookupError.__init__" [.type "LookupError", .type "Exception", .type "BaseException", .type "object"] :=
  ⟨F.excBase_LookupError, F.store_LookupError, PySem.W.kxs_LookupError⟩

/-- what the written part says of such a class -/
structure XCls (K : PySem.W.Frag) (C : Addr) (nI : String) (bB : List Value) : Prop where
  ci : PySem.W.excInitIn K C bB nI = true
  ov : PySem.W.excOver K C bB = true
  sa : PySem.W.findIn K (.ref C) "__setattr__" = some (some (.builtin "object.__setattr__"))
  hd : PySem.W.hasDictIn K C = true
  eb : PySem.W.subIn K (.ref C) (.type "BaseException") = some true
  ty : PySem.W.typeIn K (.ref C) = some (.type "type")
  kp : PySem.W.keepIn K (.ref C) = true

/-- the method-wrapper at u, bound to the error at a, called -/
theorem mw_call {prog : Program} {w : World} {A : Around} {E : Value → Shared → Prop} {s : Shared} {K : PySem.W.Frag} {C a u t0 : Addr} {B nI iI : String} {bB rest : List Value} {Q : Value → Shared → Prop}
    (XB : XBase B nI iI bB) (KX : K.In s.heap) (ci : PySem.W.excInitIn K C bB nI = true) (hu : s.heap.get? u = some (PySem.W.kxs_mw iI a)) (ha : s.heap.get? a = some (PySem.W.excObj C t0 none .none)) (hz : rest.length ≤ sizeLine)
    (fin : ∀ h2 t2, (∀ b o, b ≠ a → s.heap.get? b = some o → h2.get? b = some o) → h2.get? a = some (PySem.W.excObj C t2 none .none) → Q .none { s with heap := h2 }) :
    wpAny (model prog w) A (call (.ref u) rest) Q E s := by
  obtain ⟨nm, N1, qn, bs, bm, hdct, sn, sub, ab, col, dd, k0, k1, k2, k3, k5, hC, hT⟩ := PySem.W.excInit_of KX ci
  have FB := XB.fb
  obtain ⟨hh, gg, dr, tk, os⟩ := s
  refine wpAny_call (codeAny_of_tree ?_)
  show wpAny (model prog w) A.in1 (callAny (.ref u) ⟨rest, []⟩) _ _ _
  simp only [callAny]
  refine wpAny_bind (wpAny_load hu ?_)
  have c1 : (Value.type "method-wrapper" == Value.type "method" || Value.type "method-wrapper" == Value.type "builtin_function_or_method" || Value.type "method-wrapper" == Value.type "method-wrapper") = true := by decide
  simp only [PySem.W.kxs_mw, c1, if_true]
  refine PySem.W.KFB.if_so (by decide) (wpAny_bind (PySem.W.check_bound_init FB.toExcCallFacts hC ha rfl (wpAny_bind (wpAny_pure (wpAny_pure ?_)))))
  refine ⟨plainId_quiet FB.init.plain _, codeAny_builtin FB.initEntry (PySem.W.exc_init_tree (cls := .ref C) (t0 := t0) (dv := none) (c2 := .none) (c3 := .none) (b4 := .bool false) ha hz fun h2 k2 e2 _ => fin h2 _ k2 e2)⟩

/-- what the written part says of an __init__ (at f) of the class at C that begins with super().__init__ -/
structure XSup (P : Program) (K : PySem.W.Frag) (mg : Str → Option Value) (C f cc : Addr) (B iI : String) (F : NF) : Prop where
  cl : F.cl = [(("__class__" : Str), cc)]
  cell : ∃ o d sl, K.lookup cc = some ⟨o, d, .cell (some (.ref C)), sl⟩
  code : ∃ o d vs sl file tf, K.lookup F.c = some ⟨o, d, .fields vs, sl⟩ ∧ vs[2]? = some (.str file tf) ∧ ((P.main.file : Str) == file) = true
  cls : ∃ cd, PySem.W.clsIn K C = some cd
  sub : PySem.W.mroIn K C (.ref C) = some true
  up : PySem.W.ks_superIn K C C "__init__" = some (some (.builtin iI))
  isB : PySem.W.subIn K (.ref C) (.type B) = some true
  opq : PySem.W.nsIn K cStatics "thirdparty.any" = some none
  noS : mg "super" = none
  top : (P.main.scope.names.lookup ("super" : Str)).isSome = false
  self : ∃ ar, (F.params.posonlyargs ++ F.params.args).head? = some ar ∧ ar.arg = "self"
  kS : F.scope.names.lookup ("super" : Str) = some .globalImplicit
  kC : F.scope.names.lookup ("__class__" : Str) = some .free
  kA : F.scope.names.lookup ("self" : Str) = some .local
end L2


set_option Elab.async false
set_option linter.all false
set_option maxRecDepth 100000
set_option maxHeartbeats 4000000
namespace L2
open PySem PySem.Spec PyProof.Rows NdefX

section
variable {P : Program} {w : World} {K : PySem.W.Frag} {mg : Str → Option Value} {base : Heap}
theorem boot_super : bootBuiltins "super" = some (.type "super") := by decide +kernel
theorem startF_at {N : List Str} {vs : List V} {ws : List (Option V)} {v : V} (h : vs[0]? = some v) : (startF N vs ws)[0]? = some (some v) := by
  unfold startF
  cases vs with
  | nil => cases h
  | cons x r =>
    obtain rfl : x = v := Option.some.inj h
    rfl
/-- nothing but a is another's: the same map -/
theorem upd_self {H : Hp} {a : Addr} {o : HO} (h : H a = some o) : upd H a o = H := by
  funext b
  by_cases e : b = a
  · subst e
    rw [upd_same, h]
  · exact upd_ne e

/-- the call super().__init__(msg) in the def's own words -/
def SupCall (F : NF) (f : Addr) (p0 p1 p2 p3 : Pos) (msg : Expr) : Prop := ∃ pl : Addr → Sem Bool, ∀ L : Addr, eval (.Call (.Attribute (.Call (.Name "super" p0) [] [] p1) "__init__" p2) [msg] [] p3) (envF F f L) = (do
  let ov ← attributeBase (.Call (.Name "super" p0) [] [] p1) "__init__" (envF F f L) (eval (.Call (.Name "super" p0) [] [] p1) (envF F f L))
  standAt p2.atName
  let (g, first) ← holding [ov] (getMethod ov "__init__" (pl L))
  callWith p3 g first (backTo p3 (starEach [msg] (envF F f L))) [])
/-- THE RULE: an __init__ whose first statement is super().__init__(text) -/
theorem fn_super {CX : CXT} {N ps : List Str} {F : NF} {f C cc : Addr} {k : Nat} {sp : Sp} {B nI iI : String} {bB : List Value} {oc : Value} {od an : Option Addr} {osl : Array (Option Value)} {kV doc pm ct : Value}
    {msg : Expr} {p0 p1 p2 p3 p4 : Pos} {body : List Stmt} (XB : XBase B nI iI bB) (XC : XCls K C nI bB) (XS : XSup P K mg C f cc B iI F)
    (lk : K.lookup f = some ⟨oc, od, .func (PySem.W.fnX F.name F.qual F.params F.body F.scope F.cl .none kV doc pm an (.ref F.c) ct), osl⟩) (hcd : PySem.W.codeIn K (.ref F.c) F.qual = true)
    (hbd : F.body = .Expr (.Call (.Attribute (.Call (.Name "super" p0) [] [] p1) "__init__" p2) [msg] [] p3) p4 :: body)
    (hms : ∀ L : Addr, starEach [msg] (envF F f L) = [(false, eval msg (envF F f L))]) (hia : ∀ L : Addr, interactive (envF F f L) = false)
    (hcl : SupCall F f p0 p1 p2 p3 msg)
    (hsw : ∀ L : Addr, swapsWith (.Call (.Attribute (.Call (.Name "super" p0) [] [] p1) "__init__" p2) [msg] [] p3) none p4.line (envF F f L) = pure false)
    (S : NScope N ps ["__class__"] F.scope) (hN0 : N[0]? = some ("self" : Str)) (len : ∀ vs H Q E, sp vs H Q E → vs.length = ps.length)
    (hbody : ∀ (A : Around) (outer : List Env) (s : Shared) (H : Hp) (vs : List V) (Q : VK) (E : XK), Room k (A.deeper (envF F f s.heap.objs.size)) → sp vs H Q E →
      ∃ (te : TE) (t : TS) (a : Addr), PE (ncx CX P w K mg base N F f A outer s H E) msg te ∧ PSs (ncx CX P w K mg base N F f A outer s H E) body t ∧ vs[0]? = some (.ref a) ∧ H a = some (exo a C none) ∧
        te (startF N vs [some (.ref C)]) H fun _ H1 => H1 a = some (exo a C none) ∧ t { nx := fun _ H2 => Q .non H2, rt := Q } (startF N vs [some (.ref C)]) H1) :
    FnOk P w K mg base CX (k + 1) f (PySem.W.fnX F.name F.qual F.params F.body F.scope F.cl .none kV doc pm an (.ref F.c) ct) ps sp := by
  refine ⟨len, fun A outer s H args us vs Q E hr e0 hb r hsp => ?_⟩
  have hl := len _ _ _ _ hsp
  obtain ⟨pl, hcl⟩ := hcl
  have inS : ∀ {b : Addr} {o : Obj}, K.lookup b = some o → s.heap.get? b = some o ∧ H b = none := fun {b o} q => e0.bs b o (e0.mod.kin _ _ q)
  have KX : K.In s.heap := fun b o q => (inS q).1
  have lim : s.heap.NoLimit := e0.mod.nolimit.keeps fun b o e => (e0.bs b o e).1
  obtain ⟨o1, d1, sl1, hcell⟩ := XS.cell
  obtain ⟨o2, d2, cvs, sl2, file, tf, hcode, hvs, hfile⟩ := XS.code
  obtain ⟨cd, hcls⟩ := XS.cls
  obtain ⟨ar, hp, har⟩ := XS.self
  obtain ⟨mb, hb1, hb2⟩ := e0.mod.blt
  have CA : CellsAt F.cl ["__class__"] [some (V.ref C)] s.heap H := by
    rw [XS.cl]
    have one : ∀ {y : Str} {c : Addr}, List.lookup y [(("__class__" : Str), cc)] = some c → y = "__class__" ∧ c = cc := fun {y c} q => by
      have q' := PySem.mem_of_lookup q
      rw [List.mem_singleton] at q'
      exact ⟨(Prod.mk.inj q').1, (Prod.mk.inj q').2⟩
    have ic : s.heap.IsCell cc (some (.ref C)) := ⟨_, (inS hcell).1, rfl⟩
    refine ⟨rfl, fun y c hy => ?_, fun x y c hx hy => ?_, fun i y hy => ?_⟩
    · rw [(one hy).2]
      exact ⟨(inS hcell).2, _, ic⟩
    · rw [(one hx).1, (one hy).1]
    · have hi : i = 0 := by
        cases i with
        | zero => rfl
        | succ i => simp at hy
      subst hi
      obtain rfl : ("__class__" : Str) = y := Option.some.inj hy
      refine ⟨cc, by simp [List.lookup], fun v hv => ⟨.ref C, ?_, ic⟩⟩
      obtain rfl : V.ref C = v := Option.some.inj (Option.some.inj hv)
      rfl
  refine PySem.ks_codeAny_call_defAt (fd := PySem.W.fnX F.name F.qual F.params F.body F.scope F.cl .none kV doc pm an (.ref F.c) ct) (body := F.body) (binds := ps.zip us) hr.depth (KX _ _ lk) rfl lim (PySem.W.codeRec_of KX hcd) rfl hb S.nocell
    (fun ⟨n, _⟩ hy => S.par n (List.of_mem_zip hy).1) (fun h1 hns kp => ?_) S.co S.gen S.kind
  obtain ⟨te, t, a, hte, ht, h0, ha, hq⟩ := hbody A outer s H vs Q E (hr.deeper _) hsp
  have I0 : Inv (ncx CX P w K mg base N F f A outer s H E) [] (startF N vs [some (.ref C)]) H { s with heap := h1, toks := s.toks + (ps.zip us).length } := inv_startN S hr.hd e0 hl r CA hns kp
  have KX1 : K.In h1 := fun b o q => kp _ _ (KX _ _ q)
  rw [hbd]
  refine PySem.ks_wpAt_execs_cons (PySem.ks_wpAt_Expr_any (PySem.ks_wpAt_MethodCall ?_ (hcl _)) (hia _) (hsw _))
  refine PySem.ks_wpAt_super_base (env := envF F f s.heap.objs.size) XS.kS XS.kC (by decide) rfl (KX1 _ _ lk) rfl hp rfl (KX1 _ _ hcode) rfl hvs hfile XS.top ?_
  refine PySem.W.ks_loadName_global S.kind XS.kS (Calls.loadGlobal_builtin (I0.mod.glob.keeps I0.bk) XS.noS (hb1.keeps I0.bk) ((hb2 "super" (by decide)).trans boot_super) ⟨rfl, ?_⟩)
  refine PySem.wpAny_loadName_free S.kind XS.kC (by show F.cl.lookup _ = _; rw [XS.cl]; simp [List.lookup]) ⟨_, KX1 _ _ hcell, rfl⟩ ?_
  rw [har]
  obtain ⟨m0, hm0, hl0⟩ := I0.loc
  obtain ⟨ua, rua, lka⟩ := hl0 0 "self" (.ref a) hN0 (startF_at h0) (.inl XS.kA)
  have hself : m0 "self" = some (.ref a) := by
    rcases lka with ⟨_, z⟩ | ⟨z, _⟩
    · rw [z]
      exact congrArg some rua
    · have z' : F.scope.names.lookup ("self" : Str) = some .cell ∨ F.scope.names.lookup ("self" : Str) = some .free := z
      rw [XS.kA] at z'
      rcases z' with z' | z' <;> cases z'
  refine wpAny_loadName_local S.kind XS.kA hm0 hself ?_
  obtain ⟨oD, hD1, hD2⟩ : ∃ oD, h1.get? C = some oD ∧ oD.data = .cls cd := by
    have q := hcls
    unfold PySem.W.clsIn at q
    split at q
    · rename_i ho
      cases q
      exact ⟨_, KX1 _ _ ho, rfl⟩
    · cases q
  obtain ⟨t1, hx⟩ := exo_at I0.hok ha
  refine PySem.ks_wpAny_isType_cls hD1 hD2 ⟨rfl, ?_⟩
  refine PySem.ks_wpAny_call_super hD1 hD2 hx rfl (fun c e => by cases e) (PySem.W.looks_mroIn KX1 XS.sub) (fun h2 hso k2 => ?_)
  -- the super object at L2
  have I1 : Inv (ncx CX P w K mg base N F f A outer s H E) [] (startF N vs [some (.ref C)]) H { s with heap := h2, toks := s.toks + (ps.zip us).length } := I0.kept (h' := h2) (t' := s.toks + (ps.zip us).length) k2
  have KX2 : K.In h2 := fun b o q => k2 _ _ (KX1 _ _ q)
  have IA : PySem.W.InstAt h2 a (PySem.W.excObj C t1 none .none) C none := ⟨k2 _ _ hx, rfl, rfl, trivial⟩
  have hmro : PySem.W.Looks (model P w) h2 (mroOf (.ref C)) cd.mro := (PySem.W.looks_clsIn KX2 hcls).andThen .now
  have hup : PySem.W.alongIn K "__init__" ((cd.mro.dropWhile (· != .ref C)).drop 1) = some (some (.builtin iI)) := by
    have q := XS.up
    unfold PySem.W.ks_superIn at q
    rw [hcls] at q
    exact q
  refine PySem.W.kxs_getMethod XB.kf hso (PySem.W.looks_opaque KX2 XS.opq) hmro rfl KX2 hup (IA.type.andThen (PySem.W.looks_subIn KX2 XS.isB)) (PySem.W.ks_ne KX2 IA hcls) (by decide) ?_
  -- the method-wrapper at u
  have ku : ∀ b o, h2.get? b = some o → (h2.push (PySem.W.kxs_mw iI a)).get? b = some o := fun b o e => Heap.get?_push_of_some _ e
  have hu : (h2.push (PySem.W.kxs_mw iI a)).get? h2.objs.size = some (PySem.W.kxs_mw iI a) := Heap.get?_push_at rfl rfl
  have I2 : Inv (ncx CX P w K mg base N F f A outer s H E) [] (startF N vs [some (.ref C)]) H { s with heap := h2.push (PySem.W.kxs_mw iI a), toks := s.toks + (ps.zip us).length + 1 } := I1.kept (h' := h2.push (PySem.W.kxs_mw iI a)) (t' := s.toks + (ps.zip us).length + 1) ku
  have I3 : Inv (ncx CX P w K mg base N F f A outer s H E) [(h2.objs.size, PySem.W.kxs_mw iI a)] (startF N vs [some (.ref C)]) H { s with heap := h2.push (PySem.W.kxs_mw iI a), toks := s.toks + (ps.zip us).length + 1 } :=
    I2.pins_of fun q hq' => by
      have q1 : q = (h2.objs.size, PySem.W.kxs_mw iI a) := by simpa using hq'
      subst q1
      refine ⟨hu, I1.hok.fresh (Nat.le_refl _), Nat.ne_of_gt I1.lt, I1.nofs (Nat.le_refl _), fun v z => by cases z⟩
  show wpAny (model P w) (ncx CX P w K mg base N F f A outer s H E).A (callWith p3 (.ref h2.objs.size) [] (backTo p3 (starEach [msg] (envF F f s.heap.objs.size))) []) _ _ _
  rw [hms]
  refine PySem.W.kxs_callWith (i := iI) (x := a) (u := h2.objs.size) rfl (Calls.evalArgs_plain ?_)
  show wpAny _ _ (spliced ((false, eval msg (envF F f s.heap.objs.size)) :: backTo p3 [])) _ _ _
  refine Calls.spliced_cons (thn (hte.run _ _ _ _ _ I3 hq) fun uv s3 ⟨v, H1, I4, rv, ea, q4⟩ => Calls.spliced_nil ?_)
  have hu3 : s3.heap.get? h2.objs.size = some (PySem.W.kxs_mw iI a) := (I4.pin (h2.objs.size, PySem.W.kxs_mw iI a) (List.mem_append_right _ List.mem_cons_self)).1
  obtain ⟨t3, hx3⟩ := exo_at I4.hok ea
  refine ⟨hu3, mw_call XB I4.kIn XC.ci hu3 hx3 (by rw [sizeLine_eq]; show 1 ≤ 16777216; decide) fun h4 t4 k4 hx4 => ?_⟩
  -- behind super().__init__
  have J := (I4.pins_of (pins' := []) fun q hq' => by cases hq').write (h' := h4) (t' := s3.toks) (x := a) (e := a) (o := exo a C none) (by rw [ea]; exact True.intro) (.inl rfl) k4 ⟨_, hx4⟩ (exo_ok hx4)
  rw [upd_self ea] at J
  refine PySem.wpAt_of_wpAny (wpAny_mono (ht.run [] _ _ H1 _ J q4) (fun fl s5 hs => ?_) fun e s5 hs => hs)
  have done : ∀ {σ5 : St} {H5 : Hp} {v5 : V} {u5 : Value}, Inv (ncx CX P w K mg base N F f A outer s H E) [] σ5 H5 s5 → RelV v5 u5 → Q v5 H5 → CE outer P w H s Q u5 s5 := fun {σ5 H5 v5 u5} J5 r5 q5 => ⟨v5, H5, J5.os, J5.bare, J5.base, J5.hok, r5, q5⟩
  cases fl with
  | ret u5 =>
    obtain ⟨v5, σ5, H5, J5, r5, q5⟩ := hs
    exact done J5 r5 q5
  | next =>
    obtain ⟨σ5, H5, J5, q5⟩ := hs
    exact done (v5 := V.non) (u5 := Value.none) J5 rfl q5
  | brk =>
    obtain ⟨_, _, _, q5⟩ := hs
    exact False.elim q5
  | cont =>
    obtain ⟨_, _, _, q5⟩ := hs
    exact False.elim q5
end
end L2


set_option Elab.async false
set_option linter.all false
set_option maxRecDepth 100000
set_option maxHeartbeats 4000000
namespace L2
open PySem PySem.Spec PyProof.Rows NdefX

/-! ### self.f = y on an error that is being made, whatever its base -/
section
open Builtin Builtin.ObjectAttr
variable {prog : Program} {w : World} {A : Around} {R : Result → Shared → Prop} {hp : Heap} {g : Array GenState} {dr : Drawn} {t : Nat} {os : OsState} {K : PySem.W.Frag} {B nI iI : String} {bB : List Value} {x C : Addr} {name : Str} {tk : Tok} {y : Value} {fv : Array Value}
theorem x_taker (hno : PySem.W.findIn K (.ref C) name = some none) : PySem.W.takerIn K C name = some none := by
  unfold PySem.W.takerIn
  rw [hno]
  rfl
theorem x_osa_new (XB : XBase B nI iI bB) (XC : XCls K C nI bB) (KX : K.In hp) (hx : hp.get? x = some { cls := .ref C, data := .fields fv }) (hno : PySem.W.findIn K (.ref C) name = some none)
    (fin : ∀ h2 t2 dx, (∀ b o, b ≠ x → hp.get? b = some o → h2.get? b = some o) → hp.objs.size ≤ dx → dx ≠ x → h2.get? x = some { cls := .ref C, dict := some dx, data := .fields fv } → h2.Ns1 dx (fun z => if z = name then some y else none) → R (.ok (.ret .none)) ⟨h2, g, dr, t2, os⟩) :
    codeAny (model prog w) A (.call (.builtin "object.__setattr__") ⟨[.ref x, .str name tk, y], []⟩) R ⟨hp, g, dr, t, os⟩ := by
  obtain ⟨cd, hc, hh⟩ := PySem.W.any_some XC.hd
  have xs : x ≠ hp.objs.size := Nat.ne_of_lt (Heap.lt_size hx)
  have look : PySem.W.Looks (model prog w) hp (classData C) cd := PySem.W.looks_clsIn KX hc
  refine PySem.W.osa_openX (od := none) XB.sf KX ⟨hx, rfl, rfl, trivial⟩ XC.ov (x_taker hno) fun b => ?_
  obtain ⟨n1, n2, n3, n4, n5, n6, n7, n8, n9, n10, n11⟩ := cd
  dsimp only at hh
  subst hh
  unfold storeInOwnDict ownDictForStores
  repeat (first | with_reducible refine HandSPX.store_in_new ?_ ?_ | with_reducible refine wpAny_loadPart_at hx ?_ | with_reducible refine look.at ?_ | wp_step)
  · exact ⟨_, #[], _, (Heap.get?_update_ne _ _ _ _ xs.symm).trans (Heap.get?_push_at rfl rfl), rfl, fun e he => absurd he (by simp), fun _ => rfl⟩
  · intro h2 t2 hn2 hs2
    have hx2 : (hp.push { cls := .type "dict", data := .dict #[] }).get? x = some { cls := .ref C, data := .fields fv } := Heap.get?_push_of_some _ hx
    refine fin h2 t2 hp.objs.size (fun b o hb ho => ?_) (Nat.le_refl _) xs.symm ?_ hn2
    · have e1 := Heap.get?_push_of_some { cls := .type "dict", data := .dict #[] } ho
      exact (hs2.2 b (Nat.ne_of_lt (Heap.lt_size ho))).trans ((Heap.get?_update_ne _ _ _ _ hb).trans e1)
    · have e2 := Heap.get?_update_self (fun o : Obj => { o with dict := some hp.objs.size }) hx2 rfl
      exact (hs2.2 x xs).trans e2
theorem x_osa_old {dx : Addr} {m0 : Str → Option Value} {nl : List Str} (XB : XBase B nI iI bB) (XC : XCls K C nI bB) (KX : K.In hp) (hx : hp.get? x = some { cls := .ref C, dict := some dx, data := .fields fv }) (hns : hp.Ns1 dx m0) (hw : Within m0 nl) (hz : nl.length ≤ 1000)
    (hno : PySem.W.findIn K (.ref C) name = some none)
    (fin : ∀ h2 t2, (∀ b o, b ≠ dx → hp.get? b = some o → h2.get? b = some o) → h2.Ns1 dx (fun z => if z = name then some y else m0 z) → R (.ok (.ret .none)) ⟨h2, g, dr, t2, os⟩) :
    codeAny (model prog w) A (.call (.builtin "object.__setattr__") ⟨[.ref x, .str name tk, y], []⟩) R ⟨hp, g, dr, t, os⟩ := by
  obtain ⟨oD, es1, ep1, hoD, hdD, _⟩ := hns.count hw
  obtain ⟨cd, hc, hh⟩ := PySem.W.any_some XC.hd
  have look : PySem.W.Looks (model prog w) hp (classData C) cd := PySem.W.looks_clsIn KX hc
  refine PySem.W.osa_openX (od := some oD) XB.sf KX ⟨hx, rfl, rfl, hoD⟩ XC.ov (x_taker hno) fun b => ?_
  obtain ⟨n1, n2, n3, n4, n5, n6, n7, n8, n9, n10, n11⟩ := cd
  dsimp only at hh
  subst hh
  unfold storeInOwnDict ownDictForStores
  repeat (first | with_reducible refine OEX.store_in_old hns hw hz ?_ | with_reducible refine wpAny_loadPart_at hx ?_ | with_reducible refine look.at ?_ | wp_step)
  intro h2 t2 hn2 hs2
  exact fin h2 t2 (fun b o hb ho => (hs2.2 b hb).trans ho) hn2
end

section
variable {X : Cx} {pins : List (Addr × Obj)} {σ : St} {H : Hp} {s : Shared} {a C dx : Addr} {f : Str} {y : V} {u : Value} {fs : List (Str × V)} {Q : Unit → Shared → Prop} {E : Value → Shared → Prop} {A : Around} {B nI iI : String} {bB : List Value}
theorem xst_new (XB : XBase B nI iI bB) (XC : XCls X.K C nI bB) (I : Inv X pins σ H s) (ea : H a = some (exo a C none)) (hno : PySem.W.findIn X.K (.ref C) f = some none) (ry : RelV y u)
    (next : ∀ dx s2, H dx = none → dx ≠ a → Inv X pins σ (upd (upd H dx (exd dx [(f, y)])) a (exo a C (some dx))) s2 → Q () s2) : wpAny (model X.prog X.w) A (setAttr (.ref a) f u) Q E s := by
  obtain ⟨t1, ho⟩ := exo_at I.hok ea
  obtain ⟨hp, g, d, t, os⟩ := s
  refine PySem.W.set_plain I.kIn (od := none) ⟨ho, rfl, rfl, trivial⟩ XC.sa (x_osa_new XB XC I.kIn ho hno fun h2 t2 dx kp dn dne hx hn => ?_)
  have fr : H dx = none := I.hok.fresh dn
  have nd : ∀ {b : Addr} {o : Obj}, hp.get? b = some o → b ≠ dx := fun {b o} q z => Nat.lt_irrefl _ (Nat.lt_of_lt_of_le (z ▸ Heap.lt_size q) dn)
  have na : ∀ {b : Addr}, H b = none → b ≠ a := fun {b} n z => by
    rw [z, ea] at n
    cases n
  have low : ∀ {b : Addr} {o : HO}, H b = some o → b ≠ dx := fun {b o} q => ne_of_none q fr
  have U : Un X.fs [] H (upd (upd H dx (exd dx [(f, y)])) a (exo a C (some dx))) hp h2 :=
    ⟨fun b o q n _ _ => kp b o (na n) q, fun b o q n _ _ => ⟨o.slots, kp b o (na n) q⟩, fun b o q n _ => by rw [upd_ne (na n), upd_ne (nd q), n],
      fun b o q _ => (Classical.em (b = a)).elim (fun e => by subst e; exact ⟨_, hx⟩) fun e => ⟨o, kp b o e q⟩, fun b xs q => by rw [upd_ne (at_ne ea q exo_tup), upd_ne (low q), q],
      fun b o v q => by rw [upd_ne (at_ne ea q exo_frz), upd_ne (low q), q], fun b ps q => ⟨#[], by rw [upd_ne (at_ne ea q exo_tbl), upd_ne (low q), q, Array.append_empty]⟩⟩
  refine next dx _ fr dne (I.un (t' := t2) U fun b o q => ?_)
  by_cases hb : b = a
  · subst hb
    rw [upd_same] at q
    obtain rfl := Option.some.inj q
    exact exo_ok hx
  rw [upd_ne hb] at q
  by_cases hd : b = dx
  · subst hd
    rw [upd_same] at q
    obtain rfl := Option.some.inj q
    exact exd_ok hn (relO_put (fs := []) ry fun _ => True.intro)
  rw [upd_ne hd] at q
  refine (I.hok b o q).stay (fun c v hc z => kp c v ?_ z) (fun c hc => ?_) fun c xs hc => ?_
  · rcases hc with hc | hc
    · rw [hc]
      exact hb
    · exact at_ne ea hc exo_own
  · rw [upd_ne (at_ne ea hc exo_own), upd_ne (low hc), hc]
  · rw [upd_ne (at_ne ea hc exo_tup), upd_ne (low hc), hc]
theorem xst_old (XB : XBase B nI iI bB) (XC : XCls X.K C nI bB) (I : Inv X pins σ H s) (ea : H a = some (exo a C (some dx))) (ed : H dx = some (exd dx fs)) (hl : fs.length ≤ 900) (hno : PySem.W.findIn X.K (.ref C) f = some none) (ry : RelV y u)
    (next : ∀ s2, Inv X pins σ (upd H dx (exd dx ((f, y) :: fs))) s2 → Q () s2) : wpAny (model X.prog X.w) A (setAttr (.ref a) f u) Q E s := by
  obtain ⟨t1, ho⟩ := exo_at I.hok ea
  obtain ⟨mA, hns, rel⟩ := exd_at I.hok ed
  have hw := within_of rel
  obtain ⟨hp, g, d, t, os⟩ := s
  obtain ⟨oD, _, _, hoD, _, _⟩ := hns.count hw
  refine PySem.W.set_plain I.kIn (od := some oD) ⟨ho, rfl, rfl, hoD⟩ XC.sa (x_osa_old XB XC I.kIn ho hns hw (by rw [List.length_map]; omega) hno fun h2 t2 kp hn => ?_)
  have there : ∃ o, h2.get? dx = some o := by
    obtain ⟨o, _, _, e2, _⟩ := hn
    exact ⟨o, e2⟩
  exact next _ (I.write (t' := t2) (x := dx) (e := dx) (o := exd dx ((f, y) :: fs)) (by rw [ed]; exact True.intro) (.inl rfl) kp there (exd_ok hn (relO_put ry rel)))
end

/-- self.f = e -/
def tXst (K : PySem.W.Frag) (C : Addr) (f : Str) (to te : TE) : TS := fun D σ H => te σ H fun y H1 => to σ H1 fun x H2 => ∃ a : Addr, x = .ref a ∧ PySem.W.findIn K (.ref C) f = some none ∧
  ((H2 a = some (exo a C none) ∧ ∀ dx, H2 dx = none → dx ≠ a → D.nx σ (upd (upd H2 dx (exd dx [(f, y)])) a (exo a C (some dx)))) ∨
    ∃ (dx : Addr) (fs : List (Str × V)), H2 a = some (exo a C (some dx)) ∧ H2 dx = some (exd dx fs) ∧ fs.length ≤ 900 ∧ D.nx σ (upd H2 dx (exd dx ((f, y) :: fs))))
theorem ps_xst {X : Cx} {o e : Expr} {to te : TE} {f : Str} {p' pos : Pos} {C : Addr} {B nI iI : String} {bB : List Value} (XB : XBase B nI iI bB) (XC : XCls X.K C nI bB) (ho : PE X o to) (he : PE X e te)
    (hs : swapsWith e (some (.Attribute o f p')) pos.line X.env = pure false := by rfl) : PS X (.Assign [.Attribute o f p'] e pos) (tXst X.K C f to te) := by
  refine ⟨fun pins s σ H D I h => plainObj_wpAny_Assign_Attribute (thn (he.run pins s σ H _ I h) fun v s1 ⟨y, H1, I1, r1, q1⟩ => thn (ho.run pins s1 σ H1 _ I1 q1) fun u s2 ⟨x, H2, I2, r2, a, ex, hno, q⟩ => ?_) hs⟩
  subst ex
  obtain rfl : u = Value.ref a := r2
  rcases q with ⟨ea, q⟩ | ⟨dx, fs, ea, ed, hl, q⟩
  · exact xst_new XB XC I2 ea hno r1 fun dx s3 n ne J => ⟨σ, _, J, q dx n ne⟩
  · exact xst_old XB XC I2 ea ed hl hno r1 fun s3 J => ⟨σ, _, J, q⟩
end L2


set_option Elab.async false
set_option linter.all false
set_option maxRecDepth 100000
set_option maxHeartbeats 4000000
namespace L2
open PySem PySem.Spec PyProof.Rows NdefX

/-! ### errors made: as values, to be raised -/
section
variable {X : Cx} {x : Str} {C fI : Addr} {p pos : Pos} {e : Expr} {es : List Expr} {ta : TA} {B nI iI : String} {bB : List Value} {CX : CXT} {k : Nat} {fd : FuncData} {ps : List Str} {sp : Sp} {ds : List Value} {dvs : List V}
/-- the call of a class without own __init__, with nothing -/
theorem x_call0 {pins : List (Addr × Obj)} {σ : St} {H : Hp} {s : Shared} {Q : Value → Shared → Prop} {E : Value → Shared → Prop} {A : Around} (XB : XBase B nI iI bB) (XC : XCls X.K C nI bB) (hi : PySem.W.findIn X.K (.ref C) "__init__" = some (some (.builtin iI))) (I : Inv X pins σ H s)
    (next : ∀ a h2, (∀ b o, s.heap.get? b = some o → h2.get? b = some o) → s.heap.objs.size ≤ a → h2.get? a = some (PySem.W.excObj C (a + 1) none .none) → Q (.ref a) { s with heap := h2 }) : wpAny (model X.prog X.w) A (call (.ref C) []) Q E s := by
  obtain ⟨nm, N1, qn, bs, bm, hdct, sn, sub, ab, col, dd, k0, k1, k2, k3, k5, hC, hT⟩ := PySem.W.excInit_of I.kIn XC.ci
  have look := PySem.W.looks_findIn (M := model X.prog X.w) I.kIn hi
  obtain ⟨hp, g, dr, tk, os⟩ := s
  exact PySem.W.call_B XB.fb hT hC look (Nat.zero_le _) fun h2 kp e1 _ => next _ h2 kp (Nat.le_succ _) e1
/-- C() -/
def tX0 (C : Addr) : TE := fun _ H Q => ∀ a, H a = none → Q (.ref a) (upd H a (exo a C none))
theorem pe_x0 (XB : XBase B nI iI bB) (XC : XCls X.K C nI bB) (hi : PySem.W.findIn X.K (.ref C) "__init__" = some (some (.builtin iI))) (hg : Gl X x) (hm : X.mg x = some (.ref C)) (hdb : (x == ("__debug__" : Str)) = false := by decide) :
    PE X (.Call (.Name x p) [] [] pos) (tX0 C) := by
  refine ⟨fun pins s σ H Q I h => wpAny_Call_Name_kw (ld_glob I hg hm ?_ hdb)⟩
  refine PySem.W.callWith_K0 I.kIn XC.kp (x_call0 XB XC hi I fun a h2 kp na e2 => ?_)
  exact ⟨.ref a, upd H a (exo a C none), I.laid (t' := s.toks) (a := a) (o := exo a C none) kp na (exo_ok e2), rfl, h a (I.hok.fresh na)⟩
/-- raise C() -/
theorem pmk_x0 (XB : XBase B nI iI bB) (XC : XCls X.K C nI bB) (hi : PySem.W.findIn X.K (.ref C) "__init__" = some (some (.builtin iI))) (hg : Gl X x) (hm : X.mg x = some (.ref C)) (hdb : (x == ("__debug__" : Str)) = false := by decide) :
    PMk X (.Call (.Name x p) [] [] pos) (fun _ H Q => Q (.ref C) none H) := by
  intro pins s σ H Q I h
  refine wpAny_Call_Name_kw (ld_glob I hg hm ?_ hdb)
  refine PySem.W.callWith_K0 I.kIn XC.kp (x_call0 XB XC hi I fun a h2 kp na e2 => ?_)
  exact ⟨a, _, _, s, H, .ref C, none, rfl, I, kp, Heap.get?_none_of_le na, e2, ⟨rfl, rfl⟩, rfl, rfl, I.hok.fresh na, rfl, I.bare, raises_own XC.eb XC.ty, h⟩

/-- the call of a class with an __init__ of its own -/
theorem x_call {pins : List (Addr × Obj)} {σ : St} {H1 : Hp} {s : Shared} {us : List Value} {vs : List V} {Q : Value → Shared → Prop} (XB : XBase B nI iI bB) (XC : XCls X.K C nI bB) (iC : PySem.W.findIn X.K (.ref C) "__init__" = some (some (.ref fI))) (tI : PySem.W.typeIn X.K (.ref fI) = some (.type "function"))
    (F1 : FnOk X.prog X.w X.K X.mg X.base CX k fI fd ps sp) (hr : Room (k + 1) X.A) (hb : Binds X.K fd ps ds) (hd : Vals dvs ds) (hx : Passes CX X (fun _ _ _ => False)) (I : Inv X pins σ H1 s) (r : Vals vs us) (hz : vs.length ≤ 1000) {R : V → Hp → Prop} {a : Addr} (ea : a = s.heap.objs.size + 1)
    (q : sp (.ref a :: (vs ++ dvs)) (upd H1 a (exo a C none)) R (fun _ _ _ => False))
    (next : ∀ s1 s2 H2 v, (∀ b o, s.heap.get? b = some o → s1.heap.get? b = some o) → s1.os = s.os → s1.gens = s.gens → Inv X pins σ (upd H1 a (exo a C none)) s1 → Un (frs X.stack) [] (upd H1 a (exo a C none)) H2 s1.heap s2.heap → HOk X.prog X.w H2 s2.heap → s2.os = s1.os → AllBare s2.gens → R v H2 → v = .non → Q (.ref a) s2)
    (hnon : ∀ v H2, R v H2 → v = .non) : wpAny (model X.prog X.w) X.A (call (.ref C) us) Q X.xe s := by
  obtain ⟨nm, N1, qn, bs, bm, hdct, sn, sub, ab, col, dd, k0, k1, k2, k3, k5, hC, hT⟩ := PySem.W.excInit_of I.kIn XC.ci
  obtain ⟨hp, g, dr, tk, os⟩ := s
  subst ea
  have up : hp.objs.size ≤ hp.objs.size + 1 := Nat.le_succ _
  have kk : ∀ b o, hp.get? b = some o → ((hp.push (PySem.W.kdv_tup us)).push (HandSPX.excO C hp.objs.size)).get? b = some o := fun b o e => Heap.get?_push_of_some _ (Heap.get?_push_of_some _ e)
  have hget : ((hp.push (PySem.W.kdv_tup us)).push (HandSPX.excO C hp.objs.size)).get? (hp.objs.size + 1) = some (HandSPX.excO C hp.objs.size) := by heap_get
  have J : Inv X pins σ (upd H1 (hp.objs.size + 1) (exo (hp.objs.size + 1) C none)) ⟨(hp.push (PySem.W.kdv_tup us)).push (HandSPX.excO C hp.objs.size), g, dr, tk, os⟩ := I.laid (t' := tk) kk up (exo_ok hget)
  have rr : Vals (V.ref (hp.objs.size + 1) :: (vs ++ dvs)) (Value.ref (hp.objs.size + 1) :: (us ++ ds)) := .cons rfl (r.append hd)
  have len : (Value.ref (hp.objs.size + 1) :: us ++ ds).length = ps.length := (rr.length.symm.trans (F1.len _ _ _ _ q))
  have lus : us.length ≤ sizeLine := by
    have z := r.length
    rw [sizeLine_eq]
    omega
  refine wpAny_call (HandSPX.call_own XB.fb hT hC (PySem.W.looks_findIn I.kIn iC) (fun self => PySem.W.bind_fn I.kIn self tI) lus
    (codeAny_mono (F1.run _ X.stack _ _ ⟨Value.ref (hp.objs.size + 1) :: us, []⟩ (Value.ref (hp.objs.size + 1) :: (us ++ ds)) _ _ (fun _ _ _ => False) (hr.make C us []) (J.env0.make C us []) (hb _ (Value.ref (hp.objs.size + 1) :: us) J.kIn len) rr q) fun res s2 z => ?_))
  cases res with
  | error er => exact hx pins σ _ _ er s2 J z
  | ok fl =>
    cases fl with
    | ret u =>
      obtain ⟨v, H2, os2, bare2, un2, hok2, rv, qv⟩ := z
      have ev := hnon v H2 qv
      have eu : u = Value.none := by
        rw [ev] at rv
        exact rv
      exact ⟨eu, next ⟨(hp.push (PySem.W.kdv_tup us)).push (HandSPX.excO C hp.objs.size), g, dr, tk, os⟩ s2 H2 v kk rfl rfl J un2 hok2 os2 bare2 qv ev⟩
    | next => exact False.elim z
    | brk => exact False.elim z
    | cont => exact False.elim z
/-- C(e, ..) as a value -/
def tXv (C : Addr) (sp : Sp) (dvs : List V) (ta : TA) : TE := fun σ H Q => ta σ H fun vs H1 => vs.length ≤ 1000 ∧ ∀ a, H1 a = none → sp (.ref a :: (vs ++ dvs)) (upd H1 a (exo a C none)) (fun v H2 => v = .non ∧ Q (.ref a) H2) (fun _ _ _ => False)
theorem pe_xv (XB : XBase B nI iI bB) (XC : XCls X.K C nI bB) (iC : PySem.W.findIn X.K (.ref C) "__init__" = some (some (.ref fI))) (tI : PySem.W.typeIn X.K (.ref fI) = some (.type "function")) (F1 : FnOk X.prog X.w X.K X.mg X.base CX k fI fd ps sp) (hr : Room (k + 1) X.A) (hb : Binds X.K fd ps ds) (hd : Vals dvs ds)
    (hx : Passes CX X (fun _ _ _ => False)) (hg : Gl X x) (hm : X.mg x = some (.ref C)) (ha : PA X (e :: es) ta) (hdb : (x == ("__debug__" : Str)) = false := by decide) (he : starEach (e :: es) X.env = (false, eval e X.env) :: starEach es X.env := by rfl)
    (hpl : (backTo pos (starEach es X.env)).any (·.1) = false := by rfl) : PE X (.Call (.Name x p) (e :: es) [] pos) (tXv C sp dvs ta) := by
  refine ⟨fun pins s σ H Q I h => wpAny_Call_Name_kw (ld_glob I hg hm ?_ hdb)⟩
  refine PySem.W.callWith_K (h₀ := X.base) I.ok.mod.kin XC.kp (thn (ha.run pos pins s σ H _ I h) fun us s1 ⟨vs, H1, I1, r1, hz, q1⟩ => ⟨I1.kIn, ?_⟩) he hpl
  exact x_call XB XC iC tI F1 hr hb hd hx I1 r1 hz rfl (q1 _ (I1.hok.fresh (Nat.le_succ _))) (fun s2 s3 H2 v kk os2 g2 J un hok ho ag qv ev => ⟨.ref _, H2, J.call' (ch := []) ho un hok ag (fun b z => absurd z (by simp)), rfl, qv.2⟩) fun v H2 z => z.1
/-- raise C(e, ..) -/
theorem pmk_x (XB : XBase B nI iI bB) (XC : XCls X.K C nI bB) (iC : PySem.W.findIn X.K (.ref C) "__init__" = some (some (.ref fI))) (tI : PySem.W.typeIn X.K (.ref fI) = some (.type "function")) (F1 : FnOk X.prog X.w X.K X.mg X.base CX k fI fd ps sp) (hr : Room (k + 1) X.A) (hb : Binds X.K fd ps ds) (hd : Vals dvs ds)
    (hx : Passes CX X (fun _ _ _ => False)) (hg : Gl X x) (hm : X.mg x = some (.ref C)) (ha : PA X (e :: es) ta) (hdb : (x == ("__debug__" : Str)) = false := by decide) (he : starEach (e :: es) X.env = (false, eval e X.env) :: starEach es X.env := by rfl)
    (hpl : (backTo pos (starEach es X.env)).any (·.1) = false := by rfl) : PMk X (.Call (.Name x p) (e :: es) [] pos) (tMkO C sp dvs ta) := by
  intro pins s σ H Q I h
  refine wpAny_Call_Name_kw (ld_glob I hg hm ?_ hdb)
  refine PySem.W.callWith_K (h₀ := X.base) I.ok.mod.kin XC.kp (thn (ha.run pos pins s σ H _ I h) fun us s1 ⟨vs, H1, I1, r1, hz, q1⟩ => ⟨I1.kIn, ?_⟩) he hpl
  obtain ⟨hp, g, dr, tk, os⟩ := s1
  refine x_call XB XC iC tI F1 hr hb hd hx I1 r1 hz rfl (q1 _ (I1.hok.fresh (Nat.le_succ _))) (fun s2 s3 H2 v kk os2 g2 J un hok ho ag qv ev => ?_) fun v H2 z => z.1
  obtain ⟨_, d, fs, ea, ed, hd1, q2⟩ := qv
  obtain ⟨h2, ga, da, tka, osa⟩ := s2
  obtain ⟨h3, gb, db, tkb, osb⟩ := s3
  exact mk_end (raises_own XC.eb XC.ty) I1 (Nat.le_succ _) kk un hok (ho.trans os2) ag ea ed hd1 q2
end
end L2


set_option Elab.async false
set_option linter.all false
set_option maxRecDepth 100000
set_option maxHeartbeats 4000000
/-! words for all laws: a def's promise in one hand, the draws' source -/
namespace L2
open PySem PySem.Spec PyProof.Rows

/-- the module's name x is a def that keeps sp -/
structure Cal (P : Program) (w : World) (K : PySem.W.Frag) (mg : Str → Option Value) (base : Heap) (k : Nat) (x : Str) (ps : List Str) (sp : Sp) : Prop where
  ex : ∃ f fd, mg x = some (.ref f) ∧ PySem.W.keepIn K (.ref f) = true ∧ Binds K fd ps [] ∧ FnOk P w K mg base (L2.CX P w) k f fd ps sp
theorem FnOk.toX {P : Program} {w : World} {K : PySem.W.Frag} {mg : Str → Option Value} {base : Heap} {CX : CXT} {k : Nat} {f : Addr} {fd : FuncData} {ps : List Str} {sp : Sp} (o : FnOk P w K mg base CX0 k f fd ps sp) : FnOk P w K mg base CX k f fd ps sp :=
  ⟨o.len, fun A outer s H args us vs Q E hr e0 hb hv hs => codeAny_mono (o.run A outer s H args us vs Q E hr e0 hb hv hs) fun r s2 z => by
    cases r with
    | error e => exact False.elim z
    | ok fl => cases fl <;> exact z⟩
section
variable {X : Cx} {k : Nat} {x : Str} {ps : List Str} {sp : Sp} {E : XK} {e : Expr} {es : List Expr} {t : TA} {p pos : Pos}
/-- f(e, ..), nothing raised -/
theorem pe_cal (c : Cal X.prog X.w X.K X.mg X.base k x ps sp) (hr : Room k X.A) (hg : Gl X x) (ha : PA X (e :: es) t) (hdb : (x == ("__debug__" : Str)) = false := by decide)
    (he : starEach (e :: es) X.env = (false, eval e X.env) :: starEach es X.env := by rfl) (hpl : (backTo pos (starEach es X.env)).any (·.1) = false := by rfl) : PE X (.Call (.Name x p) (e :: es) [] pos) (tCall sp [] E0 t) := by
  obtain ⟨f, fd, hm, hk, hb, G⟩ := c.ex
  exact pe_call G hr hg hm hk hb .nil passL ha hdb he hpl
theorem pe_cal0 (c : Cal X.prog X.w X.K X.mg X.base k x ps sp) (hr : Room k X.A) (hg : Gl X x) (hdb : (x == ("__debug__" : Str)) = false := by decide) : PE X (.Call (.Name x p) [] [] pos) (tCall sp [] E0 tNil) := by
  obtain ⟨f, fd, hm, hk, hb, G⟩ := c.ex
  exact pe_call0 G hr hg hm hk hb .nil passL hdb
/-- .. what it raises goes on -/
theorem pe_calE (c : Cal X.prog X.w X.K X.mg X.base k x ps sp) (hr : Room k X.A) (hg : Gl X x) (hx : Passes (L2.CX X.prog X.w) X E) (ha : PA X (e :: es) t) (hdb : (x == ("__debug__" : Str)) = false := by decide)
    (he : starEach (e :: es) X.env = (false, eval e X.env) :: starEach es X.env := by rfl) (hpl : (backTo pos (starEach es X.env)).any (·.1) = false := by rfl) : PE X (.Call (.Name x p) (e :: es) [] pos) (tCall sp [] E t) := by
  obtain ⟨f, fd, hm, hk, hb, G⟩ := c.ex
  exact pe_call G hr hg hm hk hb .nil hx ha hdb he hpl
/-- .. in a try -/
theorem pe_calT {W : WX} (c : Cal X.prog X.w X.K X.mg X.base k x ps sp) (hr : Room k X.A) (hg : Gl X x) (tk : Takes X W) (ha : PA X (e :: es) t) (hdb : (x == ("__debug__" : Str)) = false := by decide)
    (he : starEach (e :: es) X.env = (false, eval e X.env) :: starEach es X.env := by rfl) (hpl : (backTo pos (starEach es X.env)).any (·.1) = false := by rfl) : PE X (.Call (.Name x p) (e :: es) [] pos) (tCallS sp (WE W) t) := by
  obtain ⟨f, fd, hm, hk, hb, G⟩ := c.ex
  exact pe_callS G hr hg hm hk hb (fun σ => passAt tk σ) ha hdb he hpl
end

/-! ### rules whose K is told (within a comprehension) -/
theorem call_lenK {X : Cx} (K : PySem.W.Frag) (h : X.K = K := by rfl) : CallR X (.builtin "len") (Evl.rLenS K) := by
  subst h
  exact call_len_seq
theorem call_listK {X : Cx} (K : PySem.W.Frag) (h : X.K = K := by rfl) : CallR X (.type "list") (Evl.rListS K) := by
  subst h
  exact call_list_of

theorem call_tupK {X : Cx} (K : PySem.W.Frag) (h : X.K = K := by rfl) : CallR X (.type "tuple") (fun xs H Q => ∃ p ys, xs = [.ref p] ∧ ((SqL K H p ys ∧ ∀ l, H l = none → Q (.ref l) (upd H l (.tup ys))) ∨ (SqT K H p ys ∧ Q (.ref p) H))) := by
  subst h
  exact call_tuple_of
section
variable {X : Cx} (K : PySem.W.Frag)
theorem ix_listK (h : X.K = K := by rfl) : IxR X (rIxL K) := by
  subst h
  exact ix_list
theorem ix_tupK (h : X.K = K := by rfl) : IxR X (rIxT K) := by
  subst h
  exact ix_tup
theorem sl_listK (h : X.K = K := by rfl) : SlR X (rSlL K) := by
  subst h
  exact sl_list
theorem sl_tupK (h : X.K = K := by rfl) : SlR X (rSlT K) := by
  subst h
  exact sl_tup
theorem op_catTK (h : X.K = K := by rfl) : OpR X (binaryOp .Add) (rCatT K) := by
  subst h
  exact op_catT
theorem op_inK (h : X.K = K := by rfl) : OpR X (compareOp .In) (rIn K false) := by
  subst h
  exact op_in_seq
theorem op_notInK (h : X.K = K := by rfl) : OpR X (compareOp .NotIn) (rIn K true) := by
  subst h
  exact op_notIn_seq
theorem op_inDK (hu : X.A.units + 65 < cLine) (h : X.K = K := by rfl) : OpR X (compareOp .In) (rInD K) := by
  subst h
  exact op_inD hu
theorem op_notInDK (hu : X.A.units + 65 < cLine) (h : X.K = K := by rfl) : OpR X (compareOp .NotIn) (rNotInD K) := by
  subst h
  exact op_notInD hu
theorem op_eqDK (hu : X.A.units + 64 < cLine) (h : X.K = K := by rfl) : OpR X (compareOp .Eq) (rEqD K) := by
  subst h
  exact op_eqD hu
theorem op_neDK (hu : X.A.units + 64 < cLine) (h : X.K = K := by rfl) : OpR X (compareOp .NotEq) (rNeD K) := by
  subst h
  exact op_neD hu
theorem cr_sumK (hc : X.calm = true) (h : X.K = K := by rfl) : CallR X (.builtin "sum") (rSum K) := by
  subst h
  exact cr_sum hc
theorem cr_maxK (hc : X.calm = true) (h : X.K = K := by rfl) : CallR X (.builtin "max") (rMax K) := by
  subst h
  exact cr_max hc
theorem cr_minK (hc : X.calm = true) (h : X.K = K := by rfl) : CallR X (.builtin "min") (rMin K) := by
  subst h
  exact cr_min hc
theorem cr_anyK (hc : X.calm = true) (h : X.K = K := by rfl) : CallR X (.builtin "any") (rAny K) := by
  subst h
  exact cr_any hc
theorem cr_allK (hc : X.calm = true) (h : X.K = K := by rfl) : CallR X (.builtin "all") (rAll K) := by
  subst h
  exact cr_all hc
theorem mt_indexK (h : X.K = K := by rfl) : MtR X "list.index" (rIndex K) := by
  subst h
  exact mt_index
theorem call_isiK' (h : X.K = K := by rfl) : CallR X (.builtin "isinstance") (rIsi K) := by
  subst h
  exact call_isi
end
theorem hu64_of {A : Around} {k : Nat} (hr : Room k A) : A.units + 64 < cLine := by
  have := hr.un
  omega
theorem hu65_of {A : Around} {k : Nat} (hr : Room k A) : A.units + 65 < cLine := by
  have := hr.un
  omega

theorem use_lc {wi : TI} {g : TG} {tt : TT} {te : TE} {vs : List Nat} {σ : St} {H : Hp} {xs : List V} {Q : VK} (h : Evl.EvL (tLc wi g tt te vs) σ H xs) (k : ∀ p H2, H p = none → Evl.Ex H H2 → H2 p = some (.lst xs) → Q (.ref p) H2) : tLc wi g tt te vs σ H Q := h H (Evl.Ex.refl H) Q k
theorem ex_same {H H1 : Hp} (h : Evl.Ex H H1) : Same H H1 := h
theorem et_yes {σ : St} {H : Hp} : Evl.EvT tYes σ H true := fun H3 _ _ q3 => q3 H3 (Evl.Ex.refl H3)
/-- all of a range -/
theorem given_all (n : Nat) (v : Nat → V) : Evl.given n (fun _ => true) v = (List.range n).map v := by
  unfold Evl.given
  rw [List.filter_eq_self.mpr (fun _ _ => rfl)]

/-! ### what stays -/
/-- all that was tracked stands, but at d and L -/
def But (d L : Addr) (H H' : Hp) : Prop := ∀ b o, H b = some o → b ≠ d → b ≠ L → H' b = some o
theorem But.refl {d L : Addr} {H : Hp} : But d L H H := fun _ _ h _ _ => h
theorem But.trans {d L : Addr} {H H1 H2 : Hp} (a : But d L H H1) (b : But d L H1 H2) : But d L H H2 := fun c o h h1 h2 => b c o (a c o h h1 h2) h1 h2
theorem But.of_same {d L : Addr} {H H1 : Hp} (a : Same H H1) : But d L H H1 := fun c o h _ _ => a c o h
theorem But.upd_d {d L : Addr} {H H1 : Hp} {o : HO} (a : But d L H H1) : But d L H (upd H1 d o) := fun c u h h1 h2 => by rw [upd_ne h1]; exact a c u h h1 h2
theorem But.upd_L {d L : Addr} {H H1 : Hp} {o : HO} (a : But d L H H1) : But d L H (upd H1 L o) := fun c u h h1 h2 => by rw [upd_ne h2]; exact a c u h h1 h2
theorem But.new {d L p : Addr} {H H1 : Hp} {o : HO} (a : But d L H H1) (hp : H p = none) : But d L H (upd H1 p o) := fun c u h h1 h2 => by rw [upd_ne (ne_of_none h hp)]; exact a c u h h1 h2
theorem Same.new {H : Hp} {p : Addr} {o : HO} (hp : H p = none) : Same H (upd H p o) := fun c u h => by rw [upd_ne (ne_of_none h hp)]; exact h

/-! ### the draws' source -/
/-- its pairs -/
def srcD (L : Addr) (l m t : Int) : List (Key × V) := [(Sum.inr "cells", .ref L), (Sum.inr "left", .int l), (Sum.inr "mixed", .int m), (Sum.inr "turn", .int t)]
theorem kne {a b : Str} (h : (a == b) = false) : ¬ (Sum.inr a : Key) = Sum.inr b := fun z => by
  have e : a = b := Sum.inr.inj z
  subst e
  simp at h
section
variable {L : Addr} {l m t x : Int}
theorem src_cells : valV (srcD L l m t) (Sum.inr "cells" : Key) = some (.ref L) := valV_pos rfl
theorem src_left : valV (srcD L l m t) (Sum.inr "left" : Key) = some (.int l) := (valV_neg (kne (by decide +kernel))).trans (valV_pos rfl)
theorem src_mixed : valV (srcD L l m t) (Sum.inr "mixed" : Key) = some (.int m) := (valV_neg (kne (by decide +kernel))).trans ((valV_neg (kne (by decide +kernel))).trans (valV_pos rfl))
theorem src_turn : valV (srcD L l m t) (Sum.inr "turn" : Key) = some (.int t) := (valV_neg (kne (by decide +kernel))).trans ((valV_neg (kne (by decide +kernel))).trans ((valV_neg (kne (by decide +kernel))).trans (valV_pos rfl)))
theorem put_left : putK (srcD L l m t) (Sum.inr "left" : Key) (.int x) = srcD L x m t := by
  unfold putK srcD
  rw [if_pos (by simp)]
  simp only [List.map_cons, List.map_nil]
  rw [if_neg (kne (by decide +kernel)), if_pos True.intro, if_neg (kne (by decide +kernel)), if_neg (kne (by decide +kernel))]
theorem put_turn : putK (srcD L l m t) (Sum.inr "turn" : Key) (.int x) = srcD L l m x := by
  unfold putK srcD
  rw [if_pos (by simp)]
  simp only [List.map_cons, List.map_nil]
  rw [if_neg (kne (by decide +kernel)), if_neg (kne (by decide +kernel)), if_neg (kne (by decide +kernel)), if_pos True.intro]
end
theorem merge_src {L : Addr} {l m t : Int} : mergeK [] (srcD L l m t) = srcD L l m t := by
  unfold mergeK srcD
  simp only [List.foldl_cons, List.foldl_nil]
  rw [putK_new (kvs := []) _ rfl, List.nil_append, putK_new _ ((valV_neg (kne (by decide +kernel))).trans rfl)]
  simp only [List.nil_append, List.cons_append]
  rw [putK_new _ ((valV_neg (kne (by decide +kernel))).trans ((valV_neg (kne (by decide +kernel))).trans rfl))]
  simp only [List.nil_append, List.cons_append]
  rw [putK_new _ ((valV_neg (kne (by decide +kernel))).trans ((valV_neg (kne (by decide +kernel))).trans ((valV_neg (kne (by decide +kernel))).trans rfl)))]
  rfl
section
variable {H : Hp} {d L : Addr} {l m t x : Int} (h : H d = some (.dK (srcD L l m t)))
include h
theorem dg_cells : DGet H d (.str "cells") (some (.ref L)) := by rw [← src_cells (L := L) (l := l) (m := m) (t := t)]; exact DGet.k (k := Sum.inr "cells") h
theorem dg_left : DGet H d (.str "left") (some (.int l)) := by rw [← src_left (L := L) (l := l) (m := m) (t := t)]; exact DGet.k (k := Sum.inr "left") h
theorem dg_mixed : DGet H d (.str "mixed") (some (.int m)) := by rw [← src_mixed (L := L) (l := l) (m := m) (t := t)]; exact DGet.k (k := Sum.inr "mixed") h
theorem dg_turn : DGet H d (.str "turn") (some (.int t)) := by rw [← src_turn (L := L) (l := l) (m := m) (t := t)]; exact DGet.k (k := Sum.inr "turn") h
theorem dp_left : DPut H d (.str "left") (.int x) (upd H d (.dK (srcD L x m t))) := by rw [← put_left (L := L) (l := l) (m := m) (t := t)]; exact DPut.k (k := Sum.inr "left") h (by show 4 < sizeLine; decide)
theorem dp_turn : DPut H d (.str "turn") (.int x) (upd H d (.dK (srcD L l m x))) := by rw [← put_turn (L := L) (l := l) (m := m) (t := t)]; exact DPut.k (k := Sum.inr "turn") h (by show 4 < sizeLine; decide)
end
theorem tT {b : Bool} {A B : Prop} (hb : b = true) (h : A) : if b = true then A else B := by rw [if_pos hb]; exact h
theorem tF {b : Bool} {A B : Prop} (hb : b = false) (h : B) : if b = true then A else B := by rw [hb, if_neg Bool.false_ne_true]; exact h
/-- the source at d, its cells at L -/
structure Src (d L : Addr) (H : Hp) : Prop where
  ex : ∃ (cs : List Int) (l m t : Int), H d = some (.dK (srcD L l m t)) ∧ H L = some (.lst (cs.map V.int)) ∧ cs.length ≤ 63
theorem Src.same {d L : Addr} {H H1 : Hp} (S : Src d L H) (h : Same H H1) : Src d L H1 := by
  obtain ⟨cs, l, m, t, h1, h2, h3⟩ := S.ex
  exact ⟨cs, l, m, t, h _ _ h1, h _ _ h2, h3⟩
theorem Src.ne {d L : Addr} {H : Hp} (S : Src d L H) : d ≠ L := by
  obtain ⟨cs, l, m, t, h1, h2, _⟩ := S.ex
  exact ne_of h1 h2 (by intro z; cases z)
theorem Src.d_ne {d L p : Addr} {H : Hp} (S : Src d L H) (hp : H p = none) : d ≠ p ∧ L ≠ p := by
  obtain ⟨cs, l, m, t, h1, h2, _⟩ := S.ex
  exact ⟨ne_of_none h1 hp, ne_of_none h2 hp⟩
/-- _law_pick(source, many): a number below many -/
def spPick : Sp := fun vs H Q _ => ∃ (d L : Addr) (n : Int), vs = [.ref d, .int n] ∧ Src d L H ∧ n ≤ 10000000 ∧ ∀ (r : Int) (H' : Hp), 0 ≤ r → (r < n ∨ r = 0) → Src d L H' → But d L H H' → Q (.int r) H'
/-- _law_source(script) -/
def spSource (K : PySem.W.Frag) : Sp := fun vs H Q _ => ∃ (a : Addr) (ns : List Int), vs = [.ref a] ∧ SqL K H a (ns.map V.int) ∧ ns.length ≤ 63 ∧ ∀ (d L : Addr) (H' : Hp), H d = none → H L = none → Src d L H' → Same H H' → Q (.ref d) H'
end L2


set_option Elab.async false
set_option linter.all false
set_option maxRecDepth 100000
set_option maxHeartbeats 4000000
/-! the errors' own __init__, shape by shape -/
namespace L2
open PySem PySem.Spec PyProof.Rows NdefX

/-- a text of ordinary size and signs -/
def Wee (x : Str) : Prop := x.length ≤ 1000 ∧ ∀ c ∈ x.cps.toList, c < 0x110000
theorem wee_of (s : String) (h : s.length ≤ 1000) : Wee (Str.ofString s) := by
  refine ⟨by rw [PySem.ofString_length]; exact h, fun c hc => ?_⟩
  rw [Str.ofString_eq_toList] at hc
  simp only [List.mem_map] at hc
  obtain ⟨ch, _, rfl⟩ := hc
  have v := ch.valid
  have e : ch.toNat = ch.val.toNat := rfl
  rw [e]
  rcases v with v | ⟨_, v⟩
  · have : ch.val.toNat < 0xd800 := v
    omega
  · have : ch.val.toNat < 0x110000 := v
    omega
theorem Wee.repr {x : Str} (h : Wee x) : (reprText x).length ≤ 10002 := by
  have := PySem.StrLaws.reprText_len x fun c hc => Nat.lt_trans (h.2 c hc) (by decide)
  have := h.1
  omega
theorem wee_app {x y : Str} (hx : Wee x) (hy : Wee y) (hl : x.length + y.length ≤ 1000) : Wee (x ++ y) := by
  refine ⟨by rw [Str.length_append]; exact hl, fun c hc => ?_⟩
  have e : (x ++ y).cps.toList = x.cps.toList ++ y.cps.toList := by
    show (x.cps ++ y.cps).toList = _
    simp
  rw [e] at hc
  rcases List.mem_append.mp hc with hc | hc
  · exact hx.2 c hc
  · exact hy.2 c hc

/-- the parts of a text between braces -/
theorem js_two {t2 : TE} {a : Str} {σ : St} {H : Hp} {Q : Str → Hp → Prop} (ha : a.length ≤ 1000) (h : t2 σ H fun x H1 => ∃ y : Str, x = .str y ∧ y.length ≤ 100000 ∧ Q (Str.empty ++ a ++ y) H1)
    (mono : ∀ (Q Q' : VK), (∀ v H1, Q v H1 → Q' v H1) → t2 σ H Q → t2 σ H Q') : tJs [tC (.str a), t2] Str.empty σ H Q := by
  have e0 : (Str.empty ++ a).length = a.length := by rw [Str.length_append]; exact Nat.zero_add _
  refine ⟨a, rfl, by rw [e0, sizeLine_eq]; omega, mono _ _ (fun v H1 ⟨y, e, hy, q⟩ => ⟨y, e, by rw [Str.length_append, e0, sizeLine_eq]; omega, q⟩) h⟩

section
variable {P : Program} {w : World} {K : PySem.W.Frag} {mg : Str → Option Value} {base : Heap} {C f cc c : Addr} {k : Nat} {B nI iI : String} {bB : List Value} {oc : Value} {od an : Option Addr} {osl : Array (Option Value)} {kV doc pm ct : Value} {qual txt : Str} {pr : Arguments} {p0 p1 p2 p3 p4 p5 p6 p7 p8 q1 q2 q3 q4 : Pos} {j : Nat}

/-! ### self.name = name -/
abbrev scNm : Scope := { kind := .function, names := [(("self" : Str), .local), (("name" : Str), .local), (("__class__" : Str), .free), (("super" : Str), .globalImplicit)], isGenerator := false, isCoroutine := false, more := [] }
abbrev supOf (p0 p1 p2 p3 p4 : Pos) (msg : Expr) : Stmt := .Expr (.Call (.Attribute (.Call (.Name "super" p0) [] [] p1) "__init__" p2) [msg] [] p3) p4
abbrev nfNm (qual : Str) (pr : Arguments) (cc c : Addr) (txt : Str) (j : Nat) (p0 p1 p2 p3 p4 p5 p6 p7 p8 q1 q2 q3 q4 : Pos) : NF :=
  ⟨"__init__", qual, pr, [supOf p0 p1 p2 p3 p4 (.JoinedStr [.Constant (.str txt) j p5, .FormattedValue (.Name "name" p6) 114 none p7] p8), .Assign [.Attribute (.Name "self" q1) "name" q2] (.Name "name" q3) q4], scNm, [(("__class__" : Str), cc)], c⟩
/-- a name that is kept -/
def spNm (C : Addr) : Sp := fun vs H Q _ => ∃ (a : Addr) (x : Str), vs = [.ref a, .str x] ∧ Wee x ∧ H a = some (exo a C none) ∧ ∀ dx, H dx = none → dx ≠ a → Q .non (upd (upd H dx (exd dx [("name", .str x)])) a (exo a C (some dx)))
theorem ok_nm (XB : XBase B nI iI bB) (XC : XCls K C nI bB) (XS : XSup P K mg C f cc B iI (nfNm qual pr cc c txt j p0 p1 p2 p3 p4 p5 p6 p7 p8 q1 q2 q3 q4)) (ht : txt.length ≤ 1000) (hno : PySem.W.findIn K (.ref C) "name" = some none)
    (hcl : SupCall (nfNm qual pr cc c txt j p0 p1 p2 p3 p4 p5 p6 p7 p8 q1 q2 q3 q4) f p0 p1 p2 p3 (.JoinedStr [.Constant (.str txt) j p5, .FormattedValue (.Name "name" p6) 114 none p7] p8))
    (lk : K.lookup f = some ⟨oc, od, .func (PySem.W.fnX "__init__" qual pr (nfNm qual pr cc c txt j p0 p1 p2 p3 p4 p5 p6 p7 p8 q1 q2 q3 q4).body scNm [(("__class__" : Str), cc)] .none kV doc pm an (.ref c) ct), osl⟩) (hcd : PySem.W.codeIn K (.ref c) qual = true) :
    FnOk P w K mg base (L2.CX P w) 1 f (PySem.W.fnX "__init__" qual pr (nfNm qual pr cc c txt j p0 p1 p2 p3 p4 p5 p6 p7 p8 q1 q2 q3 q4).body scNm [(("__class__" : Str), cc)] .none kV doc pm an (.ref c) ct) ["self", "name"] (spNm C) := by
  refine fn_super (N := ["self", "name", "__class__"]) (F := nfNm qual pr cc c txt j p0 p1 p2 p3 p4 p5 p6 p7 p8 q1 q2 q3 q4) (k := 0) XB XC XS lk hcd rfl (fun _ => rfl) (fun _ => rfl) hcl (fun _ => rfl) (by exact nscope_by (by show nscB _ _ _ scNm = true; decide +kernel)) rfl (fun vs H Q E h => ?_) (fun A outer s H vs Q E hr h => ?_)
  · obtain ⟨a, x, rfl, _⟩ := h
    rfl
  obtain ⟨a, x, rfl, hx, ha, q⟩ := h
  refine ⟨_, _, a, pe_joined (PJ.cons pe_str (PJ.cons (pe_fmtR (pv 1)) PJ.nil)), pss_one (ps_xst XB XC (pv 0) (pv 1)), rfl, ha, ?_⟩
  have e0 : (Str.empty ++ txt).length = txt.length := by rw [Str.length_append]; exact Nat.zero_add _
  have r0 := hx.repr
  refine ⟨txt, rfl, by rw [e0, sizeLine_eq]; omega, _, rfl, .inl ⟨x, rfl, by rw [sizeLine_eq]; omega, _, rfl, by rw [Str.length_append, e0, sizeLine_eq]; omega, ha, ?_⟩⟩
  exact ⟨_, rfl, _, rfl, a, rfl, hno, .inl ⟨ha, q⟩⟩
theorem nil_len {x : Str} : (Str.empty ++ x).length = x.length := by rw [Str.length_append]; exact Nat.zero_add _
theorem int_wee {i : Int} (h0 : 0 ≤ i) (h : i < 10 ^ 10) : (Str.ofString (toString i)).length ≤ 10 := toString_length_le h0 (by decide) h
theorem int_log {i : Int} (h0 : 0 ≤ i) (h : i < 10 ^ 10) : i.natAbs.log2 < 1920 := by
  have h1 : i.natAbs < 2 ^ 1920 := by
    have : i.natAbs < 10 ^ 10 := by omega
    have e : (10 : Nat) ^ 10 ≤ 2 ^ 1920 := by decide +kernel
    omega
  by_cases z : i.natAbs = 0
  · rw [z]; decide
  · exact (Nat.log2_lt z).mpr h1
/-! ### self.place = place -/
abbrev scPl : Scope := { kind := .function, names := [(("self" : Str), .local), (("place" : Str), .local), (("__class__" : Str), .free), (("super" : Str), .globalImplicit)], isGenerator := false, isCoroutine := false, more := [] }
abbrev msgPl (txt : Str) (j : Nat) (p5 p6 p7 p8 : Pos) : Expr := .JoinedStr [.Constant (.str txt) j p5, .FormattedValue (.Name "place" p6) (-1) none p7] p8
abbrev nfPl (qual : Str) (pr : Arguments) (cc c : Addr) (txt : Str) (j : Nat) (p0 p1 p2 p3 p4 p5 p6 p7 p8 q1 q2 q3 q4 : Pos) : NF :=
  ⟨"__init__", qual, pr, [supOf p0 p1 p2 p3 p4 (msgPl txt j p5 p6 p7 p8), .Assign [.Attribute (.Name "self" q1) "place" q2] (.Name "place" q3) q4], scPl, [(("__class__" : Str), cc)], c⟩
/-- a place that is kept -/
def spPl (C : Addr) : Sp := fun vs H Q _ => ∃ (a : Addr) (i : Int), vs = [.ref a, .int i] ∧ 0 ≤ i ∧ i < 10 ^ 10 ∧ H a = some (exo a C none) ∧ ∀ dx, H dx = none → dx ≠ a → Q .non (upd (upd H dx (exd dx [("place", .int i)])) a (exo a C (some dx)))
theorem ok_pl (XB : XBase B nI iI bB) (XC : XCls K C nI bB) (XS : XSup P K mg C f cc B iI (nfPl qual pr cc c txt j p0 p1 p2 p3 p4 p5 p6 p7 p8 q1 q2 q3 q4)) (ht : txt.length ≤ 1000) (hno : PySem.W.findIn K (.ref C) "place" = some none) (hcl : SupCall (nfPl qual pr cc c txt j p0 p1 p2 p3 p4 p5 p6 p7 p8 q1 q2 q3 q4) f p0 p1 p2 p3 (msgPl txt j p5 p6 p7 p8))
    (lk : K.lookup f = some ⟨oc, od, .func (PySem.W.fnX "__init__" qual pr (nfPl qual pr cc c txt j p0 p1 p2 p3 p4 p5 p6 p7 p8 q1 q2 q3 q4).body scPl [(("__class__" : Str), cc)] .none kV doc pm an (.ref c) ct), osl⟩) (hcd : PySem.W.codeIn K (.ref c) qual = true) :
    FnOk P w K mg base (L2.CX P w) 1 f (PySem.W.fnX "__init__" qual pr (nfPl qual pr cc c txt j p0 p1 p2 p3 p4 p5 p6 p7 p8 q1 q2 q3 q4).body scPl [(("__class__" : Str), cc)] .none kV doc pm an (.ref c) ct) ["self", "place"] (spPl C) := by
  refine fn_super (N := ["self", "place", "__class__"]) (F := nfPl qual pr cc c txt j p0 p1 p2 p3 p4 p5 p6 p7 p8 q1 q2 q3 q4) (k := 0) XB XC XS lk hcd rfl (fun _ => rfl) (fun _ => rfl) hcl (fun _ => rfl) (by exact nscope_by (by show nscB _ _ _ scPl = true; decide +kernel)) rfl (fun vs H Q E h => ?_) (fun A outer s H vs Q E hr h => ?_)
  · obtain ⟨a, x, rfl, _⟩ := h
    rfl
  obtain ⟨a, i, rfl, h0, h1, ha, q⟩ := h
  refine ⟨_, _, a, pe_joined (PJ.cons pe_str (PJ.cons (pe_fmt (pv 1)) PJ.nil)), pss_one (ps_xst XB XC (pv 0) (pv 1)), rfl, ha, ?_⟩
  have r0 := int_wee h0 h1
  refine ⟨txt, rfl, by rw [nil_len, sizeLine_eq]; omega, _, rfl, .inr ⟨i, rfl, int_log h0 h1, _, rfl, by rw [Str.length_append, nil_len, sizeLine_eq]; omega, ha, ?_⟩⟩
  exact ⟨_, rfl, _, rfl, a, rfl, hno, .inl ⟨ha, q⟩⟩

end

/-! ### a class of errors with its __init__, as the top has made it -/
abbrev nfS (st : Stmt) (q : Str) (cc c : Addr) : NF := ⟨"__init__", q, defArgs st, defBody st, defScope st, [(("__class__" : Str), cc)], c⟩
structure XI (P : Program) (K : PySem.W.Frag) (mg : Str → Option Value) (x q : Str) (st : Stmt) (ps : List Str) (C f cc c : Addr) (B nI iI : String) (bB : List Value) (fd : FuncData) : Prop where
  xb : XBase B nI iI bB
  g : mg x = some (.ref C)
  xc : XCls K C nI bB
  iC : PySem.W.findIn K (.ref C) "__init__" = some (some (.ref f))
  tI : PySem.W.typeIn K (.ref f) = some (.type "function")
  xs : XSup P K mg C f cc B iI (nfS st q cc c)
  lk : ∃ (oc : Value) (od : Option Addr) (osl : Array (Option Value)) (kV doc pm : Value) (an : Option Addr) (ct : Value), fd = PySem.W.fnX "__init__" q (defArgs st) (defBody st) (defScope st) [(("__class__" : Str), cc)] .none kV doc pm an (.ref c) ct ∧ K.lookup f = some ⟨oc, od, .func fd, osl⟩
  cd : PySem.W.codeIn K (.ref c) q = true
  bd : Binds K fd ps []
/-- the end of an __init__: the error at a has the fields fs, what stood stands -/
def Init (C a : Addr) (fs : List (Str × V)) (H : Hp) (Q : VK) : Prop := ∀ (dx : Addr) (H' : Hp), H dx = none → dx ≠ a → H' a = some (exo a C (some dx)) → H' dx = some (exd dx fs) → (∀ b o, H b = some o → b ≠ a → H' b = some o) → Q .non H'
/-- .. with a new sequence as one of its fields -/
def InitS (K : PySem.W.Frag) (tup : Bool) (C a : Addr) (fs : Addr → List (Str × V)) (ys : List V) (H : Hp) (Q : VK) : Prop := ∀ (t dx : Addr) (H' : Hp), H dx = none → dx ≠ a → H' a = some (exo a C (some dx)) → H' dx = some (exd dx (fs t)) →
  (if tup then SqT K H' t ys else H t = none ∧ H' t = some (.lst ys)) → (∀ b o, H b = some o → b ≠ a → H' b = some o) → Q .non H'
/-- a field more -/
theorem xst_go {H : Hp} {a C dx : Addr} {fs : List (Str × V)} {f : Str} {y : V} {G : Hp → Prop} (ea : H a = some (exo a C (some dx))) (ed : H dx = some (exd dx fs)) (hl : fs.length ≤ 900) (g : G (upd H dx (exd dx ((f, y) :: fs)))) :
    ∃ (dx : Addr) (fs : List (Str × V)), H a = some (exo a C (some dx)) ∧ H dx = some (exd dx fs) ∧ fs.length ≤ 900 ∧ G (upd H dx (exd dx ((f, y) :: fs))) := ⟨dx, fs, ea, ed, hl, g⟩
/-- sign and arguments -/
def spSA (K : PySem.W.Frag) (C : Addr) : Sp := fun vs H Q _ => ∃ (a : Addr) (x : Str) (l : Addr) (ys : List V), vs = [.ref a, .str x, .ref l] ∧ Wee x ∧ (SqL K H l ys ∨ SqT K H l ys) ∧ H a = some (exo a C none) ∧ InitS K true C a (fun t => [("arguments", .ref t), ("sign", .str x)]) ys H Q
def spNL (K : PySem.W.Frag) (C : Addr) : Sp := fun vs H Q _ => ∃ (a : Addr) (x : Str) (l : Addr) (ys : List V) (i : Int) (z : Str), vs = [.ref a, .str x, .ref l, .int i, .str z] ∧ Wee x ∧ Wee z ∧ 0 ≤ i ∧ i < 10 ^ 10 ∧ (SqL K H l ys ∨ SqT K H l ys) ∧ H a = some (exo a C none) ∧
  InitS K true C a (fun t => [("other", .str z), ("place", .int i), ("arguments", .ref t), ("sign", .str x)]) ys H Q
def spLR (C : Addr) : Sp := fun vs H Q _ => ∃ (a : Addr) (x y : V), vs = [.ref a, x, y] ∧ H a = some (exo a C none) ∧ Init C a [("right", y), ("left", x)] H Q
def spLb (K : PySem.W.Frag) (C : Addr) : Sp := fun vs H Q _ => ∃ (a : Addr) (l : Addr) (ys : List V), vs = [.ref a, .ref l] ∧ (SqL K H l ys ∨ SqT K H l ys) ∧ H a = some (exo a C none) ∧ InitS K false C a (fun t => [("labels", .ref t)]) ys H Q
theorem app_le {x y : Str} {m n : Nat} (h1 : x.length ≤ m) (h2 : y.length ≤ n) : (x ++ y).length ≤ m + n := by
  rw [Str.length_append]
  omega
theorem emp_le {y : Str} {n : Nat} (h2 : y.length ≤ n) : (Str.empty ++ y).length ≤ n := by
  rw [nil_len]
  exact h2
theorem le_line {n m : Nat} (h : n ≤ m) (hm : m ≤ 1000000) : n ≤ sizeLine := by
  rw [sizeLine_eq]
  omega
theorem or_seq {K : PySem.W.Frag} {H H' : Hp} {l : Addr} {ys : List V} (e : Same H H') (h : SqL K H l ys ∨ SqT K H l ys) : SqL K H' l ys ∨ SqT K H' l ys := h.imp (fun q => e.seq q) fun q => Evl.ex_t e q
theorem rd_but {H H' : Hp} {l a C : Addr} {d : Option Addr} {u : HO} (hu : ∀ b, u ≠ exo b C d) (e : ∀ b o, H b = some o → b ≠ a → H' b = some o) (ha : H a = some (exo a C d)) (h : Rd H l u) : Rd H' l u := by
  rcases h with h | ⟨o, h⟩
  · exact .inl (e l _ h (ne_of h ha (hu a)))
  · exact .inr ⟨o, e l _ h (ne_of h ha (fun z => exo_frz z.symm))⟩
theorem seq_but {K : PySem.W.Frag} {H H' : Hp} {l a C : Addr} {d : Option Addr} {ys : List V} (e : ∀ b o, H b = some o → b ≠ a → H' b = some o) (ha : H a = some (exo a C d)) (h : SqL K H l ys ∨ SqT K H l ys) : SqL K H' l ys ∨ SqT K H' l ys := by
  rcases h with (h | h) | (h | h)
  · exact .inl (.inl (rd_but (fun b z => by cases z) e ha h))
  · exact .inl (.inr h)
  · exact .inr (.inl (rd_but (fun b z => exo_tup z.symm) e ha h))
  · exact .inr (.inr h)
/-- the first field's heap -/
theorem one_but {H : Hp} {a dx C : Addr} {fs : List (Str × V)} (hd : H dx = none) : ∀ b o, H b = some o → b ≠ a → (upd (upd H dx (exd dx fs)) a (exo a C (some dx))) b = some o := fun b o h hb => by
  rw [upd_ne hb, upd_ne (ne_of_none h hd)]
  exact h
end L2


set_option Elab.async false
set_option linter.all false
set_option maxRecDepth 100000
set_option maxHeartbeats 4000000
/-! errors held as values: isinstance, their fields -/
namespace L2
open PySem PySem.Spec PyProof.Rows

/-- an error stands at a, its own dict (if any) holds fs -/
def ErrAt (H : Hp) (a C : Addr) (fs : List (Str × V)) : Prop := (H a = some (exo a C none) ∧ fs = []) ∨ ∃ dx, H a = some (exo a C (some dx)) ∧ H dx = some (exd dx fs)
theorem ErrAt.same {H H' : Hp} {a C : Addr} {fs : List (Str × V)} (h : ErrAt H a C fs) (e : Same H H') : ErrAt H' a C fs := by
  rcases h with ⟨h, f⟩ | ⟨dx, h1, h2⟩
  · exact .inl ⟨e _ _ h, f⟩
  · exact .inr ⟨dx, e _ _ h1, e _ _ h2⟩
theorem ErrAt.inst {X : Cx} {pins : List (Addr × Obj)} {σ : St} {H : Hp} {s : Shared} {a C : Addr} {fs : List (Str × V)} (I : Inv X pins σ H s) (h : ErrAt H a C fs) :
    ∃ (ox : Obj) (od : Option Obj), PySem.W.InstAt s.heap a ox C od ∧ (∀ (n : Str) (v : V), fs.lookup n = some v → ∃ (o : Obj) (u : Value), od = some o ∧ PySem.W.lookIn n o = some (some u) ∧ RelV v u) := by
  rcases h with ⟨h, rfl⟩ | ⟨dx, h1, h2⟩
  · obtain ⟨t1, ho⟩ := exo_at I.hok h
    exact ⟨_, none, ⟨ho, rfl, rfl, trivial⟩, fun n v z => by cases z⟩
  · obtain ⟨t1, ho⟩ := exo_at I.hok h1
    obtain ⟨mA, hns, rel⟩ := exd_at I.hok h2
    obtain ⟨od, hod, hl⟩ := lookIn_ns hns
    refine ⟨_, some od, ⟨ho, rfl, rfl, hod⟩, fun n v z => ?_⟩
    obtain ⟨u, hu, ru⟩ := RelO.some_of (v := v) (o := mA n) (by rw [← z]; exact rel n)
    exact ⟨od, u, rfl, by rw [hl, hu], ru⟩
/-- isinstance(e, c), e an error held as a value -/
def rIsX (K : PySem.W.Frag) : List V → Hp → VK → Prop := fun xs H Q => ∃ (a C : Addr) (fs : List (Str × V)) (c : V) (u : Value) (b : Bool), xs = [.ref a, c] ∧ ErrAt H a C fs ∧ ExcC K C ∧ ClsV c u ∧ PySem.W.kitOne K (.ref C) u = some b ∧ Q (.bl b) H
theorem call_isX {X : Cx} (K : PySem.W.Frag) (hK : X.K = K := by rfl) : CallR X (.builtin "isinstance") (rIsX K) := by
  subst hK
  intro pins s σ H xs us Q I r h
  obtain ⟨a, C, fs, c, u, b, rfl, ea, E, k, e, q⟩ := h
  obtain ⟨u1, u2, rfl, r1, r2⟩ := vals2 r
  have e2 := k.eq r2
  subst e2
  obtain rfl : u1 = Value.ref a := r1
  obtain ⟨ox, od, J, _⟩ := ea.inst I
  obtain ⟨cd, hcd, _⟩ := PySem.W.any_some E.hd
  exact PySem.W.kia_one (PySem.W.kitx_exc (by rw [hcd]; rfl) E.hg E.hk E.hs E.ha E.hn E.ht E.hm) I.kIn J e (fun z => nomatch z) fun tk => ⟨.bl b, H, I.tok tk, rfl, q⟩
/-- e.f, e an error held as a value -/
def tXval (K : PySem.W.Frag) (n : Str) (te : TE) : TE := fun σ H Q => te σ H fun x H1 => ∃ (a C : Addr) (fs : List (Str × V)) (v : V), x = .ref a ∧ ErrAt H1 a C fs ∧ ExcC K C ∧ PySem.W.findIn K (.ref C) n = some none ∧ fs.lookup n = some v ∧ Q v H1
theorem pe_xval {X : Cx} (K : PySem.W.Frag) {e : Expr} {te : TE} {n : Str} {pos : Pos} (he : PE X e te) (hb : attributeBase e n X.env (eval e X.env) = eval e X.env := by rfl) (hK : X.K = K := by rfl) : PE X (.Attribute e n pos) (tXval K n te) := by
  subst hK
  refine ⟨fun pins s σ H Q I h => attr_of hb (thn (he.run pins s σ H _ I h) fun u s1 hh => ?_)⟩
  obtain ⟨x, H1, I1, rx, a, C, fs, v, ex, ea, E, hno, hl, q⟩ := hh
  subst ex
  obtain rfl : u = Value.ref a := rx
  obtain ⟨ox, od, J, look⟩ := ea.inst I1
  obtain ⟨o, w, rfl, hw, rw'⟩ := look n v hl
  exact HandSPX.exc_get I1.kIn J E.hg E.hk E.hs (PySem.W.findObj_own E.hd hno rfl hw) (handed_of rw') ⟨v, H1, I1.tok _, rw', q⟩

/-! ### made as values -/
structure X0 (K : PySem.W.Frag) (mg : Str → Option Value) (x : Str) (C : Addr) (B nI iI : String) (bB : List Value) : Prop where
  xb : XBase B nI iI bB
  g : mg x = some (.ref C)
  xc : XCls K C nI bB
  hi : PySem.W.findIn K (.ref C) "__init__" = some (some (.builtin iI))
section
variable {X : Cx} {x q : Str} {C f cc c : Addr} {p pos : Pos} {e : Expr} {es : List Expr} {ta : TA} {B nI iI : String} {bB : List Value} {fd : FuncData} {ps : List Str} {sp : Sp} {st : Stmt}
theorem X0.pe (t : X0 X.K X.mg x C B nI iI bB) (hg : Gl X x) (hdb : (x == ("__debug__" : Str)) = false := by decide) : PE X (.Call (.Name x p) [] [] pos) (tX0 C) := pe_x0 t.xb t.xc t.hi hg t.g hdb
theorem X0.pmk (t : X0 X.K X.mg x C B nI iI bB) (hg : Gl X x) (hdb : (x == ("__debug__" : Str)) = false := by decide) : PMk X (.Call (.Name x p) [] [] pos) (fun _ H Q => Q (.ref C) none H) := pmk_x0 t.xb t.xc t.hi hg t.g hdb
theorem XI.pe (t : XI X.prog X.K X.mg x q st ps C f cc c B nI iI bB fd) (F : FnOk X.prog X.w X.K X.mg X.base (L2.CX X.prog X.w) 1 f fd ps sp) (hr : Room 2 X.A) (hg : Gl X x) (ha : PA X (e :: es) ta) (hdb : (x == ("__debug__" : Str)) = false := by decide)
    (he : starEach (e :: es) X.env = (false, eval e X.env) :: starEach es X.env := by rfl) (hpl : (backTo pos (starEach es X.env)).any (·.1) = false := by rfl) : PE X (.Call (.Name x p) (e :: es) [] pos) (tXv C sp [] ta) :=
  pe_xv t.xb t.xc t.iC t.tI F hr t.bd .nil passL hg t.g ha hdb he hpl
theorem XI.pmk (t : XI X.prog X.K X.mg x q st ps C f cc c B nI iI bB fd) (F : FnOk X.prog X.w X.K X.mg X.base (L2.CX X.prog X.w) 1 f fd ps sp) (hr : Room 2 X.A) (hg : Gl X x) (ha : PA X (e :: es) ta) (hdb : (x == ("__debug__" : Str)) = false := by decide)
    (he : starEach (e :: es) X.env = (false, eval e X.env) :: starEach es X.env := by rfl) (hpl : (backTo pos (starEach es X.env)).any (·.1) = false := by rfl) : PMk X (.Call (.Name x p) (e :: es) [] pos) (tMkO C sp [] ta) :=
  pmk_x t.xb t.xc t.iC t.tI F hr t.bd .nil passL hg t.g ha hdb he hpl
end
section
variable {K : PySem.W.Frag} {H : Hp} {C : Addr} {Q : VK} {ys : List V}
/-- an error is made: a new one at a -/
def New (C : Addr) (fs : List (Str × V)) (H : Hp) (Q : VK) : Prop := ∀ a H', H a = none → Same H H' → ErrAt H' a C fs → Q (.ref a) H'
theorem same_upd {H : Hp} {a : Addr} {o : HO} (h : H a = none) : Same H (upd H a o) := fun b u q => by rw [upd_ne (ne_of_none q h)]; exact q
theorem go_x0 (k : New C [] H Q) : ∀ a, H a = none → Q (.ref a) (upd H a (exo a C none)) := fun a n => k a _ n (same_upd n) (.inl ⟨upd_same, rfl⟩)
theorem go_nm {x : Str} (hx : Wee x) (k : New C [("name", .str x)] H Q) : ∀ a, H a = none → spNm C (.ref a :: ([.str x] ++ [])) (upd H a (exo a C none)) (fun v H2 => v = .non ∧ Q (.ref a) H2) (fun _ _ _ => False) := fun a n =>
  ⟨a, x, rfl, hx, upd_same, fun dx hd ne => ⟨rfl, k a _ n (fun b u q => by
    rw [upd_ne (ne_of_none q n), upd_ne (ne_of_none (same_upd n _ _ q) hd), upd_ne (ne_of_none q n)]
    exact q) (.inr ⟨dx, upd_same, by rw [upd_ne ne, upd_same]⟩)⟩⟩
theorem go_pl {i : Int} (h0 : 0 ≤ i) (h1 : i < 10 ^ 10) (k : New C [("place", .int i)] H Q) : ∀ a, H a = none → spPl C (.ref a :: ([.int i] ++ [])) (upd H a (exo a C none)) (fun v H2 => v = .non ∧ Q (.ref a) H2) (fun _ _ _ => False) := fun a n =>
  ⟨a, i, rfl, h0, h1, upd_same, fun dx hd ne => ⟨rfl, k a _ n (fun b u q => by
    rw [upd_ne (ne_of_none q n), upd_ne (ne_of_none (same_upd n _ _ q) hd), upd_ne (ne_of_none q n)]
    exact q) (.inr ⟨dx, upd_same, by rw [upd_ne ne, upd_same]⟩)⟩⟩
theorem but_same {H H' : Hp} {a : Addr} {o : HO} (n : H a = none) (e : ∀ b u, (upd H a o) b = some u → b ≠ a → H' b = some u) : Same H H' := fun b u q => e b u (same_upd n _ _ q) (ne_of_none q n)
theorem go_sa {x : Str} {l : Addr} (hx : Wee x) (hl : SqL K H l ys ∨ SqT K H l ys) (k : ∀ a t H', H a = none → Same H H' → ErrAt H' a C [("arguments", .ref t), ("sign", .str x)] → SqT K H' t ys → Q (.ref a) H') :
    ∀ a, H a = none → spSA K C (.ref a :: ([.str x, .ref l] ++ [])) (upd H a (exo a C none)) (fun v H2 => v = .non ∧ Q (.ref a) H2) (fun _ _ _ => False) := fun a n =>
  ⟨a, x, l, ys, rfl, hx, or_seq (same_upd n) hl, upd_same, fun t dx H' hd ne e1 e2 e3 e4 => ⟨rfl, k a t H' n (but_same n e4) (.inr ⟨dx, e1, e2⟩) e3⟩⟩
theorem go_nl {x z : Str} {l : Addr} {i : Int} (hx : Wee x) (hz : Wee z) (h0 : 0 ≤ i) (h1 : i < 10 ^ 10) (hl : SqL K H l ys ∨ SqT K H l ys)
    (k : ∀ a t H', H a = none → Same H H' → ErrAt H' a C [("other", .str z), ("place", .int i), ("arguments", .ref t), ("sign", .str x)] → SqT K H' t ys → Q (.ref a) H') :
    ∀ a, H a = none → spNL K C (.ref a :: ([.str x, .ref l, .int i, .str z] ++ [])) (upd H a (exo a C none)) (fun v H2 => v = .non ∧ Q (.ref a) H2) (fun _ _ _ => False) := fun a n =>
  ⟨a, x, l, ys, i, z, rfl, hx, hz, h0, h1, or_seq (same_upd n) hl, upd_same, fun t dx H' hd ne e1 e2 e3 e4 => ⟨rfl, k a t H' n (but_same n e4) (.inr ⟨dx, e1, e2⟩) e3⟩⟩
theorem go_lr {x y : V} (k : New C [("right", y), ("left", x)] H Q) : ∀ a, H a = none → spLR C (.ref a :: ([x, y] ++ [])) (upd H a (exo a C none)) (fun v H2 => v = .non ∧ Q (.ref a) H2) (fun _ _ _ => False) := fun a n =>
  ⟨a, x, y, rfl, upd_same, fun dx H' hd ne e1 e2 e3 => ⟨rfl, k a H' n (but_same n e3) (.inr ⟨dx, e1, e2⟩)⟩⟩
theorem go_lb {l : Addr} (hl : SqL K H l ys ∨ SqT K H l ys) (k : ∀ a t H', H a = none → Same H H' → ErrAt H' a C [("labels", .ref t)] → H t = none → H' t = some (.lst ys) → Q (.ref a) H') :
    ∀ a, H a = none → spLb K C (.ref a :: ([.ref l] ++ [])) (upd H a (exo a C none)) (fun v H2 => v = .non ∧ Q (.ref a) H2) (fun _ _ _ => False) := fun a n =>
  ⟨a, l, ys, rfl, or_seq (same_upd n) hl, upd_same, fun t dx H' hd ne e1 e2 e3 e4 => ⟨rfl, k a t H' n (but_same n e4) (.inr ⟨dx, e1, e2⟩) ((same_upd n).free e3.1) e3.2⟩⟩
/-- many of the plain ones -/
def tX0s : List Addr → TA
  | [] => tNil
  | C :: r => tCons (tX0 C) (tX0s r)
def Errs (H : Hp) (as Cs : List Addr) : Prop := Paired (fun a C => ErrAt H a C []) as Cs
theorem Errs.same {H H' : Hp} {as Cs : List Addr} (h : Errs H as Cs) (e : Same H H') : Errs H' as Cs := Paired.mapP h fun _ _ z => z.same e
theorem x0s_go : ∀ (Cs : List Addr) (σ : St) (H : Hp) (Q : List V → Hp → Prop), (∀ as H', Same H H' → Errs H' as Cs → Q (as.map V.ref) H') → tX0s Cs σ H Q
  | [], σ, H, Q, k => k [] H (Same.refl H) .nil
  | C :: r, σ, H, Q, k => fun a n => x0s_go r σ _ _ fun as H' e he => k (a :: as) H' ((same_upd n).trans e) (.cons (ErrAt.same (.inl ⟨upd_same, rfl⟩) e) he)
end

/-- an own class, a built-in class, as a value -/
theorem pe_gref {X : Cx} {x : Str} {a : Addr} {pos : Pos} (hg : Gl X x) (hm : X.mg x = some (.ref a)) (hd : (x == ("__debug__" : Str)) = false := by decide) : PE X (.Name x pos) (tC (.ref a)) := pe_glob hg hm rfl hd
theorem pe_bty {X : Cx} {x : Str} {n : String} {pos : Pos} (hg : Gl X x) (hm : X.mg x = none) (hv : bootBuiltins x = some (.type n)) (hn : x ≠ "__name__" := by decide) (hd : (x == ("__debug__" : Str)) = false := by decide) : PE X (.Name x pos) (tC (.ty n)) := pe_bltn hg hm hv rfl hn hd

def tTruK (K : PySem.W.Frag) (ta : TE) : TT := fun σ H Q => ta σ H fun x H' => ∃ k, TruV K x H' k ∧ Q k H'
theorem pt_truthK {X : Cx} (K : PySem.W.Frag) {a : Expr} {ta : TE} (ha : PE X a ta) (he : ∀ whole, isTrue a X.env whole = (do let v ← whole; standAt a.pos; holding [v] (truthy v)) := by intro _; rfl) (hK : X.K = K := by rfl) : PT X a (tTruK K ta) := by
  subst hK
  exact pt_truth ha he

theorem x0s_lst (Cs : List Addr) {σ : St} {H : Hp} {Q : VK} (hz : Cs.length ≤ 1000) (k : ∀ as H', Same H H' → Errs H' as Cs → ∀ p, H' p = none → Q (.ref p) (upd H' p (.lst (as.map V.ref)))) : tLst (tX0s Cs) σ H Q :=
  x0s_go Cs σ H _ fun as H1 e1 h1 => ⟨by rw [List.length_map, Paired.length h1]; exact Nat.le_of_lt (small1000 hz), fun p hp => k as H1 e1 h1 p hp⟩

/-- an error with one field is new -/
theorem one_new {H : Hp} {a dx C : Addr} {fs : List (Str × V)} (n : H a = none) (hd : (upd H a (exo a C none)) dx = none) (ne : dx ≠ a) :
    ∃ H', upd (upd (upd H a (exo a C none)) dx (exd dx fs)) a (exo a C (some dx)) = H' ∧ Same H H' ∧ ErrAt H' a C fs :=
  ⟨_, rfl, fun b u q => by
    rw [upd_ne (ne_of_none q n), upd_ne (ne_of_none (same_upd n _ _ q) hd), upd_ne (ne_of_none q n)]
    exact q, .inr ⟨dx, upd_same, by rw [upd_ne ne, upd_same]⟩⟩
theorem put_new {H : Hp} {a : Addr} {o : HO} (n : H a = none) : ∃ H', upd H a o = H' ∧ Same H H' ∧ H' a = some o := ⟨_, rfl, same_upd n, upd_same⟩

/-! ### == of data -/
theorem Wee.ok {x : Str} (h : Wee x) : PyData.strOk x = true := by
  unfold PyData.strOk
  rw [← Array.all_toList, List.all_eq_true]
  exact fun c hc => decide_eq_true (h.2 c hc)
section
variable {K : PySem.W.Frag} {H : Hp} {x y : V} {d : PyData} {Q : VK}
theorem neD_same (hx : Dp K H x d) (hy : Dp K H y d) (hs : SeqAt.shaped d = true) (q : Q (.bl false) H) : rNeD K x y H Q := ⟨d, d, hx, hy, hs, hs, by rw [SeqAt.eqv_refl d (SeqAt.canLay_of_shaped hs)]; exact q⟩
theorem eqD_same (hx : Dp K H x d) (hy : Dp K H y d) (hs : SeqAt.shaped d = true) (q : Q (.bl true) H) : rEqD K x y H Q := ⟨d, d, hx, hy, hs, hs, by rw [SeqAt.eqv_refl d (SeqAt.canLay_of_shaped hs)]; exact q⟩
theorem dp_two {p : Addr} {a b : Str} (h : SqL K H p [.str a, .str b]) : Dp K H (.ref p) (.list [.str a, .str b]) := .lst h (.cons (.str a) (.cons (.str b) .nil))
theorem sh_two {a b : Str} (ha : Wee a) (hb : Wee b) : SeqAt.shaped (.list [.str a, .str b]) = true := by
  simp [SeqAt.shaped, PyData.canLay0, PyData.canLayAll0, PyData.depth, PyData.depthAll, ha.ok, hb.ok]
theorem tst {k : Bool} {G : Bool → Prop} (q : G k) : ∃ b, V.bl k = V.bl b ∧ G b := ⟨k, rfl, q⟩
/-- lists of one int each -/
theorem dp_ones {D : Addr} {ps : List Addr} (hD : SqL K H D (ps.map V.ref)) (h : ∀ (j : Nat) p, ps[j]? = some p → H p = some (.lst [.int (j : Int)])) : Dp K H (.ref D) (.list ((List.range ps.length).map fun (j : Nat) => .list [.int (j : Int)])) := by
  refine .lst hD ?_
  have key : ∀ (qs : List Addr) (n : Nat), (∀ (j : Nat) p, qs[j]? = some p → H p = some (.lst [.int ((n + j : Nat) : Int)])) → DpAll K H (qs.map V.ref) ((List.range qs.length).map fun (j : Nat) => .list [.int ((n + j : Nat) : Int)]) := by
    intro qs
    induction qs with
    | nil => intro n _; exact .nil
    | cons q r ih =>
      intro n hq
      have h0 := hq 0 q rfl
      have h1 := ih (n + 1) fun j p e => by
        have z := hq (j + 1) p (by simpa using e)
        rw [z, show n + (j + 1) = n + 1 + j by omega]
      rw [List.length_cons, List.range_succ_eq_map, List.map_cons, List.map_cons, List.map_map]
      refine .cons (.lst (SqL.of h0) (.cons (.int _) .nil)) ?_
      have e : (fun j : Nat => PyData.list [PyData.int ((n + j : Nat) : Int)]) ∘ Nat.succ = fun (j : Nat) => PyData.list [PyData.int ((n + 1 + j : Nat) : Int)] := by
        funext j
        show PyData.list [PyData.int ((n + (j + 1) : Nat) : Int)] = _
        rw [show n + (j + 1) = n + 1 + j by omega]
      rw [e]
      exact h1
  have z := key ps 0 fun j p e => by rw [Nat.zero_add]; exact h j p e
  simpa using z
end
theorem gN {i : Nat} {v : V} {σ : St} {H : Hp} {N : St → Hp → Prop} (h : N (σ.set i (some v)) H) : gName i v σ H N := h

/-! ### comprehensions whose items are new lists -/
/-- D holds the lists made so far -/
def Made (H1 : Hp) (D : Addr) (cs : Nat → List V) (i : Nat) (H' : Hp) : Prop := ∃ ps : List Addr, ps.length = i ∧ H' D = some (.lst (ps.map V.ref)) ∧ (∀ (j : Nat) p, ps[j]? = some p → p ≠ D ∧ H' p = some (.lst (cs j))) ∧ Same H1 H'
theorem made_more {H1 H' H2 : Hp} {D p : Addr} {cs : Nat → List V} {i : Nat} (hD : H1 D = none) (m : Made H1 D cs i H') (hi : i < 100000) (n : H' p = none) (e : Same H' H2) (h : H2 p = some (.lst (cs i))) :
    ∃ acc, H2 D = some (.lst acc) ∧ acc.length < sizeLine ∧ Made H1 D cs (i + 1) (upd H2 D (.lst (acc ++ [.ref p]))) := by
  obtain ⟨ps, l, d, all, s⟩ := m
  have npD : p ≠ D := fun z => by rw [z, d] at n; cases n
  refine ⟨_, e _ _ d, by rw [List.length_map, l, sizeLine_eq]; omega, ps ++ [p], by rw [List.length_append, l]; rfl, by rw [List.map_append]; exact upd_same, fun j q hq => ?_, fun b o hb => ?_⟩
  · by_cases c : j < ps.length
    · rw [List.getElem?_append_left c] at hq
      obtain ⟨z1, z2⟩ := all j q hq
      exact ⟨z1, by rw [upd_ne z1]; exact e _ _ z2⟩
    · rw [List.getElem?_append_right (by omega)] at hq
      have j0 : j = i := by
        by_cases c2 : j - ps.length = 0
        · omega
        · have : ([p] : List Addr)[j - ps.length]? = none := List.getElem?_eq_none (by show 1 ≤ _; omega)
          rw [this] at hq
          cases hq
      subst j0
      rw [l, Nat.sub_self] at hq
      obtain rfl : p = q := Option.some.inj hq
      exact ⟨npD, by rw [upd_ne npD]; exact h⟩
  · rw [upd_ne (ne_of_none hb hD)]
    exact e _ _ (s _ _ hb)
theorem lc_newl {K : PySem.W.Frag} {tl : TE} {a : Addr} {xs : List V} {jx : Nat} {te : TE} {vs : List Nat} {σ : St} {H1 : Hp} {Q : VK} (cs : Nat → List V) (hx : SqL K H1 a xs) (hz : xs.length ≤ 50000) (hw : ∀ x, wipe ((wipe σ vs).set jx (some x)) vs = wipe σ vs)
    (he : ∀ (i : Nat) x H', xs[i]? = some x → Same H1 H' → ∀ Q' : VK, (∀ p H2, H' p = none → Same H' H2 → H2 p = some (.lst (cs i)) → Q' (.ref p) H2) → te ((wipe σ vs).set jx (some x)) H' Q')
    (q : ∀ D (ps : List Addr) H', H1 D = none → Same H1 H' → ps.length = xs.length → H' D = some (.lst (ps.map V.ref)) → (∀ (j : Nat) p, ps[j]? = some p → H' p = some (.lst (cs j))) → Q (.ref D) H') (hl : ∀ Q' : VK, Q' (.ref a) H1 → tl σ H1 Q') : tLc (iList K tl) (gName jx) tYes te vs σ H1 Q := by
  refine hl _ ⟨a, rfl, ⟨_, hx⟩, fun D hD => lc_list (K := K) (a := a) (xs := xs) (Made H1 D cs) ⟨[], rfl, upd_same, fun j p h => by simp at h, same_upd hD⟩ (fun i H' _ m => ?_) (fun i x H' hi m => ?_) (fun H' m => ?_)⟩
  · obtain ⟨_, _, _, _, s⟩ := m
    exact s.seq hx
  · have hi2 := (List.getElem?_eq_some_iff.mp hi).1
    have s : Same H1 H' := m.elim fun _ z => z.2.2.2
    refine ⟨hw x, iteT (B := Made H1 D cs (i + 1) H') ?_⟩
    exact he i x H' hi s _ fun p H2 n e h => made_more hD m (by omega) n e h
  · obtain ⟨ps, l, d, all, s⟩ := m
    exact q D ps H' hD s l d fun j p h => (all j p h).2
theorem lc_newr {n : Int} {ta : TA} {jx : Nat} {te : TE} {vs : List Nat} {σ : St} {H1 : Hp} {Q : VK} (cs : Nat → List V) (hn : 0 ≤ n ∧ n ≤ 50000) (hw : ∀ x, wipe ((wipe σ vs).set jx (some x)) vs = wipe σ vs)
    (he : ∀ (i : Nat) H', (i : Int) < n → Same H1 H' → ∀ Q' : VK, (∀ p H2, H' p = none → Same H' H2 → H2 p = some (.lst (cs i)) → Q' (.ref p) H2) → te ((wipe σ vs).set jx (some (.int (i : Int)))) H' Q')
    (q : ∀ D (ps : List Addr) H', H1 D = none → Same H1 H' → ps.length = n.toNat → H' D = some (.lst (ps.map V.ref)) → (∀ (j : Nat) p, ps[j]? = some p → H' p = some (.lst (cs j))) → Q (.ref D) H') (hl : ∀ Q' : List V → Hp → Prop, Q' [.int n] H1 → ta σ H1 Q') : tLc (iRng1 ta) (gName jx) tYes te vs σ H1 Q := by
  refine hl _ ⟨n, rfl, by omega, by omega, fun D hD => lc_range (lo := 0) (n := n.toNat) (Made H1 D cs) ⟨[], rfl, upd_same, fun j p h => by simp at h, same_upd hD⟩ (fun i H' hi m => ?_) (fun H' m => ?_)⟩
  · rw [Int.zero_add]
    have s : Same H1 H' := m.elim fun _ z => z.2.2.2
    refine ⟨hw _, iteT (B := Made H1 D cs (i + 1) H') ?_⟩
    exact he i H' (by omega) s _ fun p H2 n e h => made_more hD m (by omega) n e h
  · obtain ⟨ps, l, d, all, s⟩ := m
    exact q D ps H' hD s l d fun j p h => (all j p h).2
end L2


set_option Elab.async false
set_option linter.all false
set_option maxRecDepth 100000
set_option maxHeartbeats 4000000
/-! the program's own in, not in, len, ==, != of instances with a dict -/
namespace OwnOp
open PySem PySem.W PySem.Calls PyProof.Rows Builtin
section
variable {prog : Program} {w : World} {A : Around} {E : Value → Shared → Prop} {s : Shared} {K : Frag} {x C f : Addr} {ox : Obj} {od : Option Obj}
/-- x.name(b) asked as a comparison, its def at f -/
theorem ask_own {name : Str} {b : Value} {Q : Option Value → Shared → Prop} (KX : K.In s.heap) (I : InstAt s.heap x ox C od) (hs : findIn K (.ref C) name = some (some (.ref f))) (hf : isFn K (.ref f) = true)
    (h : wpAny (model prog w) A (call (.ref f) [.ref x, b]) (fun v s' => ∃ k, v = .bool k ∧ Q (some (.bool k)) s') E s) : wpAny (model prog w) A (tryCompare (.ref x) name b) Q E s := by
  unfold tryCompare
  refine wpAny_bind (ifBound_K KX I hs hf (wpAny_mono h (fun v s' hv => ?_) fun _ _ e => e))
  obtain ⟨k, rfl, hq⟩ := hv
  exact wpAny_pure hq
/-- a slot of object's, asked for on an instance -/
theorem ask_slot {name : Str} {id B : String} {args : List Value} {Q : Option Value → Shared → Prop} (KX : K.In s.heap) (I : InstAt s.heap x ox C od) (hs : findIn K (.ref C) name = some (some (.builtin id))) (S : Slot B name id)
    (h : wpAny (model prog w) A (call (.builtin id) (.ref x :: args)) (fun v => Q (some v)) E s) : wpAny (model prog w) A (callSpecialIfBound? (.ref x) name args) Q E s := by
  simp only [callSpecialIfBound?, bindSpecialIfBound?]
  refine wpAny_holding (wpAny_bind (wpAny_bind (wpAny_bind (I.type.here ((looks_findIn KX hs).here ?_)))))
  simp only [S.bind]
  refine wpAny_bind (wpAny_askSetting (wpAny_ite ?_))
  have last : wpAny (model prog w) A (call (.builtin id) ([.ref x] ++ args) >>= fun v => pure (some v)) Q E s := wpAny_bind (wpAny_mono h (fun v s' g => wpAny_pure g) fun _ _ g => g)
  split
  · exact wpAny_bind (wpAny_pure (wpAny_pure (by exact last)))
  · exact wpAny_tryCatch (wpAny_bind (wpAny_pure (wpAny_pure (by exact last))))
/-- x.__ne__(b), object's, where __eq__ is a def at f -/
theorem ask_ne {b : Value} {Q : Option Value → Shared → Prop} (hu : A.units + 1 < cLine) (KX : K.In s.heap) (I : InstAt s.heap x ox C od) (hn : findIn K (.ref C) "__ne__" = some (some (.builtin "object.__ne__")))
    (he : findIn K (.ref C) "__eq__" = some (some (.ref f))) (hf : isFn K (.ref f) = true) (ho : mroIn K C (.type "object") = some true)
    (h : wpAny (model prog w) A.in1 (call (.ref f) [.ref x, b]) (fun v s' => ∃ k, v = .bool k ∧ Q (some (.bool (!k))) s') E s) : wpAny (model prog w) A (tryCompare (.ref x) "__ne__" b) Q E s := by
  have hi : Looks (model prog w) s.heap (isInstance (.ref x) (.type "object")) true := I.type.andThen (looks_mroIn KX ho)
  unfold tryCompare
  refine wpAny_bind (ask_slot KX I hn F.cmp_object.ne (wpAny_call (codeAny_call_builtin F.cmp_object.ne.plain F.cmpEntry_ne (check_slot F.cmpKind_ne F.cmpSplit_ne hi (F.cmpArgs_ne _ _) ?_))))
  unfold Builtin.«object.__ne__»
  refine wpAny_bind (m := slotArgs "__ne__" 1 _) (wpAny_pure ?_)
  refine wpAny_bind (wpAny_cRoomFor hu ?_)
  refine wpAny_bind (m := callSpecialIfBound? (.ref x) (Str.ofString "__eq__") [b]) (ifBound_K KX I he hf (wpAny_mono h (fun v s' hv => ?_) fun _ _ e => e))
  obtain ⟨k, rfl, hq⟩ := hv
  refine wpAny_bind (m := truthy (.bool k)) (wpAny_truthy_bool ?_)
  exact wpAny_pure (wpAny_pure hq)
/-- x op y where x is asked first -/
theorem rich_own {op : CmpOp} {b tb : Value} {Q : Value → Shared → Prop} (hu : A.units < cLine) (KX : K.In s.heap) (I : InstAt s.heap x ox C od) (hb : Looks (model prog w) s.heap (typeOf b) tb) (hn : notFirst K C tb = true)
    (one : wpAny (model prog w) A (tryCompare (.ref x) (cmpInfo op).2.1 b) (fun r s' => ∃ v, r = some v ∧ Q v s') E s) : wpAny (model prog w) A (richCompare op (.ref x) b) Q E s := by
  have fin : ∀ (r : Option Value) (s' : Shared), (∃ v, r = some v ∧ Q v s') → ∃ v, r = some v ∧ Q v s' := fun _ _ z => z
  unfold richCompare
  simp only [oneThing_ref]
  refine wpAny_holding (wpAny_bind (wpAny_cRoomFor hu (wpAny_bind (I.type.here (wpAny_bind (hb.here ?_))))))
  split
  · rename_i q
    have e : subIn K tb (.ref C) = some false := by
      cases Bool.or_eq_true_iff.mp hn with
      | inl e => rw [beq_iff_eq.mp e] at q; simp at q
      | inr e => exact beq_iff_eq.mp e
    refine wpAny_bind ((looks_subIn KX e).here ?_)
    simp only [Bool.false_eq_true, if_false]
    refine wpAny_bind (wpAny_mono one (fun r s' z => ?_) fun _ _ e => e)
    obtain ⟨v, rfl, hq⟩ := fin r s' z
    exact wpAny_pure hq
  · refine wpAny_bind (wpAny_pure ?_)
    simp only [Bool.false_eq_true, if_false]
    refine wpAny_bind (wpAny_mono one (fun r s' z => ?_) fun _ _ e => e)
    obtain ⟨v, rfl, hq⟩ := fin r s' z
    exact wpAny_pure hq
/-- x op y where y is of a class below x's: y is asked first -/
theorem rich_back {op : CmpOp} {y C' : Addr} {oy : Obj} {dy : Option Obj} {Q : Value → Shared → Prop} (hu : A.units < cLine) (KX : K.In s.heap) (I : InstAt s.heap x ox C od) (J : InstAt s.heap y oy C' dy) (hne : C' ≠ C) (hs : subIn K (.ref C') (.ref C) = some true)
    (one : wpAny (model prog w) A (tryCompare (.ref y) (cmpInfo op).2.2 (.ref x)) (fun r s' => ∃ v, r = some v ∧ Q v s') E s) : wpAny (model prog w) A (richCompare op (.ref x) (.ref y)) Q E s := by
  have fin : ∀ (r : Option Value) (s' : Shared), (∃ v, r = some v ∧ Q v s') → ∃ v, r = some v ∧ Q v s' := fun _ _ z => z
  unfold richCompare
  simp only [oneThing_ref]
  refine wpAny_holding (wpAny_bind (wpAny_cRoomFor hu (wpAny_bind (I.type.here (wpAny_bind (J.type.here ?_))))))
  have ne : (Value.ref C != Value.ref C') = true := by simp; exact fun z => hne z.symm
  rw [if_pos ne]
  refine wpAny_bind ((looks_subIn KX hs).here ?_)
  simp only [if_true]
  refine wpAny_bind (wpAny_mono one (fun r s' z => ?_) fun _ _ e => e)
  obtain ⟨v, rfl, hq⟩ := fin r s' z
  exact wpAny_bind (wpAny_rule (wpAny_pure hq))
end
end OwnOp
namespace L2
open PySem PySem.Spec PyProof.Rows
section
variable {X : Cx} {CX : CXT} {k : Nat} {f C : Addr} {fd : FuncData} {ps : List Str} {sp : Sp} {E : XK}
/-- the callee runs one step of C deeper -/
theorem run_in {pins : List (Addr × Obj)} {σ : St} {H : Hp} {s : Shared} {Q : VK} {us : List Value} {vs : List V} (F : FnOk X.prog X.w X.K X.mg X.base CX k f fd ps sp) (hr : Room (k + 1) X.A) (hb : Binds X.K fd ps []) (hx : Passes CX X E)
    (I : Inv X pins σ H s) (r : Vals vs us) (h : sp vs H Q E) : wpAny (model X.prog X.w) X.A.in1 (call (.ref f) us) (EP X pins σ Q) X.xe s := by
  have nl : us.length = ps.length := by rw [← r.length]; exact F.len _ _ _ _ h
  have bb := hb s us I.kIn (by rw [List.append_nil]; exact nl)
  rw [List.append_nil] at bb
  refine wpAny_call (codeAny_mono (F.run X.A.in1 X.stack s H ⟨us, []⟩ us vs Q E hr.in1 I.env0.in1 bb r h) fun r s' hq => ?_)
  match r with
  | .error e => exact hx pins σ H s e s' I hq
  | .ok (.ret u) => exact I.after hq
  | .ok .next => exact hq.elim
  | .ok .brk => exact hq.elim
  | .ok .cont => exact hq.elim
/-- what a truth told by a callee becomes -/
abbrev BlK (Q : VK) (g : Bool → Bool) : VK := fun z H' => ∃ b, z = .bl b ∧ Q (.bl (g b)) H'
theorem blk_is {pins : List (Addr × Obj)} {σ : St} {Q : VK} {g : Bool → Bool} {u : Value} {s : Shared} (h : EP X pins σ (BlK Q g) u s) : ∃ b, u = .bool b ∧ EP X pins σ Q (.bool (g b)) s := by
  obtain ⟨z, H', I', rz, b, rfl, q⟩ := h
  exact ⟨b, rz, .bl (g b), H', I', rfl, q⟩
/-- x in y, x not in y: y an instance, its class's __contains__ at f -/
def rHas (K : PySem.W.Frag) (f : Addr) (sp : Sp) (E : XK) (g : Bool → Bool) : R2 := fun x y H Q => ∃ a C dx fs, y = .ref a ∧ H a = some (.ins C dx fs) ∧ Meth K C "__contains__" f ∧ sp [y, x] H (BlK Q g) E
theorem op_has (F : FnOk X.prog X.w X.K X.mg X.base CX k f fd ps sp) (hr : Room k X.A) (hb : Binds X.K fd ps []) (hx : Passes CX X E) : OpR X (compareOp .In) (rHas X.K f sp E id) := by
  intro pins s σ H x y v u Q I rx ry h
  obtain ⟨a, C, dx, fs, rfl, ha, M, q⟩ := h
  cases (show u = Value.ref a from ry)
  obtain ⟨mA, O, _⟩ := ins_get I.hok ha
  obtain ⟨od, J, _⟩ := O.look
  obtain ⟨m, hF⟩ := I.fr
  refine PySem.W.in_K hF I.ok.mod.kin J M.at_ M.fn (wpAny_mono (run_fn (us := [.ref a, v]) (vs := [.ref a, x]) F hr hb (ds := []) (dvs := []) .nil hx I (.cons rfl (.cons rx .nil)) q) (fun w s' z => ?_) fun _ _ e => e)
  obtain ⟨b, rfl, z2⟩ := blk_is z
  exact wpAny_truthy_bool z2
theorem op_hasNot (F : FnOk X.prog X.w X.K X.mg X.base CX k f fd ps sp) (hr : Room k X.A) (hb : Binds X.K fd ps []) (hx : Passes CX X E) : OpR X (compareOp .NotIn) (rHas X.K f sp E not) := by
  intro pins s σ H x y v u Q I rx ry h
  obtain ⟨a, C, dx, fs, rfl, ha, M, q⟩ := h
  cases (show u = Value.ref a from ry)
  obtain ⟨mA, O, _⟩ := ins_get I.hok ha
  obtain ⟨od, J, _⟩ := O.look
  obtain ⟨m, hF⟩ := I.fr
  refine PySem.W.notIn_K hF I.ok.mod.kin J M.at_ M.fn (wpAny_mono (run_fn (us := [.ref a, v]) (vs := [.ref a, x]) F hr hb (ds := []) (dvs := []) .nil hx I (.cons rfl (.cons rx .nil)) q) (fun w s' z => ?_) fun _ _ e => e)
  obtain ⟨b, rfl, z2⟩ := blk_is z
  exact wpAny_truthy_bool z2
/-- len(x) of an instance -/
def rLenI (K : PySem.W.Frag) (f : Addr) (sp : Sp) (E : XK) : List V → Hp → VK → Prop := fun xs H Q => ∃ a C dx fs, xs = [.ref a] ∧ H a = some (.ins C dx fs) ∧ Meth K C "__len__" f ∧ sp xs H (fun z H' => ∃ n : Nat, z = .int n ∧ n < 2 ^ 63 ∧ Q (.int n) H') E
theorem call_lenI (F : FnOk X.prog X.w X.K X.mg X.base CX k f fd ps sp) (hr : Room (k + 1) X.A) (hb : Binds X.K fd ps []) (hx : Passes CX X E) : CallR X (.builtin "len") (rLenI X.K f sp E) := by
  intro pins s σ H xs us Q I r h
  obtain ⟨a, C, dx, fs, rfl, ha, M, q⟩ := h
  obtain ⟨u, rfl, ru⟩ := r.one
  cases (show u = Value.ref a from ru)
  obtain ⟨mA, O, _⟩ := ins_get I.hok ha
  obtain ⟨od, J, _⟩ := O.look
  obtain ⟨m, hF⟩ := I.fr
  refine PySem.W.len_K hF I.ok.mod.kin J M.at_ M.fn (wpAny_mono (run_in (us := [.ref a]) (vs := [.ref a]) F hr hb hx I (.cons rfl .nil) q) (fun w s' z => ?_) fun _ _ e => e)
  obtain ⟨z', H', I', rz, n, rfl, hn, qz⟩ := z
  obtain ⟨t, e⟩ := (show ∃ t, w = Value.int n t from rz)
  subst e
  exact ⟨⟨by omega, by exact_mod_cast hn⟩, .int n, H', I'.tok _, ⟨_, rfl⟩, qz⟩
/-- a class whose == is a def at f, its != object's -/
structure CmpC (K : PySem.W.Frag) (C f : Addr) : Prop where
  eq : Meth K C "__eq__" f
  ne : PySem.W.findIn K (.ref C) "__ne__" = some (some (.builtin "object.__ne__"))
  ob : PySem.W.mroIn K C (.type "object") = some true
/-- x == y, x != y of instances -/
def rCmpI (K : PySem.W.Frag) (f : Addr) (sp : Sp) (E : XK) (g : Bool → Bool) : R2 := fun x y H Q => ∃ a C dx fs b C' dy gs, x = .ref a ∧ y = .ref b ∧ H a = some (.ins C dx fs) ∧ H b = some (.ins C' dy gs) ∧
  ((CmpC K C f ∧ PySem.W.notFirst K C (.ref C') = true ∧ sp [x, y] H (BlK Q g) E) ∨ (CmpC K C' f ∧ C' ≠ C ∧ PySem.W.subIn K (.ref C') (.ref C) = some true ∧ sp [y, x] H (BlK Q g) E))
theorem op_eqI (F : FnOk X.prog X.w X.K X.mg X.base CX k f fd ps sp) (hr : Room k X.A) (hb : Binds X.K fd ps []) (hx : Passes CX X E) : OpR X (compareOp .Eq) (rCmpI X.K f sp E id) := by
  intro pins s σ H x y v u Q I rx ry h
  obtain ⟨a, C, dx, fs, b, C', dy, gs, rfl, rfl, ha, hb', q⟩ := h
  cases (show v = Value.ref a from rx)
  cases (show u = Value.ref b from ry)
  obtain ⟨mA, O, _⟩ := ins_get I.hok ha
  obtain ⟨od, J, _⟩ := O.look
  obtain ⟨mB, O', _⟩ := ins_get I.hok hb'
  obtain ⟨od', J', _⟩ := O'.look
  show wpAny _ _ (richCompare .Eq _ _) _ _ _
  rcases q with ⟨c, hn, q⟩ | ⟨c, hne, hs, q⟩
  · refine OwnOp.rich_own (op := .Eq) hr.units0 I.kIn J J'.type hn (OwnOp.ask_own I.kIn J c.eq.at_ c.eq.fn (wpAny_mono (run_fn (us := [.ref a, .ref b]) (vs := [.ref a, .ref b]) F hr hb (ds := []) (dvs := []) .nil hx I (.cons rfl (.cons rfl .nil)) q) (fun w s' z => ?_) fun _ _ e => e))
    obtain ⟨t, rfl, z2⟩ := blk_is z
    exact ⟨t, rfl, _, rfl, z2⟩
  · refine OwnOp.rich_back (op := .Eq) hr.units0 I.kIn J J' hne hs (OwnOp.ask_own I.kIn J' c.eq.at_ c.eq.fn (wpAny_mono (run_fn (us := [.ref b, .ref a]) (vs := [.ref b, .ref a]) F hr hb (ds := []) (dvs := []) .nil hx I (.cons rfl (.cons rfl .nil)) q) (fun w s' z => ?_) fun _ _ e => e))
    obtain ⟨t, rfl, z2⟩ := blk_is z
    exact ⟨t, rfl, _, rfl, z2⟩
theorem op_neI (F : FnOk X.prog X.w X.K X.mg X.base CX k f fd ps sp) (hr : Room (k + 1) X.A) (hb : Binds X.K fd ps []) (hx : Passes CX X E) : OpR X (compareOp .NotEq) (rCmpI X.K f sp E not) := by
  intro pins s σ H x y v u Q I rx ry h
  obtain ⟨a, C, dx, fs, b, C', dy, gs, rfl, rfl, ha, hb', q⟩ := h
  cases (show v = Value.ref a from rx)
  cases (show u = Value.ref b from ry)
  obtain ⟨mA, O, _⟩ := ins_get I.hok ha
  obtain ⟨od, J, _⟩ := O.look
  obtain ⟨mB, O', _⟩ := ins_get I.hok hb'
  obtain ⟨od', J', _⟩ := O'.look
  have hu : X.A.units + 1 < cLine := hu_of hr
  show wpAny _ _ (richCompare .NotEq _ _) _ _ _
  rcases q with ⟨c, hn, q⟩ | ⟨c, hne, hs, q⟩
  · refine OwnOp.rich_own (op := .NotEq) hr.units0 I.kIn J J'.type hn (OwnOp.ask_ne hu I.kIn J c.ne c.eq.at_ c.eq.fn c.ob (wpAny_mono (run_in (us := [.ref a, .ref b]) (vs := [.ref a, .ref b]) F hr hb hx I (.cons rfl (.cons rfl .nil)) q) (fun w s' z => ?_) fun _ _ e => e))
    obtain ⟨t, rfl, z2⟩ := blk_is z
    exact ⟨t, rfl, _, rfl, z2⟩
  · refine OwnOp.rich_back (op := .NotEq) hr.units0 I.kIn J J' hne hs (OwnOp.ask_ne hu I.kIn J' c.ne c.eq.at_ c.eq.fn c.ob (wpAny_mono (run_in (us := [.ref b, .ref a]) (vs := [.ref b, .ref a]) F hr hb hx I (.cons rfl (.cons rfl .nil)) q) (fun w s' z => ?_) fun _ _ e => e))
    obtain ⟨t, rfl, z2⟩ := blk_is z
    exact ⟨t, rfl, _, rfl, z2⟩
end
end L2


set_option Elab.async false
set_option linter.all false
set_option maxRecDepth 100000
set_option maxHeartbeats 4000000
/-! C.m(self, ..): a def read off its class -/
namespace L2
open PySem PySem.Spec PyProof.Rows ClX
/-- C.m is the def at f -/
structure CFn (K : PySem.W.Frag) (C : Addr) (mc : Value) (m : Str) (f : Addr) : Prop where
  rd : CRead K C mc
  at_ : PySem.W.findCls K (.ref C) mc m = some (.val (.ref f))
  kp : PySem.W.keepIn K (.ref f) = true
def tCFn (C : Addr) (sp : Sp) (E : XK) (ta : TE) (t : TA) : TE := fun σ H Q => ta σ H fun x H1 => x = .ref C ∧ t σ H1 fun vs H2 => sp vs H2 Q E
section
variable {X : Cx} {CX : CXT} {k : Nat} {f C : Addr} {mc : Value} {fd : FuncData} {ps : List Str} {sp : Sp} {E : XK} {m : Str} {pos apos : Pos} {e o : Expr} {es : List Expr} {ta : TE} {t : TA}
theorem pe_clsfn {pl : Sem Bool} (he : PE X o ta) (c : CFn X.K C mc m f) (F : FnOk X.prog X.w X.K X.mg X.base CX k f fd ps sp) (hr : Room k X.A) (hb : Binds X.K fd ps []) (hx : Passes CX X E) (ha : PA X (e :: es) t)
    (hst : starEach (e :: es) X.env = (false, eval e X.env) :: starEach es X.env := by rfl) (hpl : (backTo pos (starEach es X.env)).any (·.1) = false := by rfl)
    (ht : eval (.Call (.Attribute o m apos) (e :: es) [] pos) X.env = (do
      let ov ← eval o X.env
      standAt apos.atName
      let (g, first) ← holding [ov] (getMethod ov m pl)
      callWith pos g first (backTo pos (starEach (e :: es) X.env)) (backToKw pos (keywordEach [] X.env))) := by rfl) :
    PE X (.Call (.Attribute o m apos) (e :: es) [] pos) (tCFn C sp E ta t) := by
  refine ⟨fun pins s σ H Q I h => PySem.W.methodCall_KW (pl := pl) (thn (he.run pins s σ H _ I h) fun u s1 hh => ?_) ht⟩
  obtain ⟨x, H1, I1, rx, ex, q⟩ := hh
  subst ex
  obtain rfl : u = Value.ref C := rx
  refine PySem.W.method_cls I1.kIn c.rd.ga (PySem.W.cls_value I1.kIn c.rd.rd c.at_ (handed_of (v := .ref f) (u := .ref f) rfl) ?_)
  refine PySem.W.callWith_K (first := []) (h₀ := X.base) I1.ok.mod.kin c.kp (thn (ha.run pos pins _ σ H1 _ (I1.tok _) q) fun us s2 hz => ?_) hst hpl
  obtain ⟨vs, H2, I2, r, q2⟩ := hz
  exact ⟨I2.kIn, run_fn F hr hb (ds := []) (dvs := []) .nil hx I2 r (by rw [List.append_nil]; exact q2)⟩
end
end L2


set_option Elab.async false
set_option linter.all false
set_option maxRecDepth 100000
set_option maxHeartbeats 4000000
/-! comprehensions over any walk -/
namespace L2
open PySem PySem.Spec PyProof.Rows
section
variable {J : It} {n : Nat} {G : Hp → Prop} {Y : Nat → Hp → V → Hp → Prop} {g : TG} {te tk tv : TE} {vs : List Nat} {σ : St} {H1 : Hp} {Q : VK}
theorem map_more {α : Type} (v : Nat → α) (i : Nat) : (List.range (i + 1)).map v = (List.range i).map v ++ [v i] := by rw [List.range_succ, List.map_append]; rfl
theorem same_mut {H H' : Hp} {D : Addr} {o : HO} (e : Same H H') (h : H D = none) : Same H (upd H' D o) := fun b u q => by rw [upd_ne (ne_of_none q h)]; exact e b u q
/-- [e for .. in ..] whose turns tell v i and leave what stands -/
theorem lc_walk (w : Walk J n G Y) (v : Nat → V) (hn : n ≤ 50000) (hG : ∀ H', Same H1 H' → G H') (hy : ∀ i H' x H2, Same H1 H' → Y i H' x H2 → Same H' H2)
    (hs : ∀ i x H' H2, i < n → Same H1 H' → Y i H' x H2 → ∀ R : VK, (∀ H4, Same H2 H4 → R (v i) H4) → g x (wipe σ vs) H2 fun σ2 H3 => wipe σ2 vs = wipe σ vs ∧ te σ2 H3 R)
    (hg : ∀ x H2 (N M : St → Hp → Prop), (∀ σ2 H3, N σ2 H3 → M σ2 H3) → g x (wipe σ vs) H2 N → g x (wipe σ vs) H2 M)
    (q : ∀ D H', H1 D = none → Same H1 H' → H' D = some (.lst ((List.range n).map v)) → Q (.ref D) H') :
    ∀ D, H1 D = none → ∃ W : Nat → Nat → Hp → Prop, (∃ m, W 0 m (upd H1 D (.lst []))) ∧ ∀ i m H, W i m H →
      ((J.stop i H ∧ Q (.ref D) H) ∨ (J.go i H ∧ ∃ Nx : Hp → Prop, (∀ H', Nx H' → ∃ m', m' < m ∧ W (i + 1) m' H') ∧ ∀ x H', J.yld i H x H' → g x (wipe σ vs) H' fun σ2 H2 => wipe σ2 vs = wipe σ vs ∧ tYes σ2 H2 fun b H3 =>
        if b = true then te σ2 H3 fun y H4 => ∃ acc, H4 D = some (.lst acc) ∧ acc.length < sizeLine ∧ Nx (upd H4 D (.lst (acc ++ [y]))) else Nx H3)) := fun D hD => by
  refine lc_it w (tt := tYes) (Pv := fun i H' => Same H1 H' ∧ H' D = some (.lst ((List.range i).map v))) ⟨same_upd hD, upd_same⟩ (fun i H' _ p => hG H' p.1) (fun i x H' H2 hi p y => ?_) (fun H' p => q D H' hD p.1 p.2)
  refine hg x H2 _ _ ?_ (hs i x H' H2 hi p.1 y (fun y' H4 => ∃ acc, H4 D = some (.lst acc) ∧ acc.length < sizeLine ∧ Same H1 (upd H4 D (.lst (acc ++ [y']))) ∧ (upd H4 D (.lst (acc ++ [y']))) D = some (.lst ((List.range (i + 1)).map v))) fun H4 e4 => ?_)
  · exact fun σ2 H3 z => ⟨z.1, by unfold tYes; dsimp only; rw [if_pos rfl]; exact z.2⟩
  refine ⟨_, e4 _ _ (hy i H' x H2 p.1 y _ _ p.2), by rw [List.length_map, List.length_range, sizeLine_eq]; omega, same_mut ((p.1.trans (hy i H' x H2 p.1 y)).trans e4) hD, ?_⟩
  rw [map_more]
  exact upd_same
/-- the same, of the whole comprehension -/
theorem lc_use {wi : TI} {H : Hp} (v : Nat → V) (hl : ∀ R : It → Hp → Prop, R J H1 → wi σ H R) (w : Walk J n G Y) (hn : n ≤ 50000) (hG : ∀ H', Same H1 H' → G H') (hy : ∀ i H' x H2, Same H1 H' → Y i H' x H2 → Same H' H2)
    (hs : ∀ i x H' H2, i < n → Same H1 H' → Y i H' x H2 → ∀ R : VK, (∀ H4, Same H2 H4 → R (v i) H4) → g x (wipe σ vs) H2 fun σ2 H3 => wipe σ2 vs = wipe σ vs ∧ te σ2 H3 R)
    (hg : ∀ x H2 (N M : St → Hp → Prop), (∀ σ2 H3, N σ2 H3 → M σ2 H3) → g x (wipe σ vs) H2 N → g x (wipe σ vs) H2 M)
    (q : ∀ D H', H1 D = none → Same H1 H' → H' D = some (.lst ((List.range n).map v)) → Q (.ref D) H') : tLc wi g tYes te vs σ H Q := hl _ (lc_walk w v hn hG hy hs hg q)
/-- {k: v for ..} whose turns tell k i and v i, the keys all unlike -/
theorem dc_walk (w : Walk J n G Y) (k : Nat → Key) (v : Nat → V) (hn : n ≤ 50000) (hk : ∀ i j, i < n → j < n → k i = k j → i = j) (hG : ∀ H', Same H1 H' → G H') (hy : ∀ i H' x H2, Same H1 H' → Y i H' x H2 → Same H' H2)
    (hs : ∀ i x H' H2, i < n → Same H1 H' → Y i H' x H2 → ∀ R : V → V → Hp → Prop, (∀ H4, Same H2 H4 → R (kV (k i)) (v i) H4) → g x (wipe σ vs) H2 fun σ2 H3 => wipe σ2 vs = wipe σ vs ∧ tk σ2 H3 fun y H4 => tv σ2 H4 fun z H5 => R y z H5)
    (hg : ∀ x H2 (N M : St → Hp → Prop), (∀ σ2 H3, N σ2 H3 → M σ2 H3) → g x (wipe σ vs) H2 N → g x (wipe σ vs) H2 M)
    (q : ∀ D H', H1 D = none → Same H1 H' → H' D = some (.dK ((List.range n).map fun i => (k i, v i))) → Q (.ref D) H') :
    ∀ D, H1 D = none → ∃ W : Nat → Nat → Hp → Prop, (∃ m, W 0 m (upd H1 D (.dK []))) ∧ ∀ i m H, W i m H →
      ((J.stop i H ∧ Q (.ref D) H) ∨ (J.go i H ∧ ∃ Nx : Hp → Prop, (∀ H', Nx H' → ∃ m', m' < m ∧ W (i + 1) m' H') ∧ ∀ x H', J.yld i H x H' → g x (wipe σ vs) H' fun σ2 H2 => wipe σ2 vs = wipe σ vs ∧ tYes σ2 H2 fun b H3 =>
        if b = true then tk σ2 H3 fun y H4 => tv σ2 H4 fun z H5 => ∃ kvs k, y = kV k ∧ H5 D = some (.dK kvs) ∧ kvs.length < sizeLine ∧ Nx (upd H5 D (.dK (putK kvs k z))) else Nx H3)) := fun D hD => by
  refine ⟨fun i m H' => m = n - i ∧ i ≤ n ∧ Same H1 H' ∧ H' D = some (.dK ((List.range i).map fun i => (k i, v i))), ⟨n, by simp, Nat.zero_le _, same_upd hD, upd_same⟩, ?_⟩
  rintro i m H' ⟨rfl, hi, s, d⟩
  by_cases hlt : i < n
  · refine .inr ⟨w.goes i H' hlt (hG H' s), fun H2 => Same H1 H2 ∧ H2 D = some (.dK ((List.range (i + 1)).map fun i => (k i, v i))), fun H2 p => ⟨n - (i + 1), by omega, rfl, hlt, p⟩, fun x H2 y => ?_⟩
    have y' := w.yields i H' x H2 hlt (hG H' s) y
    refine hg x H2 _ _ ?_ (hs i x H' H2 hlt s y' (fun y z H5 => ∃ kvs k', y = kV k' ∧ H5 D = some (.dK kvs) ∧ kvs.length < sizeLine ∧ Same H1 (upd H5 D (.dK (putK kvs k' z))) ∧ (upd H5 D (.dK (putK kvs k' z))) D = some (.dK ((List.range (i + 1)).map fun i => (k i, v i)))) fun H4 e4 => ?_)
    · exact fun σ2 H3 z => ⟨z.1, by unfold tYes; dsimp only; rw [if_pos rfl]; exact z.2⟩
    refine ⟨_, k i, rfl, e4 _ _ (hy i H' x H2 s y' _ _ d), by rw [List.length_map, List.length_range, sizeLine_eq]; omega, same_mut ((s.trans (hy i H' x H2 s y')).trans e4) hD, ?_⟩
    rw [upd_same, putK_new, map_more]
    unfold valV
    rw [List.find?_eq_none.mpr]
    · rfl
    · intro p hp
      obtain ⟨j, hj, rfl⟩ := List.mem_map.mp hp
      rw [List.mem_range] at hj
      simp only [decide_eq_true_eq]
      intro e
      have := hk j i (by omega) hlt e
      omega
  · have e : i = n := by omega
    subst e
    exact .inl ⟨w.stops H' (hG H' s), q D H' hD s d⟩
theorem dc_use {wi : TI} {H : Hp} (k : Nat → Key) (v : Nat → V) (hl : ∀ R : It → Hp → Prop, R J H1 → wi σ H R) (w : Walk J n G Y) (hn : n ≤ 50000) (hk : ∀ i j, i < n → j < n → k i = k j → i = j) (hG : ∀ H', Same H1 H' → G H') (hy : ∀ i H' x H2, Same H1 H' → Y i H' x H2 → Same H' H2)
    (hs : ∀ i x H' H2, i < n → Same H1 H' → Y i H' x H2 → ∀ R : V → V → Hp → Prop, (∀ H4, Same H2 H4 → R (kV (k i)) (v i) H4) → g x (wipe σ vs) H2 fun σ2 H3 => wipe σ2 vs = wipe σ vs ∧ tk σ2 H3 fun y H4 => tv σ2 H4 fun z H5 => R y z H5)
    (hg : ∀ x H2 (N M : St → Hp → Prop), (∀ σ2 H3, N σ2 H3 → M σ2 H3) → g x (wipe σ vs) H2 N → g x (wipe σ vs) H2 M)
    (q : ∀ D H', H1 D = none → Same H1 H' → H' D = some (.dK ((List.range n).map fun i => (k i, v i))) → Q (.ref D) H') : tDc wi g tYes tk tv vs σ H Q := hl _ (dc_walk w k v hn hk hG hy hs hg q)
end
theorem gn_mono {j : Nat} {x : V} {σ : St} {H2 : Hp} {N M : St → Hp → Prop} (h : ∀ σ2 H3, N σ2 H3 → M σ2 H3) (z : gName j x σ H2 N) : gName j x σ H2 M := h _ _ z
end L2


set_option Elab.async false
set_option linter.all false
set_option maxRecDepth 100000
set_option maxHeartbeats 4000000
namespace K14
open PySem PySem.Spec PyProof.Rows L2
def top (i : Nat) : Stmt := PySem.Challenge.pw_equalkin_k14_texts_that_tell_no_term.main.body.getD i (.Pass ⟨0, 0, 0, 0⟩)
abbrev sPick : Stmt := top 18
/-- the built-in names that the module leaves alone, its own numbers and texts -/
structure Blt (mg : Str → Option Value) : Prop where
  len : mg "len" = none
  int : mg "int" = none
  abs : mg "abs" = none
  range : mg "range" = none
  str : mg "str" = none
  list : mg "list" = none
  tuple : mg "tuple" = none
  isinstance : mg "isinstance" = none
  all : mg "all" = none
  set : mg "set" = none
  enumerate : mg "enumerate" = none
  sum : mg "sum" = none
  max : mg "max" = none
  min : mg "min" = none
  bool : mg "bool" = none
  c_LETTERS : ∃ u, mg "_LETTERS" = some u ∧ RelV (.str "abcdefghijklmnopqrstuvwxyz") u
  c_CHARACTERS : ∃ u, mg "_CHARACTERS" = some u ∧ RelV (.str "abcdefghijklmnopqrstuvwxyz0123456789") u
  c_LONGEST : ∃ u, mg "_LONGEST" = some u ∧ RelV (.int 12) u
section
variable {P : Program} {w : World} {K : PySem.W.Frag} {mg : Str → Option Value} {base : Heap}
/-- between two turns of the draws' while -/
def WPick (d L : Addr) (n : Int) (H : Hp) (j : Nat) (σ : L2.St) (H1 : Hp) : Prop := σ = [some (.ref d), some (.int n), some (.ref L), none, none, none] ∧ But d L H H1 ∧
  ∃ (cs : List Int) (l m t : Int), H1 d = some (.dK (srcD L l m t)) ∧ H1 L = some (.lst (cs.map V.int)) ∧ cs.length ≤ 63 ∧ j = cs.length
theorem scPick : FnScope ["source", "many", "cells", "left", "turn", "mixed"] ["source", "many"] (defScope sPick) := ⟨rfl, rfl, rfl, by decide +kernel, rfl, by decide +kernel, by decide +kernel⟩
theorem ok_pick {f : Addr} {fd : FuncData} (F : Fun K "_law_pick" "_law_pick" sPick f fd) (T : Blt mg) : FnOk P w K mg base CX0 1 f fd ["source", "many"] spPick := by
  refine F.ok scPick (fun vs H Q E h => ?_) (fun cdv A outer s H vs Q E hr h => ?_)
  · obtain ⟨d, L, n, rfl, _⟩ := h
    rfl
  · obtain ⟨d, L, n, rfl, S, hn, k⟩ := h
    have hu := hu_of hr
    refine ⟨_, pss_cons (ps_if (pt_cmpR op_lt (pv 1) pe_int (nomark _)) (pss_one (ps_ret pe_int)) pss_nil)
      (pss_cons (ps_set (i := 2) scPick.nd rfl (Or.inl rfl) (pe_dget hu (pv 0) pe_str (fun _ _ => rfl)))
      (pss_cons (ps_while PassesOwn.never (PW.pt (pw_and (pt_cmpR op_lt (pe_dget hu (pv 0) pe_str (fun _ _ => rfl)) pe_int (nomark _))
          (pw_and1 (pt_cmpR op_gt (pe_callB call_len_seq (by rfl) T.len PySem.boot_len (pa_cons (pv 2) pa_nil)) pe_int (nomark _)))))
        (pss_one (ps_dput hu (pv 0) pe_str (pe_bm0 PySem.F.plainAttrs_list PySem.F.slot_list_pop PySem.F.type_list_pop mt_pop (pv 2)) rfl)))
      (pss_cons (ps_set (i := 3) scPick.nd rfl (Or.inl rfl) (pe_dget hu (pv 0) pe_str (fun _ _ => rfl)))
      (pss_cons (ps_if (pt_cmpR op_gt (pv 3) pe_int (nomark _)) (pss_cons (ps_dput hu (pv 0) pe_str (pe_op op_fdiv (pv 3) (pv 1)) rfl)
          (pss_one (ps_ret (pe_op op_mod (pe_callTy call_int1 (by rfl) T.int (by decide +kernel) (pa_cons (pv 3) pa_nil)) (pv 1))))) pss_nil)
      (pss_cons (ps_dput hu (pv 0) pe_str (pe_op op_add (pe_dget hu (pv 0) pe_str (fun _ _ => rfl)) pe_int) rfl)
      (pss_cons (ps_set (i := 4) scPick.nd rfl (Or.inl rfl) (pe_dget hu (pv 0) pe_str (fun _ _ => rfl)))
      (pss_cons (ps_set (i := 5) scPick.nd rfl (Or.inl rfl) (pe_op op_mod (pe_callTy call_int1 (by rfl) T.int (by decide +kernel) (pa_cons (pe_op op_add (pe_dget hu (pv 0) pe_str (fun _ _ => rfl)) (pe_op op_mul (pv 4) pe_int)) pa_nil)) pe_int))
      (pss_cons (ps_set (i := 5) scPick.nd rfl (Or.inl rfl) (pe_op op_mod (pe_callTy call_int1 (by rfl) T.int (by decide +kernel) (pa_cons (pe_op op_add (pe_op op_mul (pv 5) (pv 5)) (pe_op op_mul (pv 4) pe_int)) pa_nil)) pe_int))
      (pss_cons (ps_if (pt_cmpR op_gt (pv 1) (pe_op op_pow pe_int pe_int) (nomark _)) (pss_one (ps_set (i := 5) scPick.nd rfl (Or.inl rfl) (pe_op op_pow (pe_callTy call_int1 (by rfl) T.int (by decide +kernel) (pa_cons (pe_op op_add (pe_op op_mul (pv 5) pe_int) (pv 4)) pa_nil)) pe_int))) pss_nil)
      (pss_one (ps_ret (pe_op op_mod (pe_callTy call_int1 (by rfl) T.int (by decide +kernel) (pa_cons (pe_op op_fdiv (pv 5) pe_int) pa_nil)) (pv 1))))))))))))), ?_⟩
    obtain ⟨cs, l, m, t, h1, h2, h3⟩ := S.ex
    have ndL := S.ne
    -- if many < 2
    refine ⟨_, rfl, _, _, rfl, rfl, _, rfl, ?_⟩
    refine ite2 (fun c => ?_) (fun c => ?_)
    · exact k 0 H (Int.le_refl 0) (.inr rfl) S But.refl
    have c2 : 2 ≤ n := by
      have c := of_decide_eq_false (Bool.eq_false_iff.mpr c)
      omega
    -- cells = source['cells']
    refine ⟨_, rfl, _, _, rfl, dg_cells h1, ?_⟩
    -- the while
    refine ⟨WPick d L n H, ⟨_, rfl, But.refl, cs, l, m, t, h1, h2, h3, rfl⟩, ?_⟩
    clear h1 h2 h3 S cs l m t
    rintro j σ H1 ⟨rfl, b1, cs, l, m, t, h1, h2, h3, rfl⟩
    refine ⟨_, rfl, _, _, rfl, dg_left h1, _, _, rfl, rfl, _, rfl, ?_⟩
    by_cases c : l < 2 ∧ 0 < cs.length
    · refine tT (decide_eq_true c.1) ⟨_, rfl, _, _, rfl, .inl (SqL.of h2), _, _, rfl, rfl, _, rfl, tT (decide_eq_true (by rw [List.length_map]; omega)) ?_⟩
      obtain ⟨z, hz⟩ : ∃ z, cs[cs.length - 1]? = some z := ⟨_, List.getElem?_eq_getElem (by omega)⟩
      refine ⟨WPick d L n H (cs.length - 1), fun σ' H' q => ⟨_, by omega, q⟩, ?_⟩
      refine ⟨_, rfl, .inl ⟨rfl, _, SqL.of h2⟩, L, _, .int z, rfl, rfl, h2, by rw [List.length_map, List.getElem?_map, hz]; rfl, _, rfl, d, _, rfl, dp_left (by rw [upd_ne ndL]; exact h1), ?_⟩
      refine ⟨rfl, (b1.upd_L).upd_d, cs.dropLast, z, m, t, upd_same, ?_, by rw [List.length_dropLast]; omega, by rw [List.length_dropLast]⟩
      rw [upd_ne ndL.symm, upd_same, List.map_dropLast]
    have c0 : decide (l < 2) = false ∨ decide (l < 2) = true ∧ cs.length = 0 := by
      by_cases c1 : l < 2
      · exact .inr ⟨decide_eq_true c1, by omega⟩
      · exact .inl (decide_eq_false c1)
    rcases c0 with c1 | ⟨c1, c2⟩
    all_goals first | refine tF c1 (iteF ?_) | refine tT c1 ⟨_, rfl, _, _, rfl, .inl (SqL.of h2), _, _, rfl, rfl, _, rfl, tF (decide_eq_false (by rw [List.length_map]; omega)) ?_⟩
    all_goals
      -- left = source['left']; if left > 1
      refine ⟨_, rfl, _, _, rfl, dg_left h1, ?_⟩
      refine ⟨_, rfl, _, _, rfl, rfl, _, rfl, ?_⟩
      by_cases c3 : 1 < l
      · refine tT (decide_eq_true c3) ?_
        refine ⟨_, rfl, _, rfl, l, n, rfl, rfl, ⟨by omega, by omega⟩, _, rfl, d, _, rfl, dp_left h1, ?_⟩
        refine ⟨_, rfl, .inl ⟨_, rfl, _, rfl, _, _, rfl, rfl, by omega, ?_⟩⟩
        refine k (l % n) _ (Int.emod_nonneg _ (by omega)) (.inl (Int.emod_lt_of_pos _ (by omega))) ⟨cs, l / n, m, t, upd_same, by rw [upd_ne ndL.symm]; exact h2, h3⟩ b1.upd_d
      · refine tF (decide_eq_false c3) ?_
        -- source['turn'] += 1; turn; mixed
        refine ⟨_, rfl, _, _, rfl, dg_turn h1, _, _, rfl, rfl, _, rfl, d, _, rfl, dp_turn h1, ?_⟩
        refine ⟨_, rfl, _, _, rfl, dg_turn upd_same, ?_⟩
        refine ⟨_, rfl, _, _, rfl, dg_mixed upd_same, _, rfl, t + 1, 104729, rfl, rfl, .inr (by decide), _, _, rfl, rfl, .inl ⟨_, rfl, _, _, rfl, rfl, (by show (0 : Int) < _; decide), ?_⟩⟩
        have m1 := Int.emod_lt_of_pos (m + (t + 1) * 104729) (show (0 : Int) < 998244353 by decide)
        have m0 := Int.emod_nonneg (m + (t + 1) * 104729) (show (998244353 : Int) ≠ 0 by decide)
        refine ⟨_, rfl, _, rfl, _, _, rfl, rfl, .inl (by constructor <;> omega), _, rfl, t + 1, 17, rfl, rfl, .inr (by decide), _, _, rfl, rfl, .inl ⟨_, rfl, _, _, rfl, rfl, (by show (0 : Int) < _; decide), ?_⟩⟩
        have e7 : ¬ ((10 : Int) ^ (7 : Int).toNat < n) := by
          have e : (10 : Int) ^ (7 : Int).toNat = 10000000 := by decide
          omega
        refine ⟨_, rfl, 10, 7, rfl, rfl, ⟨by decide, by decide, by decide⟩, _, _, rfl, rfl, _, rfl, tF (decide_eq_false e7) ?_⟩
        refine ⟨_, rfl, _, 16, rfl, rfl, ⟨by decide, by decide⟩, .inl ⟨_, rfl, _, rfl, _, n, rfl, rfl, by omega, ?_⟩⟩
        refine k _ _ (Int.emod_nonneg _ (by omega)) (.inl (Int.emod_lt_of_pos _ (by omega))) ⟨cs, l, m, t + 1, upd_same, by rw [upd_ne ndL.symm]; exact h2, h3⟩ b1.upd_d
end
end K14
set_option Elab.async false
set_option linter.all false
set_option maxRecDepth 100000
set_option maxHeartbeats 4000000
namespace K14
open PySem PySem.Spec PyProof.Rows L2 Evl
section
variable {P : Program} {w : World} {K : PySem.W.Frag} {mg : Str → Option Value} {base : Heap}
theorem int_of {ns : List Int} {i : Nat} {y : V} (hi : (ns.map V.int)[i]? = some y) : ∃ z, ns[i]? = some z ∧ y = V.int z := by
  rw [List.getElem?_map] at hi
  cases e : ns[i]? with
  | none => rw [e] at hi; cases hi
  | some z => rw [e] at hi; exact ⟨z, rfl, (Option.some.inj hi).symm⟩
abbrev s__law_source : Stmt := top 17
abbrev N__law_source : List Str := ["script", "mixed", "cell", "cells", "k"]
theorem sc__law_source : FnScope N__law_source ["script"] (defScope s__law_source) := ⟨rfl, rfl, rfl, by decide +kernel, rfl, by decide +kernel, by decide +kernel⟩
theorem ok_source {f : Addr} {fd : FuncData} (F : Fun K "_law_source" "_law_source" s__law_source f fd) (T : Blt mg) : FnOk P w K mg base CX0 1 f fd ["script"] (spSource K) := by
  refine F.ok sc__law_source (fun vs H Q E h => ?_) (fun cdv A outer s H vs Q E hr h => ?_)
  · obtain ⟨a, ns, rfl, _⟩ := h
    rfl
  · obtain ⟨a, ns, rfl, hS, hlen, k⟩ := h
    have hu := hu_of hr
    refine ⟨_, (pss_cons (ps_set (i := 1) sc__law_source.nd rfl (Or.inl rfl) (pe_int))
      (pss_cons (ps_for PassesOwn.never rfl (pi_list (pv 0)) (pg_name (i := 2) sc__law_source.nd rfl (Or.inl rfl)) (pss_one (ps_set (i := 1) sc__law_source.nd rfl (Or.inl rfl) (pe_op op_mod (pe_callTy call_int1 (by rfl) T.int (by decide +kernel) (pa_cons (pe_op op_add (pe_op op_add (pe_op op_mul (pv 1) (pe_int)) (pe_op op_mul (pv 2) (pe_int))) (pe_int)) pa_nil)) (pe_int)))))
      (pss_cons (ps_set (i := 3) sc__law_source.nd rfl (Or.inr rfl) (pe_lc (own := [("cell", 2)]) (g := gName 2) (by rfl) sc__law_source.nd (pi_list (pv 0)) (blkOk_by (own := [("cell", 2)]) (N := N__law_source) (sc := defScope s__law_source) (by decide +kernel)) (fun _ _ _ _ _ => pg_name (i := 2) sc__law_source.nd rfl (Or.inl rfl)) (fun _ _ _ _ _ => pts_nil) (fun _ _ _ _ _ => pe_callB call_abs (by rfl) T.abs (by decide +kernel) (pa_cons (pv 2) pa_nil))))
      (pss_one (ps_ret (pe_disp (pps_cons (pe_str) (pe_lc (own := [("k", 4)]) (g := gName 4) (by rfl) sc__law_source.nd (pi_range1 (by rfl) T.range (pa_cons (pe_callB (call_lenK K) (by rfl) T.len (by decide +kernel) (pa_cons (pv 3) pa_nil)) pa_nil)) (blkOk_by (own := [("k", 4)]) (N := N__law_source) (sc := defScope s__law_source) (by decide +kernel)) (fun _ _ _ _ _ => pg_name (i := 4) sc__law_source.nd rfl (Or.inl rfl)) (fun _ _ _ _ _ => pts_nil) (fun _ _ _ _ _ => pe_ix (ix_listK K) (pv 3) (pe_op op_sub (pe_op op_sub (pe_callB (call_lenK K) (by rfl) T.len (by decide +kernel) (pa_cons (pv 3) pa_nil)) (pe_int)) (pv 4)) (fun _ _ => rfl))) (pps_cons (pe_str) (pe_int) (pps_cons (pe_str) (pv 1) (pps_cons (pe_str) (pe_int) pps_nil)))) (by rfl) (by rfl) (fun z => by cases z) (by decide))))))), ?_⟩
    refine ⟨_, rfl, a, rfl, ⟨_, hS⟩, for_list (K := K) (a := a) (xs := ns.map V.int) (fun i σ H1 => ∃ (m : Int) (v : Option V), σ = [some (.ref a), some (.int m), v, none, none] ∧ H1 = H) ⟨11, none, rfl, rfl⟩ (fun i σ H1 _ ⟨_, _, _, e⟩ => by rw [e]; exact hS) ?_ ?_⟩
    · rintro i y σ H1 hi ⟨m, v, rfl, rfl⟩
      obtain ⟨z, _, rfl⟩ := int_of hi
      refine ⟨_, rfl, _, _, rfl, rfl, .inr (by decide), _, rfl, _, _, rfl, rfl, .inr (by decide), _, _, rfl, rfl, _, _, rfl, rfl, .inl ⟨_, rfl, _, _, rfl, rfl, (by show (0 : Int) < _; decide), ?_⟩⟩
      exact ⟨_, _, rfl, rfl⟩
    · rintro σ H1 ⟨m, v, rfl, rfl⟩
      have hl : (ns.map V.int).length = ns.length := List.length_map _
      -- cells = [abs(cell) for cell in script]
      have len0 : (ns.map V.int).length = ns.length := List.length_map _
      dsimp only
      refine q_asgL (xs := given (ns.map V.int).length (fun _ => true) (fun i => .int (if ns.getD i 0 < 0 then - ns.getD i 0 else ns.getD i 0))) (by
        refine el_lcL (K := K) (xs := ns.map V.int) (a := a) (fun _ => true) _ (ev_var rfl) hS (by omega) (fun _ => rfl) (fun i x H2 e2 hi => ?_) (fun i x H2 e2 hi _ => ?_)
        · exact et_yes
        · obtain ⟨z, hz, rfl⟩ := int_of hi
          rw [List.getD_eq_getElem?_getD, hz]
          exact fun H3 e3 Q3 q3 => ⟨_, rfl, z, rfl, q3 H3 (Ex.refl H3)⟩) (fun L H2 hL e2 h2 => ?_)
      rw [given_all, hl] at h2
      -- the dict
      intro d hd
      have nLd : L ≠ d := ne_of_none h2 hd
      have ex3 : Ex H2 (upd H2 d (.dK [])) := Ex.new hd
      have h3 : (upd H2 d (.dK [])) L = some (.lst ((List.range ns.length).map fun i => .int (if ns.getD i 0 < 0 then - ns.getD i 0 else ns.getD i 0))) := by rw [upd_ne nLd]; exact h2
      simp only [tPairs, tC, List.map_cons, List.map_nil]
      refine use_lc (xs := given ns.length (fun _ => true) (fun i => .int (if ns.getD (ns.length - 1 - i) 0 < 0 then - ns.getD (ns.length - 1 - i) 0 else ns.getD (ns.length - 1 - i) 0))) ?_ ?_
      · have lenE : ((List.range ns.length).map fun i => (V.int (if ns.getD i 0 < 0 then - ns.getD i 0 else ns.getD i 0))).length = ns.length := by rw [List.length_map, List.length_range]
        have eq : (ns.length : Int).toNat = ns.length := Int.toNat_natCast _
        rw [← eq]
        refine el_lcR1 (n := (ns.length : Int)) (fun _ => true) _ ?_ (by omega) (fun _ => rfl) (fun i H4 e4 hi => et_yes) (fun i H4 e4 hi _ => ?_)
        · have q := ev_len (K := K) (ta := tVar 3) (σ := [some (.ref a), some (.int m), v, some (.ref L), none]) (ev_var rfl) (sq_of h3)
          rw [lenE] at q
          exact ea_cons q ea_nil
        · have h4 := e4 L _ h3
          have q := ev_len (K := K) (ta := tVar 3) (σ := [some (.ref a), some (.int m), v, some (.ref L), some (.int (i : Int))]) (ev_var rfl) (sq_of h4)
          rw [lenE] at q
          refine ev_op (ev_var rfl) (ev_op (ev_op q ev_c rv_I0) (ev_var rfl) rv_I0) (rv_ixL (sq_of h4) ?_)
          have ei : ((ns.length : Int) - 1 - (i : Int)) = ((ns.length - 1 - i : Nat) : Int) := by omega
          rw [ei]
          refine atI_nat ?_
          rw [List.getElem?_map, List.getElem?_range (by omega)]
          rfl
      · intro R H4 hR e4 h4
        rw [given_all] at h4
        have hd4 : H4 d = some (.dK []) := e4 _ _ upd_same
        refine ⟨_, rfl, hd4, srcD R 1 m 0, rfl, (by show 4 ≤ 15; decide), ?_⟩
        rw [merge_src]
        have nRd : d ≠ R := ne_of_none upd_same hR
        refine k d R _ (fresh_back e2 hd) (fresh_back e2 (fresh_back ex3 hR)) ?_ ?_
        · refine ⟨(List.range ns.length).map fun i => (if ns.getD (ns.length - 1 - i) 0 < 0 then - ns.getD (ns.length - 1 - i) 0 else ns.getD (ns.length - 1 - i) 0), 1, m, 0, upd_same, ?_, by rw [List.length_map, List.length_range]; exact hlen⟩
          rw [upd_ne nRd.symm, h4, List.map_map]
          rfl
        · exact fun b o q => by
            rw [upd_ne (ne_of_none (e2 _ _ q) hd)]
            exact e4 _ _ (ex3 _ _ (e2 _ _ q))
end
end K14


set_option Elab.async false
set_option linter.all false
set_option maxRecDepth 100000
set_option maxHeartbeats 4000000
namespace K14
open PySem PySem.Spec PyProof.Rows L2 Evl
theorem if_true_of {b : Bool} {A B : Prop} (h : b = true) (q : A) : if b = true then A else B := by rw [if_pos h]; exact q
theorem if_false_of {b : Bool} {A B : Prop} (h : b = false) (q : B) : if b = true then A else B := by rw [if_neg (by rw [h]; decide)]; exact q
def abc : Str := "abcdefghijklmnopqrstuvwxyz"
def abc9 : Str := "abcdefghijklmnopqrstuvwxyz0123456789"
/-- plain: one to twelve small letters and digits -/
def plainB (x : Str) : Bool := decide (1 ≤ x.length) && decide (x.length ≤ 12) && ((List.range x.cps.size).map fun i => decide (x.cps.getD i 0 ∈ abc9.cps.toList)).all id
def wordB (x : Str) : Bool := plainB x && decide (x.cps.getD 0 0 ∈ abc.cps.toList)
section
variable {P : Program} {w : World} {K : PySem.W.Frag} {mg : Str → Option Value} {base : Heap}
/-- a truth about a text -/
def spText (g : Str → Bool) : Sp := fun vs H Q _ => ∃ x : Str, vs = [.str x] ∧ x.length ≤ 1000 ∧ ∀ H', Same H H' → Q (.bl (g x)) H'
abbrev s_is_plain : Stmt := top 7
abbrev N_is_plain : List Str := ["thing", "character"]
theorem sc_is_plain : FnScope N_is_plain ["thing"] (defScope s_is_plain) := ⟨rfl, rfl, rfl, by decide +kernel, rfl, by decide +kernel, by decide +kernel⟩
theorem ok_is_plain {f : Addr} {fd : FuncData} (F : Fun K "is_plain" "is_plain" s_is_plain f fd) (T : Blt mg) : FnOk P w K mg base CX0 1 f fd ["thing"] (spText plainB) := by
  refine F.ok sc_is_plain (fun vs H Q E h => ?_) (fun cdv A outer s H vs Q E hr h => ?_)
  · obtain ⟨x, rfl, _⟩ := h
    rfl
  · obtain ⟨x, rfl, hx, k⟩ := h
    have hu := hu_of hr
    refine ⟨_, (pss_cons (ps_if (PW.pt (pw_or (pt_not (pt_val (pe_callB (call_isiK' K) (by rfl) T.isinstance (by decide +kernel) (pa_cons (pv 0) (pa_cons (pe_bty (n := "str") (by rfl) T.str (by decide +kernel)) pa_nil))))) (pw_or1 (pt_not (pt_chain op_le op_le (pe_int) (pe_callB call_len_str (by rfl) T.len (by decide +kernel) (pa_cons (pv 0) pa_nil)) (C8.pe_gc rfl T.c_LONGEST)))))) (pss_one (ps_ret (pe_bl))) pss_nil)
      (pss_one (ps_ret (pe_callB (cr_allK K rfl) (by rfl) T.all (by decide +kernel) (pa_cons (pe_lc (own := [("character", 1)]) (g := gName 1) (by rfl) sc_is_plain.nd (pi_str (pv 0)) (blkOk_by (own := [("character", 1)]) (N := N_is_plain) (sc := defScope s_is_plain) (by decide +kernel)) (fun _ _ _ _ _ => pg_name (i := 1) sc_is_plain.nd rfl (Or.inl rfl)) (fun _ _ _ _ _ => pts_nil) (fun _ _ _ _ _ => pe_cmpR op_in_sign (pv 1) (C8.pe_gc rfl T.c_CHARACTERS) rfl)) pa_nil))))), ?_⟩
    refine ⟨_, rfl, .str x, _, _, _, true, rfl, ClsV.ty _, .base (.str x), kit_ty (by decide +kernel), true, rfl, iteF ⟨_, rfl, x, rfl, by rw [sizeLine_eq]; omega, 1, _, rfl, rfl, ?_⟩⟩
    have no : plainB x = false → Q (.bl false) H := fun e => by
      have z := k H (Same.refl H)
      rw [e] at z
      exact z
    refine ⟨_, rfl, ?_⟩
    by_cases c1 : (1 : Int) ≤ (x.length : Int)
    · refine if_true_of (decide_eq_true c1) ⟨_, _, rfl, rfl, _, rfl, ?_⟩
      by_cases c2 : (x.length : Int) ≤ 12
      · refine if_false_of (by rw [decide_eq_true c2]; rfl) ?_
        have hs : x.cps.size = x.length := rfl
        unfold tNext tRet tCB tCons
        dsimp only
        refine lc_use (J := Its x) (H1 := H) (g := gName 1) (fun i => .bl (decide (x.cps.getD i 0 ∈ abc9.cps.toList))) (fun R r => ⟨_, rfl, x, rfl, r⟩) walk_str (by omega) (fun _ _ => trivial) (fun i H' y H2 _ z => z.1 ▸ Same.refl _) (fun i y H' H2 hi e z R q => ?_) (fun _ _ _ _ h z => gn_mono h z) (fun D H' hD e hd => ?_)
        · obtain ⟨rfl, c, hc, rfl⟩ := z
          have ec : x.cps.getD i 0 = c := by rw [Array.getD_eq_getD_getElem?, hc]; rfl
          refine gN ⟨rfl, _, rfl, c, _, rfl, rfl, ?_⟩
          have z := q H2 (Same.refl _)
          rw [ec] at z
          exact z
        · refine ⟨D, (List.range x.cps.size).map fun i => decide (x.cps.getD i 0 ∈ abc9.cps.toList), rfl, SqL.of (by rw [List.map_map]; exact hd), ?_⟩
          have z := k H' e
          unfold plainB at z
          rw [decide_eq_true (show 1 ≤ x.length by omega), decide_eq_true (show x.length ≤ 12 by omega)] at z
          exact z
      · refine if_true_of (by rw [decide_eq_false c2]; rfl) (no ?_)
        unfold plainB
        rw [decide_eq_false (show ¬ x.length ≤ 12 by omega), Bool.and_false, Bool.false_and]
    · refine if_false_of (decide_eq_false c1) ⟨false, rfl, if_true_of rfl (no ?_)⟩
      unfold plainB
      rw [decide_eq_false (show ¬ 1 ≤ x.length by omega), Bool.false_and, Bool.false_and]
abbrev s_is_word : Stmt := top 8
abbrev N_is_word : List Str := ["thing"]
theorem sc_is_word : FnScope N_is_word ["thing"] (defScope s_is_word) := ⟨rfl, rfl, rfl, by decide +kernel, rfl, by decide +kernel, by decide +kernel⟩
theorem ok_is_word {f : Addr} {fd : FuncData} (F : Fun K "is_word" "is_word" s_is_word f fd) (T : Blt mg) (c_is_plain : Cal P w K mg base 1 "is_plain" ["thing"] (spText plainB)) : FnOk P w K mg base CX0 2 f fd ["thing"] (spText wordB) := by
  refine F.ok sc_is_word (fun vs H Q E h => ?_) (fun cdv A outer s H vs Q E hr h => ?_)
  · obtain ⟨x, rfl, _⟩ := h
    rfl
  · obtain ⟨x, rfl, hx, k⟩ := h
    refine ⟨_, (pss_one (ps_ret (pe_and (pe_cal c_is_plain (hr.mono (by decide)) (by rfl) (pa_cons (pv 0) pa_nil)) (pe_one (pe_cmpR op_in_sign (pe_item_str (pv 0) (pe_int) (fun _ _ => rfl)) (C8.pe_gc rfl T.c_LETTERS) rfl))))), ?_⟩
    refine ⟨_, rfl, x, rfl, hx, fun H1 e1 => ⟨plainB x, rfl, ?_⟩⟩
    have z := k H1 e1
    unfold wordB at z
    cases hp : plainB x with
    | false =>
      rw [hp] at z
      exact if_false_of rfl z
    | true =>
      rw [hp] at z
      refine if_true_of rfl ?_
      have h1 : 1 ≤ x.length := by
        unfold plainB at hp
        rw [Bool.and_eq_true, Bool.and_eq_true] at hp
        exact of_decide_eq_true hp.1.1
      have hc : x.cps[0]? = some (x.cps.getD 0 0) := by
        have l : 0 < x.cps.size := h1
        rw [Array.getElem?_eq_getElem l, Array.getD_eq_getD_getElem?, Array.getElem?_eq_getElem l]
        rfl
      exact ⟨_, rfl, x, 0, x.cps.getD 0 0, rfl, rfl, by decide, by decide, by show (0 : Int) < x.length; omega, hc, _, _, rfl, rfl, z⟩
end
end K14


set_option Elab.async false
set_option linter.all false
set_option maxRecDepth 100000
set_option maxHeartbeats 4000000
/-! comprehensions over any walk whose items, or values, are new objects -/
namespace L2
open PySem PySem.Spec PyProof.Rows
section
variable {J : It} {n : Nat} {G : Hp → Prop} {Y : Nat → Hp → V → Hp → Prop} {g : TG} {te tk tv : TE} {vs : List Nat} {σ : St} {H1 : Hp} {Q : VK} {D : Addr}
/-- the new objects so far, all but D -/
structure News (H1 : Hp) (D : Addr) (ob : Nat → HO) (i : Nat) (ps : List Addr) (H' : Hp) : Prop where
  len : ps.length = i
  at_ : ∀ (j : Nat) p, ps[j]? = some p → p ≠ D ∧ H1 p = none ∧ H' p = some (ob j)
  same : Same H1 H'
theorem News.more {ob : Nat → HO} {i : Nat} {ps : List Addr} {H' H2 : Hp} {p : Addr} {o o' : HO} (m : News H1 D ob i ps H') (hD : H1 D = none) (d : H' D = some o') (e : Same H' H2) (np : H' p = none) (hp : H2 p = some (ob i)) : News H1 D ob (i + 1) (ps ++ [p]) (upd H2 D o) := by
  have npD : p ≠ D := fun z => by rw [z, d] at np; cases np
  have n1 : H1 p = none := m.same.free np
  refine ⟨by rw [List.length_append, m.len]; rfl, fun j q hq => ?_, same_mut (m.same.trans e) hD⟩
  by_cases c : j < ps.length
  · rw [List.getElem?_append_left c] at hq
    obtain ⟨z1, z2, z3⟩ := m.at_ j q hq
    exact ⟨z1, z2, by rw [upd_ne z1]; exact e _ _ z3⟩
  · rw [List.getElem?_append_right (by omega)] at hq
    have j0 : j = i := by
      by_cases c2 : j - ps.length = 0
      · have := m.len
        omega
      · have : ([p] : List Addr)[j - ps.length]? = none := List.getElem?_eq_none (by show 1 ≤ _; omega)
        rw [this] at hq
        cases hq
    subst j0
    rw [m.len, Nat.sub_self] at hq
    obtain rfl : p = q := Option.some.inj hq
    exact ⟨npD, n1, by rw [upd_ne npD]; exact hp⟩
theorem lc_new {wi : TI} {H : Hp} (ob : Nat → HO) (hl : ∀ R : It → Hp → Prop, R J H1 → wi σ H R) (w : Walk J n G Y) (hn : n ≤ 50000) (hG : ∀ H', Same H1 H' → G H') (hy : ∀ i H' x H2, Same H1 H' → Y i H' x H2 → Same H' H2)
    (hs : ∀ i x H' H2, i < n → Same H1 H' → Y i H' x H2 → ∀ R : VK, (∀ p H5, H2 p = none → Same H2 H5 → H5 p = some (ob i) → R (.ref p) H5) → g x (wipe σ vs) H2 fun σ2 H3 => wipe σ2 vs = wipe σ vs ∧ te σ2 H3 R)
    (hg : ∀ x H2 (N M : St → Hp → Prop), (∀ σ2 H3, N σ2 H3 → M σ2 H3) → g x (wipe σ vs) H2 N → g x (wipe σ vs) H2 M)
    (q : ∀ D H' (ps : List Addr), H1 D = none → Same H1 H' → ps.length = n → H' D = some (.lst (ps.map V.ref)) → (∀ (j : Nat) p, ps[j]? = some p → H1 p = none ∧ H' p = some (ob j)) → Q (.ref D) H') : tLc wi g tYes te vs σ H Q := hl _ fun D hD => by
  refine lc_it w (tt := tYes) (Pv := fun i H' => ∃ ps, News H1 D ob i ps H' ∧ H' D = some (.lst (ps.map V.ref))) ⟨[], ⟨rfl, fun j p h => by simp at h, same_upd hD⟩, upd_same⟩ (fun i H' _ p => p.elim fun _ z => hG H' z.1.same) (fun i x H' H2 hi p y => ?_) (fun H' p => ?_)
  · obtain ⟨ps, m, d⟩ := p
    have e2 := hy i H' x H2 m.same y
    refine hg x H2 _ _ ?_ (hs i x H' H2 hi m.same y (fun y' H4 => ∃ acc, H4 D = some (.lst acc) ∧ acc.length < sizeLine ∧ ∃ ps, News H1 D ob (i + 1) ps (upd H4 D (.lst (acc ++ [y']))) ∧ (upd H4 D (.lst (acc ++ [y']))) D = some (.lst (ps.map V.ref))) fun p H5 np e5 hp => ?_)
    · exact fun σ2 H3 z => ⟨z.1, by unfold tYes; dsimp only; rw [if_pos rfl]; exact z.2⟩
    have np' : H' p = none := e2.free np
    refine ⟨_, e5 _ _ (e2 _ _ d), by rw [List.length_map, m.len, sizeLine_eq]; omega, ps ++ [p], m.more hD d (e2.trans e5) np' hp, ?_⟩
    rw [List.map_append]
    exact upd_same
  · obtain ⟨ps, m, d⟩ := p
    exact q D H' ps hD m.same m.len d fun j p h => (m.at_ j p h).2
theorem dc_new {wi : TI} {H : Hp} (k : Nat → Key) (ob : Nat → HO) (hl : ∀ R : It → Hp → Prop, R J H1 → wi σ H R) (w : Walk J n G Y) (hn : n ≤ 50000) (hk : ∀ i j, i < n → j < n → k i = k j → i = j) (hG : ∀ H', Same H1 H' → G H') (hy : ∀ i H' x H2, Same H1 H' → Y i H' x H2 → Same H' H2)
    (hs : ∀ i x H' H2, i < n → Same H1 H' → Y i H' x H2 → ∀ R : V → V → Hp → Prop, (∀ p H5, H2 p = none → Same H2 H5 → H5 p = some (ob i) → R (kV (k i)) (.ref p) H5) → g x (wipe σ vs) H2 fun σ2 H3 => wipe σ2 vs = wipe σ vs ∧ tk σ2 H3 fun y H4 => tv σ2 H4 fun z H5 => R y z H5)
    (hg : ∀ x H2 (N M : St → Hp → Prop), (∀ σ2 H3, N σ2 H3 → M σ2 H3) → g x (wipe σ vs) H2 N → g x (wipe σ vs) H2 M)
    (q : ∀ D H' (ps : List Addr), H1 D = none → Same H1 H' → ps.length = n → H' D = some (.dK ((List.range n).map fun i => (k i, V.ref (ps.getD i 0)))) → (∀ (j : Nat) p, ps[j]? = some p → H1 p = none ∧ H' p = some (ob j)) → Q (.ref D) H') : tDc wi g tYes tk tv vs σ H Q := hl _ fun D hD => by
  refine ⟨fun i m H' => m = n - i ∧ i ≤ n ∧ ∃ ps, News H1 D ob i ps H' ∧ H' D = some (.dK ((List.range i).map fun i => (k i, V.ref (ps.getD i 0)))), ⟨n, by simp, Nat.zero_le _, [], ⟨rfl, fun j p h => by simp at h, same_upd hD⟩, upd_same⟩, ?_⟩
  rintro i m H' ⟨rfl, hi, ps, m, d⟩
  by_cases hlt : i < n
  · refine .inr ⟨w.goes i H' hlt (hG H' m.same), fun H2 => ∃ ps, News H1 D ob (i + 1) ps H2 ∧ H2 D = some (.dK ((List.range (i + 1)).map fun i => (k i, V.ref (ps.getD i 0)))), fun H2 p => ⟨n - (i + 1), by omega, rfl, hlt, p⟩, fun x H2 y => ?_⟩
    have y' := w.yields i H' x H2 hlt (hG H' m.same) y
    have e2 := hy i H' x H2 m.same y'
    refine hg x H2 _ _ ?_ (hs i x H' H2 hlt m.same y' (fun y z H5 => ∃ kvs k', y = kV k' ∧ H5 D = some (.dK kvs) ∧ kvs.length < sizeLine ∧ ∃ ps, News H1 D ob (i + 1) ps (upd H5 D (.dK (putK kvs k' z))) ∧ (upd H5 D (.dK (putK kvs k' z))) D = some (.dK ((List.range (i + 1)).map fun i => (k i, V.ref (ps.getD i 0))))) fun p H5 np e5 hp => ?_)
    · exact fun σ2 H3 z => ⟨z.1, by unfold tYes; dsimp only; rw [if_pos rfl]; exact z.2⟩
    have np' : H' p = none := e2.free np
    refine ⟨_, k i, rfl, e5 _ _ (e2 _ _ d), by rw [List.length_map, List.length_range, sizeLine_eq]; omega, ps ++ [p], m.more hD d (e2.trans e5) np' hp, ?_⟩
    rw [upd_same, putK_new, map_more]
    · have old : ((List.range i).map fun j => (k j, V.ref ((ps ++ [p]).getD j 0))) = (List.range i).map fun j => (k j, V.ref (ps.getD j 0)) := by
        refine List.map_congr_left fun j hj => ?_
        rw [List.mem_range] at hj
        rw [List.getD_eq_getElem?_getD, List.getD_eq_getElem?_getD, List.getElem?_append_left (by rw [m.len]; exact hj)]
      have new : (ps ++ [p]).getD i 0 = p := by
        rw [List.getD_eq_getElem?_getD, List.getElem?_append_right (by rw [m.len]; exact Nat.le_refl _), m.len, Nat.sub_self]
        rfl
      rw [old, new]
    · unfold valV
      rw [List.find?_eq_none.mpr]
      · rfl
      · intro z hz
        obtain ⟨j, hj, rfl⟩ := List.mem_map.mp hz
        rw [List.mem_range] at hj
        simp only [decide_eq_true_eq]
        intro e
        have := hk j i (by omega) hlt e
        omega
  · have e : i = n := by omega
    subst e
    exact .inl ⟨w.stops H' (hG H' m.same), q D H' ps hD m.same m.len d fun j p h => (m.at_ j p h).2⟩
end
end L2


set_option Elab.async false
set_option linter.all false
set_option maxRecDepth 100000
set_option maxHeartbeats 4000000
/-! set(xs), xs a list or tuple of unlike keys -/
namespace OwnSet
open PySem PySem.Spec PyProof.Rows
section
variable {Kt : Type} [DecidableEq Kt] {prog : Program} {w : World} {A : Around} {R : Result → Shared → Prop} {I : Addr} {fp wr : List Addr} {G : Array GenState → Array GenState → Prop} {n : Nat} {P : Nat → Value → Prop} {St : Nat → Shared → Prop}
theorem setOf_of {knd : KeyKind prog w Kt} {h h2 : Heap} {S : Addr} {f : Kt → Bool} {m : Nat} (hS : h.SetOf knd S f m) (k : ∀ o, h.get? S = some o → h2.get? S = some o) : h2.SetOf knd S f m := hS.elim fun o q => q.elim fun es q => q.elim fun ep q => q.elim fun t q => ⟨o, es, ep, t, k o q.1, q.2⟩
/-- what is still to come is put in, one by one -/
theorem fill (knd : KeyKind prog w Kt) (W : WalksS prog w A.in1 I fp wr G n P St) (S : Addr) (hSf : S ∉ fp) (ks : List Kt) (hl : ks.length = n) (nd : ks.Nodup) (hb : n + 1 < scanBound)
    (hv : ∀ i v, P i v → ∃ k, ks[i]? = some k ∧ knd.is k v = true ∧ v.scannable = true) :
    ∀ (j i : Nat) (sh : Shared), i + j = n → St i sh → sh.heap.SetOf knd S (fun k => decide (k ∈ ks.take i)) i →
      (∀ sh', Moved (S :: wr) G sh sh' → sh'.heap.SetOf knd S (fun k => decide (k ∈ ks)) n → R (.ok (.ret .none)) sh') → codeAny (model prog w) A (.builtin "set.update.loop" ⟨[.ref S, .ref I], []⟩) R sh
  | 0, i, sh, hij, hst, hS, last => by
    obtain rfl : i = n := hij
    have away : S ∉ wr := fun z => hSf (W.sub S z)
    rw [← hl, List.take_length] at hS
    refine codeAny_builtin F.entry_set_update_loop ?_
    rw [Around.under_plainId F.plain_set_update_loop _]
    refine wpAny_bind (m := pyNext (.ref I)) (W.done sh _ _ hst fun sh' mv => ?_)
    refine wpAny_pure (last sh' (mv.mono fun b z => .tail S z) ?_)
    rw [← hl]
    exact setOf_of hS fun o e => mv.heap S o away e
  | j + 1, i, sh, hij, hst, hS, last => by
    have away : S ∉ wr := fun z => hSf (W.sub S z)
    refine codeAny_builtin F.entry_set_update_loop ?_
    rw [Around.under_plainId F.plain_set_update_loop _]
    refine wpAny_bind (m := pyNext (.ref I)) (W.item i sh _ _ (by omega) hst fun v sh' hP hst' mv => ?_)
    obtain ⟨k, hk, is, sc⟩ := hv i v hP
    have hS' := setOf_of hS fun o e => mv.heap S o away e
    show wpAny _ A.in1 (holding [v] (setAdd S v) >>= _) _ _ sh'
    refine wpAny_bind (wpAny_holding ?_)
    unfold setAdd
    refine wpAny_holding (wpAny_bind (knd.pyHash is (wpAny_setAddHashed_of (knd := knd) (s := { sh' with toks := sh'.toks + 1 }) is sc hS' (by omega) fun h2 sb hS2 => ?_)))
    have fresh : decide (k ∈ ks.take i) = false := by
      refine decide_eq_false fun z => ?_
      obtain ⟨m, hm, em⟩ := List.mem_iff_getElem.mp z
      rw [List.length_take] at hm
      rw [List.getElem_take] at em
      have hi : i < ks.length := by omega
      have e2 : ks[i] = k := by rw [List.getElem?_eq_getElem hi] at hk; exact Option.some.inj hk
      exact List.pairwise_iff_getElem.mp nd m i (by omega) hi (by omega) (em.trans e2.symm)
    rw [fresh] at hS2
    have next : h2.SetOf knd S (fun k => decide (k ∈ ks.take (i + 1))) (i + 1) := by
      refine SetOf_congr hS2 (fun k' => ?_) (by simp)
      have hi : i < ks.length := by omega
      have e2 : ks[i] = k := by rw [List.getElem?_eq_getElem hi] at hk; exact Option.some.inj hk
      rw [List.take_add_one, List.getElem?_eq_getElem hi, e2]
      simp
    refine wpAny_pure ⟨plainId_quiet F.plain_set_update_loop _, fill knd W S hSf ks hl nd hb hv j (i + 1) _ (by omega) (W.frame _ sh' _ _ hst' (Nat.le_succ _) fun b z o e => ?_) next fun sh2 mv2 hS3 => ?_⟩
    · rw [sb.2 b fun q => hSf (q ▸ z)]
      exact e
    · refine last sh2 (Moved.trans W.gtrans ((mv.mono fun b z => .tail S z).then_heap (Nat.le_succ _) fun b o z e => ?_) mv2) hS3
      rw [sb.2 b fun q => z (q ▸ List.mem_cons_self)]
      exact e
end
/-- a set as set.__new__ lays it -/
abbrev bare (led : Bool) : Obj := { cls := .type "set", dict := none, data := .set #[] 0 (.fresh 0 0 led) }
section
variable {Kt : Type} [DecidableEq Kt] {prog : Program} {w : World} {A : Around} {E : Value → Shared → Prop} {s : Shared}
/-- set.__init__ of a bare set at S with a list at l -/
theorem init_list (knd : KeyKind prog w Kt) {led : Bool} {S l : Addr} {its : Array Value} {ks : List Kt} {T : Fin → Shared → Prop} (hh : A.handled = none) (hS : s.heap.get? S = some (bare led)) (hl : s.heap.IsList l its) (hne : S ≠ l) (hz : ks.length = its.size) (nd : ks.Nodup)
    (hb : ks.length + 1 < scanBound) (hv : ∀ (i : Nat) (v : Value), its[i]? = some v → ∃ k, ks[i]? = some k ∧ knd.is k v = true ∧ v.scannable = true)
    (h : ∀ h' tk, h'.SetOf knd S (fun k => decide (k ∈ ks)) ks.length → (∀ b o, b ≠ S → s.heap.get? b = some o → h'.get? b = some o) → T (.done (.ret .none)) { s with heap := h', toks := tk }) :
    wpAny (model prog w) A (Builtin.«set.__init__» ⟨[.ref S, .ref l], []⟩) T E s := by
  obtain ⟨ol, hol, hcl, nl, hdl⟩ := id hl
  obtain ⟨hp, g, d, tk, os⟩ := s
  obtain ⟨oc, od, odat, osl⟩ := ol
  dsimp only at hcl hdl
  subst hcl hdl
  have notSet := PySem.F.sub_list_set
  have notFrozen := PySem.F.sub_list_frozenset
  have notDict : (Value.type "list" == Value.type "dict") = false := by decide
  unfold Builtin.«set.__init__» noKeywords Builtin.Frozenset.updateFrom
  generalize hPI : pyIter = PI
  wp_walk
  subst hPI
  have hlt : l < hp.objs.size := Heap.lt_size hol
  have hSt : S < hp.objs.size := Heap.lt_size hS
  have h1 : A.in1.handled = none := by simp [hh]
  refine wpAny_pyIter_list hl (wpAny_bind (wpAny_runValue ?_))
  refine fill knd ((Walks.list h1 _ l (Nat.ne_of_lt hlt) its).toS) S ?_ ks hz nd (by rw [← hz]; exact hb) hv its.size 0 _ (Nat.zero_add _) ⟨⟨_, Heap.get?_push_size _ rfl, rfl, rfl⟩, hl.push _⟩ ?_ fun s2 mv hS2 => ?_
  · simp only [List.mem_cons, List.not_mem_nil, or_false, not_or]
    exact ⟨Nat.ne_of_lt hSt, hne⟩
  · exact SetOf_congr ((setObjOf_fresh (knd := knd) led).setOf (Heap.get?_push_of_some _ hS) (by omega)) (fun _ => by simp) rfl
  · obtain ⟨h2, g2, d2, tk2, os2⟩ := s2
    obtain rfl : g2 = g := mv.gens
    obtain rfl : d2 = d := mv.drawn
    obtain rfl : os2 = os := mv.os
    refine wpAny_pure (wpAny_pure (h h2 tk2 (by rw [hz]; exact hS2) fun b o nb e => mv.heap b o ?_ (Heap.get?_push_of_some _ e)))
    simp only [List.mem_cons, List.not_mem_nil, or_false, not_or]
    exact ⟨nb, Nat.ne_of_lt (Heap.lt_size e)⟩
/-- set(xs) of a list -/
theorem of_list (knd : KeyKind prog w Kt) {l : Addr} {its : Array Value} {ks : List Kt} {Q : Value → Shared → Prop} (hh : A.handled = none) (hl : s.heap.IsList l its) (hz : ks.length = its.size) (nd : ks.Nodup) (hb : ks.length + 1 < scanBound)
    (hv : ∀ (i : Nat) (v : Value), its[i]? = some v → ∃ k, ks[i]? = some k ∧ knd.is k v = true ∧ v.scannable = true)
    (h : ∀ h' tk, h'.SetOf knd s.heap.objs.size (fun k => decide (k ∈ ks)) ks.length → (∀ b o, s.heap.get? b = some o → h'.get? b = some o) → Q (.ref s.heap.objs.size) { s with heap := h', toks := tk }) :
    wpAny (model prog w) A (call (.type "set") [.ref l]) Q E s := by
  obtain ⟨c0, rest, line⟩ := PySem.F.called_set.mro
  have maker := PySem.F.called_set.made
  have under := PySem.F.called_set.sub
  refine wpAny_call (codeAny_of_tree (show wpAny _ _ (callAny (.type "set") _) _ _ _ from wpAny_pure ⟨Code.quiet_builtin _ (by decide +kernel), codeAny_builtin PySem.F.entry_type_call ?_⟩))
  rw [Around.under_plain (weight_type_call_type "set" [Value.ref l] []) rfl]
  have plain1 := PySem.F.called_set.notType
  have plain2 := PySem.F.called_set.canCreate
  have checked := PySem.F.typeCall_set_1 (.ref l)
  repeat (any_goals (first | assumption | wp_step))
  refine codeAny_mono (code_set_new_1 (prog := prog) (w := w) (s := s) (.ref l) (E := E) (Q₁ := fun ob s1 => ∃ led, ob = .ref s.heap.objs.size ∧ s1 = { s with heap := s.heap.push (bare led) }) fun led => ⟨led, rfl, rfl⟩) fun r s1 out => ?_
  match r with
  | .error e => exact out
  | .ok .next => exact out.elim
  | .ok .brk => exact out.elim
  | .ok .cont => exact out.elim
  | .ok (.ret ob) =>
    obtain ⟨led, rfl, rfl⟩ := out
    have at0 : (s.heap.push (bare led)).get? s.heap.objs.size = some (bare led) := Heap.get?_push_size _ rfl
    have ty0 : Shared.TypeIs { s with heap := s.heap.push (bare led) } (.ref s.heap.objs.size) "set" := ⟨_, at0, rfl⟩
    have find := PySem.F.called_set.init.lookup
    have bound := PySem.F.called_set.init.bind (.ref s.heap.objs.size)
    repeat (any_goals (first | assumption | wp_step))
    refine codeAny_mono (codeAny_call_builtin (R := wants (fun r s2 => r = .none ∧ Q (.ref s.heap.objs.size) s2) E) PySem.F.called_set.init.plain PySem.F.entry_set_init (check_set_init_1 ty0 ?_)) fun r2 s2 out2 => ?_
    · refine init_list knd (by simp [hh]) at0 (hl.push _) (Nat.ne_of_gt (hl.elim fun o q => Heap.lt_size q.1)) hz nd hb hv fun h2 tk2 hS keep => ⟨rfl, h h2 tk2 hS fun b o e => keep b o (Nat.ne_of_lt (Heap.lt_size e)) (Heap.get?_push_of_some _ e)⟩
    · match r2 with
      | .error e => exact out2
      | .ok .next => exact out2.elim
      | .ok .brk => exact out2.elim
      | .ok .cont => exact out2.elim
      | .ok (.ret r) =>
        obtain ⟨rfl, q⟩ := out2
        repeat (any_goals (first | assumption | wp_step))
end
end OwnSet


set_option Elab.async false
set_option linter.all false
set_option maxRecDepth 100000
set_option maxHeartbeats 4000000
/-! len(set(texts)) -/
namespace L2
open PySem PySem.Spec PyProof.Rows
def tLenKeys (K : PySem.W.Frag) (ta : TE) : TE := fun σ H Q => ta σ H fun x H1 => ∃ (l : Addr) (xs : List Str), x = .ref l ∧ SqL K H1 l (xs.map V.str) ∧ xs.Nodup ∧ xs.length ≤ 1000 ∧ Q (.int (xs.length : Nat)) H1
theorem nodup_inr {xs : List Str} (h : xs.Nodup) : (xs.map (Sum.inr : Str → Key)).Nodup := by
  unfold List.Nodup at h ⊢
  rw [List.pairwise_map]
  exact h.imp fun {a b} z e => z (Sum.inr.inj e)
theorem pe_lenKeys {X : Cx} {a : Expr} {ta : TE} {p p2 q pos : Pos} (hg : Gl X "len") (hm : X.mg "len" = none) (hg2 : Gl X "set") (hm2 : X.mg "set" = none) (ha : PE X a ta) (hc : X.calm = true := by rfl)
    (na : starEach [a] X.env = (false, eval a X.env) :: starEach [] X.env := by rfl) : PE X (.Call (.Name "len" p) [.Call (.Name "set" p2) [a] [] q] [] pos) (tLenKeys X.K ta) := by
  refine ⟨fun pins s σ H Q I h => Call_ (ld_blt I hg hm boot_len (callWith_builtin1 (args_cons (Call_ (ld_blt I hg2 hm2 boot_set (callWith_type1 (args_cons (thn (ha.run pins s σ H _ I h) fun v s1 hh => args_nil ?_) na) na rfl))) rfl) rfl rfl))⟩
  obtain ⟨x, H1, I1, r1, l, xs, rfl, hq, nd, hl, q1⟩ := hh
  obtain rfl : v = Value.ref l := r1
  obtain ⟨its, r, pl, hz⟩ := I1.list hq
  have hlen : its.length = xs.length := by rw [← r.length, List.length_map]
  refine OwnSet.of_list (mixKind X.prog X.w) (ks := xs.map Sum.inr) (I1.ok.hd hc) pl.isList (by rw [List.length_map, List.size_toArray, hlen]) (nodup_inr nd) (by rw [List.length_map]; unfold scanBound; omega) (fun i v hv => ?_) fun h2 tk2 hS keep => args_nil ?_
  · rw [List.getElem?_toArray] at hv
    have hi : i < xs.length := by rw [← hlen]; exact (List.getElem?_eq_some_iff.mp hv).1
    obtain ⟨u, hu, ru⟩ := r.get (i := i) (x := V.str xs[i]) (by rw [List.getElem?_map, List.getElem?_eq_getElem hi]; rfl)
    rw [hv] at hu
    obtain rfl : v = u := Option.some.inj hu
    obtain ⟨t, rfl⟩ := (show ∃ t, v = Value.str xs[i] t from ru)
    exact ⟨Sum.inr xs[i], by rw [List.getElem?_map, List.getElem?_eq_getElem hi]; rfl, mixKind_str _ _ _ _, rfl⟩
  · rw [List.length_map] at hS
    obtain ⟨o, es, ep, t, ho, hx, hd, _, _, _, hf, hn⟩ := hS
    have I2 : Inv X pins σ H1 { s1 with heap := h2, toks := tk2 } := I1.kept keep
    exact call_len_set ho hx hd hf (by rw [hn]; omega) ⟨.int (xs.length : Nat), H1, I2.tok _, ⟨_, by rw [hn]⟩, q1⟩
end L2


set_option Elab.async false
set_option linter.all false
set_option maxRecDepth 100000
set_option maxHeartbeats 4000000
/-! methods in one hand -/
namespace L2
open PySem PySem.Spec PyProof.Rows
/-- the class at C has the method m, which keeps sp -/
structure Mtd (P : Program) (w : World) (K : PySem.W.Frag) (mg : Str → Option Value) (base : Heap) (k : Nat) (C : Addr) (m : Str) (ps : List Str) (sp : Sp) : Prop where
  cl : Cls K C
  ex : ∃ f fd, Meth K C m f ∧ Binds K fd ps [] ∧ FnOk P w K mg base (L2.CX P w) k f fd ps sp
section
variable {X : Cx} {k : Nat} {C : Addr} {m : Str} {ps : List Str} {sp : Sp} {E : XK} {o e : Expr} {es : List Expr} {ta : TE} {t : TA} {apos pos : Pos} {pl : Sem Bool}
theorem pe_mtd (c : Mtd X.prog X.w X.K X.mg X.base k C m ps sp) (hr : Room k X.A) (he : PE X o ta) (ha : PA X (e :: es) t)
    (hst : starEach (e :: es) X.env = (false, eval e X.env) :: starEach es X.env := by rfl) (hpl : (backTo pos (starEach es X.env)).any (·.1) = false := by rfl)
    (ht : eval (.Call (.Attribute o m apos) (e :: es) [] pos) X.env = (do
      let ov ← eval o X.env
      standAt apos.atName
      let (g, first) ← holding [ov] (getMethod ov m pl)
      callWith pos g first (backTo pos (starEach (e :: es) X.env)) (backToKw pos (keywordEach [] X.env))) := by rfl) :
    PE X (.Call (.Attribute o m apos) (e :: es) [] pos) (tMeth C m sp [] E0 ta t) := by
  obtain ⟨f, fd, hm, hb, G⟩ := c.ex
  exact pe_meth he c.cl hm G hr hb .nil passL ha hst hpl ht
theorem pe_mtd0 (c : Mtd X.prog X.w X.K X.mg X.base k C m ps sp) (hr : Room k X.A) (he : PE X o ta)
    (ht : eval (.Call (.Attribute o m apos) [] [] pos) X.env = (do
      let ov ← eval o X.env
      standAt apos.atName
      let (g, first) ← holding [ov] (getMethod ov m pl)
      callWith pos g first (backTo pos (starEach [] X.env)) (backToKw pos (keywordEach [] X.env))) := by rfl) :
    PE X (.Call (.Attribute o m apos) [] [] pos) (tMeth C m sp [] E0 ta tNil) := by
  obtain ⟨f, fd, hm, hb, G⟩ := c.ex
  exact pe_meth0 he c.cl hm G hr hb .nil passL ht
end
end L2


set_option Elab.async false
set_option linter.all false
set_option maxRecDepth 100000
set_option maxHeartbeats 4000000
/-! a range held by a name; comprehensions with two for -/
namespace L2
open PySem PySem.Spec PyProof.Rows
section
variable {X : Cx} {tg e : Expr} {te : TE}
theorem cr_range1 : CallR X (.type "range") (fun vs H Q => ∃ j, vs = [V.int j] ∧ ∀ p, H p = none → Q (.ref p) (upd H p (.rng 0 j))) := by
  intro pins s σ H vs us Q I r h
  obtain ⟨j, rfl, q⟩ := h
  obtain ⟨u, rfl, ru⟩ := r.one
  obtain ⟨t, rfl⟩ := (show ∃ t, u = Value.int j t from ru)
  refine call_range_1 ⟨.ref s.heap.objs.size, upd H s.heap.objs.size (.rng 0 j), I.laid (fun b o z => Heap.get?_push_of_some _ z) (Nat.le_refl _) ?_, rfl, q _ (I.hok.fresh (Nat.le_refl _))⟩
  exact ⟨_, t, _, Heap.get?_push_size _ rfl⟩
/-- for .. in r, r a range object -/
def iRngV (te : TE) : TI := fun σ H R => te σ H fun v H1 => ∃ (a : Addr) (lo hi : Int), v = .ref a ∧ H1 a = some (.rng lo hi) ∧ (-(2 ^ 62) ≤ lo ∧ lo < 2 ^ 62 ∧ -(2 ^ 62) ≤ hi ∧ hi < 2 ^ 62) ∧ R (Itr lo (hi - lo).toNat) H1
theorem pi_rngV (he : PE X e te) : PI X tg e (iRngV te) := by
  refine ⟨fun pins s σ H R I h => thn (he.run pins s σ H _ I h) fun v s1 hh => ?_⟩
  obtain ⟨x, H1, I1, r1, a, lo, hi, rfl, ha, ⟨b1, b2, b3, b4⟩, q⟩ := hh
  obtain rfl : v = Value.ref a := r1
  obtain ⟨t, u, w, ob⟩ := (show ObjOk X.prog X.w H1 s1.heap a (.rng lo hi) from I1.hok a _ ha)
  refine wpAny_pyIter_range (show IsRange s1.heap a lo hi 1 t u w from ob) (small_one b1 b2 b3 b4) (pi_one (tk := s1.toks) I1 _ (turn_range _ lo (hi - lo).toNat) ?_ q)
  have e1 : lo + ((0 : Nat) : Int) * 1 = lo := by simp
  have e2 : (((hi - lo).toNat : Nat) : Int) - ((0 : Nat) : Int) = Builtin.Range.rangeSize lo hi 1 := by
    rw [rangeSize_one]
    split <;> omega
  show IsRangeIter _ _ (lo + ((0 : Nat) : Int) * 1) ((((hi - lo).toNat : Nat) : Int) - ((0 : Nat) : Int)) 1
  rw [e1, e2]
  exact Heap.get?_push_size _ rfl
end
end L2
namespace L2
open PySem PySem.Spec PyProof.Rows
def flat2 (m : Nat → Nat) (v : Nat → Nat → V) (n : Nat) : List V := (List.range n).flatMap fun i => (List.range (m i)).map (v i)
theorem flat2_more (m : Nat → Nat) (v : Nat → Nat → V) (i : Nat) : flat2 m v (i + 1) = flat2 m v i ++ (List.range (m i)).map (v i) := by
  unfold flat2
  rw [List.range_succ, List.flatMap_append]
  simp
theorem flat2_len {m : Nat → Nat} {v : Nat → Nat → V} (h : ∀ i, m i ≤ 100) : ∀ n, (flat2 m v n).length ≤ 100 * n
  | 0 => by simp [flat2]
  | n + 1 => by
    rw [flat2_more, List.length_append, List.length_map, List.length_range]
    have := flat2_len (v := v) h n
    have := h n
    omega
section
variable {J : It} {n : Nat} {G : Hp → Prop} {Y : Nat → Hp → V → Hp → Prop} {te : TE} {vs vs1 : List Nat} {σ : St} {H H1 : Hp} {Q : VK} {wi wi1 : TI} {a b : Nat}
theorem lc2_use (m : Nat → Nat) (v : Nat → Nat → V) (hl : ∀ R : It → Hp → Prop, R J H1 → wi σ H R) (w : Walk J n G Y) (hn : n ≤ 100) (hm : ∀ i, m i ≤ 100) (hG : ∀ H', Same H1 H' → G H') (hy : ∀ i H' x H2, Same H1 H' → Y i H' x H2 → Same H' H2)
    (hw : ∀ x, wipe ((wipe σ vs).set a (some x)) vs = wipe σ vs)
    (inner : ∀ i x H' H2, i < n → Same H1 H' → Y i H' x H2 → ∃ (J1 : It) (G1 : Hp → Prop) (Y1 : Nat → Hp → V → Hp → Prop), Walk J1 (m i) G1 Y1 ∧ (∀ H3, Same H1 H3 → G1 H3) ∧ (∀ j H3 y H4, Same H1 H3 → Y1 j H3 y H4 → Same H3 H4) ∧
      (∀ R : It → Hp → Prop, R J1 H2 → wi1 ((wipe σ vs).set a (some x)) H2 R) ∧
      ∀ j y H3 H4, j < m i → Same H1 H3 → Y1 j H3 y H4 → wipe ((wipe ((wipe σ vs).set a (some x)) vs1).set b (some y)) vs1 = wipe ((wipe σ vs).set a (some x)) vs1 ∧ ∀ R : VK, (∀ H5, Same H4 H5 → R (v i j) H5) → te ((wipe ((wipe σ vs).set a (some x)) vs1).set b (some y)) H4 R)
    (q : ∀ D H', H1 D = none → Same H1 H' → H' D = some (.lst (flat2 m v n)) → Q (.ref D) H') : tLc2 wi (gName a) tYes wi1 (gName b) tYes te vs vs1 σ H Q := hl _ fun D hD => by
  refine ⟨fun i k H' => k = n - i ∧ i ≤ n ∧ Same H1 H' ∧ H' D = some (.lst (flat2 m v i)), ⟨n, by simp, Nat.zero_le _, same_upd hD, upd_same⟩, ?_⟩
  rintro i k H' ⟨rfl, hi, s, d⟩
  by_cases hlt : i < n
  · refine .inr ⟨w.goes i H' hlt (hG H' s), fun H2 => Same H1 H2 ∧ H2 D = some (.lst (flat2 m v (i + 1))), fun H2 p => ⟨n - (i + 1), by omega, rfl, hlt, p⟩, fun x H2 y => ?_⟩
    have y' := w.yields i H' x H2 hlt (hG H' s) y
    have e2 := hy i H' x H2 s y'
    obtain ⟨J1, G1, Y1, w1, hG1, hy1, hl1, turn⟩ := inner i x H' H2 hlt s y'
    refine gN ⟨hw x, ?_⟩
    unfold tYes
    dsimp only
    rw [if_pos rfl]
    have d2 : H2 D = some (.lst (flat2 m v i ++ (List.range 0).map (v i))) := by
      rw [List.range_zero, List.map_nil, List.append_nil]
      exact e2 _ _ d
    refine hl1 _ ⟨fun j k H3 => k = m i - j ∧ j ≤ m i ∧ Same H1 H3 ∧ H3 D = some (.lst (flat2 m v i ++ (List.range j).map (v i))), ⟨m i, by simp, Nat.zero_le _, s.trans e2, d2⟩, ?_⟩
    rintro j k H3 ⟨rfl, hj, s3, d3⟩
    by_cases hlt2 : j < m i
    · refine .inr ⟨w1.goes j H3 hlt2 (hG1 H3 s3), fun H4 => Same H1 H4 ∧ H4 D = some (.lst (flat2 m v i ++ (List.range (j + 1)).map (v i))), fun H4 p => ⟨m i - (j + 1), by omega, rfl, hlt2, p⟩, fun y2 H4 z => ?_⟩
      have z' := w1.yields j H3 y2 H4 hlt2 (hG1 H3 s3) z
      have e4 := hy1 j H3 y2 H4 s3 z'
      obtain ⟨t1, t2⟩ := turn j y2 H3 H4 hlt2 s3 z'
      refine gN ⟨t1, ?_⟩
      rw [if_pos rfl]
      refine t2 _ fun H5 e5 => ⟨_, e5 _ _ (e4 _ _ d3), ?_, same_mut ((s3.trans e4).trans e5) hD, ?_⟩
      · rw [List.length_append, List.length_map, List.length_range, sizeLine_eq]
        have := flat2_len (v := v) hm i
        have := hm i
        omega
      · rw [upd_same, map_more, List.append_assoc]
    · have ej : j = m i := by omega
      subst ej
      exact .inl ⟨w1.stops H3 (hG1 H3 s3), s3, by rw [flat2_more]; exact d3⟩
  · have e : i = n := by omega
    subst e
    exact .inl ⟨w.stops H' (hG H' s), q D H' hD s d⟩
end
end L2
namespace L2
open PySem PySem.Spec PyProof.Rows
theorem pi_listK {X : Cx} {tg l : Expr} {tl : TE} (K : PySem.W.Frag) (hl : PE X l tl) (hK : X.K = K := by rfl) : PI X tg l (iList K tl) := by
  subst hK
  exact pi_list hl
end L2


set_option Elab.async false
set_option linter.all false
set_option maxRecDepth 100000
set_option maxHeartbeats 4000000
/-! makers in one hand -/
namespace L2
open PySem PySem.Spec PyProof.Rows
structure Mkr (P : Program) (w : World) (K : PySem.W.Frag) (mg : Str → Option Value) (base : Heap) (k : Nat) (x : Str) (C : Addr) (ps : List Str) (sp : Sp) : Prop where
  ex : ∃ f fd, Mk K C f ∧ mg x = some (.ref C) ∧ Binds K fd ps [] ∧ FnOk P w K mg base (L2.CX P w) k f fd ps sp
section
variable {X : Cx} {k : Nat} {C : Addr} {x : Str} {ps : List Str} {sp : Sp} {E : XK} {e : Expr} {es : List Expr} {t : TA} {p pos : Pos}
theorem pe_mkr (c : Mkr X.prog X.w X.K X.mg X.base k x C ps sp) (hr : Room (k + 1) X.A) (hg : Gl X x) (hx : Passes (L2.CX X.prog X.w) X E) (ha : PA X (e :: es) t) (hdb : (x == ("__debug__" : Str)) = false := by decide)
    (he : starEach (e :: es) X.env = (false, eval e X.env) :: starEach es X.env := by rfl) (hpl : (backTo pos (starEach es X.env)).any (·.1) = false := by rfl) : PE X (.Call (.Name x p) (e :: es) [] pos) (tMake C sp [] E t) := by
  obtain ⟨f, fd, M, hm, hb, G⟩ := c.ex
  exact pe_make M G hr hg hm hb .nil hx ha hdb he hpl
end
end L2


set_option Elab.async false
set_option linter.all false
set_option maxRecDepth 100000
set_option maxHeartbeats 4000000
/-! min and max of a list of texts -/
namespace L2
open PySem PySem.Spec PyProof.Rows
def gtS (xs : List Str) (i j : Nat) : Bool := decide ((xs.getD j Str.empty).cps.toList < (xs.getD i Str.empty).cps.toList)
def ltS (xs : List Str) (i j : Nat) : Bool := decide ((xs.getD i Str.empty).cps.toList < (xs.getD j Str.empty).cps.toList)
def maxS (xs : List Str) : Str := xs.getD (argBest (gtS xs) (xs.length - 1)) Str.empty
def minS (xs : List Str) : Str := xs.getD (argBest (ltS xs) (xs.length - 1)) Str.empty
section
variable {prog : Program} {w : World} {A : Around} {E : Value → Shared → Prop} {s : Shared} {l : Addr} {its : Array Value} {xs : List Str} {Q : Value → Shared → Prop}
theorem gts_of (hv : ∀ (i : Nat) (v : Value), its[i]? = some v → ∃ t, v = .str (xs.getD i Str.empty) t) : CmpOf prog w A .Gt (fun i v => its[i]? = some v) (gtS xs) := fun i j vi vj s Q E hi hj h => by
  obtain ⟨t, rfl⟩ := hv i vi hi
  obtain ⟨u, rfl⟩ := hv j vj hj
  exact PySem.P.gt_str h
theorem lts_of (hv : ∀ (i : Nat) (v : Value), its[i]? = some v → ∃ t, v = .str (xs.getD i Str.empty) t) : CmpOf prog w A .Lt (fun i v => its[i]? = some v) (ltS xs) := fun i j vi vj s Q E hi hj h => by
  obtain ⟨t, rfl⟩ := hv i vi hi
  obtain ⟨u, rfl⟩ := hv j vj hj
  exact lt_str h
theorem walk_of_list {Q : Value → Shared → Prop} (hl : s.heap.IsList l its)
    (h : ∀ s2 : Shared, s2 = { s with heap := s.heap.push { cls := .type "list_iterator", data := .fields #[.ref l, .int 0 0] } } → (s2.heap.IsListIter s.heap.objs.size l 0 ∧ s2.heap.IsList l its) → (∀ b ∈ [s.heap.objs.size, l], b < s2.heap.objs.size) → l ≠ s.heap.objs.size → Q (.ref s.heap.objs.size) s2) :
    wpAny (model prog w) A (pyIter (.ref l)) Q E s := by
  have lt : l < s.heap.objs.size := hl.elim fun o q => Heap.lt_size q.1
  refine wpAny_pyIter_list hl (h _ rfl ⟨⟨_, Heap.get?_push_size _ rfl, rfl, rfl⟩, hl.push _⟩ (fun b hb => ?_) (Nat.ne_of_lt lt))
  show b < (s.heap.push _).objs.size
  rw [Heap.size_push]
  simp only [List.mem_cons, List.not_mem_nil, or_false] at hb
  rcases hb with rfl | rfl
  · exact Nat.lt_succ_self _
  · exact Nat.lt_succ_of_lt lt
theorem call_maxS (hh : A.handled = none) (hl : s.heap.IsList l its) (hv : ∀ (i : Nat) (v : Value), its[i]? = some v → ∃ t, v = .str (xs.getD i Str.empty) t) (hne : 0 < its.size) (hz : its.size = xs.length)
    (h : ∀ h' tk t, (∀ b o, s.heap.get? b = some o → h'.get? b = some o) → Q (.str (maxS xs) t) { s with heap := h', toks := tk }) : wpAny (model prog w) A (call (.builtin "max") [.ref l]) Q E s := by
  refine call_max_walk (walk_of_list hl fun s2 e st below far => ?_)
  subst e
  refine ⟨_, _, _, _, _, _, _, rfl, Walks.list (A := A.in1) hh _ l far its, st, below, hne, gts_of hv, fun v h' tk hP hk => ?_⟩
  obtain ⟨t, rfl⟩ := hv _ v hP
  rw [hz]
  exact h h' tk t (old_kept hk)
theorem call_minS (hh : A.handled = none) (hl : s.heap.IsList l its) (hv : ∀ (i : Nat) (v : Value), its[i]? = some v → ∃ t, v = .str (xs.getD i Str.empty) t) (hne : 0 < its.size) (hz : its.size = xs.length)
    (h : ∀ h' tk t, (∀ b o, s.heap.get? b = some o → h'.get? b = some o) → Q (.str (minS xs) t) { s with heap := h', toks := tk }) : wpAny (model prog w) A (call (.builtin "min") [.ref l]) Q E s := by
  refine call_min_walk (walk_of_list hl fun s2 e st below far => ?_)
  subst e
  refine ⟨_, _, _, _, _, _, _, rfl, Walks.list (A := A.in1) hh _ l far its, st, below, hne, lts_of hv, fun v h' tk hP hk => ?_⟩
  obtain ⟨t, rfl⟩ := hv _ v hP
  rw [hz]
  exact h h' tk t (old_kept hk)
end
def rBestS (K : PySem.W.Frag) (g : List Str → Str) : List V → Hp → VK → Prop := fun vs H Q => ∃ (a : Addr) (xs : List Str), vs = [V.ref a] ∧ SqL K H a (xs.map V.str) ∧ 0 < xs.length ∧ Q (.str (g xs)) H
theorem strs_vals {xs : List Str} {its : List Value} (r : Vals (xs.map V.str) its) : ∀ (i : Nat) (v : Value), its.toArray[i]? = some v → ∃ t, v = .str (xs.getD i Str.empty) t := fun i v hv => by
  rw [List.getElem?_toArray] at hv
  have hlen : its.length = xs.length := by rw [← r.length, List.length_map]
  have hi : i < xs.length := by rw [← hlen]; exact (List.getElem?_eq_some_iff.mp hv).1
  obtain ⟨u, hu, ru⟩ := r.get (i := i) (x := V.str xs[i]) (by rw [List.getElem?_map, List.getElem?_eq_getElem hi]; rfl)
  rw [hv] at hu
  obtain rfl : v = u := Option.some.inj hu
  rw [List.getD_eq_getElem?_getD, List.getElem?_eq_getElem hi]
  exact ru
theorem cr_maxS {X : Cx} (K : PySem.W.Frag) (hc : X.calm = true := by rfl) (hK : X.K = K := by rfl) : CallR X (.builtin "max") (rBestS K maxS) := by
  subst hK
  intro pins s σ H xs us Q I r h
  obtain ⟨a, ys, rfl, hs, hne, q⟩ := h
  obtain ⟨its, rv, hl, _⟩ := I.list hs
  have hlen : its.length = ys.length := by rw [← rv.length, List.length_map]
  rw [Vals.ref1 r]
  exact call_maxS (I.ok.hd hc) hl.isList (strs_vals rv) (by rw [List.size_toArray]; omega) (by rw [List.size_toArray]; exact hlen) fun h' tk t hk => ⟨.str _, H, I.kept hk, ⟨_, rfl⟩, q⟩
theorem cr_minS {X : Cx} (K : PySem.W.Frag) (hc : X.calm = true := by rfl) (hK : X.K = K := by rfl) : CallR X (.builtin "min") (rBestS K minS) := by
  subst hK
  intro pins s σ H xs us Q I r h
  obtain ⟨a, ys, rfl, hs, hne, q⟩ := h
  obtain ⟨its, rv, hl, _⟩ := I.list hs
  have hlen : its.length = ys.length := by rw [← rv.length, List.length_map]
  rw [Vals.ref1 r]
  exact call_minS (I.ok.hd hc) hl.isList (strs_vals rv) (by rw [List.size_toArray]; omega) (by rw [List.size_toArray]; exact hlen) fun h' tk t hk => ⟨.str _, H, I.kept hk, ⟨_, rfl⟩, q⟩
end L2


set_option Elab.async false
set_option linter.all false
set_option maxRecDepth 100000
namespace L2
open PySem PySem.Spec PyProof.Rows
/-! clauses with and without a name, one behind the other -/
abbrev Suit := Addr → Value → Option Addr → TS
/-- the ends of a suite whose name goes at its end -/
def gone (i : Nat) (D : Ends) : Ends := { nx := fun σ H => D.nx (σ.set i none) H, rt := D.rt, bk := fun σ H => D.bk (σ.set i none) H, ct := fun σ H => D.ct (σ.set i none) H }
def tClause (t : Suit) (D : Ends) (a : Addr) (cls : Value) (d : Option Addr) (σ : St) (H : Hp) : Option Nat → Prop
  | none => t a cls d D σ H
  | some i => t a cls d (gone i D) (σ.set i (some (.ref a))) H
def wMix (K : PySem.W.Frag) (Wout : WX) (D : Ends) : List (Value × Option Nat × Suit) → WX
  | [] => Wout
  | (c, i, t) :: r => fun cls d σ H => ∃ b, PySem.W.exmOne K cls c = some b ∧ (b = true → ∀ a, H a = none → tClause t D a cls d σ H i) ∧ (b = false → wMix K Wout D r cls d σ H)
inductive Slot (X : Cx) : Option Str → Option Nat → Prop
  | no : Slot X none none
  | as {n : Str} {i : Nat} (hN : X.N.Nodup) (hi : X.N[i]? = some n) (hl : X.env.kindOf n = some .local) : Slot X (some n) (some i)
inductive MixOk (X : Cx) : List ExceptHandler → List (Value × Option Nat × Suit) → Prop
  | nil : MixOk X [] []
  | cons {x : Str} {c : Value} {o : Option Str} {i : Option Nat} {t : Suit} {b₀ : Stmt} {suite : List Stmt} {np pos' : Pos} {hds : List ExceptHandler} {l : List (Value × Option Nat × Suit)} (hc : Names X x c) (hn : Slot X o i)
      (hsu : ∀ (a : Addr) (oe : Obj) (cls : Value) (d : Option Addr) (pn : List (Addr × Obj)), Zc cls d oe → (∃ vs, oe.data = .fields vs) → PSs (X.suite a ((a, oe) :: pn)) (b₀ :: suite) (t a cls d)) (r : MixOk X hds l) :
      MixOk X (.ExceptHandler (some (.Name x np)) o (b₀ :: suite) pos' :: hds) ((c, i, t) :: l)
section
variable {X : Cx} {body : List Stmt} {h₀ : ExceptHandler} {hds : List ExceptHandler} {l : List (Value × Option Nat × Suit)} {pos : Pos} {tb : WX → TS} {Wout : WX}
theorem ps_try_mix (hs : X.stack = X.env :: X.outer) (hf : X.env.frame = some X.env.locals) (tk : Takes X Wout)
    (hb : ∀ (W : WX) (pn : List (Addr × Obj)) (xe : Value → Shared → Prop), Takes (X.tr pn xe) W → PassesOwn (model X.prog X.w) X.A X.env xe → PSs (X.tr pn xe) body (tb W))
    (hh : MixOk X (h₀ :: hds) l) : PS X (.Try body (h₀ :: hds) [] [] pos) (fun D σ H => tb (wMix X.K Wout D l) D σ H) := by
  refine ⟨fun pins s σ H D I h => ?_⟩
  have ok := I.ok
  have hfr : X.A.frames = some (X.env :: X.outer) := by rw [ok.frames, hs]
  refine wpAny_Try_except (wpAny_mono ((hb (wMix X.K Wout D l) (X.pn ++ pins) (fun e s₁ => wpAny (model X.prog X.w) X.A (noteFrame e X.env) (fun _ s₂ => wpAny (model X.prog X.w) X.A (setFlight e none) (fun _ s₃ =>
    wpAny (model X.prog X.w) X.A (handleBy e X.env (h₀ :: hds)) (SP X pins D) X.xe s₃) X.xe s₂) X.xe s₁) (fun u s' xx => ?_) PassesOwn.looking).run [] s σ H D (I.toTry _) h) (fun f s1 hsp => ?_) fun e s1 he => he)
  · obtain ⟨a, B, sI, pins', σ', H', cls, d, rfl, J', nb, up, sky, na, os, ag, w⟩ := xx
    have J := J'.ofTry ok
    have sky' : Sky B (X.env :: X.outer) a (Zc cls d) X.env.locals s'.heap := by rw [← hs]; exact sky
    show wpAny (model X.prog X.w) X.A (noteFrame (.ref a) X.env) _ _ _
    refine Sky.land Zc.steady hfr hf sky' fun h3 fl3 up3 => ?_
    have J3 : Inv X pins σ' H' { s' with heap := h3 } := J.landed nb fl3.1 (up.trans up3) os ag
    obtain ⟨o3, vs3, e3, z3, d3⟩ := fl3.there
    have nfr : a ∉ frs (X.env :: X.outer) := fun hm => by
      obtain ⟨_, o', e', hnf⟩ := fl3.2.2.1.mem hm
      rw [e3] at e'; cases e'
      exact hnf _ d3
    have nL : a ≠ X.env.locals := fun z => nfr (List.mem_filterMap.mpr ⟨X.env, List.mem_cons_self, by rw [hf, z]⟩)
    have nF : a ∉ X.fs := fun hm => by
      obtain ⟨e, he, q⟩ := List.mem_filterMap.mp hm
      exact nfr (List.mem_filterMap.mpr ⟨e, List.mem_cons_of_mem _ he, q⟩)
    have S3 := J3.suite e3 d3 na nL nF
    have LT : PySem.W.Looks (model X.prog X.w) h3 (typeOf (.ref a)) cls := fun A Q E s k q => wpAny_typeOf_ref (k _ _ e3) (by rw [z3.1]; exact q)
    have go : ∀ {hs' : List ExceptHandler} {l' : List (Value × Option Nat × Suit)}, MixOk X hs' l' → wMix X.K Wout D l' cls d σ' H' →
        wpAny (model X.prog X.w) X.A (handleBy (.ref a) X.env hs') (SP X pins D) X.xe { s' with heap := h3 } := by
      intro hs' l' hk
      induction hk with
      | nil =>
        intro w
        refine wpAny_handleBy_nil ?_
        obtain ⟨k1, k2, k3, oe, vs, T, oT, ts', he, hz, hd, h1, hr⟩ := id fl3
        unfold PySem.passOn
        refine wpAny_bind (wpAny_field he hd h1 ?_)
        rw [if_neg (show ¬ ((Value.ref T == Value.none) = true) from by simp)]
        have fin : wpAny (model X.prog X.w) X.A (setFlight (.ref a) X.env.frame) (fun _ s4 => wpAny (model X.prog X.w) X.A (throw (.ref a) : Sem Flow) (SP X pins D) X.xe s4) X.xe { s' with heap := h3 } := by
          rw [hf]
          exact HandSPX.setFlight_upZ fl3 fun h4 hh4 up4 => wpAny_throw (tk _ _ ⟨a, B, sI, pins, σ', H', cls, d, rfl, J, nb, (up.trans up3).trans up4, .inr (.inr (by rw [hs]; exact hh4)), na, os, ag, w⟩)
        first
          | exact wpAny_bind (wpAny_pure (wpAny_bind fin))
          | exact wpAny_bind fin
      | @cons x c o i t b₀ suite np pos' hds2 l2 hc hn hsu r ih =>
        intro w
        obtain ⟨b, hb1, hyes, hno⟩ := w
        refine wpAny_handleBy_cons (codeAny_handlers_test ?_) (by intro q; cases q)
        have LM := PySem.W.exm_one (M := model X.prog X.w) (J3.kIn) LT hb1
        have test : ∀ {Q : Value → Shared → Prop} {E : Value → Shared → Prop}, Q c { s' with heap := h3 } → wpAny (model X.prog X.w) (X.A.mark (some (.ref a))) (eval (.Name x np) X.env) Q E { s' with heap := h3 } := fun {Q E} q => by
          obtain ⟨hg, hdbg, hm | ⟨hm, hv, hnn⟩⟩ := hc
          · exact ld_glob (X := X.suite a ((a, o3) :: (X.pn ++ pins))) S3 hg hm q hdbg
          · exact ld_blt (X := X.suite a ((a, o3) :: (X.pn ++ pins))) S3 hg hm hv q hnn hdbg
        refine test (LM.here ?_)
        cases b with
        | false => exact ih (hno rfl)
        | true =>
          have hy := hyes rfl a na
          cases hn with
          | no =>
            refine codeAny_handlers_suite (HandSPX.lands_againZ fl3 fun h4 fl4 up4 => ?_)
            have J4 : Inv X pins σ' H' { s' with heap := h4 } := J.landed nb fl4.1 ((up.trans up3).trans up4) os ag
            obtain ⟨o4, vs4, e4, z4, d4⟩ := fl4.there
            refine wpAny_mono ((hsu a o4 cls d (X.pn ++ pins) z4 ⟨_, d4⟩).run [] _ _ H' _ (J4.suite e4 d4 na nL nF) hy) (fun f s6 hsp => ?_) (fun _ _ z => False.elim z)
            cases f with
            | ret u =>
              obtain ⟨v6, σ6, H6, S6, r6, q6⟩ := hsp
              exact ⟨_, _, _, S6.unsuite ok, r6, q6⟩
            | _ =>
              obtain ⟨σ6, H6, S6, q6⟩ := hsp
              exact ⟨_, _, S6.unsuite ok, q6⟩
          | @as n i hN hi hl =>
            refine codeAny_handlers_suite_as (HandSPX.lands_againZ fl3 fun h4 fl4 up4 => ?_)
            have J4 : Inv X pins σ' H' { s' with heap := h4 } := J.landed nb fl4.1 ((up.trans up3).trans up4) os ag
            obtain ⟨o4, vs4, e4, z4, d4⟩ := fl4.there
            refine store_ok (X := X.suite a ((a, o4) :: (X.pn ++ pins))) (v := .ref a) (J4.suite e4 d4 na nL nF) hN hi (.inl hl) rfl (fun s5 S5 => ?_) (.inr hl)
            refine wpAny_mono ((hsu a o4 cls d (X.pn ++ pins) z4 ⟨_, d4⟩).run [] s5 _ H' _ S5 hy) (fun f s6 hsp => ?_) (fun _ _ z => False.elim z)
            have fin : ∀ {σ6 : St} {H6 : Hp} {Q : Shared → Prop}, Inv (X.suite a ((a, o4) :: (X.pn ++ pins))) [] σ6 H6 s6 → (∀ s7, Inv X pins (σ6.set i none) H6 s7 → Q s7) →
                wpAny (model X.prog X.w) X.A (do bindName X.env n .none; unbindBehindTheSuite X.env n pos') (fun _ s7 => Q s7) X.xe s6 := fun {σ6 H6 Q} S6 hq => gone_ok (S6.unsuite ok) hN hi hl hq
            cases f with
            | ret u =>
              obtain ⟨v6, σ6, H6, S6, r6, q6⟩ := hsp
              exact fin S6 fun s7 J7 => ⟨_, _, _, J7, r6, q6⟩
            | next =>
              obtain ⟨σ6, H6, S6, q6⟩ := hsp
              exact fin S6 fun s7 J7 => ⟨_, _, J7, q6⟩
            | brk =>
              obtain ⟨σ6, H6, S6, q6⟩ := hsp
              exact fin S6 fun s7 J7 => ⟨_, _, J7, q6⟩
            | cont =>
              obtain ⟨σ6, H6, S6, q6⟩ := hsp
              exact fin S6 fun s7 J7 => ⟨_, _, J7, q6⟩
    exact go hh w
  · cases f with
    | next =>
      obtain ⟨σ', H', J', q⟩ := hsp
      exact wpAny_execs_nil ⟨σ', H', J'.ofTry ok, q⟩
    | brk =>
      obtain ⟨σ', H', J', q⟩ := hsp
      exact ⟨σ', H', J'.ofTry ok, q⟩
    | cont =>
      obtain ⟨σ', H', J', q⟩ := hsp
      exact ⟨σ', H', J'.ofTry ok, q⟩
    | ret u =>
      obtain ⟨v, σ', H', J', r, q⟩ := hsp
      exact ⟨v, σ', H', J'.ofTry ok, r, q⟩
end
end L2


set_option Elab.async false
set_option linter.all false
set_option maxRecDepth 100000
namespace L2
open PySem PySem.Spec PyProof.Rows
/-! a method called in a try's body -/
def tMtdT (C : Addr) (m : Str) (sp : Sp) (W : WX) (ta : TE) (t : TA) : TE := fun σ H Q => ta σ H fun x H1 => ∃ a dx fs, x = .ref a ∧ H1 a = some (.ins C dx fs) ∧ fs.lookup m = none ∧ t σ H1 fun vs H2 => sp (x :: vs) H2 Q (WE W σ)
theorem pe_mtdT {X : Cx} {k : Nat} {C : Addr} {m : Str} {ps : List Str} {sp : Sp} {W : WX} {o e : Expr} {es : List Expr} {ta : TE} {t : TA} {apos pos : Pos} {pl : Sem Bool} (c : Mtd X.prog X.w X.K X.mg X.base k C m ps sp) (hr : Room k X.A) (tk : Takes X W) (he : PE X o ta) (ha : PA X (e :: es) t)
    (hst : starEach (e :: es) X.env = (false, eval e X.env) :: starEach es X.env := by rfl) (hpl : (backTo pos (starEach es X.env)).any (·.1) = false := by rfl)
    (ht : eval (.Call (.Attribute o m apos) (e :: es) [] pos) X.env = (do
      let ov ← eval o X.env
      standAt apos.atName
      let (g, first) ← holding [ov] (getMethod ov m pl)
      callWith pos g first (backTo pos (starEach (e :: es) X.env)) (backToKw pos (keywordEach [] X.env))) := by rfl) :
    PE X (.Call (.Attribute o m apos) (e :: es) [] pos) (tMtdT C m sp W ta t) := by
  obtain ⟨f, fd, hm, hb, G⟩ := c.ex
  refine ⟨fun pins s σ H Q I h => PySem.W.methodCall_KW (pl := pl) (thn (he.run pins s σ H _ I h) fun u s1 ⟨x, H1, I1, rx, a, dx, fs, ex, ea, l, q⟩ => ?_) ht⟩
  subst ex
  obtain rfl : u = Value.ref a := rx
  refine getmeth_ok I1 ea c.cl hm l (PySem.W.callWith_K (first := [.ref a]) (h₀ := X.base) I.ok.mod.kin hm.kp (thn (ha.run pos pins s1 σ H1 _ I1 q) fun us s2 ⟨vs, H2, I2, r, q2⟩ => ⟨I2.kIn, ?_⟩) hst hpl)
  exact run_fnS (us := .ref a :: us) (vs := .ref a :: vs) G hr hb (passAt tk σ) I2 (.cons rfl r) q2
end L2


set_option Elab.async false
set_option linter.all false
set_option maxRecDepth 100000
set_option maxHeartbeats 4000000
/-! comprehensions with a condition -/
namespace L2
open PySem PySem.Spec PyProof.Rows
section
variable {J : It} {n : Nat} {G : Hp → Prop} {Y : Nat → Hp → V → Hp → Prop} {g : TG} {te : TE} {tt : TT} {vs : List Nat} {σ : St} {H1 : Hp} {Q : VK}
theorem picked_more {α : Type} (p : Nat → Bool) (v : Nat → α) (i : Nat) : ((List.range (i + 1)).filter p).map v = ((List.range i).filter p).map v ++ (if p i = true then [v i] else []) := by
  rw [List.range_succ, List.filter_append, List.map_append]
  by_cases h : p i = true
  · rw [if_pos h, List.filter_cons_of_pos h]; rfl
  · rw [if_neg h, List.filter_cons_of_neg h]; rfl
theorem picked_len {α : Type} (p : Nat → Bool) (v : Nat → α) (i : Nat) : (((List.range i).filter p).map v).length ≤ i := by
  rw [List.length_map]
  exact Nat.le_trans (List.length_filter_le _ _) (by rw [List.length_range]; exact Nat.le_refl _)
/-- [e for .. in .. if ..]: turn i is taken if p i, and tells v i then -/
theorem lc_filtW (p : Nat → Bool) (v : Nat → V) (w : Walk J n G Y) (hn : n ≤ 50000) (hG : ∀ H', Same H1 H' → G H') (hy : ∀ i H' x H2, Same H1 H' → Y i H' x H2 → Same H' H2)
    (hs : ∀ i x H' H2, i < n → Same H1 H' → Y i H' x H2 → ∀ (R : VK) (N : Hp → Prop), (p i = true → ∀ H4, Same H2 H4 → R (v i) H4) → (p i = false → ∀ H4, Same H2 H4 → N H4) → g x (wipe σ vs) H2 fun σ2 H3 => wipe σ2 vs = wipe σ vs ∧ tt σ2 H3 fun b H4 => if b = true then te σ2 H4 R else N H4)
    (q : ∀ D H', H1 D = none → Same H1 H' → H' D = some (.lst (((List.range n).filter p).map v)) → Q (.ref D) H') :
    ∀ D, H1 D = none → ∃ W : Nat → Nat → Hp → Prop, (∃ m, W 0 m (upd H1 D (.lst []))) ∧ ∀ i m H, W i m H →
      ((J.stop i H ∧ Q (.ref D) H) ∨ (J.go i H ∧ ∃ Nx : Hp → Prop, (∀ H', Nx H' → ∃ m', m' < m ∧ W (i + 1) m' H') ∧ ∀ x H', J.yld i H x H' → g x (wipe σ vs) H' fun σ2 H2 => wipe σ2 vs = wipe σ vs ∧ tt σ2 H2 fun b H3 =>
        if b = true then te σ2 H3 fun y H4 => ∃ acc, H4 D = some (.lst acc) ∧ acc.length < sizeLine ∧ Nx (upd H4 D (.lst (acc ++ [y]))) else Nx H3)) := by
  refine fun D hD => lc_it w (tt := tt) (Pv := fun i H' => Same H1 H' ∧ H' D = some (.lst (((List.range i).filter p).map v))) ⟨same_upd hD, upd_same⟩ (fun i H' _ z => hG H' z.1) (fun i x H' H2 hi z y => ?_) (fun H' z => q D H' hD z.1 z.2)
  have s2 := hy i H' x H2 z.1 y
  refine hs i x H' H2 hi z.1 y _ _ (fun hp H4 e4 => ?_) (fun hp H4 e4 => ?_)
  · refine ⟨_, e4 _ _ (s2 _ _ z.2), ?_, same_mut ((z.1.trans s2).trans e4) hD, ?_⟩
    · rw [sizeLine_eq]
      exact Nat.lt_of_le_of_lt (picked_len p v i) (by omega)
    · rw [picked_more, if_pos hp]
      exact upd_same
  · refine ⟨(z.1.trans s2).trans e4, ?_⟩
    rw [picked_more, if_neg (by rw [hp]; decide), List.append_nil]
    exact e4 _ _ (s2 _ _ z.2)
theorem lc_filt {wi : TI} {H : Hp} (p : Nat → Bool) (v : Nat → V) (hl : ∀ R : It → Hp → Prop, R J H1 → wi σ H R) (w : Walk J n G Y) (hn : n ≤ 50000) (hG : ∀ H', Same H1 H' → G H') (hy : ∀ i H' x H2, Same H1 H' → Y i H' x H2 → Same H' H2)
    (hs : ∀ i x H' H2, i < n → Same H1 H' → Y i H' x H2 → ∀ (R : VK) (N : Hp → Prop), (p i = true → ∀ H4, Same H2 H4 → R (v i) H4) → (p i = false → ∀ H4, Same H2 H4 → N H4) → g x (wipe σ vs) H2 fun σ2 H3 => wipe σ2 vs = wipe σ vs ∧ tt σ2 H3 fun b H4 => if b = true then te σ2 H4 R else N H4)
    (q : ∀ D H', H1 D = none → Same H1 H' → H' D = some (.lst (((List.range n).filter p).map v)) → Q (.ref D) H') : tLc wi g tt te vs σ H Q := hl _ (lc_filtW p v w hn hG hy hs q)
/-- .. over a list that is new itself -/
theorem lc_filtL {K : PySem.W.Frag} {wi : TI} {H : Hp} (zs : List V) (p : Nat → Bool) (v : Nat → V) (hl : ∀ R : It → Hp → Prop, (∀ L H1, Same H H1 → H1 L = some (.lst zs) → R (Itl K L) H1) → wi σ H R) (hn : zs.length ≤ 50000)
    (hs : ∀ i y H2, zs[i]? = some y → Same H H2 → ∀ (R : VK) (N : Hp → Prop), (p i = true → ∀ H4, Same H2 H4 → R (v i) H4) → (p i = false → ∀ H4, Same H2 H4 → N H4) → g y (wipe σ vs) H2 fun σ2 H3 => wipe σ2 vs = wipe σ vs ∧ tt σ2 H3 fun b H4 => if b = true then te σ2 H4 R else N H4)
    (q : ∀ D H', Same H H' → H' D = some (.lst (((List.range zs.length).filter p).map v)) → Q (.ref D) H') : tLc wi g tt te vs σ H Q :=
  hl _ fun L H1 e1 hL => lc_filtW (J := Itl K L) (H1 := H1) p v (walk_list (xs := zs)) hn (fun H2 e2 => SqL.of (e2 _ _ hL)) (fun i H2 y H3 _ z => z.1 ▸ Same.refl _)
    (fun i y H2 H3 hi e2 z R N q1 q2 => by
      obtain ⟨rfl, hy⟩ := z
      exact hs i y _ hy (e1.trans e2) R N q1 q2) fun D H' _ e2 hd => q D H' (e1.trans e2) hd
end
end L2


set_option Elab.async false
set_option linter.all false
set_option maxRecDepth 100000
namespace L2
open PySem PySem.Spec PyProof.Rows
/-! one def, kept for each of several classes: the class is told at the call -/
def anyC (D : Addr → Prop) (sp : Addr → Sp) : Sp := fun vs H Q E => ∃ C, D C ∧ sp C vs H Q E
theorem FnOk.any {P : Program} {w : World} {K : PySem.W.Frag} {mg : Str → Option Value} {base : Heap} {CX : CXT} {k : Nat} {f : Addr} {fd : FuncData} {ps : List Str} {D : Addr → Prop} {sp : Addr → Sp} (h : ∀ C, D C → FnOk P w K mg base CX k f fd ps (sp C)) : FnOk P w K mg base CX k f fd ps (anyC D sp) :=
  ⟨fun vs H Q E ⟨C, d, z⟩ => (h C d).len vs H Q E z, fun A outer s H args us vs Q E hr e0 hb hv ⟨C, d, z⟩ => (h C d).run A outer s H args us vs Q E hr e0 hb hv z⟩
/-- o.m(..), o an instance of one of the classes D -/
structure MtdA (P : Program) (w : World) (K : PySem.W.Frag) (mg : Str → Option Value) (base : Heap) (k : Nat) (D : Addr → Prop) (m : Str) (ps : List Str) (sp : Sp) : Prop where
  ex : ∃ f fd, (∀ C, D C → Cls K C ∧ Meth K C m f) ∧ PySem.W.keepIn K (.ref f) = true ∧ Binds K fd ps [] ∧ FnOk P w K mg base (L2.CX P w) k f fd ps sp
def tMethA (D : Addr → Prop) (m : Str) (sp : Sp) (E : XK) (ta : TE) (t : TA) : TE := fun σ H Q => ta σ H fun x H1 => ∃ a C dx fs, D C ∧ x = .ref a ∧ H1 a = some (.ins C dx fs) ∧ fs.lookup m = none ∧ t σ H1 fun vs H2 => sp (x :: vs) H2 Q E
section
variable {X : Cx} {k : Nat} {D : Addr → Prop} {m : Str} {ps : List Str} {sp : Sp} {E : XK} {o e : Expr} {es : List Expr} {ta : TE} {t : TA} {apos pos : Pos} {pl : Sem Bool}
theorem pe_mtdA (c : MtdA X.prog X.w X.K X.mg X.base k D m ps sp) (hr : Room k X.A) (hx : Passes (L2.CX X.prog X.w) X E) (he : PE X o ta) (ha : PA X (e :: es) t)
    (hst : starEach (e :: es) X.env = (false, eval e X.env) :: starEach es X.env := by rfl) (hpl : (backTo pos (starEach es X.env)).any (·.1) = false := by rfl)
    (ht : eval (.Call (.Attribute o m apos) (e :: es) [] pos) X.env = (do
      let ov ← eval o X.env
      standAt apos.atName
      let (g, first) ← holding [ov] (getMethod ov m pl)
      callWith pos g first (backTo pos (starEach (e :: es) X.env)) (backToKw pos (keywordEach [] X.env))) := by rfl) :
    PE X (.Call (.Attribute o m apos) (e :: es) [] pos) (tMethA D m sp E ta t) := by
  obtain ⟨f, fd, hm, kp, hb, G⟩ := c.ex
  refine ⟨fun pins s σ H Q I h => PySem.W.methodCall_KW (pl := pl) (thn (he.run pins s σ H _ I h) fun u s1 ⟨x, H1, I1, rx, a, C, dx, fs, dC, ex, ea, l, q⟩ => ?_) ht⟩
  subst ex
  obtain rfl : u = Value.ref a := rx
  refine getmeth_ok I1 ea (hm C dC).1 (hm C dC).2 l (PySem.W.callWith_K (first := [.ref a]) (h₀ := X.base) I.ok.mod.kin kp (thn (ha.run pos pins s1 σ H1 _ I1 q) fun us s2 ⟨vs, H2, I2, r, q2⟩ => ⟨I2.kIn, ?_⟩) hst hpl)
  exact run_fn (us := .ref a :: us) (vs := .ref a :: vs) G hr hb .nil hx I2 (.cons rfl r) (by rw [List.append_nil]; exact q2)
theorem pe_mtdA0 (c : MtdA X.prog X.w X.K X.mg X.base k D m ps sp) (hr : Room k X.A) (hx : Passes (L2.CX X.prog X.w) X E) (he : PE X o ta)
    (ht : eval (.Call (.Attribute o m apos) [] [] pos) X.env = (do
      let ov ← eval o X.env
      standAt apos.atName
      let (g, first) ← holding [ov] (getMethod ov m pl)
      callWith pos g first (backTo pos (starEach [] X.env)) (backToKw pos (keywordEach [] X.env))) := by rfl) :
    PE X (.Call (.Attribute o m apos) [] [] pos) (tMethA D m sp E ta tNil) := by
  obtain ⟨f, fd, hm, kp, hb, G⟩ := c.ex
  refine ⟨fun pins s σ H Q I h => PySem.W.methodCall_KW (pl := pl) (thn (he.run pins s σ H _ I h) fun u s1 ⟨x, H1, I1, rx, a, C, dx, fs, dC, ex, ea, l, q⟩ => ?_) ht⟩
  subst ex
  obtain rfl : u = Value.ref a := rx
  exact getmeth_ok I1 ea (hm C dC).1 (hm C dC).2 l (PySem.W.callWith_K0 (first := [.ref a]) I1.kIn kp (run_fn (us := [.ref a]) (vs := [.ref a]) G hr hb .nil hx I1 (.cons rfl .nil) q))
end
end L2


set_option Elab.async false
set_option linter.all false
set_option maxRecDepth 100000
set_option maxHeartbeats 4000000
namespace K14
open PySem PySem.Spec PyProof.Rows L2 Evl NdefX SX
/-! ### texts as lists of signs -/
theorem cut_nat (cs : List Nat) (i j : Nat) (hij : i ≤ j) : cutS (S cs) (some (i : Int)) (some (j : Int)) = S ((cs.drop i).take (j - i)) := by
  unfold cutS
  have e : (S cs).cps.toList = cs := rfl
  have l : (S cs).length = cs.length := S_len cs
  rw [HT.sIx_nat, HT.sIx_nat, e, l]
  show (⟨_⟩ : Str) = ⟨_⟩
  congr 2
  by_cases h : i ≤ cs.length
  · rw [Nat.min_eq_left h]
    by_cases h2 : j ≤ cs.length
    · rw [Nat.min_eq_left h2]
    · rw [Nat.min_eq_right (by omega), List.take_of_length_le (by rw [List.length_drop]; omega), List.take_of_length_le (by rw [List.length_drop]; omega)]
  · rw [Nat.min_eq_right (show cs.length ≤ i by omega), List.drop_eq_nil_of_le (Nat.le_refl _), List.drop_eq_nil_of_le (show cs.length ≤ i by omega)]
    simp
theorem cut_at {cs pre tl : List Nat} (e : cs = pre ++ tl) (k : Nat) : cutS (S cs) (some (pre.length : Int)) (some ((pre.length : Int) + (k : Int))) = S (tl.take k) := by
  subst e
  rw [show ((pre.length : Int) + (k : Int)) = ((pre.length + k : Nat) : Int) by omega, cut_nat _ _ _ (by omega), show pre.length + k - pre.length = k by omega]
  congr 2
  exact List.drop_left
theorem cut1 {cs pre tl : List Nat} (e : cs = pre ++ tl) : cutS (S cs) (some (pre.length : Int)) (some ((pre.length : Int) + 1)) = S (tl.take 1) := cut_at e 1
theorem S_inj {a b : List Nat} (h : S a = S b) : a = b := by
  have e : (S a).cps.toList = (S b).cps.toList := by rw [h]
  exact e
theorem S_app (a b : List Nat) : S a ++ S b = S (a ++ b) := by
  show (⟨_⟩ : Str) = ⟨_⟩
  congr 1
  exact List.append_toArray a b
theorem strS (x : Str) : x = S x.cps.toList := by
  show x = ⟨_⟩
  rw [Array.toArray_toList]
/-- " " * n -/
theorem op_repS {X : Cx} : OpR X (binaryOp .Mult) (fun x y H Q => ∃ (c : Nat) (n : Nat), x = .str (S [c]) ∧ y = .int (n : Int) ∧ n ≤ 1000 ∧ Q (.str (S (List.replicate n c))) H) := by
  intro pins s σ H x y v u Q I rx ry h
  obtain ⟨c, n, rfl, rfl, hn, q⟩ := h
  obtain ⟨t, rfl⟩ := rx
  obtain ⟨t', rfl⟩ := ry
  have l1 : (S [c]).length = 1 := rfl
  refine P.mul_str ?_ (fun _ _ => ?_) (fun _ _ => ?_) ?_
  · rw [decide_eq_false (by omega), decide_eq_false (by omega)]
    rfl
  · rw [l1]
    have : (1 : Int) ≤ (2 ^ 63 - 1) / (n : Int) := by
      rw [Int.le_ediv_iff_mul_le (by omega)]
      omega
    omega
  · rw [l1]
    rw [Int.toNat_natCast]
    exact decide_eq_false (by rw [sizeLine_eq]; omega)
  · have rep : (List.replicate n (S [c]).cps).foldl (· ++ ·) #[] = (S (List.replicate n c)).cps := by
      have key : ∀ (m : Nat) (a : List Nat), (List.replicate m (#[c] : Array Nat)).foldl (· ++ ·) a.toArray = (a ++ List.replicate m c).toArray := by
        intro m
        induction m with
        | zero => intro a; simp
        | succ m ih =>
          intro a
          rw [List.replicate_succ, List.foldl_cons, List.append_toArray a [c], ih, List.replicate_succ, List.append_assoc]
          rfl
      exact key n []
    by_cases h0 : (n : Int) < 1
    · rw [if_pos h0]
      obtain rfl : n = 0 := by omega
      exact ⟨by decide, .str (S []), H, I.tok _, ⟨_, rfl⟩, q⟩
    · rw [if_neg h0]
      by_cases h1 : n = 1
      · subst h1
        rw [if_pos (by rfl)]
        exact ⟨.str (S [c]), H, I, ⟨_, rfl⟩, q⟩
      · rw [if_neg (by rw [l1]; simp; omega)]
        rw [Int.toNat_natCast, rep]
        exact ⟨by
          show (S (List.replicate n c)).length ≤ _
          rw [S_len, List.length_replicate, sizeLine_eq]
          omega, .str (S (List.replicate n c)), H, I.tok _, ⟨_, rfl⟩, q⟩
/-! ### words -/
structure Word (w : List Nat) : Prop where
  lo : 1 ≤ w.length
  hi : w.length ≤ 12
  all : ∀ c ∈ w, c ∈ abc9.cps.toList
  hd : w.getD 0 0 ∈ abc.cps.toList
theorem word_S {w : List Nat} : wordB (S w) = true ↔ Word w := by
  unfold wordB plainB
  have l : (S w).length = w.length := S_len w
  have sz : (S w).cps.size = w.length := S_len w
  have g : ∀ i, (S w).cps.getD i 0 = w.getD i 0 := fun i => by
    show (w.toArray).getD i 0 = _
    simp [Array.getD_eq_getD_getElem?, List.getD_eq_getElem?_getD]
  rw [l, sz]
  simp only [Bool.and_eq_true, decide_eq_true_eq, List.all_eq_true, List.mem_map, List.mem_range, g, id]
  constructor
  · rintro ⟨⟨⟨h1, h2⟩, h3⟩, h4⟩
    refine ⟨h1, h2, fun c hc => ?_, h4⟩
    obtain ⟨i, hi, rfl⟩ := List.mem_iff_getElem.mp hc
    have z := h3 _ ⟨i, hi, rfl⟩
    rw [decide_eq_true_eq, List.getD_eq_getElem?_getD, List.getElem?_eq_getElem hi] at z
    exact z
  · rintro ⟨h1, h2, h3, h4⟩
    refine ⟨⟨⟨h1, h2⟩, ?_⟩, h4⟩
    rintro b ⟨i, hi, rfl⟩
    rw [decide_eq_true_eq, List.getD_eq_getElem?_getD, List.getElem?_eq_getElem hi]
    exact h3 _ (List.getElem_mem hi)
theorem Word.pre {w : List Nat} (h : Word w) {j : Nat} (h1 : 1 ≤ j) : Word (w.take j) := by
  have lo := h.lo
  have hi := h.hi
  refine ⟨by rw [List.length_take]; omega, by rw [List.length_take]; omega, fun c hc => h.all c (List.mem_of_mem_take hc), ?_⟩
  have e : (w.take j).getD 0 0 = w.getD 0 0 := by
    cases w with
    | nil => cases lo
    | cons c r =>
      cases j with
      | zero => cases h1
      | succ j => rfl
  rw [e]
  exact h.hd
theorem abc_sub : ∀ c ∈ abc.cps.toList, c ∈ abc9.cps.toList := by decide +kernel
theorem no_sign : 32 ∉ abc9.cps.toList ∧ 40 ∉ abc9.cps.toList ∧ 41 ∉ abc9.cps.toList ∧ 44 ∉ abc9.cps.toList := by decide +kernel
theorem abc9_lt : ∀ c ∈ abc9.cps.toList, c < 0x110000 := by decide +kernel
/-! ### terms -/
inductive Tm where
  | v (w : List Nat)
  | f (w : List Nat) (ps : List Tm)
mutual
/-- the text of a term -/
def txt : Tm → List Nat
  | .v w => w
  | .f w ps => w ++ 40 :: (TL.joinL [44, 32] (txtL ps) ++ [41])
def txtL : List Tm → List (List Nat)
  | [] => []
  | t :: r => txt t :: txtL r
end
mutual
def dep : Tm → Nat
  | .v _ => 0
  | .f _ ps => depL ps + 1
def depL : List Tm → Nat
  | [] => 0
  | t :: r => max (dep t) (depL r)
end
mutual
/-- as long as its text with blanks may be -/
def cost : Tm → Nat
  | .v w => w.length + 14
  | .f w ps => w.length + 30 + costL ps
def costL : List Tm → Nat
  | [] => 0
  | t :: r => cost t + 2 + costL r
end
mutual
/-- all its words are words -/
def okT : Tm → Prop
  | .v w => Word w
  | .f w ps => Word w ∧ okL ps
def okL : List Tm → Prop
  | [] => True
  | t :: r => okT t ∧ okL r
end
def bl (n : Nat) : List Nat := List.replicate n 32
mutual
/-- a text with blanks behind its words and signs -/
inductive Spl : Tm → List Nat → Prop
  | v {w : List Nat} {n : Nat} : Word w → Spl (.v w) (w ++ bl n)
  | f0 {w : List Nat} {n m k : Nat} : Word w → Spl (.f w []) (w ++ (bl n ++ 40 :: (bl m ++ 41 :: bl k)))
  | f {w s r : List Nat} {t : Tm} {ts : List Tm} {n m k : Nat} : Word w → Spl t s → Rm ts r → Spl (.f w (t :: ts)) (w ++ (bl n ++ 40 :: (bl m ++ (s ++ (r ++ 41 :: bl k)))))
inductive Rm : List Tm → List Nat → Prop
  | nil : Rm [] []
  | cons {t : Tm} {ts : List Tm} {s r : List Nat} {n : Nat} : Spl t s → Rm ts r → Rm (t :: ts) (44 :: (bl n ++ (s ++ r)))
end
mutual
/-- a term in the heap -/
inductive TmAt (H : Hp) : V → Tm → Prop
  | v {w : List Nat} : TmAt H (.str (S w)) (.v w)
  | f {a : Addr} {w : List Nat} {vs : List V} {ps : List Tm} : H a = some (.tup (.str (S w) :: vs)) → TmsAt H vs ps → TmAt H (.ref a) (.f w ps)
inductive TmsAt (H : Hp) : List V → List Tm → Prop
  | nil : TmsAt H [] []
  | cons {x : V} {t : Tm} {vs : List V} {ps : List Tm} : TmAt H x t → TmsAt H vs ps → TmsAt H (x :: vs) (t :: ps)
end
/-- all tuples stand -/
def Tups (H H' : Hp) : Prop := ∀ a xs, H a = some (.tup xs) → H' a = some (.tup xs)
theorem Tups.trans {H H1 H2 : Hp} (a : Tups H H1) (b : Tups H1 H2) : Tups H H2 := fun x xs h => b x xs (a x xs h)
theorem Tups.of {H H' : Hp} (e : Same H H') : Tups H H' := fun a xs h => e _ _ h
theorem Tups.but {d L : Addr} {H H' : Hp} (b : But d L H H') (s : Src d L H) : Tups H H' := fun a xs h => by
  obtain ⟨cs, l, m, t, g1, g2, _⟩ := s.ex
  exact b a _ h (ne_of h g1 fun z => nomatch z) (ne_of h g2 fun z => nomatch z)
theorem Tups.put {H : Hp} {p : Addr} {ys : List V} {u : HO} (h : H p = some (.lst ys)) : Tups H (upd H p u) := fun a xs q => by
  rw [upd_ne (ne_of q h fun z => nomatch z)]
  exact q
mutual
theorem TmAt.keep {H H' : Hp} (e : Tups H H') : ∀ {x : V} {t : Tm}, TmAt H x t → TmAt H' x t
  | _, _, .v => .v
  | _, _, .f h r => .f (e _ _ h) (TmsAt.keep e r)
theorem TmsAt.keep {H H' : Hp} (e : Tups H H') : ∀ {vs : List V} {ps : List Tm}, TmsAt H vs ps → TmsAt H' vs ps
  | _, _, .nil => .nil
  | _, _, .cons h r => .cons (TmAt.keep e h) (TmsAt.keep e r)
end
theorem TmsAt.len {H : Hp} : ∀ {vs : List V} {ps : List Tm}, TmsAt H vs ps → vs.length = ps.length
  | _, _, .nil => rfl
  | _, _, .cons _ r => congrArg (· + 1) r.len
theorem TmsAt.app {H : Hp} : ∀ {vs us : List V} {ps qs : List Tm}, TmsAt H vs ps → TmsAt H us qs → TmsAt H (vs ++ us) (ps ++ qs)
  | _, _, _, _, .nil, s => s
  | _, _, _, _, .cons h r, s => .cons h (r.app s)
theorem TmsAt.at_ {H : Hp} : ∀ {vs : List V} {ps : List Tm} {i : Nat} {x : V}, TmsAt H vs ps → vs[i]? = some x → ∃ t, ps[i]? = some t ∧ TmAt H x t
  | _, _, 0, _, .cons h _, e => ⟨_, rfl, by cases e; exact h⟩
  | _, _, i + 1, _, .cons _ r, e => r.at_ e
theorem bl_add (n m : Nat) : bl n ++ bl m = bl (n + m) := List.replicate_append_replicate
theorem bl_len (n : Nat) : (bl n).length = n := List.length_replicate
theorem Spl.word {t : Tm} {s : List Nat} (h : Spl t s) : ∃ c r, s = c :: r ∧ c ∈ abc.cps.toList := by
  have key : ∀ {w : List Nat} (x : List Nat), Word w → ∃ c r, w ++ x = c :: r ∧ c ∈ abc.cps.toList := fun {w} x hw => by
    cases w with
    | nil => cases hw.lo
    | cons c r => exact ⟨c, _, rfl, hw.hd⟩
  cases h with
  | v hw => exact key _ hw
  | f0 hw => exact key _ hw
  | f hw => exact key _ hw
end K14


set_option Elab.async false
set_option linter.all false
set_option maxRecDepth 100000
set_option maxHeartbeats 4000000
namespace K14
open PySem PySem.Spec PyProof.Rows L2 Evl NdefX SX
section
variable {P : Program} {w : World} {K : PySem.W.Frag} {mg : Str → Option Value} {base : Heap}
/-- rest does not begin with a blank -/
def NB (rest : List Nat) : Prop := ∀ c r, rest = c :: r → c ≠ 32
def spBB : Sp := fun vs H Q _ => ∃ (cs pre rest : List Nat) (n : Nat), vs = [.str (S cs), .int (pre.length : Int)] ∧ cs = pre ++ (bl n ++ rest) ∧ NB rest ∧ cs.length ≤ 100000 ∧ Q (.int ((pre.length + n : Nat) : Int)) H
abbrev s__behind_blanks : Stmt := top 15
abbrev N__behind_blanks : List Str := ["text", "place"]
theorem sc__behind_blanks : FnScope N__behind_blanks ["text", "place"] (defScope s__behind_blanks) := ⟨rfl, rfl, rfl, by decide +kernel, rfl, by decide +kernel, by decide +kernel⟩
theorem ok_bb {f : Addr} {fd : FuncData} (F : Fun K "_behind_blanks" "_behind_blanks" s__behind_blanks f fd) : FnOk P w K mg base CX0 1 f fd ["text", "place"] spBB := by
  refine F.ok sc__behind_blanks (fun vs H Q E h => ?_) (fun cdv A outer s H vs Q E hr h => ?_)
  · obtain ⟨cs, pre, rest, n, rfl, _⟩ := h
    rfl
  · obtain ⟨cs, pre, rest, n, rfl, ec, nb, lc, k⟩ := h
    refine ⟨_, (pss_cons (ps_while PassesOwn.never (pt_cmpR op_eq (pe_slice sl_str (pv 0) (po_some (pv 1)) (po_some (pe_op op_add (pv 1) (pe_int)))) (pe_str) (nomark _)) (pss_one (ps_aug (i := 1) sc__behind_blanks.nd rfl (Or.inl rfl) (pe_int) ip_add)))
      (pss_one (ps_ret (pv 1)))), ?_⟩
    refine ⟨fun m σ H' => ∃ j, j ≤ n ∧ m = n - j ∧ H' = H ∧ σ = [some (.str (S cs)), some (.int ((pre.length + j : Nat) : Int))], ⟨_, 0, Nat.zero_le _, rfl, rfl, rfl⟩, fun m σ H' p => ?_⟩
    obtain ⟨j, hj, rfl, rfl, rfl⟩ := p
    have e2 : cs = (pre ++ bl j) ++ (bl (n - j) ++ rest) := by
      rw [ec, List.append_assoc, ← List.append_assoc (bl j), bl_add, show j + (n - j) = n by omega]
    have lp : (pre ++ bl j).length = pre.length + j := by rw [List.length_append, bl_len]
    have ct := cut1 e2
    rw [lp] at ct
    refine ⟨_, rfl, _, rfl, _, rfl, _, rfl, _, _, rfl, rfl, _, rfl, S cs, rfl, by rw [S_len, sizeLine_eq]; omega, ?_⟩
    rw [ct]
    by_cases h : j < n
    · obtain ⟨q, hq⟩ : ∃ q, n - j = q + 1 := ⟨n - j - 1, by omega⟩
      have e1 : (bl (n - j) ++ rest).take 1 = [32] := by rw [hq]; rfl
      rw [e1]
      refine ⟨rfl, _, rfl, if_true_of (by decide +kernel) ⟨_, fun σ' H'' z => z, ?_⟩⟩
      refine ⟨_, rfl, _, _, rfl, rfl, n - (j + 1), by omega, j + 1, by omega, rfl, rfl, ?_⟩
      rfl
    · obtain rfl : j = n := by omega
      have e1 : (bl (j - j) ++ rest).take 1 = rest.take 1 := by rw [Nat.sub_self]; rfl
      rw [e1]
      refine ⟨rfl, _, rfl, if_false_of (decide_eq_false fun z => ?_) ?_⟩
      · have z : rest.take 1 = [32] := S_inj (V.str.inj z)
        cases rest with
        | nil => cases z
        | cons c r =>
          injection z with z _
          exact nb c r rfl z
      · exact ⟨_, rfl, k⟩
/-- rest does not begin with a sign of a word -/
def NW (rest : List Nat) : Prop := ∀ c r, rest = c :: r → c ∉ abc9.cps.toList
def spWE : Sp := fun vs H Q _ => ∃ (cs pre w rest : List Nat), vs = [.str (S cs), .int (pre.length : Int)] ∧ cs = pre ++ (w ++ rest) ∧ Word w ∧ NW rest ∧ cs.length ≤ 100000 ∧ ∀ H', Same H H' → Q (.int ((pre.length + w.length : Nat) : Int)) H'
abbrev s__word_end : Stmt := top 14
abbrev N__word_end : List Str := ["text", "start", "end"]
theorem sc__word_end : FnScope N__word_end ["text", "start"] (defScope s__word_end) := ⟨rfl, rfl, rfl, by decide +kernel, rfl, by decide +kernel, by decide +kernel⟩
theorem ok_we {f : Addr} {fd : FuncData} (F : Fun K "_word_end" "_word_end" s__word_end f fd) (T : Blt mg) (c_is_word : Cal P w K mg base 2 "is_word" ["thing"] (spText wordB)) : FnOk P w K mg base CX0 3 f fd ["text", "start"] spWE := by
  refine F.ok sc__word_end (fun vs H Q E h => ?_) (fun cdv A outer s H vs Q E hr h => ?_)
  · obtain ⟨cs, pre, w, rest, rfl, _⟩ := h
    rfl
  · obtain ⟨cs, pre, w, rest, rfl, ec, hw, nw, lc, k⟩ := h
    refine ⟨_, (pss_cons (ps_set (i := 2) sc__word_end.nd rfl (Or.inl rfl) (pv 1))
      (pss_cons (ps_while PassesOwn.never (PW.pt (pw_and (pt_cmpR op_lt (pv 2) (pe_callB call_len_str (by rfl) T.len (by decide +kernel) (pa_cons (pv 0) pa_nil)) (nomark _)) (pw_and1 (pt_val (pe_cal c_is_word (hr.mono (by decide)) (by rfl) (pa_cons (pe_slice sl_str (pv 0) (po_some (pv 1)) (po_some (pe_op op_add (pv 2) (pe_int)))) pa_nil)))))) (pss_one (ps_aug (i := 2) sc__word_end.nd rfl (Or.inl rfl) (pe_int) ip_add)))
      (pss_one (ps_ret (pv 2))))), ?_⟩
    have lo := hw.lo
    have hi := hw.hi
    have lcs : cs.length = pre.length + (w.length + rest.length) := by rw [ec, List.length_append, List.length_append]
    refine ⟨_, rfl, fun m σ H' => ∃ j, j ≤ w.length ∧ m = w.length - j ∧ Same H H' ∧ σ = [some (.str (S cs)), some (.int (pre.length : Int)), some (.int ((pre.length + j : Nat) : Int))], ⟨_, 0, Nat.zero_le _, rfl, Same.refl _, rfl⟩, fun m σ H' p => ?_⟩
    obtain ⟨j, hj, rfl, e, rfl⟩ := p
    refine ⟨_, rfl, _, rfl, S cs, rfl, by rw [S_len, sizeLine_eq]; omega, _, _, rfl, rfl, _, rfl, ?_⟩
    have stop : ∀ H1, Same H H1 → j = w.length → tRet (tVar 2) { nx := fun x H' => Q V.non H', rt := Q } [some (.str (S cs)), some (.int (pre.length : Int)), some (.int ((pre.length + j : Nat) : Int))] H1 := fun H1 e1 ej => by
      subst ej
      exact ⟨_, rfl, k H1 e1⟩
    by_cases hl : pre.length + j < cs.length
    · refine if_true_of (decide_eq_true (by rw [S_len]; omega)) ?_
      have ct : cutS (S cs) (some (pre.length : Int)) (some (((pre.length + j : Nat) : Int) + 1)) = S ((w ++ rest).take (j + 1)) := by
        have z := cut_at ec (j + 1)
        rw [show ((pre.length : Int) + ((j + 1 : Nat) : Int)) = ((pre.length + j : Nat) : Int) + 1 by omega] at z
        exact z
      refine ⟨_, rfl, _, rfl, _, rfl, _, rfl, _, _, rfl, rfl, _, rfl, S cs, rfl, by rw [S_len, sizeLine_eq]; omega, ?_⟩
      rw [ct]
      refine ⟨_, rfl, by rw [S_len, List.length_take]; omega, fun H1 e1 => ⟨_, rfl, ?_⟩⟩
      by_cases h : j < w.length
      · have e2 : (w ++ rest).take (j + 1) = w.take (j + 1) := List.take_append_of_le_length (by omega)
        rw [e2]
        refine if_true_of (word_S.mpr (hw.pre (by omega))) ⟨_, fun σ' H'' z => z, ?_⟩
        exact ⟨_, rfl, _, _, rfl, rfl, w.length - (j + 1), by omega, j + 1, by omega, rfl, e.trans e1, rfl⟩
      · have ej : j = w.length := by omega
        cases rest with
        | nil => rw [List.length_nil] at lcs; omega
        | cons c r =>
          have e2 : (w ++ c :: r).take (j + 1) = w ++ [c] := by
            rw [List.take_append, List.take_of_length_le (by omega), ej, show w.length + 1 - w.length = 1 by omega]
            rfl
          rw [e2]
          refine if_false_of (Bool.eq_false_iff.mpr fun z => ?_) (stop H1 (e.trans e1) ej)
          exact nw c r rfl ((word_S.mp z).all c (by simp))
    · refine if_false_of (decide_eq_false (by rw [S_len]; omega)) (if_false_of rfl ?_)
      exact stop _ e (by omega)
end
end K14


set_option Elab.async false
set_option linter.all false
set_option maxRecDepth 100000
set_option maxHeartbeats 4000000
namespace K14
open PySem PySem.Spec PyProof.Rows L2 Evl NdefX SX StX
section
variable {P : Program} {w : World} {K : PySem.W.Frag} {mg : Str → Option Value} {base : Heap}
theorem arg2 {x : V} {i j : Int} (h : i = j) : [x, V.int i] = [x, V.int j] := by rw [h]
/-- what may stand behind a term -/
def Er (rest : List Nat) : Prop := rest = [] ∨ ∃ c r, rest = c :: r ∧ (c = 44 ∨ c = 41)
theorem Er.nb {rest : List Nat} (h : Er rest) : NB rest := fun c r e => by
  rcases h with h | ⟨c', r', h, h'⟩
  · rw [h] at e; cases e
  · rw [h] at e
    injection e with e _
    omega
theorem Er.nw {rest : List Nat} (h : Er rest) : NW rest := fun c r e => by
  rcases h with h | ⟨c', r', h, h'⟩
  · rw [h] at e; cases e
  · rw [h] at e
    injection e with e _
    subst e
    rcases h' with rfl | rfl
    · exact no_sign.2.2.2
    · exact no_sign.2.2.1
theorem NW.bl {u : List Nat} (h : NW u) : ∀ n, NW (bl n ++ u)
  | 0 => h
  | n + 1 => fun c r e => by
    have e : 32 :: (K14.bl n ++ u) = c :: r := e
    injection e with e _
    rw [← e]
    exact no_sign.1
/-- the parts of a term, told -/
def PsOk (ps : List Tm) (body : List Nat) : Prop := (ps = [] ∧ body = []) ∨ ∃ t ts s r, ps = t :: ts ∧ body = s ++ r ∧ Spl t s ∧ Rm ts r
def spRead (n : Nat) : Sp := fun vs H Q _ => ∃ (cs pre s rest : List Nat) (t : Tm), vs = [.str (S cs), .int (pre.length : Int)] ∧ cs = pre ++ (s ++ rest) ∧ Spl t s ∧ dep t ≤ n ∧ Er rest ∧ cs.length ≤ 100000 ∧
  ∀ H' a v, Same H H' → H' a = some (.tup [v, .int ((pre.length + s.length : Nat) : Int)]) → TmAt H' v t → Q (.ref a) H'
def spParts (n : Nat) : Sp := fun vs H Q _ => ∃ (cs pre body rest : List Nat) (b : Nat) (ps : List Tm), vs = [.str (S cs), .int (pre.length : Int)] ∧ cs = pre ++ (body ++ 41 :: (bl b ++ rest)) ∧ PsOk ps body ∧ depL ps ≤ n ∧ Er rest ∧ cs.length ≤ 100000 ∧
  ∀ H' a l vs, Same H H' → H' a = some (.tup [.ref l, .int ((pre.length + body.length + 1 + b : Nat) : Int)]) → H' l = some (.lst vs) → TmsAt H' vs ps → Q (.ref a) H'
def spNo : Sp := fun _ _ _ _ => False
def spPrev : Nat → Sp
  | 0 => spNo
  | n + 1 => spParts n
theorem PsOk.nb {ps : List Tm} {body u : List Nat} (h : PsOk ps body) : NB (body ++ 41 :: u) := fun c r e => by
  rcases h with ⟨_, rfl⟩ | ⟨t, ts, s, r', _, rfl, hs, _⟩
  · injection e with e _
    omega
  · obtain ⟨c', r2, rfl, hc⟩ := hs.word
    injection e with e _
    rw [← e]
    intro z
    rw [z] at hc
    exact no_sign.1 (abc_sub _ hc)
theorem Rm.len : ∀ {ts : List Tm} {r : List Nat}, Rm ts r → ts.length ≤ r.length
  | _, _, .nil => Nat.le_refl _
  | _, _, .cons (s := s) (r := r) (n := n) hs hr => by
    have := hr.len
    rw [List.length_cons, List.length_cons, List.length_append, List.length_append]
    omega
theorem PsOk.len {ps : List Tm} {body : List Nat} (h : PsOk ps body) : ps.length ≤ body.length + 1 := by
  rcases h with ⟨rfl, rfl⟩ | ⟨t, ts, s, r', rfl, rfl, hs, hr⟩
  · exact Nat.zero_le _
  · have := hr.len
    rw [List.length_cons, List.length_append]
    omega
theorem Rm.er {ts : List Tm} {r u : List Nat} (h : Rm ts r) : Er (r ++ 41 :: u) := by
  cases h with
  | nil => exact .inr ⟨41, u, rfl, .inr rfl⟩
  | cons _ _ => exact .inr ⟨44, _, rfl, .inl rfl⟩
abbrev s__read : Stmt := top 12
abbrev N__read : List Str := ["text", "start", "end", "word", "place", "parts"]
theorem sc__read : FnScope N__read ["text", "start"] (defScope s__read) := ⟨rfl, rfl, rfl, by decide +kernel, rfl, by decide +kernel, by decide +kernel⟩
theorem ok_read {f : Addr} {fd : FuncData} {kp n : Nat} (F : Fun K "_read" "_read" s__read f fd) (c__word_end : Cal P w K mg base 3 "_word_end" ["text", "start"] spWE) (c__behind_blanks : Cal P w K mg base 1 "_behind_blanks" ["text", "place"] spBB)
    (c__read_parts : Cal P w K mg base kp "_read_parts" ["text", "start"] (spPrev n)) (hk : 3 ≤ kp) : FnOk P w K mg base CX0 (kp + 1) f fd ["text", "start"] (spRead n) := by
  refine F.ok sc__read (fun vs H Q E h => ?_) (fun cdv A outer s H vs Q E hr h => ?_)
  · obtain ⟨cs, pre, s, rest, t, rfl, _⟩ := h
    rfl
  · obtain ⟨cs, pre, s, rest, t, rfl, ec, sp, dt, er, lc, k⟩ := h
    refine ⟨_, (pss_cons (ps_set (i := 2) sc__read.nd rfl (Or.inl rfl) (pe_cal c__word_end (hr.mono (by omega)) (by rfl) (pa_cons (pv 0) (pa_cons (pv 1) pa_nil))))
      (pss_cons (ps_if (pt_cmpR op_eq (pv 2) (pv 1) (nomark _)) (pss_one (ps_never)) pss_nil)
      (pss_cons (ps_set (i := 3) sc__read.nd rfl (Or.inl rfl) (pe_slice sl_str (pv 0) (po_some (pv 1)) (po_some (pv 2))))
      (pss_cons (ps_set (i := 4) sc__read.nd rfl (Or.inl rfl) (pe_cal c__behind_blanks (hr.mono (by omega)) (by rfl) (pa_cons (pv 0) (pa_cons (pv 2) pa_nil))))
      (pss_cons (ps_if (pt_cmpR op_ne (pe_slice sl_str (pv 0) (po_some (pv 4)) (po_some (pe_op op_add (pv 4) (pe_int)))) (pe_str) (nomark _)) (pss_one (ps_ret (pe_tup (pa_cons (pv 3) (pa_cons (pv 4) pa_nil))))) pss_nil)
      (pss_cons (ps_asg (pe_cal c__read_parts (hr.mono (by omega)) (by rfl) (pa_cons (pv 0) (pa_cons (pe_cal c__behind_blanks (hr.mono (by omega)) (by rfl) (pa_cons (pv 0) (pa_cons (pe_op op_add (pv 4) (pe_int)) pa_nil))) pa_nil))) (pg_tup rfl (pgs_cons (pg_name (i := 5) sc__read.nd rfl (Or.inl rfl)) (pgs_cons (pg_name (i := 4) sc__read.nd rfl (Or.inl rfl)) pgs_nil))))
      (pss_one (ps_ret (pe_tup (pa_cons (pe_tup (pa_cons (pv 3) (pa_star (pv 5) pa_nil))) (pa_cons (pv 4) pa_nil))))))))))), ?_⟩
    -- the word, the blanks, and what stands behind them
    obtain ⟨w, q, u, hw, ec1, nu, alt⟩ : ∃ (w : List Nat) (q : Nat) (u : List Nat), Word w ∧ cs = pre ++ (w ++ (bl q ++ u)) ∧ NW u ∧ ((u = rest ∧ t = .v w ∧ s.length = w.length + q) ∨
        ∃ (m b : Nat) (ps : List Tm) (body : List Nat), u = 40 :: (bl m ++ (body ++ 41 :: (bl b ++ rest))) ∧ t = .f w ps ∧ PsOk ps body ∧ s.length = w.length + q + 1 + m + body.length + 1 + b) := by
      have n40 : ∀ x, NW (40 :: x) := fun x c r e => by
        injection e with e _
        rw [← e]
        exact no_sign.2.1
      cases sp with
      | @v w q hw => exact ⟨w, q, rest, hw, by rw [ec, List.append_assoc], er.nw, .inl ⟨rfl, rfl, by rw [List.length_append, bl_len]⟩⟩
      | @f0 w q m b hw => exact ⟨w, q, 40 :: (bl m ++ ([] ++ 41 :: (bl b ++ rest))), hw, by rw [ec]; simp [List.append_assoc], n40 _, .inr ⟨m, b, [], [], rfl, rfl, .inl ⟨rfl, rfl⟩, by simp [bl_len]; omega⟩⟩
      | @f w s' r t' ts q m b hw hs hr => exact ⟨w, q, 40 :: (bl m ++ ((s' ++ r) ++ 41 :: (bl b ++ rest))), hw, by rw [ec]; simp [List.append_assoc], n40 _, .inr ⟨m, b, t' :: ts, s' ++ r, rfl, rfl, .inr ⟨t', ts, s', r, rfl, rfl, hs, hr⟩, by simp [bl_len]; omega⟩⟩
    have nbu : NB u := fun c r e z => nu c r e |> fun h => by
      rcases alt with ⟨rfl, _⟩ | ⟨m, b, ps, body, e2, _⟩
      · exact er.nb c r e z
      · rw [e2] at e
        injection e with e _
        omega
    have lo := hw.lo
    have hi := hw.hi
    refine ⟨_, rfl, _, rfl, cs, pre, w, bl q ++ u, rfl, ec1, hw, nu.bl q, lc, fun H1 e1 => gN ?_⟩
    refine ⟨_, rfl, _, rfl, rfl, _, rfl, if_false_of (decide_eq_false fun z => by have z := V.int.inj z; omega) ?_⟩
    refine ⟨_, rfl, _, rfl, _, rfl, _, rfl, _, rfl, S cs, rfl, by rw [S_len, sizeLine_eq]; omega, ?_⟩
    have cw : cutS (S cs) (some (pre.length : Int)) (some ((pre.length + w.length : Nat) : Int)) = S w := by
      have z := cut_at ec1 w.length
      rw [show ((pre.length : Int) + (w.length : Int)) = ((pre.length + w.length : Nat) : Int) by omega, List.take_left] at z
      exact z
    rw [cw]
    refine gN ?_
    have ec2 : cs = (pre ++ w) ++ (bl q ++ u) := by rw [ec1, List.append_assoc]
    refine ⟨_, rfl, _, rfl, cs, pre ++ w, u, q, arg2 (by rw [List.length_append]), ec2, nbu, lc, gN ?_⟩
    have ec3 : cs = (pre ++ w ++ bl q) ++ u := by rw [ec2, List.append_assoc (pre ++ w)]
    have c1 := cut1 ec3
    have lq : (pre ++ w ++ bl q).length = (pre ++ w).length + q := by rw [List.length_append (as := pre ++ w), bl_len]
    rw [lq] at c1
    refine ⟨_, rfl, _, rfl, _, rfl, _, rfl, _, _, rfl, rfl, _, rfl, S cs, rfl, by rw [S_len, sizeLine_eq]; omega, ?_⟩
    rw [c1]
    rcases alt with ⟨rfl, rfl, ls⟩ | ⟨m, b, ps, body, rfl, rfl, hps, ls⟩
    · refine ⟨rfl, _, rfl, if_true_of ?_ ?_⟩
      · rw [Bool.not_eq_true', decide_eq_false_iff_not]
        intro z
        have z : u.take 1 = [40] := S_inj (V.str.inj z)
        rcases er with rfl | ⟨c, r, rfl, hc⟩
        · cases z
        · injection z with z _
          omega
      · refine ⟨_, rfl, _, rfl, by show 2 ≤ sizeLine; decide, fun a na => ?_⟩
        obtain ⟨H2, eG, e2, ha⟩ := put_new (o := .tup [.str (S w), .int (((pre ++ w).length + q : Nat) : Int)]) na
        rw [eG]
        clear eG
        refine k H2 a _ (e1.trans e2) ?_ .v
        rw [ha, ls, List.length_append, Nat.add_assoc]
    · have e40 : ∀ X, (40 :: X : List Nat).take 1 = [40] := fun _ => rfl
      rw [e40]
      refine ⟨rfl, _, rfl, if_false_of (by decide +kernel) ?_⟩
      have ec4 : cs = (pre ++ w ++ bl q ++ [40]) ++ (bl m ++ (body ++ 41 :: (bl b ++ rest))) := by rw [ec3, List.append_assoc (pre ++ w ++ bl q)]; rfl
      have ec5 : cs = (pre ++ w ++ bl q ++ [40] ++ bl m) ++ (body ++ 41 :: (bl b ++ rest)) := by rw [ec4, List.append_assoc (pre ++ w ++ bl q ++ [40])]
      have l4 : (pre ++ w ++ bl q ++ [40]).length = (pre ++ w).length + q + 1 := by rw [List.length_append (as := pre ++ w ++ bl q), lq]; rfl
      have l5 : (pre ++ w ++ bl q ++ [40] ++ bl m).length = (pre ++ w).length + q + 1 + m := by rw [List.length_append (as := pre ++ w ++ bl q ++ [40]), l4, bl_len]
      have hd : depL ps + 1 ≤ n := dt
      obtain ⟨n', rfl⟩ : ∃ n', n = n' + 1 := ⟨n - 1, by omega⟩
      have lps : ps.length ≤ 100001 := by
        have z := hps.len
        have y : cs.length = _ := congrArg List.length ec5
        rw [List.length_append, List.length_append (as := body)] at y
        omega
      refine ⟨_, rfl, _, rfl, _, rfl, _, _, rfl, rfl, cs, pre ++ w ++ bl q ++ [40], _, m, arg2 (by rw [l4]; omega), ec4, hps.nb, lc, ?_⟩
      refine ⟨cs, pre ++ w ++ bl q ++ [40] ++ bl m, body, rest, b, ps, arg2 (by rw [l5, l4]), ec5, hps, by omega, er, lc, fun H2 a l vs e2 ha hl htm => ?_⟩
      refine ⟨a, _, rfl, SqT.of ha, rfl, _, _, rfl, _, _, rfl, rfl, ?_⟩
      have lvs : vs.length ≤ 100001 := by rw [htm.len]; exact lps
      refine ⟨_, rfl, _, rfl, l, vs, rfl, .inr (SqL.of hl), by show (_ :: _).length ≤ _; rw [List.length_cons, List.length_append, sizeLine_eq]; show vs.length + 0 + 1 ≤ _; omega, fun a1 na1 => ?_⟩
      obtain ⟨H3, eG, e3, ha1⟩ := put_new (o := .tup (.str (S w) :: (vs ++ []))) na1
      rw [List.append_nil] at ha1 eG
      rw [List.append_nil, eG]
      clear eG
      refine ⟨_, rfl, by show 2 ≤ sizeLine; decide, fun a2 na2 => ?_⟩
      obtain ⟨H4, eG, e4, ha2⟩ := put_new (o := .tup [.ref a1, .int (((pre ++ w ++ bl q ++ [40] ++ bl m).length + body.length + 1 + b : Nat) : Int)]) na2
      rw [eG]
      clear eG
      refine k H4 a2 (.ref a1) (e1.trans (e2.trans (e3.trans e4))) ?_ (.f (e4 _ _ ha1) (htm.keep (Tups.of (e3.trans e4))))
      have fin : (pre ++ w ++ bl q ++ [40] ++ bl m).length + body.length + 1 + b = pre.length + s.length := by
        rw [l5, List.length_append (as := pre), ls]
        omega
      rw [ha2, fin]
end
end K14


set_option Elab.async false
set_option linter.all false
set_option maxRecDepth 100000
set_option maxHeartbeats 4000000
namespace K14
open PySem PySem.Spec PyProof.Rows L2 Evl NdefX SX StX
section
variable {P : Program} {w : World} {K : PySem.W.Frag} {mg : Str → Option Value} {base : Heap}
abbrev s__read_parts : Stmt := top 13
abbrev N__read_parts : List Str := ["text", "start", "first", "place", "parts", "part"]
theorem sc__read_parts : FnScope N__read_parts ["text", "start"] (defScope s__read_parts) := ⟨rfl, rfl, rfl, by decide +kernel, rfl, by decide +kernel, by decide +kernel⟩
theorem ok_parts {f : Addr} {fd : FuncData} {kr n : Nat} (F : Fun K "_read_parts" "_read_parts" s__read_parts f fd) (c__behind_blanks : Cal P w K mg base 1 "_behind_blanks" ["text", "place"] spBB)
    (c__read : Cal P w K mg base kr "_read" ["text", "start"] (spRead n)) (hk : 1 ≤ kr) : FnOk P w K mg base CX0 (kr + 1) f fd ["text", "start"] (spParts n) := by
  refine F.ok sc__read_parts (fun vs H Q E h => ?_) (fun cdv A outer s H vs Q E hr h => ?_)
  · obtain ⟨cs, pre, body, rest, b, ps, rfl, _⟩ := h
    rfl
  · obtain ⟨cs, pre, body, rest, b, ps, rfl, ec, hps, dp, er, lc, k⟩ := h
    refine ⟨_, (pss_cons (ps_if (pt_cmpR op_eq (pe_slice sl_str (pv 0) (po_some (pv 1)) (po_some (pe_op op_add (pv 1) (pe_int)))) (pe_str) (nomark _)) (pss_one (ps_ret (pe_tup (pa_cons (pe_lst pa_nil) (pa_cons (pe_cal c__behind_blanks (hr.mono (by omega)) (by rfl) (pa_cons (pv 0) (pa_cons (pe_op op_add (pv 1) (pe_int)) pa_nil))) pa_nil))))) pss_nil)
      (pss_cons (ps_asg (pe_cal c__read (hr.mono (by omega)) (by rfl) (pa_cons (pv 0) (pa_cons (pv 1) pa_nil))) (pg_tup rfl (pgs_cons (pg_name (i := 2) sc__read_parts.nd rfl (Or.inl rfl)) (pgs_cons (pg_name (i := 3) sc__read_parts.nd rfl (Or.inl rfl)) pgs_nil))))
      (pss_cons (ps_set (i := 4) sc__read_parts.nd rfl (Or.inl rfl) (pe_lst (pa_cons (pv 2) pa_nil)))
      (pss_cons (ps_while PassesOwn.never (pt_cmpR op_eq (pe_slice sl_str (pv 0) (po_some (pv 3)) (po_some (pe_op op_add (pv 3) (pe_int)))) (pe_str) (nomark _)) (pss_cons (ps_asg (pe_cal c__read (hr.mono (by omega)) (by rfl) (pa_cons (pv 0) (pa_cons (pe_cal c__behind_blanks (hr.mono (by omega)) (by rfl) (pa_cons (pv 0) (pa_cons (pe_op op_add (pv 3) (pe_int)) pa_nil))) pa_nil))) (pg_tup rfl (pgs_cons (pg_name (i := 5) sc__read_parts.nd rfl (Or.inl rfl)) (pgs_cons (pg_name (i := 3) sc__read_parts.nd rfl (Or.inl rfl)) pgs_nil))))
      (pss_one (ps_expr (pe_bm PySem.F.plainAttrs_list PySem.F.slot_list_append PySem.F.type_list_append mt_append (pv 4) (pa_cons (pv 5) pa_nil))))))
      (pss_cons (ps_if (pt_cmpR op_ne (pe_slice sl_str (pv 0) (po_some (pv 3)) (po_some (pe_op op_add (pv 3) (pe_int)))) (pe_str) (nomark _)) (pss_one (ps_never)) pss_nil)
      (pss_one (ps_ret (pe_tup (pa_cons (pv 4) (pa_cons (pe_cal c__behind_blanks (hr.mono (by omega)) (by rfl) (pa_cons (pv 0) (pa_cons (pe_op op_add (pv 3) (pe_int)) pa_nil))) pa_nil)))))))))), ?_⟩
    have lps : ps.length ≤ 100001 := by
      have z := hps.len
      have y : cs.length = _ := congrArg List.length ec
      rw [List.length_append, List.length_append (as := body)] at y
      omega
    have c1 := cut1 ec
    refine ⟨_, rfl, _, rfl, _, rfl, _, rfl, _, _, rfl, rfl, _, rfl, S cs, rfl, by rw [S_len, sizeLine_eq]; omega, ?_⟩
    rw [c1]
    rcases hps with ⟨rfl, rfl⟩ | ⟨t, ts, s1, r, rfl, rfl, hs, hr'⟩
    · have e40 : ∀ X, ([] ++ 41 :: X : List Nat).take 1 = [41] := fun _ => rfl
      rw [e40]
      refine ⟨rfl, _, rfl, if_true_of (by decide +kernel) ?_⟩
      refine ⟨by show 0 ≤ sizeLine; decide, fun l nl => ?_⟩
      obtain ⟨H1, eG, e1, hl⟩ := put_new (o := .lst []) nl
      rw [eG]
      clear eG
      have ec2 : cs = (pre ++ [41]) ++ (bl b ++ rest) := by rw [ec, List.append_assoc]; rfl
      refine ⟨_, rfl, _, rfl, _, _, rfl, rfl, cs, pre ++ [41], rest, b, arg2 (by rw [List.length_append]; rfl), ec2, er.nb, lc, by show 2 ≤ sizeLine; decide, fun a na => ?_⟩
      obtain ⟨H2, eG, e2, ha⟩ := put_new (o := .tup [.ref l, .int (((pre ++ [41]).length + b : Nat) : Int)]) na
      rw [eG]
      clear eG
      refine k H2 a l [] (e1.trans e2) ?_ (e2 _ _ hl) .nil
      rw [ha, List.length_append]
      rfl
    · obtain ⟨c0, r0, es, hc0⟩ := hs.word
      have et : ((s1 ++ r) ++ 41 :: (bl b ++ rest)).take 1 = [c0] := by rw [es]; rfl
      rw [et]
      refine ⟨rfl, _, rfl, if_false_of (decide_eq_false fun z => ?_) ?_⟩
      · have z : [c0] = [41] := S_inj (V.str.inj z)
        injection z with z _
        rw [z] at hc0
        exact no_sign.2.2.1 (abc_sub _ hc0)
      have d1 : dep t ≤ n ∧ depL ts ≤ n := by
        have z : max (dep t) (depL ts) ≤ n := dp
        omega
      have ec1 : cs = pre ++ (s1 ++ (r ++ 41 :: (bl b ++ rest))) := by rw [ec, List.append_assoc s1]
      refine ⟨_, rfl, _, rfl, cs, pre, s1, r ++ 41 :: (bl b ++ rest), t, rfl, ec1, hs, d1.1, hr'.er, lc, fun H1 a v e1 ha hv => ?_⟩
      refine ⟨a, _, rfl, SqT.of ha, rfl, _, _, rfl, _, _, rfl, rfl, ?_⟩
      refine ⟨_, rfl, by show 1 ≤ sizeLine; decide, fun p np => ?_⟩
      obtain ⟨H2, eG, e2, hp⟩ := put_new (o := .lst [v]) np
      refine gN ?_
      rw [eG]
      clear eG
      have np0 : H p = none := e1.free np
      have hend : r.length ≤ (s1 ++ r).length := by rw [List.length_append]; omega
      refine ⟨fun m σ H' => ∃ (done rem : List Tm) (us : List V) (r' pre' : List Nat) (v5 : Option V), t :: ts = done ++ rem ∧ Rm rem r' ∧ cs = pre' ++ (r' ++ 41 :: (bl b ++ rest)) ∧ m = rem.length ∧ depL rem ≤ n ∧ pre'.length + r'.length = pre.length + (s1 ++ r).length ∧ Same H H' ∧ H' p = some (.lst us) ∧ TmsAt H' us done ∧
          σ = [some (.str (S cs)), some (.int (pre.length : Int)), some v, some (.int (pre'.length : Int)), some (.ref p), v5],
        ⟨_, [t], ts, [v], r, pre ++ s1, none, rfl, hr', by rw [ec1, List.append_assoc pre], rfl, d1.2, by rw [List.length_append, List.length_append]; omega, e1.trans e2, hp, .cons (hv.keep (Tups.of e2)) .nil, by rw [List.length_append]; rfl⟩, fun m σ H' q => ?_⟩
      obtain ⟨done, rem, us, r', pre', v5, ed, hrm, ec', rfl, dr, el, e', hp', hus, rfl⟩ := q
      have c2 := cut1 ec'
      refine ⟨_, rfl, _, rfl, _, rfl, _, rfl, _, _, rfl, rfl, _, rfl, S cs, rfl, by rw [S_len, sizeLine_eq]; omega, ?_⟩
      rw [c2]
      have lus := hus.len
      have ldone : done.length ≤ 100001 := by
        have z := congrArg List.length ed
        rw [List.length_append] at z
        omega
      cases hrm with
      | nil =>
        have e40 : ∀ X, ([] ++ 41 :: X : List Nat).take 1 = [41] := fun _ => rfl
        rw [e40]
        refine ⟨rfl, _, rfl, if_false_of (by decide +kernel) ?_⟩
        refine ⟨_, rfl, _, rfl, _, rfl, _, rfl, _, _, rfl, rfl, _, rfl, S cs, rfl, by rw [S_len, sizeLine_eq]; omega, ?_⟩
        rw [c2, e40]
        refine ⟨rfl, _, rfl, if_false_of (by decide +kernel) ?_⟩
        have ec2 : cs = (pre' ++ [41]) ++ (bl b ++ rest) := by rw [ec', List.append_assoc]; rfl
        refine ⟨_, rfl, _, rfl, _, rfl, _, _, rfl, rfl, cs, pre' ++ [41], rest, b, arg2 (by rw [List.length_append]; rfl), ec2, er.nb, lc, by show 2 ≤ sizeLine; decide, fun a' na' => ?_⟩
        obtain ⟨H3, eG, e3, ha'⟩ := put_new (o := .tup [.ref p, .int (((pre' ++ [41]).length + b : Nat) : Int)]) na'
        rw [eG]
        clear eG
        rw [List.append_nil] at ed
        have fin : (pre' ++ [41]).length + b = pre.length + (s1 ++ r).length + 1 + b := by
          rw [List.length_append, ← el]
          rfl
        refine k H3 a' p us (e'.trans e3) (by rw [ha', fin]) (e3 _ _ hp') ?_
        rw [ed]
        exact hus.keep (Tups.of e3)
      | @cons t2 ts2 s2 r2 q hs2 hr2 =>
        have e44 : ∀ X Y, (44 :: X ++ Y : List Nat).take 1 = [44] := fun _ _ => rfl
        rw [e44]
        refine ⟨rfl, _, rfl, if_true_of (by decide +kernel) ⟨_, fun σ' H'' z => z, ?_⟩⟩
        have d2 : dep t2 ≤ n ∧ depL ts2 ≤ n := by
          have z : max (dep t2) (depL ts2) ≤ n := dr
          omega
        have ec2 : cs = (pre' ++ [44]) ++ (bl q ++ (s2 ++ (r2 ++ 41 :: (bl b ++ rest)))) := by rw [ec']; simp [List.append_assoc]
        have ec3 : cs = (pre' ++ [44] ++ bl q) ++ (s2 ++ (r2 ++ 41 :: (bl b ++ rest))) := by rw [ec2, List.append_assoc (pre' ++ [44])]
        have l2 : (pre' ++ [44]).length = pre'.length + 1 := by rw [List.length_append]; rfl
        have l3 : (pre' ++ [44] ++ bl q).length = pre'.length + 1 + q := by rw [List.length_append (as := pre' ++ [44]), l2, bl_len]
        have nb2 : NB (s2 ++ (r2 ++ 41 :: (bl b ++ rest))) := fun c r e z => by
          obtain ⟨c1, r1, e1, hc1⟩ := hs2.word
          rw [e1] at e
          injection e with e _
          rw [e, z] at hc1
          exact no_sign.1 (abc_sub _ hc1)
        refine ⟨_, rfl, _, rfl, _, rfl, _, _, rfl, rfl, cs, pre' ++ [44], _, q, arg2 (by rw [l2]; rfl), ec2, nb2, lc, ?_⟩
        refine ⟨cs, pre' ++ [44] ++ bl q, s2, r2 ++ 41 :: (bl b ++ rest), t2, arg2 (by rw [l3, l2]), ec3, hs2, d2.1, hr2.er, lc, fun H3 a3 v3 e3 ha3 hv3 => ?_⟩
        refine ⟨a3, _, rfl, SqT.of ha3, rfl, _, _, rfl, _, _, rfl, rfl, ?_⟩
        have hp3 := e3 _ _ hp'
        refine ⟨_, rfl, .inl ⟨rfl, _, SqL.of hp3⟩, _, rfl, p, _, _, rfl, rfl, hp3, by rw [sizeLine_eq]; omega, ?_⟩
        refine ⟨ts2.length, by rw [List.length_cons]; omega, done ++ [t2], ts2, us ++ [v3], r2, pre' ++ [44] ++ bl q ++ s2, some v3, by rw [ed, List.append_assoc]; rfl, hr2, by rw [ec3, List.append_assoc (pre' ++ [44] ++ bl q)], rfl, d2.2, ?_, same_mut (e'.trans e3) np0, upd_same, ?_, ?_⟩
        · rw [List.length_append (as := pre' ++ [44] ++ bl q), l3, ← el]
          simp [bl_len]
          omega
        · exact TmsAt.app ((hus.keep (Tups.of e3)).keep (Tups.put hp3)) (.cons (hv3.keep (Tups.put hp3)) .nil)
        · rw [List.length_append (as := pre' ++ [44] ++ bl q)]
          rfl
end
end K14


set_option Elab.async false
set_option linter.all false
set_option maxRecDepth 100000
set_option maxHeartbeats 4000000
namespace K14
open PySem PySem.Spec PyProof.Rows L2 Evl NdefX SX StX
section
variable {P : Program} {w : World} {K : PySem.W.Frag} {mg : Str → Option Value} {base : Heap}
theorem ok_no {k : Nat} {f : Addr} {fd : FuncData} {ps : List Str} : FnOk P w K mg base CX0 k f fd ps spNo := ⟨fun _ _ _ _ h => h.elim, fun _ _ _ _ _ _ _ _ _ _ _ _ _ h => h.elim⟩
theorem all_read {f g : Addr} {fd gd : FuncData} (F : Fun K "_read" "_read" s__read f fd) (G : Fun K "_read_parts" "_read_parts" s__read_parts g gd) (mf : mg "_read" = some (.ref f)) (mG : mg "_read_parts" = some (.ref g)) (kf : PySem.W.keepIn K (.ref f) = true) (kg : PySem.W.keepIn K (.ref g) = true)
    (bf : Binds K fd ["text", "start"] []) (bg : Binds K gd ["text", "start"] []) (c__word_end : Cal P w K mg base 3 "_word_end" ["text", "start"] spWE) (c__behind_blanks : Cal P w K mg base 1 "_behind_blanks" ["text", "place"] spBB) :
    ∀ n, FnOk P w K mg base CX0 (2 * n + 3 + 1) f fd ["text", "start"] (spRead n) ∧ FnOk P w K mg base CX0 (2 * n + 3 + 1 + 1) g gd ["text", "start"] (spParts n)
  | 0 => by
    have h1 : FnOk P w K mg base CX0 (2 * 0 + 3 + 1) f fd ["text", "start"] (spRead 0) := ok_read F c__word_end c__behind_blanks ⟨_, _, mG, kg, bg, (ok_no (k := 2 * 0 + 3)).toX⟩ (by omega)
    exact ⟨h1, ok_parts G c__behind_blanks ⟨_, _, mf, kf, bf, h1.toX⟩ (by omega)⟩
  | n + 1 => by
    have ih := all_read F G mf mG kf kg bf bg c__word_end c__behind_blanks n
    have h1 : FnOk P w K mg base CX0 (2 * (n + 1) + 3 + 1) f fd ["text", "start"] (spRead (n + 1)) := ok_read F c__word_end c__behind_blanks ⟨_, _, mG, kg, bg, ih.2.toX⟩ (by omega)
    exact ⟨h1, ok_parts G c__behind_blanks ⟨_, _, mf, kf, bf, h1.toX⟩ (by omega)⟩
/-- read_term(text) of a text of a term -/
def spRT (n : Nat) : Sp := fun vs H Q _ => ∃ (cs s : List Nat) (m : Nat) (t : Tm), vs = [.str (S cs)] ∧ cs = bl m ++ s ∧ Spl t s ∧ dep t ≤ n ∧ cs.length ≤ 100000 ∧ ∀ H' v, Same H H' → TmAt H' v t → Q v H'
abbrev s_read_term : Stmt := top 11
abbrev N_read_term : List Str := ["text", "term", "place"]
theorem sc_read_term : FnScope N_read_term ["text"] (defScope s_read_term) := ⟨rfl, rfl, rfl, by decide +kernel, rfl, by decide +kernel, by decide +kernel⟩
theorem ok_rt {f : Addr} {fd : FuncData} {kr n : Nat} (F : Fun K "read_term" "read_term" s_read_term f fd) (T : Blt mg) (c__behind_blanks : Cal P w K mg base 1 "_behind_blanks" ["text", "place"] spBB)
    (c__read : Cal P w K mg base kr "_read" ["text", "start"] (spRead n)) (hk : 1 ≤ kr) : FnOk P w K mg base CX0 (kr + 1) f fd ["text"] (spRT n) := by
  refine F.ok sc_read_term (fun vs H Q E h => ?_) (fun cdv A outer s H vs Q E hr h => ?_)
  · obtain ⟨cs, s, m, t, rfl, _⟩ := h
    rfl
  · obtain ⟨cs, s, m, t, rfl, ec, hs, dt, lc, k⟩ := h
    refine ⟨_, (pss_cons (ps_asg (pe_cal c__read (hr.mono (by omega)) (by rfl) (pa_cons (pv 0) (pa_cons (pe_cal c__behind_blanks (hr.mono (by omega)) (by rfl) (pa_cons (pv 0) (pa_cons (pe_int) pa_nil))) pa_nil))) (pg_tup rfl (pgs_cons (pg_name (i := 1) sc_read_term.nd rfl (Or.inl rfl)) (pgs_cons (pg_name (i := 2) sc_read_term.nd rfl (Or.inl rfl)) pgs_nil))))
      (pss_cons (ps_if (pt_cmpR op_lt (pv 2) (pe_callB call_len_str (by rfl) T.len (by decide +kernel) (pa_cons (pv 0) pa_nil)) (nomark _)) (pss_one (ps_never)) pss_nil)
      (pss_one (ps_ret (pv 1))))), ?_⟩
    obtain ⟨c0, r0, es, hc0⟩ := hs.word
    have nb : NB s := fun c r e z => by
      rw [es] at e
      injection e with e _
      rw [e, z] at hc0
      exact no_sign.1 (abc_sub _ hc0)
    have l1 : cs.length = m + s.length := by rw [ec, List.length_append, bl_len]
    refine ⟨_, rfl, _, rfl, cs, [], s, m, rfl, ec, nb, lc, ?_⟩
    refine ⟨cs, bl m, s, [], t, arg2 (by rw [bl_len, List.length_nil, Nat.zero_add]), by rw [ec, List.append_nil], hs, dt, .inl rfl, lc, fun H1 a v e1 ha hv => ?_⟩
    refine ⟨a, _, rfl, SqT.of ha, rfl, _, _, rfl, _, _, rfl, rfl, ?_⟩
    refine ⟨_, rfl, _, rfl, S cs, rfl, by rw [S_len, sizeLine_eq]; omega, _, _, rfl, rfl, _, rfl, if_false_of (decide_eq_false ?_) ?_⟩
    · rw [S_len, bl_len]
      omega
    · exact ⟨_, rfl, k H1 v e1 hv⟩
/-- a comprehension over a part of a tuple -/
theorem lc_tupC {wi : TI} {g : TG} {te : TE} {vs : List Nat} {σ : L2.St} {H : Hp} {Q : VK} {xs : List V} (v : Nat → V) (hw : ∀ R : It → Hp → Prop, (∀ p H1, Same H H1 → SqT K H1 p xs → R (Itt K p) H1) → wi σ H R) (hn : xs.length ≤ 50000)
    (hs : ∀ i y H', i < xs.length → Same H H' → xs[i]? = some y → ∀ R : VK, (∀ H4, Same H' H4 → R (v i) H4) → g y (wipe σ vs) H' fun σ2 H3 => wipe σ2 vs = wipe σ vs ∧ te σ2 H3 R)
    (hg : ∀ x H2 (N M : L2.St → Hp → Prop), (∀ σ2 H3, N σ2 H3 → M σ2 H3) → g x (wipe σ vs) H2 N → g x (wipe σ vs) H2 M)
    (q : ∀ D H', H D = none → Same H H' → H' D = some (.lst ((List.range xs.length).map v)) → Q (.ref D) H') : tLc wi g tYes te vs σ H Q :=
  hw _ fun p H1 e hp => lc_walk (J := Itt K p) (H1 := H1) walk_tup v hn (fun H' e' => ex_t e' hp) (fun i H' y H2 _ z => z.1 ▸ Same.refl _) (fun i y H' H2 hi e' z R r => z.1 ▸ hs i y H' hi (e.trans e') z.2 R (z.1 ▸ r)) hg fun D H' nD e' hD => q D H' (e.free nD) (e.trans e') hD
theorem cut_tl (x : V) (vs : List V) : cutV (x :: vs) (some 1) none = vs := by
  unfold cutV
  rw [show (some (1 : Int)) = some ((1 : Nat) : Int) from rfl, HT.sIx_nat, HT.sIx_none, List.length_cons, Nat.min_eq_left (by omega)]
  show vs.take _ = vs
  exact List.take_of_length_le (by omega)
theorem tl_not (x : V) (vs : List V) : ¬ (HT.sIx (x :: vs).length 0 (some 1) = 0 ∧ HT.sIx (x :: vs).length (x :: vs).length none = (x :: vs).length) := by
  rintro ⟨z, _⟩
  rw [show (some (1 : Int)) = some ((1 : Nat) : Int) from rfl, HT.sIx_nat, List.length_cons] at z
  omega
/-- write_term(term) -/
def spWr (n : Nat) : Sp := fun vs H Q _ => ∃ (v : V) (t : Tm), vs = [v] ∧ TmAt H v t ∧ dep t ≤ n ∧ cost t ≤ 100000 ∧ ∀ H', Same H H' → Q (.str (S (txt t))) H'
def spWrP : Nat → Sp
  | 0 => spNo
  | n + 1 => spWr n
theorem joinL_len : ∀ (ys : List (List Nat)), (TL.joinL [44, 32] ys).length ≤ (ys.map fun y => y.length + 2).sum
  | [] => by simp [TL.joinL]
  | [y] => by simp [TL.joinL]
  | y :: z :: r => by
    have ih := joinL_len (z :: r)
    have e : TL.joinL [44, 32] (y :: z :: r) = y ++ ([44, 32] ++ TL.joinL [44, 32] (z :: r)) := rfl
    rw [e, List.length_append, List.length_append, List.map_cons, List.sum_cons]
    show _ + (2 + _) ≤ _
    omega
mutual
theorem txt_le : ∀ t : Tm, (txt t).length ≤ cost t
  | .v w => by
    show w.length ≤ w.length + 14
    omega
  | .f w ps => by
    have z := txtL_le ps
    have y := joinL_len (txtL ps)
    show (w ++ 40 :: (TL.joinL [44, 32] (txtL ps) ++ [41])).length ≤ w.length + 30 + costL ps
    rw [List.length_append, List.length_cons, List.length_append]
    show _ + (_ + 1 + 1) ≤ _
    omega
theorem txtL_le : ∀ ps : List Tm, ((txtL ps).map fun y => y.length + 2).sum ≤ costL ps
  | [] => Nat.le_refl _
  | t :: r => by
    have a := txt_le t
    have b := txtL_le r
    show ((txt t).length + 2 + ((txtL r).map fun y => y.length + 2).sum) ≤ cost t + 2 + costL r
    omega
end
theorem txtL_len : ∀ ps : List Tm, (txtL ps).length = ps.length
  | [] => rfl
  | t :: r => congrArg (· + 1) (txtL_len r)
theorem txtL_at : ∀ {ps : List Tm} {i : Nat} {t : Tm}, ps[i]? = some t → (txtL ps)[i]? = some (txt t)
  | t :: r, 0, _, h => by cases h; rfl
  | t :: r, i + 1, _, h => txtL_at (ps := r) h
theorem dep_at : ∀ {ps : List Tm} {i : Nat} {t : Tm}, ps[i]? = some t → dep t ≤ depL ps
  | t :: r, 0, _, h => by cases h; exact Nat.le_max_left _ _
  | t :: r, i + 1, _, h => Nat.le_trans (dep_at (ps := r) h) (Nat.le_max_right _ _)
theorem cost_at : ∀ {ps : List Tm} {i : Nat} {t : Tm}, ps[i]? = some t → cost t ≤ costL ps
  | t :: r, 0, _, h => by cases h; show cost t ≤ cost t + 2 + costL r; omega
  | t :: r, i + 1, _, h => by
    have z := cost_at (ps := r) h
    show _ ≤ cost t + 2 + costL r
    omega
theorem costL_len : ∀ ps : List Tm, 2 * ps.length ≤ costL ps
  | [] => Nat.le_refl _
  | t :: r => by
    have z := costL_len r
    show 2 * (r.length + 1) ≤ cost t + 2 + costL r
    omega
theorem sum_le : ∀ ps : List Tm, ((txtL ps).map List.length).sum ≤ costL ps
  | [] => Nat.le_refl _
  | t :: r => by
    have a := txt_le t
    have b := sum_le r
    show (txt t).length + ((txtL r).map List.length).sum ≤ cost t + 2 + costL r
    omega
abbrev s_write_term : Stmt := top 10
abbrev N_write_term : List Str := ["term", "inner", "part"]
theorem sc_write_term : FnScope N_write_term ["term"] (defScope s_write_term) := ⟨rfl, rfl, rfl, by decide +kernel, rfl, by decide +kernel, by decide +kernel⟩
theorem ok_wr {f : Addr} {fd : FuncData} {kr n : Nat} (F : Fun K "write_term" "write_term" s_write_term f fd) (T : Blt mg) (c_write_term : Cal P w K mg base kr "write_term" ["term"] (spWrP n)) (hk : 1 ≤ kr) : FnOk P w K mg base CX0 (kr + 1) f fd ["term"] (spWr n) := by
  refine F.ok sc_write_term (fun vs H Q E h => ?_) (fun cdv A outer s H vs Q E hr h => ?_)
  · obtain ⟨v, t, rfl, _⟩ := h
    rfl
  · obtain ⟨v, t, rfl, hv, dt, ct, k⟩ := h
    refine ⟨_, (pss_cons (ps_if (pt_val (pe_callB (call_isiK' K) (by rfl) T.isinstance (by decide +kernel) (pa_cons (pv 0) (pa_cons (pe_bty (n := "str") (by rfl) T.str (by decide +kernel)) pa_nil)))) (pss_one (ps_ret (pv 0))) pss_nil)
      (pss_cons (ps_set (i := 1) sc_write_term.nd rfl (Or.inl rfl) (pe_join (pe_str) (pe_lc (own := [("part", 2)]) (g := gName 2) (by rfl) sc_write_term.nd (pi_tup (pe_slice (sl_tupK K) (pv 0) (po_some (pe_int)) po_none)) (blkOk_by (own := [("part", 2)]) (N := N_write_term) (sc := defScope s_write_term) (by decide +kernel)) (fun _ _ _ _ _ => pg_name (i := 2) sc_write_term.nd rfl (Or.inl rfl)) (fun _ _ _ _ _ => pts_nil) (fun _ _ _ _ _ => pe_cal c_write_term (hr.mono (by omega)) (by rfl) (pa_cons (pv 2) pa_nil)))))
      (pss_one (ps_ret (pe_joined (.cons (pe_fmt (pe_ix (ix_tupK K) (pv 0) (pe_int) (fun _ _ => rfl))) (.cons pe_str (.cons (pe_fmt (pv 1)) (.cons pe_str PJ.nil))))))))), ?_⟩
    cases hv with
    | @v w => exact ⟨_, rfl, .str (S w), _, _, _, true, rfl, ClsV.ty _, .base (.str _), kit_ty (by decide +kernel), true, rfl, if_true_of rfl ⟨_, rfl, k H (Same.refl _)⟩⟩
    | @f a w vs ps ha hps =>
      refine ⟨_, rfl, .ref a, _, _, _, false, rfl, ClsV.ty _, .base (.tup ha), kit_ty (by decide +kernel), false, rfl, if_false_of rfl ?_⟩
      have hd : depL ps + 1 ≤ n := dt
      obtain ⟨n', rfl⟩ : ∃ n', n = n' + 1 := ⟨n - 1, by omega⟩
      have ct' : w.length + 30 + costL ps ≤ 100000 := ct
      have lps := costL_len ps
      have lvs := hps.len
      unfold tNext tSeq tAsg tM1
      dsimp only
      refine ⟨⟨_, rfl⟩, ?_⟩
      refine lc_tupC (K := K) (g := gName 2) (xs := vs) (fun i => .str (S ((txtL ps).getD i []))) (fun R r => ⟨_, rfl, 1, rfl, a, _, rfl, SqT.of ha, tl_not _ _, fun p np => ⟨p, rfl, ⟨_, SqT.of upd_same⟩, r p _ (same_upd np) (SqT.of (by rw [upd_same, cut_tl]))⟩⟩) (by omega) (fun i y H' hi e hy R q => ?_) (fun _ _ _ _ h z => gn_mono h z) (fun D H2 nD e12 hD => ?_)
      · obtain ⟨t, ht, hyt⟩ := hps.at_ hy
        have d1 := dep_at ht
        have c2 := cost_at ht
        have tx : (txtL ps).getD i [] = txt t := by rw [List.getD_eq_getElem?_getD, txtL_at ht]; rfl
        rw [tx] at q
        exact gN ⟨rfl, _, rfl, y, t, rfl, hyt.keep (Tups.of e), by omega, by omega, fun H3 e3 => q _ e3⟩
      · have ys : (List.range vs.length).map (fun i => V.str (S ((txtL ps).getD i []))) = ((txtL ps).map S).map V.str := by
          apply List.ext_getElem?
          intro j
          rw [List.getElem?_map, List.getElem?_map, List.getElem?_map]
          by_cases c : j < vs.length
          · rw [List.getElem?_range c, List.getElem?_eq_getElem (by rw [txtL_len]; omega)]
            simp [List.getD_eq_getElem?_getD, List.getElem?_eq_getElem (show j < (txtL ps).length by rw [txtL_len]; omega)]
          · rw [List.getElem?_eq_none (by rw [List.length_range]; omega), List.getElem?_eq_none (by rw [txtL_len]; omega)]
            rfl
        rw [ys] at hD
        have sl := sum_le ps
        have es : (((txtL ps).map S).map fun x => x.length) = (txtL ps).map List.length := by
          rw [List.map_map]
          exact List.map_congr_left fun x _ => S_len x
        refine ⟨_, D, (txtL ps).map S, rfl, rfl, .inl (SqL.of hD), ?_, ?_⟩
        · rw [es, List.length_map, txtL_len]
          show _ + _ * 2 ≤ _
          omega
        · have ej : Txt.join ", " ((txtL ps).map S) = S (TL.joinL [44, 32] (txtL ps)) := join_S [44, 32] (txtL ps)
          rw [ej]
          refine gN ?_
          have jl := joinL_len (txtL ps)
          have tl := txtL_le ps
          have l1 : (S w).length = w.length := S_len w
          have l2 : (S (TL.joinL [44, 32] (txtL ps))).length = (TL.joinL [44, 32] (txtL ps)).length := S_len _
          have ha2 := e12 _ _ ha
          have b1 : Str.empty ++ S w = S w := S_app [] w
          have b2 : S w ++ "(" = S (w ++ [40]) := S_app w [40]
          have b3 : S (w ++ [40]) ++ S (TL.joinL [44, 32] (txtL ps)) = S (w ++ [40] ++ TL.joinL [44, 32] (txtL ps)) := S_app _ _
          have b4 : S (w ++ [40] ++ TL.joinL [44, 32] (txtL ps)) ++ ")" = S (txt (.f w ps)) := (S_app _ [41]).trans (by
            show S _ = S (w ++ 40 :: (TL.joinL [44, 32] (txtL ps) ++ [41]))
            congr 1
            simp [List.append_assoc])
          have lt := txt_le (.f w ps)
          have lc : cost (.f w ps) ≤ 100000 := ct
          refine ⟨_, rfl, a, _, 0, .str (S w), rfl, rfl, SqT.of ha2, (by show atI _ ((0 : Nat) : Int) = _; exact atI_nat rfl), .inl ⟨S w, rfl, by rw [l1, sizeLine_eq]; omega, S w, rfl, by rw [b1, l1, sizeLine_eq]; omega, ?_⟩⟩
          rw [b1]
          refine ⟨_, rfl, by rw [b2, S_len, List.length_append, sizeLine_eq]; show _ + 1 ≤ _; omega, ?_⟩
          rw [b2]
          refine ⟨_, rfl, .inl ⟨_, rfl, by rw [l2, sizeLine_eq]; omega, _, rfl, by rw [b3, S_len, List.length_append, List.length_append, sizeLine_eq]; show _ + 1 + _ ≤ _; omega, ?_⟩⟩
          rw [b3]
          refine ⟨_, rfl, by rw [b4, S_len, sizeLine_eq]; omega, ?_⟩
          rw [b4]
          exact k H2 e12
theorem all_wr {f : Addr} {fd : FuncData} (F : Fun K "write_term" "write_term" s_write_term f fd) (T : Blt mg) (mf : mg "write_term" = some (.ref f)) (kf : PySem.W.keepIn K (.ref f) = true) (bf : Binds K fd ["term"] []) : ∀ n, FnOk P w K mg base CX0 (n + 1 + 1) f fd ["term"] (spWr n)
  | 0 => ok_wr F T ⟨_, _, mf, kf, bf, (ok_no (k := 0 + 1)).toX⟩ (by omega)
  | n + 1 => ok_wr F T ⟨_, _, mf, kf, bf, (all_wr F T mf kf bf n).toX⟩ (by omega)
end
end K14


set_option Elab.async false
set_option linter.all false
set_option maxRecDepth 100000
set_option maxHeartbeats 4000000
namespace K14
open PySem PySem.Spec PyProof.Rows L2 Evl NdefX SX StX
/-! ### how texts are read, also those that tell no term -/
def isC (c : Nat) : Bool := decide (c ∈ abc9.cps.toList)
def isL (c : Nat) : Bool := decide (c ∈ abc.cps.toList)
/-- as many signs as the word at the beginning has -/
def wl : List Nat → Nat
  | [] => 0
  | c :: r => if isL c then 1 + min 11 (r.takeWhile isC).length else 0
theorem wl_cons (c : Nat) (r : List Nat) : wl (c :: r) = if isL c then 1 + min 11 (r.takeWhile isC).length else 0 := rfl
/-- as many blanks as stand at the beginning -/
def bn (cs : List Nat) : Nat := (cs.takeWhile (fun c => decide (c = 32))).length
inductive R1 where
  | ok (t : Tm) (j : Nat)
  | bad (j : Nat)
inductive RL where
  | ok (ts : List Tm) (j : Nat)
  | bad (j : Nat)
/-- further parts -/
def lp (f : List Nat → Option R1) : Nat → List Tm → Nat → List Nat → Option RL
  | 0, _, _, _ => none
  | m + 1, ts, j, cs =>
    if cs.take 1 = [44] then
      match f ((cs.drop 1).drop (bn (cs.drop 1))) with
      | some (.ok t i) => lp f m (ts ++ [t]) (j + 1 + bn (cs.drop 1) + i) (((cs.drop 1).drop (bn (cs.drop 1))).drop i)
      | some (.bad i) => some (.bad (j + 1 + bn (cs.drop 1) + i))
      | none => none
    else if cs.take 1 = [41] then some (.ok ts (j + 1 + bn (cs.drop 1)))
    else some (.bad j)
def pt (f : List Nat → Option R1) (cs : List Nat) : Option RL :=
  if cs.take 1 = [41] then some (.ok [] (1 + bn (cs.drop 1)))
  else match f cs with
    | some (.ok t i) => lp f (cs.length + 1) [t] i (cs.drop i)
    | some (.bad i) => some (.bad i)
    | none => none
/-- a term, with at most so many signs in one another -/
def rd : Nat → List Nat → Option R1
  | n, cs =>
    if wl cs = 0 then some (.bad 0)
    else if ((cs.drop (wl cs)).drop (bn (cs.drop (wl cs)))).take 1 ≠ [40] then some (.ok (.v (cs.take (wl cs))) (wl cs + bn (cs.drop (wl cs))))
    else match n with
      | 0 => none
      | n + 1 =>
        match pt (rd n) ((((cs.drop (wl cs)).drop (bn (cs.drop (wl cs)))).drop 1).drop (bn (((cs.drop (wl cs)).drop (bn (cs.drop (wl cs)))).drop 1))) with
        | some (.ok ps i) => some (.ok (.f (cs.take (wl cs)) ps) (wl cs + bn (cs.drop (wl cs)) + 1 + bn (((cs.drop (wl cs)).drop (bn (cs.drop (wl cs)))).drop 1) + i))
        | some (.bad i) => some (.bad (wl cs + bn (cs.drop (wl cs)) + 1 + bn (((cs.drop (wl cs)).drop (bn (cs.drop (wl cs)))).drop 1) + i))
        | none => none
theorem lp_len {f : List Nat → Option R1} : ∀ (m : Nat) {ts : List Tm} {j : Nat} {cs : List Nat} {ps : List Tm} {i : Nat}, lp f m ts j cs = some (.ok ps i) → ps.length ≤ ts.length + m
  | 0, _, _, _, _, _, h => by cases h
  | m + 1, ts, j, cs, ps, i, h => by
    unfold lp at h
    split at h
    · split at h
      · have z := lp_len m h
        rw [List.length_append] at z
        have : [‹Tm›].length = 1 := rfl
        omega
      · cases h
      · cases h
    · split at h
      · injection h with h
        injection h with h _
        rw [h]
        omega
      · cases h
theorem pt_len {f : List Nat → Option R1} {cs : List Nat} {ps : List Tm} {i : Nat} (h : pt f cs = some (.ok ps i)) : ps.length ≤ cs.length + 2 := by
  unfold pt at h
  split at h
  · injection h with h
    injection h with h _
    rw [← h]
    exact Nat.zero_le _
  · split at h
    · have z := lp_len _ h
      have : [‹Tm›].length = 1 := rfl
      omega
    · cases h
    · cases h
theorem take_while_all {p : Nat → Bool} : ∀ (l : List Nat) (i : Nat), i ≤ (l.takeWhile p).length → ∀ c ∈ l.take i, p c = true
  | _, 0, _, c, h => by rw [List.take_zero] at h; cases h
  | [], i + 1, _, c, h => by cases h
  | a :: l, i + 1, hi, c, h => by
    by_cases ha : p a = true
    · rw [List.takeWhile_cons_of_pos ha, List.length_cons] at hi
      rcases List.mem_cons.mp h with rfl | h
      · exact ha
      · exact take_while_all l i (by omega) c h
    · rw [List.takeWhile_cons_of_neg ha] at hi
      cases hi
theorem while_len {p : Nat → Bool} : ∀ (l : List Nat) (i : Nat), i ≤ l.length → (∀ c ∈ l.take i, p c = true) → i ≤ (l.takeWhile p).length
  | _, 0, _, _ => Nat.zero_le _
  | [], i + 1, h, _ => by cases h
  | a :: l, i + 1, h, g => by
    have ha : p a = true := g a List.mem_cons_self
    rw [List.takeWhile_cons_of_pos ha, List.length_cons]
    have := while_len l i (by rw [List.length_cons] at h; omega) fun c hc => g c (List.mem_cons_of_mem _ hc)
    omega
theorem bn_bl (cs : List Nat) : cs = bl (bn cs) ++ cs.drop (bn cs) := by
  have e : cs.take (bn cs) = bl (bn cs) := by
    have l : (cs.take (bn cs)).length = bn cs := by
      rw [List.length_take]
      have : bn cs ≤ cs.length := (List.takeWhile_sublist _).length_le
      omega
    refine List.eq_replicate_iff.mpr ⟨l, fun c hc => ?_⟩
    exact of_decide_eq_true (take_while_all (p := fun c => decide (c = 32)) cs _ (Nat.le_refl _) c hc)
  rw [← e, List.take_append_drop]
theorem bn_nb (cs : List Nat) : NB (cs.drop (bn cs)) := fun c r e z => by
  subst z
  have h : bn cs < cs.length := by
    have := congrArg List.length e
    rw [List.length_drop, List.length_cons] at this
    omega
  have g := while_len (p := fun c => decide (c = 32)) cs (bn cs + 1) (by omega) (fun c hc => by
    rw [List.take_add_one] at hc
    rcases List.mem_append.mp hc with q | q
    · exact take_while_all (p := fun c => decide (c = 32)) cs _ (Nat.le_refl _) c q
    · have e0 : cs[bn cs]? = some 32 := by
        have := congrArg (fun l : List Nat => l[0]?) e
        rw [List.getElem?_drop] at this
        exact this
      rw [e0] at q
      rw [List.mem_singleton.mp q]
      rfl)
  have : bn cs = (cs.takeWhile (fun c => decide (c = 32))).length := rfl
  omega
theorem bn_le0 (cs : List Nat) : bn cs ≤ cs.length := (List.takeWhile_sublist _).length_le
theorem take1_len {cs : List Nat} {c : Nat} (h : cs.take 1 = [c]) : cs.length = (cs.drop 1).length + 1 := by
  cases cs with
  | nil => cases h
  | cons a r => rfl
theorem lp_le {f : List Nat → Option R1} (hf : ∀ cs t i, f cs = some (.ok t i) → i ≤ cs.length) : ∀ (m : Nat) {ts : List Tm} {j : Nat} {cs : List Nat} {ps : List Tm} {i : Nat}, lp f m ts j cs = some (.ok ps i) → i ≤ j + cs.length
  | 0, _, _, _, _, _, h => by cases h
  | m + 1, ts, j, cs, ps, i, h => by
    have b1 := bn_le0 (cs.drop 1)
    unfold lp at h
    split at h
    · rename_i h44
      have l1 := take1_len h44
      split at h
      · rename_i t i' hq
        have z := lp_le hf m h
        have y := hf _ _ _ hq
        rw [List.length_drop, List.length_drop] at z
        rw [List.length_drop] at y
        omega
      · cases h
      · cases h
    · split at h
      · rename_i h41
        have l1 := take1_len h41
        injection h with h
        injection h with _ h
        omega
      · cases h
theorem pt_le {f : List Nat → Option R1} (hf : ∀ cs t i, f cs = some (.ok t i) → i ≤ cs.length) {cs : List Nat} {ps : List Tm} {i : Nat} (h : pt f cs = some (.ok ps i)) : i ≤ cs.length := by
  unfold pt at h
  split at h
  · rename_i h41
    have l1 := take1_len h41
    have b1 := bn_le0 (cs.drop 1)
    injection h with h
    injection h with _ h
    omega
  · split at h
    · rename_i t i' hq
      have z := lp_le hf _ h
      have y := hf _ _ _ hq
      rw [List.length_drop] at z
      omega
    · cases h
    · cases h
theorem bn_le (cs : List Nat) : bn cs ≤ cs.length := (List.takeWhile_sublist _).length_le
theorem wl_le : ∀ cs : List Nat, wl cs ≤ cs.length ∧ wl cs ≤ 12
  | [] => ⟨Nat.le_refl _, Nat.zero_le _⟩
  | c :: r => by
    have : (r.takeWhile isC).length ≤ r.length := (List.takeWhile_sublist _).length_le
    rw [wl_cons]
    split <;> simp only [List.length_cons] <;> omega
theorem rd_le : ∀ (n : Nat) (cs : List Nat) (t : Tm) (j : Nat), rd n cs = some (.ok t j) → j ≤ cs.length := by
  intro n
  induction n with
  | zero =>
    intro cs t j h
    have w := (wl_le cs).1
    have b := bn_le0 (cs.drop (wl cs))
    rw [List.length_drop] at b
    unfold rd at h
    split at h
    · cases h
    · split at h
      · injection h with h
        injection h with _ h
        omega
      · cases h
  | succ n ih =>
    intro cs t j h
    have w := (wl_le cs).1
    have b := bn_le0 (cs.drop (wl cs))
    rw [List.length_drop] at b
    unfold rd at h
    split at h
    · cases h
    · split at h
      · injection h with h
        injection h with _ h
        omega
      · rename_i h40
        have h40 : ((cs.drop (wl cs)).drop (bn (cs.drop (wl cs)))).take 1 = [40] := by simpa using h40
        have l1 := take1_len h40
        have b2 := bn_le0 (((cs.drop (wl cs)).drop (bn (cs.drop (wl cs)))).drop 1)
        dsimp only at h
        split at h
        · rename_i ps i hq
          have z := pt_le ih hq
          injection h with h
          injection h with _ h
          rw [List.length_drop] at z
          rw [List.length_drop, List.length_drop] at l1
          omega
        · cases h
        · cases h
/-- the prefixes that are words -/
theorem word_wl : ∀ (cs : List Nat) (j : Nat), j < cs.length → (Word (cs.take (j + 1)) ↔ j + 1 ≤ wl cs)
  | [], j, h => by cases h
  | c :: r, j, h => by
    have hr : j ≤ r.length := by rw [List.length_cons] at h; omega
    constructor
    · intro w
      have h0 : isL c = true := decide_eq_true w.hd
      have hi := w.hi
      rw [List.length_take, List.length_cons] at hi
      have g := while_len (p := isC) r j hr fun x hx => decide_eq_true (w.all x (List.mem_cons_of_mem _ hx))
      rw [wl_cons, if_pos h0]
      omega
    · intro k
      rw [wl_cons] at k
      split at k
      · rename_i h0
        refine ⟨by rw [List.length_take, List.length_cons]; omega, by rw [List.length_take, List.length_cons]; omega, fun x hx => ?_, of_decide_eq_true h0⟩
        rcases List.mem_cons.mp hx with rfl | hx
        · exact abc_sub _ (of_decide_eq_true h0)
        · exact of_decide_eq_true (take_while_all (p := isC) r j (by omega) x hx)
      · omega
theorem wl_word {cs : List Nat} (h : wl cs ≠ 0) : Word (cs.take (wl cs)) := by
  obtain ⟨a, b⟩ := wl_le cs
  have z := (word_wl cs (wl cs - 1) (by omega)).mpr (by omega)
  rw [show wl cs - 1 + 1 = wl cs by omega] at z
  exact z
end K14


set_option Elab.async false
set_option linter.all false
set_option maxRecDepth 100000
set_option maxHeartbeats 4000000
namespace K14
open PySem PySem.Spec PyProof.Rows L2 Evl NdefX SX StX
section
variable {P : Program} {w : World} {K : PySem.W.Frag} {mg : Str → Option Value} {base : Heap}
section
variable {C f cc c : Addr} {B nI iI : String} {bB : List Value} {fd : FuncData}
theorem init_BadText (T : XI P K mg "BadText" "BadText.__init__" (inClass (top 2) 0) ["self", "place"] C f cc c B nI iI bB fd) (hno : PySem.W.findIn K (.ref C) "place" = some none) : FnOk P w K mg base (L2.CX P w) 1 f fd ["self", "place"] (spPl C) := by
  obtain ⟨oc, od, osl, kV, doc, pm, an, ct, rfl, lk⟩ := T.lk
  exact ok_pl T.xb T.xc T.xs (by decide +kernel) hno ⟨_, fun _ => rfl⟩ lk T.cd
end
/-- BadText(place) is raised -/
def RaisePl (C : Addr) (i : Nat) (H : Hp) (E : XK) : Prop := ∀ d H', H d = none → Same H H' → H' d = some (.xd [("place", .int (i : Int))]) → E (.ref C) (some d) H'
theorem RaisePl.same {C : Addr} {i : Nat} {H H' : Hp} {E : XK} (h : RaisePl C i H E) (e : Same H H') : RaisePl C i H' E := fun d H2 hd e2 hx => h d H2 (e.free hd) (e.trans e2) hx
theorem raise_pl {i : Nat} {C : Addr} {H : Hp} {E : XK} (hi : i < 10 ^ 10) (k : RaisePl C i H E) : ∀ a, H a = none → spPl C (.ref a :: ([.int (i : Int)] ++ [])) (upd H a (exo a C none))
    (fun v H2 => v = .non ∧ ∃ (d : Addr) (fs : List (Str × V)), H2 a = some (exo a C (some d)) ∧ H2 d = some (exd d fs) ∧ H d = none ∧ E (.ref C) (some d) (upd (del H2 a) d (.xd fs))) (fun _ _ _ => False) := fun a na => by
  refine ⟨a, (i : Int), rfl, by omega, by omega, upd_same, fun dx hd ne => ⟨rfl, dx, [("place", .int (i : Int))], upd_same, by rw [upd_ne ne, upd_same], (same_upd na).free hd, k dx _ ((same_upd na).free hd) (fun b o q => ?_) upd_same⟩⟩
  have nb : b ≠ a := ne_of_none q na
  have nd : b ≠ dx := ne_of_none (same_upd na _ _ q) hd
  rw [upd_ne nd]
  unfold del
  rw [if_neg nb, upd_ne nb, upd_ne nd, upd_ne nb]
  exact q
/-- _word_end(text, start) of any text -/
def spWl : Sp := fun vs H Q _ => ∃ (cs pre tl : List Nat), vs = [.str (S cs), .int (pre.length : Int)] ∧ cs = pre ++ tl ∧ cs.length ≤ 100000 ∧ ∀ H', Same H H' → Q (.int ((pre.length + wl tl : Nat) : Int)) H'
theorem ok_wl {f : Addr} {fd : FuncData} (F : Fun K "_word_end" "_word_end" s__word_end f fd) (T : Blt mg) (c_is_word : Cal P w K mg base 2 "is_word" ["thing"] (spText wordB)) : FnOk P w K mg base CX0 3 f fd ["text", "start"] spWl := by
  refine F.ok sc__word_end (fun vs H Q E h => ?_) (fun cdv A outer s H vs Q E hr h => ?_)
  · obtain ⟨cs, pre, tl, rfl, _⟩ := h
    rfl
  · obtain ⟨cs, pre, tl, rfl, ec, lc, k⟩ := h
    refine ⟨_, (pss_cons (ps_set (i := 2) sc__word_end.nd rfl (Or.inl rfl) (pv 1))
      (pss_cons (ps_while PassesOwn.never (PW.pt (pw_and (pt_cmpR op_lt (pv 2) (pe_callB call_len_str (by rfl) T.len (by decide +kernel) (pa_cons (pv 0) pa_nil)) (nomark _)) (pw_and1 (pt_val (pe_cal c_is_word (hr.mono (by decide)) (by rfl) (pa_cons (pe_slice sl_str (pv 0) (po_some (pv 1)) (po_some (pe_op op_add (pv 2) (pe_int)))) pa_nil)))))) (pss_one (ps_aug (i := 2) sc__word_end.nd rfl (Or.inl rfl) (pe_int) ip_add)))
      (pss_one (ps_ret (pv 2))))), ?_⟩
    obtain ⟨w1, w2⟩ := wl_le tl
    have lcs : cs.length = pre.length + tl.length := by rw [ec, List.length_append]
    refine ⟨_, rfl, fun m σ H' => ∃ j, j ≤ wl tl ∧ m = wl tl - j ∧ Same H H' ∧ σ = [some (.str (S cs)), some (.int (pre.length : Int)), some (.int ((pre.length + j : Nat) : Int))], ⟨_, 0, Nat.zero_le _, rfl, Same.refl _, rfl⟩, fun m σ H' p => ?_⟩
    obtain ⟨j, hj, rfl, e, rfl⟩ := p
    refine ⟨_, rfl, _, rfl, S cs, rfl, by rw [S_len, sizeLine_eq]; omega, _, _, rfl, rfl, _, rfl, ?_⟩
    have stop : ∀ H1, Same H H1 → j = wl tl → tRet (tVar 2) { nx := fun x H' => Q V.non H', rt := Q } [some (.str (S cs)), some (.int (pre.length : Int)), some (.int ((pre.length + j : Nat) : Int))] H1 := fun H1 e1 ej => by
      rw [ej]
      exact ⟨_, rfl, k H1 e1⟩
    by_cases hl : pre.length + j < cs.length
    · refine if_true_of (decide_eq_true (by rw [S_len]; omega)) ?_
      have ct : cutS (S cs) (some (pre.length : Int)) (some (((pre.length + j : Nat) : Int) + 1)) = S (tl.take (j + 1)) := by
        have z := cut_at ec (j + 1)
        rw [show ((pre.length : Int) + ((j + 1 : Nat) : Int)) = ((pre.length + j : Nat) : Int) + 1 by omega] at z
        exact z
      refine ⟨_, rfl, _, rfl, _, rfl, _, rfl, _, _, rfl, rfl, _, rfl, S cs, rfl, by rw [S_len, sizeLine_eq]; omega, ?_⟩
      rw [ct]
      refine ⟨_, rfl, by rw [S_len, List.length_take]; omega, fun H1 e1 => ⟨_, rfl, ?_⟩⟩
      have wj := word_wl tl j (by omega)
      by_cases h : j < wl tl
      · refine if_true_of (word_S.mpr (wj.mpr (by omega))) ⟨_, fun σ' H'' z => z, ?_⟩
        exact ⟨_, rfl, _, _, rfl, rfl, wl tl - (j + 1), by omega, j + 1, by omega, rfl, e.trans e1, rfl⟩
      · refine if_false_of (Bool.eq_false_iff.mpr fun z => ?_) (stop H1 (e.trans e1) (by omega))
        have := wj.mp (word_S.mp z)
        omega
    · refine if_false_of (decide_eq_false (by rw [S_len]; omega)) (if_false_of rfl ?_)
      exact stop _ e (by omega)
variable {Cb fb qb cb : Addr} {db : FuncData}
/-- what a call of the reader leaves -/
def R1At (Cb : Addr) (r : R1) (i : Nat) (H : Hp) (Q : VK) (E : XK) : Prop := match r with
  | .ok t j => ∀ H' a v, Same H H' → H' a = some (.tup [v, .int ((i + j : Nat) : Int)]) → TmAt H' v t → Q (.ref a) H'
  | .bad j => ∀ H', Same H H' → RaisePl Cb (i + j) H' E
def RLAt (Cb : Addr) (r : RL) (i : Nat) (H : Hp) (Q : VK) (E : XK) : Prop := match r with
  | .ok ts j => ∀ H' a l vs, Same H H' → H' a = some (.tup [.ref l, .int ((i + j : Nat) : Int)]) → H' l = some (.lst vs) → TmsAt H' vs ts → Q (.ref a) H'
  | .bad j => ∀ H', Same H H' → RaisePl Cb (i + j) H' E
def spRd (Cb : Addr) (n : Nat) : Sp := fun vs H Q E => ∃ (cs pre tl : List Nat) (r : R1), vs = [.str (S cs), .int (pre.length : Int)] ∧ cs = pre ++ tl ∧ cs.length ≤ 100000 ∧ rd n tl = some r ∧ R1At Cb r pre.length H Q E
def spPt (Cb : Addr) (n : Nat) : Sp := fun vs H Q E => ∃ (cs pre tl : List Nat) (r : RL), vs = [.str (S cs), .int (pre.length : Int)] ∧ cs = pre ++ tl ∧ cs.length ≤ 100000 ∧ pt (rd n) tl = some r ∧ RLAt Cb r pre.length H Q E
def spPtP (Cb : Addr) : Nat → Sp
  | 0 => spNo
  | n + 1 => spPt Cb n
theorem bb_args {cs pre tl : List Nat} (e : cs = pre ++ tl) : cs = pre ++ (bl (bn tl) ++ tl.drop (bn tl)) := by rw [← bn_bl, e]
theorem ok_rd {f : Addr} {fd : FuncData} {kp n : Nat} (F : Fun K "_read" "_read" s__read f fd) (U : XI P K mg "BadText" "BadText.__init__" (inClass (top 2) 0) ["self", "place"] Cb fb qb cb "ValueError" "ValueError.__new__" "ValueError.__init__" [.type "ValueError", .type "Exception", .type "BaseException", .type "object"] db) (nb : PySem.W.findIn K (.ref Cb) "place" = some none)
    (c__word_end : Cal P w K mg base 3 "_word_end" ["text", "start"] spWl) (c__behind_blanks : Cal P w K mg base 1 "_behind_blanks" ["text", "place"] spBB)
    (c__read_parts : Cal P w K mg base kp "_read_parts" ["text", "start"] (spPtP Cb n)) (hk : 3 ≤ kp) : FnOk P w K mg base (L2.CX P w) (kp + 1) f fd ["text", "start"] (spRd Cb n) := by
  have F_pl : FnOk P w K mg base (L2.CX P w) 1 fb db ["self", "place"] (spPl Cb) := init_BadText U nb
  refine F.okX sc__read (fun vs H Q E h => ?_) (fun cdv A outer s H vs Q E hr h => ?_)
  · obtain ⟨cs, pre, tl, r, rfl, _⟩ := h
    rfl
  · obtain ⟨cs, pre, tl, r, rfl, ec, lc, hrd, k⟩ := h
    refine ⟨_, (pss_cons (ps_set (i := 2) sc__read.nd rfl (Or.inl rfl) (pe_cal c__word_end (hr.mono (by omega)) (by rfl) (pa_cons (pv 0) (pa_cons (pv 1) pa_nil))))
      (pss_cons (ps_if (pt_cmpR op_eq (pv 2) (pv 1) (nomark _)) (pss_one (ps_raise rfl (takes_of rfl rfl rfl rfl) (U.pmk F_pl (hr.mono (by omega)) (by rfl) (pa_cons (pv 1) pa_nil)))) pss_nil)
      (pss_cons (ps_set (i := 3) sc__read.nd rfl (Or.inl rfl) (pe_slice sl_str (pv 0) (po_some (pv 1)) (po_some (pv 2))))
      (pss_cons (ps_set (i := 4) sc__read.nd rfl (Or.inl rfl) (pe_cal c__behind_blanks (hr.mono (by omega)) (by rfl) (pa_cons (pv 0) (pa_cons (pv 2) pa_nil))))
      (pss_cons (ps_if (pt_cmpR op_ne (pe_slice sl_str (pv 0) (po_some (pv 4)) (po_some (pe_op op_add (pv 4) (pe_int)))) (pe_str) (nomark _)) (pss_one (ps_ret (pe_tup (pa_cons (pv 3) (pa_cons (pv 4) pa_nil))))) pss_nil)
      (pss_cons (ps_asg (pe_calE (E := E) c__read_parts (hr.mono (by omega)) (by rfl) (passes_call (takes_of rfl rfl rfl rfl) (fun _ _ _ _ z => z)) (pa_cons (pv 0) (pa_cons (pe_cal c__behind_blanks (hr.mono (by omega)) (by rfl) (pa_cons (pv 0) (pa_cons (pe_op op_add (pv 4) (pe_int)) pa_nil))) pa_nil))) (pg_tup rfl (pgs_cons (pg_name (i := 5) sc__read.nd rfl (Or.inl rfl)) (pgs_cons (pg_name (i := 4) sc__read.nd rfl (Or.inl rfl)) pgs_nil))))
      (pss_one (ps_ret (pe_tup (pa_cons (pe_tup (pa_cons (pv 3) (pa_star (pv 5) pa_nil))) (pa_cons (pv 4) pa_nil))))))))))), ?_⟩
    obtain ⟨w1, w2⟩ := wl_le tl
    have lcs : cs.length = pre.length + tl.length := by rw [ec, List.length_append]
    unfold rd at hrd
    refine ⟨_, rfl, _, rfl, cs, pre, tl, rfl, ec, lc, fun H1 e1 => gN ?_⟩
    by_cases h0 : wl tl = 0
    · rw [if_pos h0] at hrd
      injection hrd with hrd
      subst hrd
      refine ⟨_, rfl, _, rfl, rfl, _, rfl, if_true_of (decide_eq_true (by rw [h0]; rfl)) ?_⟩
      exact ⟨_, rfl, by show 1 ≤ 1000; decide, raise_pl (by omega) (k H1 e1)⟩
    · rw [if_neg h0] at hrd
      refine ⟨_, rfl, _, rfl, rfl, _, rfl, if_false_of (decide_eq_false fun z => by have z := V.int.inj z; omega) ?_⟩
      refine ⟨_, rfl, _, rfl, _, rfl, _, rfl, _, rfl, S cs, rfl, by rw [S_len, sizeLine_eq]; omega, ?_⟩
      have cw : cutS (S cs) (some (pre.length : Int)) (some ((pre.length + wl tl : Nat) : Int)) = S (tl.take (wl tl)) := by
        have z := cut_at ec (wl tl)
        rw [show ((pre.length : Int) + (wl tl : Int)) = ((pre.length + wl tl : Nat) : Int) by omega] at z
        exact z
      rw [cw]
      refine gN ?_
      have lt : (tl.take (wl tl)).length = wl tl := by rw [List.length_take]; omega
      have ec1 : cs = (pre ++ tl.take (wl tl)) ++ tl.drop (wl tl) := by rw [List.append_assoc, List.take_append_drop, ec]
      have lp1 : (pre ++ tl.take (wl tl)).length = pre.length + wl tl := by rw [List.length_append, lt]
      refine ⟨_, rfl, _, rfl, cs, pre ++ tl.take (wl tl), _, _, arg2 (by rw [lp1]), bb_args ec1, bn_nb _, lc, gN ?_⟩
      generalize tl.drop (wl tl) = tl1 at hrd ec1 ⊢
      have ec2 : cs = (pre ++ tl.take (wl tl) ++ bl (bn tl1)) ++ tl1.drop (bn tl1) := by rw [List.append_assoc (pre ++ tl.take (wl tl)), ← bn_bl, ec1]
      have lp2 : (pre ++ tl.take (wl tl) ++ bl (bn tl1)).length = (pre ++ tl.take (wl tl)).length + bn tl1 := by rw [List.length_append (as := pre ++ tl.take (wl tl)), bl_len]
      have c1 := cut1 ec2
      rw [lp2] at c1
      refine ⟨_, rfl, _, rfl, _, rfl, _, rfl, _, _, rfl, rfl, _, rfl, S cs, rfl, by rw [S_len, sizeLine_eq]; omega, ?_⟩
      rw [c1]
      generalize bn tl1 = b1 at hrd ec2 lp2 c1 ⊢
      generalize tl1.drop b1 = tl2 at hrd ec2 c1 ⊢
      have l2 : cs.length = pre.length + wl tl + b1 + tl2.length := by rw [ec2, List.length_append, lp2, lp1]
      by_cases h40 : tl2.take 1 = [40]
      · rw [if_neg (by simpa using h40)] at hrd
        rw [h40]
        refine ⟨rfl, _, rfl, if_false_of (by decide +kernel) ?_⟩
        have e2 : tl2 = 40 :: tl2.drop 1 := by
          cases tl2 with
          | nil => cases h40
          | cons c r =>
            have z : [c] = [40] := h40
            injection z with z _
            rw [z]
            rfl
        have ec3 : cs = (pre ++ tl.take (wl tl) ++ bl b1 ++ [40]) ++ tl2.drop 1 := by rw [List.append_assoc (pre ++ tl.take (wl tl) ++ bl b1)]; exact ec2.trans (by rw [← show tl2 = [40] ++ tl2.drop 1 from e2])
        have l1' : tl2.length = (tl2.drop 1).length + 1 := congrArg List.length e2
        generalize tl2.drop 1 = tl3 at hrd ec3 l1' ⊢
        have lp3 : (pre ++ tl.take (wl tl) ++ bl b1 ++ [40]).length = (pre ++ tl.take (wl tl)).length + b1 + 1 := by rw [List.length_append (as := pre ++ tl.take (wl tl) ++ bl b1), lp2]; rfl
        have ec4 : cs = (pre ++ tl.take (wl tl) ++ bl b1 ++ [40] ++ bl (bn tl3)) ++ tl3.drop (bn tl3) := by rw [List.append_assoc (pre ++ tl.take (wl tl) ++ bl b1 ++ [40]), ← bn_bl, ec3]
        have lp4 : (pre ++ tl.take (wl tl) ++ bl b1 ++ [40] ++ bl (bn tl3)).length = (pre ++ tl.take (wl tl)).length + b1 + 1 + bn tl3 := by rw [List.length_append (as := pre ++ tl.take (wl tl) ++ bl b1 ++ [40]), lp3, bl_len]
        cases n with
        | zero => cases hrd
        | succ n =>
          dsimp only at hrd
          refine ⟨_, rfl, _, rfl, _, rfl, _, _, rfl, rfl, cs, pre ++ tl.take (wl tl) ++ bl b1 ++ [40], _, _, arg2 (by rw [lp3]; omega), bb_args ec3, bn_nb _, lc, ?_⟩
          have l4 := bn_le tl3
          have l5 : tl3.length = bn tl3 + (tl3.drop (bn tl3)).length := by rw [List.length_drop]; omega
          generalize bn tl3 = b2 at hrd ec4 lp4 l5 ⊢
          generalize tl3.drop b2 = tl4 at hrd ec4 l5 ⊢
          cases hp : pt (rd n) tl4 with
          | none => rw [hp] at hrd; cases hrd
          | some q =>
            rw [hp] at hrd
            cases q with
            | bad i =>
              injection hrd with hrd
              subst hrd
              refine ⟨cs, pre ++ tl.take (wl tl) ++ bl b1 ++ [40] ++ bl b2, tl4, .bad i, arg2 (by rw [lp4, lp3]), ec4, lc, hp, fun H2 e2 => ?_⟩
              have z := k H2 (e1.trans e2)
              rw [lp4, lp1]
              rw [show pre.length + wl tl + b1 + 1 + b2 + i = pre.length + (wl tl + b1 + 1 + b2 + i) by omega]
              exact z
            | ok ps i =>
              injection hrd with hrd
              subst hrd
              refine ⟨cs, pre ++ tl.take (wl tl) ++ bl b1 ++ [40] ++ bl b2, tl4, .ok ps i, arg2 (by rw [lp4, lp3]), ec4, lc, hp, fun H2 a l vs e2 ha hl htm => ?_⟩
              refine ⟨a, _, rfl, SqT.of ha, rfl, _, _, rfl, _, _, rfl, rfl, ?_⟩
              have lvs : vs.length ≤ 100002 := by
                have z := pt_len hp
                rw [htm.len]
                omega
              refine ⟨_, rfl, _, rfl, l, vs, rfl, .inr (SqL.of hl), by show (_ :: _).length ≤ _; rw [List.length_cons, List.length_append, sizeLine_eq]; show vs.length + 0 + 1 ≤ _; omega, fun a1 na1 => ?_⟩
              obtain ⟨H3, eG, e3, ha1⟩ := put_new (o := .tup (.str (S (tl.take (wl tl))) :: (vs ++ []))) na1
              rw [List.append_nil] at ha1 eG
              rw [List.append_nil, eG]
              clear eG
              refine ⟨_, rfl, by show 2 ≤ sizeLine; decide, fun a2 na2 => ?_⟩
              obtain ⟨H4, eG, e4, ha2⟩ := put_new (o := .tup [.ref a1, .int (((pre ++ tl.take (wl tl) ++ bl b1 ++ [40] ++ bl b2).length + i : Nat) : Int)]) na2
              rw [eG]
              clear eG
              refine k H4 a2 (.ref a1) (e1.trans (e2.trans (e3.trans e4))) ?_ (.f (e4 _ _ ha1) (htm.keep (Tups.of (e3.trans e4))))
              have fin : (pre ++ tl.take (wl tl) ++ bl b1 ++ [40] ++ bl b2).length + i = pre.length + (wl tl + b1 + 1 + b2 + i) := by
                rw [lp4, lp1]
                omega
              rw [ha2, fin]
      · rw [if_pos (by simpa using h40)] at hrd
        injection hrd with hrd
        subst hrd
        refine ⟨rfl, _, rfl, if_true_of ?_ ?_⟩
        · rw [Bool.not_eq_true', decide_eq_false_iff_not]
          intro z
          exact h40 (S_inj (V.str.inj z))
        · refine ⟨_, rfl, _, rfl, by show 2 ≤ sizeLine; decide, fun a na => ?_⟩
          obtain ⟨H2, eG, e2, ha⟩ := put_new (o := .tup [.str (S (tl.take (wl tl))), .int (((pre ++ tl.take (wl tl)).length + b1 : Nat) : Int)]) na
          rw [eG]
          clear eG
          refine k H2 a _ (e1.trans e2) ?_ .v
          rw [ha, lp1, Nat.add_assoc]
end
end K14


set_option Elab.async false
set_option linter.all false
set_option maxRecDepth 100000
set_option maxHeartbeats 4000000
namespace K14
open PySem PySem.Spec PyProof.Rows L2 Evl NdefX SX StX
section
variable {P : Program} {w : World} {K : PySem.W.Frag} {mg : Str → Option Value} {base : Heap}
variable {Cb fb qb cb : Addr} {db : FuncData}
theorem R1At.same {r : R1} {i : Nat} {H H' : Hp} {Q : VK} {E : XK} (h : R1At Cb r i H Q E) (e : Same H H') : R1At Cb r i H' Q E := by
  cases r with
  | ok t j => exact fun H2 a v e2 ha hv => h H2 a v (e.trans e2) ha hv
  | bad j => exact fun H2 e2 => h H2 (e.trans e2)
theorem take_S {c : Nat} (tl : List Nat) : decide (V.str (S (tl.take 1)) = V.str (S [c])) = decide (tl.take 1 = [c]) := by
  rw [decide_eq_decide]
  exact ⟨fun z => S_inj (V.str.inj z), fun z => by rw [z]⟩
theorem ok_pt {f : Addr} {fd : FuncData} {kr n : Nat} (F : Fun K "_read_parts" "_read_parts" s__read_parts f fd) (U : XI P K mg "BadText" "BadText.__init__" (inClass (top 2) 0) ["self", "place"] Cb fb qb cb "ValueError" "ValueError.__new__" "ValueError.__init__" [.type "ValueError", .type "Exception", .type "BaseException", .type "object"] db) (nb : PySem.W.findIn K (.ref Cb) "place" = some none)
    (c__behind_blanks : Cal P w K mg base 1 "_behind_blanks" ["text", "place"] spBB)
    (c__read : Cal P w K mg base kr "_read" ["text", "start"] (spRd Cb n)) (hk : 2 ≤ kr) : FnOk P w K mg base (L2.CX P w) (kr + 1) f fd ["text", "start"] (spPt Cb n) := by
  have F_pl : FnOk P w K mg base (L2.CX P w) 1 fb db ["self", "place"] (spPl Cb) := init_BadText U nb
  refine F.okX sc__read_parts (fun vs H Q E h => ?_) (fun cdv A outer s H vs Q E hr h => ?_)
  · obtain ⟨cs, pre, tl, r, rfl, _⟩ := h
    rfl
  · obtain ⟨cs, pre, tl, r, rfl, ec, lc, hpt, k⟩ := h
    refine ⟨_, (pss_cons (ps_if (pt_cmpR op_eq (pe_slice sl_str (pv 0) (po_some (pv 1)) (po_some (pe_op op_add (pv 1) (pe_int)))) (pe_str) (nomark _)) (pss_one (ps_ret (pe_tup (pa_cons (pe_lst pa_nil) (pa_cons (pe_cal c__behind_blanks (hr.mono (by omega)) (by rfl) (pa_cons (pv 0) (pa_cons (pe_op op_add (pv 1) (pe_int)) pa_nil))) pa_nil))))) pss_nil)
      (pss_cons (ps_asg (pe_calE (E := E) c__read (hr.mono (by omega)) (by rfl) (passes_call (takes_of rfl rfl rfl rfl) (fun _ _ _ _ z => z)) (pa_cons (pv 0) (pa_cons (pv 1) pa_nil))) (pg_tup rfl (pgs_cons (pg_name (i := 2) sc__read_parts.nd rfl (Or.inl rfl)) (pgs_cons (pg_name (i := 3) sc__read_parts.nd rfl (Or.inl rfl)) pgs_nil))))
      (pss_cons (ps_set (i := 4) sc__read_parts.nd rfl (Or.inl rfl) (pe_lst (pa_cons (pv 2) pa_nil)))
      (pss_cons (ps_while (passes_of rfl) (pt_cmpR op_eq (pe_slice sl_str (pv 0) (po_some (pv 3)) (po_some (pe_op op_add (pv 3) (pe_int)))) (pe_str) (nomark _)) (pss_cons (ps_asg (pe_calE (E := E) c__read (hr.mono (by omega)) (by rfl) (passes_call (takes_of rfl rfl rfl rfl) (fun _ _ _ _ z => z)) (pa_cons (pv 0) (pa_cons (pe_cal c__behind_blanks (hr.mono (by omega)) (by rfl) (pa_cons (pv 0) (pa_cons (pe_op op_add (pv 3) (pe_int)) pa_nil))) pa_nil))) (pg_tup rfl (pgs_cons (pg_name (i := 5) sc__read_parts.nd rfl (Or.inl rfl)) (pgs_cons (pg_name (i := 3) sc__read_parts.nd rfl (Or.inl rfl)) pgs_nil))))
      (pss_one (ps_expr (pe_bm PySem.F.plainAttrs_list PySem.F.slot_list_append PySem.F.type_list_append mt_append (pv 4) (pa_cons (pv 5) pa_nil))))))
      (pss_cons (ps_if (pt_cmpR op_ne (pe_slice sl_str (pv 0) (po_some (pv 3)) (po_some (pe_op op_add (pv 3) (pe_int)))) (pe_str) (nomark _)) (pss_one (ps_raise rfl (takes_of rfl rfl rfl rfl) (U.pmk F_pl (hr.mono (by omega)) (by rfl) (pa_cons (pv 3) pa_nil)))) pss_nil)
      (pss_one (ps_ret (pe_tup (pa_cons (pv 4) (pa_cons (pe_cal c__behind_blanks (hr.mono (by omega)) (by rfl) (pa_cons (pv 0) (pa_cons (pe_op op_add (pv 3) (pe_int)) pa_nil))) pa_nil)))))))))), ?_⟩
    have lcs : cs.length = pre.length + tl.length := by rw [ec, List.length_append]
    have c1 := cut1 ec
    refine ⟨_, rfl, _, rfl, _, rfl, _, rfl, _, _, rfl, rfl, _, rfl, S cs, rfl, by rw [S_len, sizeLine_eq]; omega, ?_⟩
    rw [c1]
    unfold pt at hpt
    by_cases h41 : tl.take 1 = [41]
    · rw [if_pos h41] at hpt
      injection hpt with hpt
      subst hpt
      refine ⟨rfl, _, rfl, if_true_of ((take_S (c := 41) tl).trans (decide_eq_true h41)) ?_⟩
      refine ⟨by show 0 ≤ sizeLine; decide, fun l nl => ?_⟩
      obtain ⟨H1, eG, e1, hl⟩ := put_new (o := .lst []) nl
      rw [eG]
      clear eG
      have e2 : tl = [41] ++ tl.drop 1 := by rw [← h41, List.take_append_drop]
      have ec2 : cs = (pre ++ [41]) ++ tl.drop 1 := by rw [List.append_assoc, ← e2, ec]
      refine ⟨_, rfl, _, rfl, _, _, rfl, rfl, cs, pre ++ [41], _, _, arg2 (by rw [List.length_append]; rfl), bb_args ec2, bn_nb _, lc, by show 2 ≤ sizeLine; decide, fun a na => ?_⟩
      obtain ⟨H2, eG, e2, ha⟩ := put_new (o := .tup [.ref l, .int (((pre ++ [41]).length + bn (tl.drop 1) : Nat) : Int)]) na
      rw [eG]
      clear eG
      refine k H2 a l [] (e1.trans e2) ?_ (e2 _ _ hl) .nil
      rw [ha, List.length_append, ← Nat.add_assoc]
      rfl
    · rw [if_neg h41] at hpt
      refine ⟨rfl, _, rfl, if_false_of ((take_S (c := 41) tl).trans (decide_eq_false h41)) ?_⟩
      cases hq : rd n tl with
      | none => rw [hq] at hpt; cases hpt
      | some q =>
        rw [hq] at hpt
        cases q with
        | bad i =>
          injection hpt with hpt
          subst hpt
          exact ⟨_, rfl, _, rfl, cs, pre, tl, .bad i, rfl, ec, lc, hq, k⟩
        | ok t i =>
          dsimp only at hpt
          have li := rd_le n tl t i hq
          refine ⟨_, rfl, _, rfl, cs, pre, tl, .ok t i, rfl, ec, lc, hq, fun H1 a v e1 ha hv => ?_⟩
          refine ⟨a, _, rfl, SqT.of ha, rfl, _, _, rfl, _, _, rfl, rfl, ?_⟩
          refine ⟨_, rfl, by show 1 ≤ sizeLine; decide, fun p np => ?_⟩
          obtain ⟨H2, eG, e2, hp⟩ := put_new (o := .lst [v]) np
          refine gN ?_
          rw [eG]
          clear eG
          have np0 : H p = none := e1.free np
          have lt : (tl.take i).length = i := by rw [List.length_take]; omega
          refine ⟨fun m σ H' => ∃ (ts : List Tm) (us : List V) (j : Nat) (rest pre' : List Nat) (v5 : Option V), lp (rd n) m ts j rest = some r ∧ cs = pre' ++ rest ∧ pre'.length = pre.length + j ∧ ts.length ≤ j + 1 ∧ Same H H' ∧ H' p = some (.lst us) ∧ TmsAt H' us ts ∧
              σ = [some (.str (S cs)), some (.int (pre.length : Int)), some v, some (.int (pre'.length : Int)), some (.ref p), v5],
            ⟨_, [t], [v], i, tl.drop i, pre ++ tl.take i, none, hpt, by rw [List.append_assoc, List.take_append_drop, ec], by rw [List.length_append, lt], by show 1 ≤ i + 1; omega, e1.trans e2, hp, .cons (hv.keep (Tups.of e2)) .nil, by rw [List.length_append, lt]; rfl⟩, fun m σ H' q => ?_⟩
          obtain ⟨ts, us, j, rest, pre', v5, hlp, ec', lp', lts, e', hp', hus, rfl⟩ := q
          have c2 := cut1 ec'
          have lrest : cs.length = pre'.length + rest.length := by rw [ec', List.length_append]
          have lus := hus.len
          refine ⟨_, rfl, _, rfl, _, rfl, _, rfl, _, _, rfl, rfl, _, rfl, S cs, rfl, by rw [S_len, sizeLine_eq]; omega, ?_⟩
          rw [c2]
          cases m with
          | zero => cases hlp
          | succ m =>
            unfold lp at hlp
            by_cases h44 : rest.take 1 = [44]
            · rw [if_pos h44] at hlp
              refine ⟨rfl, _, rfl, if_true_of ((take_S (c := 44) rest).trans (decide_eq_true h44)) ⟨_, fun σ' H'' z => z, ?_⟩⟩
              have e2 : rest = [44] ++ rest.drop 1 := by rw [← h44, List.take_append_drop]
              have ec2 : cs = (pre' ++ [44]) ++ rest.drop 1 := by rw [List.append_assoc, ← e2, ec']
              have l2 : (pre' ++ [44]).length = pre'.length + 1 := by rw [List.length_append]; rfl
              have ec3 : cs = (pre' ++ [44] ++ bl (bn (rest.drop 1))) ++ (rest.drop 1).drop (bn (rest.drop 1)) := by rw [List.append_assoc (pre' ++ [44]), ← bn_bl, ec2]
              have l3 : (pre' ++ [44] ++ bl (bn (rest.drop 1))).length = pre'.length + 1 + bn (rest.drop 1) := by rw [List.length_append (as := pre' ++ [44]), l2, bl_len]
              refine ⟨_, rfl, _, rfl, _, rfl, _, _, rfl, rfl, cs, pre' ++ [44], _, _, arg2 (by rw [l2]; rfl), bb_args ec2, bn_nb _, lc, ?_⟩
              generalize (rest.drop 1).drop (bn (rest.drop 1)) = rest2 at hlp ec3 ⊢
              generalize bn (rest.drop 1) = b2 at hlp ec3 l3 ⊢
              cases hq2 : rd n rest2 with
              | none => rw [hq2] at hlp; cases hlp
              | some q2 =>
                rw [hq2] at hlp
                cases q2 with
                | bad i2 =>
                  injection hlp with hlp
                  subst hlp
                  refine ⟨cs, pre' ++ [44] ++ bl b2, rest2, .bad i2, arg2 (by rw [l3, l2]), ec3, lc, hq2, fun H3 e3 => ?_⟩
                  have z := k H3 (e'.trans e3)
                  rw [l3, lp', show pre.length + j + 1 + b2 + i2 = pre.length + (j + 1 + b2 + i2) by omega]
                  exact z
                | ok t2 i2 =>
                  dsimp only at hlp
                  have li2 := rd_le n rest2 t2 i2 hq2
                  have lt2 : (rest2.take i2).length = i2 := by rw [List.length_take]; omega
                  refine ⟨cs, pre' ++ [44] ++ bl b2, rest2, .ok t2 i2, arg2 (by rw [l3, l2]), ec3, lc, hq2, fun H3 a3 v3 e3 ha3 hv3 => ?_⟩
                  refine ⟨a3, _, rfl, SqT.of ha3, rfl, _, _, rfl, _, _, rfl, rfl, ?_⟩
                  have hp3 := e3 _ _ hp'
                  refine ⟨_, rfl, .inl ⟨rfl, _, SqL.of hp3⟩, _, rfl, p, _, _, rfl, rfl, hp3, by rw [sizeLine_eq]; omega, ?_⟩
                  refine ⟨m, by omega, ts ++ [t2], us ++ [v3], j + 1 + b2 + i2, rest2.drop i2, pre' ++ [44] ++ bl b2 ++ rest2.take i2, some v3, hlp, by rw [List.append_assoc (pre' ++ [44] ++ bl b2), List.take_append_drop, ec3], ?_, ?_, same_mut (e'.trans e3) np0, upd_same, ?_, ?_⟩
                  · rw [List.length_append (as := pre' ++ [44] ++ bl b2), l3, lt2]
                    omega
                  · rw [List.length_append]
                    show _ + 1 ≤ _
                    omega
                  · exact TmsAt.app ((hus.keep (Tups.of e3)).keep (Tups.put hp3)) (.cons (hv3.keep (Tups.put hp3)) .nil)
                  · rw [List.length_append (as := pre' ++ [44] ++ bl b2), lt2]
                    rfl
            · rw [if_neg h44] at hlp
              refine ⟨rfl, _, rfl, if_false_of ((take_S (c := 44) rest).trans (decide_eq_false h44)) ?_⟩
              refine ⟨_, rfl, _, rfl, _, rfl, _, rfl, _, _, rfl, rfl, _, rfl, S cs, rfl, by rw [S_len, sizeLine_eq]; omega, ?_⟩
              rw [c2]
              by_cases g41 : rest.take 1 = [41]
              · rw [if_pos g41] at hlp
                injection hlp with hlp
                subst hlp
                have dd := (take_S (c := 41) rest).trans (decide_eq_true g41)
                refine ⟨rfl, _, rfl, if_false_of (by rw [show V.str ")" = V.str (S [41]) from rfl, dd]; rfl) ?_⟩
                have e2 : rest = [41] ++ rest.drop 1 := by rw [← g41, List.take_append_drop]
                have ec2 : cs = (pre' ++ [41]) ++ rest.drop 1 := by rw [List.append_assoc, ← e2, ec']
                refine ⟨_, rfl, _, rfl, _, rfl, _, _, rfl, rfl, cs, pre' ++ [41], _, _, arg2 (by rw [List.length_append]; rfl), bb_args ec2, bn_nb _, lc, by show 2 ≤ sizeLine; decide, fun a' na' => ?_⟩
                obtain ⟨H3, eG, e3, ha'⟩ := put_new (o := .tup [.ref p, .int (((pre' ++ [41]).length + bn (rest.drop 1) : Nat) : Int)]) na'
                rw [eG]
                clear eG
                have fin : (pre' ++ [41]).length + bn (rest.drop 1) = pre.length + (j + 1 + bn (rest.drop 1)) := by
                  rw [List.length_append, lp']
                  show pre.length + j + 1 + _ = _
                  omega
                exact k H3 a' p us (e'.trans e3) (by rw [ha', fin]) (e3 _ _ hp') (hus.keep (Tups.of e3))
              · rw [if_neg g41] at hlp
                injection hlp with hlp
                subst hlp
                have dd := (take_S (c := 41) rest).trans (decide_eq_false g41)
                refine ⟨rfl, _, rfl, if_true_of (by rw [show V.str ")" = V.str (S [41]) from rfl, dd]; rfl) ?_⟩
                have z := k H' e'
                rw [← lp'] at z
                exact ⟨_, rfl, by show 1 ≤ 1000; decide, raise_pl (by omega) z⟩
end
end K14


set_option Elab.async false
set_option linter.all false
set_option maxRecDepth 100000
set_option maxHeartbeats 4000000
namespace K14
open PySem PySem.Spec PyProof.Rows L2 Evl NdefX SX StX
/-- read_term(text) -/
def rt (n : Nat) (cs : List Nat) : Option R1 := match rd n (cs.drop (bn cs)) with
  | some (.ok t j) => if bn cs + j < cs.length then some (.bad (bn cs + j)) else some (.ok t (bn cs + j))
  | some (.bad j) => some (.bad (bn cs + j))
  | none => none
section
variable {P : Program} {w : World} {K : PySem.W.Frag} {mg : Str → Option Value} {base : Heap}
variable {Cb fb qb cb : Addr} {db : FuncData}
abbrev XB (P : Program) (K : PySem.W.Frag) (mg : Str → Option Value) (Cb fb qb cb : Addr) (db : FuncData) : Prop := XI P K mg "BadText" "BadText.__init__" (inClass (top 2) 0) ["self", "place"] Cb fb qb cb "ValueError" "ValueError.__new__" "ValueError.__init__" [.type "ValueError", .type "Exception", .type "BaseException", .type "object"] db
theorem all_rd {f g : Addr} {fd gd : FuncData} (F : Fun K "_read" "_read" s__read f fd) (G : Fun K "_read_parts" "_read_parts" s__read_parts g gd) (mf : mg "_read" = some (.ref f)) (mG : mg "_read_parts" = some (.ref g)) (kf : PySem.W.keepIn K (.ref f) = true) (kg : PySem.W.keepIn K (.ref g) = true)
    (bf : Binds K fd ["text", "start"] []) (bg : Binds K gd ["text", "start"] []) (U : XB P K mg Cb fb qb cb db) (nb : PySem.W.findIn K (.ref Cb) "place" = some none) (c__word_end : Cal P w K mg base 3 "_word_end" ["text", "start"] spWl) (c__behind_blanks : Cal P w K mg base 1 "_behind_blanks" ["text", "place"] spBB) :
    ∀ n, FnOk P w K mg base (L2.CX P w) (2 * n + 3 + 1) f fd ["text", "start"] (spRd Cb n) ∧ FnOk P w K mg base (L2.CX P w) (2 * n + 3 + 1 + 1) g gd ["text", "start"] (spPt Cb n)
  | 0 => by
    have h1 : FnOk P w K mg base (L2.CX P w) (2 * 0 + 3 + 1) f fd ["text", "start"] (spRd Cb 0) := ok_rd F U nb c__word_end c__behind_blanks ⟨_, _, mG, kg, bg, (ok_no (k := 2 * 0 + 3)).toX⟩ (by omega)
    exact ⟨h1, ok_pt G U nb c__behind_blanks ⟨_, _, mf, kf, bf, h1⟩ (by omega)⟩
  | n + 1 => by
    have ih := all_rd F G mf mG kf kg bf bg U nb c__word_end c__behind_blanks n
    have h1 : FnOk P w K mg base (L2.CX P w) (2 * (n + 1) + 3 + 1) f fd ["text", "start"] (spRd Cb (n + 1)) := ok_rd F U nb c__word_end c__behind_blanks ⟨_, _, mG, kg, bg, ih.2⟩ (by omega)
    exact ⟨h1, ok_pt G U nb c__behind_blanks ⟨_, _, mf, kf, bf, h1⟩ (by omega)⟩
def RtAt (Cb : Addr) (r : R1) (H : Hp) (Q : VK) (E : XK) : Prop := match r with
  | .ok t _ => ∀ H' v, Same H H' → TmAt H' v t → Q v H'
  | .bad j => ∀ H', Same H H' → RaisePl Cb j H' E
def spRt (Cb : Addr) (n : Nat) : Sp := fun vs H Q E => ∃ (cs : List Nat) (r : R1), vs = [.str (S cs)] ∧ cs.length ≤ 100000 ∧ rt n cs = some r ∧ RtAt Cb r H Q E
theorem ok_rtX {f : Addr} {fd : FuncData} {kr n : Nat} (F : Fun K "read_term" "read_term" s_read_term f fd) (T : Blt mg) (U : XB P K mg Cb fb qb cb db) (nb : PySem.W.findIn K (.ref Cb) "place" = some none)
    (c__behind_blanks : Cal P w K mg base 1 "_behind_blanks" ["text", "place"] spBB)
    (c__read : Cal P w K mg base kr "_read" ["text", "start"] (spRd Cb n)) (hk : 2 ≤ kr) : FnOk P w K mg base (L2.CX P w) (kr + 1) f fd ["text"] (spRt Cb n) := by
  have F_pl : FnOk P w K mg base (L2.CX P w) 1 fb db ["self", "place"] (spPl Cb) := init_BadText U nb
  refine F.okX sc_read_term (fun vs H Q E h => ?_) (fun cdv A outer s H vs Q E hr h => ?_)
  · obtain ⟨cs, r, rfl, _⟩ := h
    rfl
  · obtain ⟨cs, r, rfl, lc, hrt, k⟩ := h
    refine ⟨_, (pss_cons (ps_asg (pe_calE (E := E) c__read (hr.mono (by omega)) (by rfl) (passes_call (takes_of rfl rfl rfl rfl) (fun _ _ _ _ z => z)) (pa_cons (pv 0) (pa_cons (pe_cal c__behind_blanks (hr.mono (by omega)) (by rfl) (pa_cons (pv 0) (pa_cons (pe_int) pa_nil))) pa_nil))) (pg_tup rfl (pgs_cons (pg_name (i := 1) sc_read_term.nd rfl (Or.inl rfl)) (pgs_cons (pg_name (i := 2) sc_read_term.nd rfl (Or.inl rfl)) pgs_nil))))
      (pss_cons (ps_if (pt_cmpR op_lt (pv 2) (pe_callB call_len_str (by rfl) T.len (by decide +kernel) (pa_cons (pv 0) pa_nil)) (nomark _)) (pss_one (ps_raise rfl (takes_of rfl rfl rfl rfl) (U.pmk F_pl (hr.mono (by omega)) (by rfl) (pa_cons (pv 2) pa_nil)))) pss_nil)
      (pss_one (ps_ret (pv 1))))), ?_⟩
    have b0 := bn_le cs
    have l1 : cs.length = bn cs + (cs.drop (bn cs)).length := by rw [List.length_drop]; omega
    refine ⟨_, rfl, _, rfl, cs, [], _, _, rfl, bb_args (pre := []) rfl, bn_nb _, lc, ?_⟩
    unfold rt at hrt
    cases hq : rd n (cs.drop (bn cs)) with
    | none => rw [hq] at hrt; cases hrt
    | some q =>
      rw [hq] at hrt
      have ea : [V.str (S cs), V.int ((([] : List Nat).length + bn cs : Nat) : Int)] = [V.str (S cs), V.int ((bl (bn cs)).length : Int)] := arg2 (by rw [bl_len, List.length_nil, Nat.zero_add])
      cases q with
      | bad j =>
        injection hrt with hrt
        subst hrt
        refine ⟨cs, bl (bn cs), cs.drop (bn cs), .bad j, ea, bn_bl cs, lc, hq, fun H1 e1 => ?_⟩
        have z := k H1 e1
        rw [bl_len]
        exact z
      | ok t j =>
        dsimp only at hrt
        refine ⟨cs, bl (bn cs), cs.drop (bn cs), .ok t j, ea, bn_bl cs, lc, hq, fun H1 a v e1 ha hv => ?_⟩
        refine ⟨a, _, rfl, SqT.of ha, rfl, _, _, rfl, _, _, rfl, rfl, ?_⟩
        rw [bl_len]
        have lj := rd_le n _ t j hq
        by_cases hl : bn cs + j < cs.length
        · rw [if_pos hl] at hrt
          injection hrt with hrt
          subst hrt
          refine ⟨_, rfl, _, rfl, S cs, rfl, by rw [S_len, sizeLine_eq]; omega, _, _, rfl, rfl, _, rfl, if_true_of (decide_eq_true (by rw [S_len]; omega)) ?_⟩
          exact ⟨_, rfl, by show 1 ≤ 1000; decide, raise_pl (by omega) (k H1 e1)⟩
        · rw [if_neg hl] at hrt
          injection hrt with hrt
          subst hrt
          refine ⟨_, rfl, _, rfl, S cs, rfl, by rw [S_len, sizeLine_eq]; omega, _, _, rfl, rfl, _, rfl, if_false_of (decide_eq_false (by rw [S_len]; omega)) ?_⟩
          exact ⟨_, rfl, k H1 v e1 hv⟩
def due1 : R1 → Int
  | .ok _ _ => -1
  | .bad j => (j : Int)
def spSaid (n : Nat) : Sp := fun vs H Q _ => ∃ (cs : List Nat) (r : R1), vs = [.str (S cs)] ∧ cs.length ≤ 100000 ∧ rt n cs = some r ∧ ∀ H', Same H H' → Q (.int (due1 r)) H'
abbrev s__law_said : Stmt := top 22
abbrev N__law_said : List Str := ["text", "said", "e"]
theorem sc__law_said : FnScope N__law_said ["text"] (defScope s__law_said) := ⟨rfl, rfl, rfl, by decide +kernel, rfl, by decide +kernel, by decide +kernel⟩
theorem ok_said {f : Addr} {fd : FuncData} {kr n : Nat} (F : Fun K "_law_said" "_law_said" s__law_said f fd) (U : XB P K mg Cb fb qb cb db) (nb : PySem.W.findIn K (.ref Cb) "place" = some none) (ex : PySem.W.exmOne K (.ref Cb) (.ref Cb) = some true) (xf : XfC K Cb)
    (c_read_term : Cal P w K mg base kr "read_term" ["text"] (spRt Cb n)) (hk : 2 ≤ kr) : FnOk P w K mg base CX0 (kr + 1) f fd ["text"] (spSaid n) := by
  refine F.ok sc__law_said (fun vs H Q E h => ?_) (fun cdv A outer s H vs Q E hr h => ?_)
  · obtain ⟨cs, r, rfl, _⟩ := h
    rfl
  · obtain ⟨cs, r, rfl, lc, hrt, g⟩ := h
    refine ⟨_, (pss_cons (ps_set (i := 1) sc__law_said.nd rfl (Or.inl rfl) (pe_un un_neg pe_int))
      (pss_cons (ps_try_mix (Wout := fun _ _ _ _ => False) (l := [(.ref Cb, some 2, fun a cls d => tAsg (tXf a cls d Cb "place" (tVar 2)) (gName 1))]) rfl rfl takes0
        (fun W pn xe tk _ => pss_one (ps_expr (pe_calT c_read_term (hr.mono (by omega)) (by rfl) tk (pa_cons (pv 0) pa_nil))))
        (.cons ⟨rfl, by decide, Or.inl U.g⟩ (.as sc__law_said.nd rfl rfl) (fun _ _ _ _ _ hz hf => pss_one (ps_set (i := 1) sc__law_said.nd rfl (Or.inl rfl) (pe_xf xf nb hz hf (pv 2)))) .nil))
      (pss_one (ps_ret (pv 1))))), ?_⟩
    refine ⟨1, rfl, _, rfl, cs, r, rfl, lc, hrt, ?_⟩
    cases r with
    | ok t j => exact fun H' v e hv => ⟨_, rfl, g H' e⟩
    | bad j => exact fun H0 e0 d H' hd e hx => ⟨true, ex, fun _ a na => ⟨_, rfl, rfl, rfl, d, _, _, rfl, hx, rfl, _, rfl, g H' (e0.trans e)⟩, fun z => by cases z⟩
end
end K14


set_option Elab.async false
set_option linter.all false
set_option maxRecDepth 100000
set_option maxHeartbeats 4000000
namespace K14
open PySem PySem.Spec PyProof.Rows L2 Evl NdefX SX StX
/-! ### going through the signs, as the law does -/
inductive Sd where
  | term | opn | word | behind | done

instance : DecidableEq Sd := fun a b => by
  cases a <;> cases b <;> first | exact isTrue rfl | exact isFalse (fun h => nomatch h)
def stp (c : Nat) (s : Sd) (d w : Nat) : Option (Sd × Nat × Nat) :=
  if (s = .term ∨ s = .opn) ∧ isL c = true then some (.word, d, 1)
  else if s = .word ∧ isC c = true ∧ w < 12 then some (.word, d, w + 1)
  else if c = 32 then some (if s = .word then .behind else s, d, w)
  else if (s = .word ∨ s = .behind) ∧ c = 40 then some (.opn, d + 1, w)
  else if c = 41 ∧ 0 < d ∧ s ≠ .term then some (.done, d - 1, w)
  else if c = 44 ∧ 0 < d ∧ (s = .word ∨ s = .behind ∨ s = .done) then some (.term, d, w)
  else none
def au : List Nat → Sd → Nat → Nat → Nat → Int
  | [], s, d, _, k => if d = 0 ∧ (s = .word ∨ s = .behind ∨ s = .done) then -1 else (k : Int)
  | c :: r, s, d, w, k => match stp c s d w with
    | some (s', d', w') => au r s' d' w' (k + 1)
    | none => (k : Int)
theorem sg : (isL 32 = false ∧ isC 32 = false) ∧ (isL 40 = false ∧ isC 40 = false) ∧ (isL 41 = false ∧ isC 41 = false) ∧ (isL 44 = false ∧ isC 44 = false) := by decide +kernel
theorem stp32 (s : Sd) (d w : Nat) : stp 32 s d w = some (if s = .word then .behind else s, d, w) := by
  unfold stp
  rw [if_neg (by simp [sg.1.1]), if_neg (by simp [sg.1.2]), if_pos rfl]
theorem stp40 {s : Sd} (h : s = .word ∨ s = .behind) (d w : Nat) : stp 40 s d w = some (.opn, d + 1, w) := by
  unfold stp
  rw [if_neg (by simp [sg.2.1.1]), if_neg (by simp [sg.2.1.2]), if_neg (by decide), if_pos ⟨h, rfl⟩]
theorem stp41 {s : Sd} (h : s ≠ .term) (d w : Nat) : stp 41 s (d + 1) w = some (.done, d, w) := by
  unfold stp
  rw [if_neg (by simp [sg.2.2.1.1]), if_neg (by simp [sg.2.2.1.2]), if_neg (by decide), if_neg (by simp), if_pos ⟨rfl, by omega, h⟩]
  rfl
theorem stp44 {s : Sd} (h : s = .word ∨ s = .behind ∨ s = .done) (d w : Nat) : stp 44 s (d + 1) w = some (.term, d + 1, w) := by
  unfold stp
  rw [if_neg (by simp [sg.2.2.2.1]), if_neg (by simp [sg.2.2.2.2]), if_neg (by decide), if_neg (by simp), if_neg (by simp), if_pos ⟨rfl, by omega, h⟩]
theorem au_cons {c : Nat} {r : List Nat} {s s' : Sd} {d w d' w' k : Nat} (h : stp c s d w = some (s', d', w')) : au (c :: r) s d w k = au r s' d' w' (k + 1) := by
  show (match stp c s d w with | some (s', d', w') => au r s' d' w' (k + 1) | none => (k : Int)) = _
  rw [h]
theorem au_none {c : Nat} {r : List Nat} {s : Sd} {d w k : Nat} (h : stp c s d w = none) : au (c :: r) s d w k = (k : Int) := by
  show (match stp c s d w with | some (s', d', w') => au r s' d' w' (k + 1) | none => (k : Int)) = _
  rw [h]
theorem au_bl {s : Sd} (hs : s ≠ .word) (r : List Nat) (d w : Nat) : ∀ (n k : Nat), au (bl n ++ r) s d w k = au r s d w (k + n)
  | 0, k => rfl
  | n + 1, k => by
    show au (32 :: (bl n ++ r)) s d w k = _
    rw [au_cons (stp32 s d w), if_neg hs, au_bl hs r d w n (k + 1), show k + 1 + n = k + (n + 1) by omega]
theorem au_wbl (r : List Nat) (d w n k : Nat) : au (bl n ++ r) .word d w k = au r (if n = 0 then .word else .behind) d w (k + n) := by
  cases n with
  | zero => rfl
  | succ n =>
    show au (32 :: (bl n ++ r)) .word d w k = _
    rw [au_cons (stp32 .word d w), if_pos rfl, au_bl (by decide) r d w n (k + 1), show k + 1 + n = k + (n + 1) by omega, if_neg (by omega)]
theorem au_word (r : List Nat) (d : Nat) : ∀ (x : List Nat) (w k : Nat), (∀ c ∈ x, isC c = true) → w + x.length ≤ 12 → au (x ++ r) .word d w k = au r .word d (w + x.length) (k + x.length)
  | [], w, k, _, _ => rfl
  | c :: x, w, k, h, l => by
    have l' : w + (x.length + 1) ≤ 12 := l
    have e : stp c .word d w = some (.word, d, w + 1) := by
      unfold stp
      rw [if_neg (by simp), if_pos ⟨rfl, h c List.mem_cons_self, by omega⟩]
    show au (c :: (x ++ r)) .word d w k = _
    rw [au_cons e, au_word r d x (w + 1) (k + 1) (fun a ha => h a (List.mem_cons_of_mem _ ha)) (by omega), List.length_cons, show w + 1 + x.length = w + (x.length + 1) by omega, show k + 1 + x.length = k + (x.length + 1) by omega]
theorem au_wl {s : Sd} (hs : s = .term ∨ s = .opn) (d w k : Nat) : ∀ (cs : List Nat), wl cs ≠ 0 → au cs s d w k = au (cs.drop (wl cs)) .word d (wl cs) (k + wl cs)
  | [], h => absurd rfl h
  | c :: r, h => by
    rw [wl_cons] at h ⊢
    split at h
    · rename_i hl
      rw [if_pos hl]
      have e : stp c s d w = some (.word, d, 1) := by
        unfold stp
        rw [if_pos ⟨hs, hl⟩]
      rw [au_cons e]
      have lt : (r.take (min 11 (r.takeWhile isC).length)).length = min 11 (r.takeWhile isC).length := by
        have : (r.takeWhile isC).length ≤ r.length := (List.takeWhile_sublist _).length_le
        rw [List.length_take]
        omega
      have z := au_word (r.drop (min 11 (r.takeWhile isC).length)) d (r.take (min 11 (r.takeWhile isC).length)) 1 (k + 1) (fun a ha => take_while_all (p := isC) r _ (by omega) a ha) (by rw [lt]; omega)
      rw [List.take_append_drop, lt] at z
      rw [z, show k + 1 + min 11 (r.takeWhile isC).length = k + (1 + min 11 (r.takeWhile isC).length) by omega]
      rw [show (c :: r).drop (1 + min 11 (r.takeWhile isC).length) = r.drop (min 11 (r.takeWhile isC).length) by rw [Nat.add_comm]; rfl]
    · exact absurd rfl h
theorem wl_stop (cs : List Nat) (h : wl cs ≠ 0) : ∀ c r, cs.drop (wl cs) = c :: r → isC c = false ∨ 12 ≤ wl cs := fun c r e => by
  by_cases h12 : 12 ≤ wl cs
  · exact .inr h12
  · refine .inl (Bool.eq_false_iff.mpr fun hc => ?_)
    obtain ⟨a, b⟩ := wl_le cs
    have l : wl cs < cs.length := by
      have := congrArg List.length e
      rw [List.length_drop, List.length_cons] at this
      omega
    have w := wl_word h
    have z := (word_wl cs (wl cs) l).mp ⟨by rw [List.length_take]; omega, by rw [List.length_take]; omega, fun x hx => ?_, ?_⟩
    · omega
    · rw [List.take_add_one] at hx
      rcases List.mem_append.mp hx with q | q
      · exact w.all x q
      · have e0 : cs[wl cs]? = some c := by
          have := congrArg (fun l : List Nat => l[0]?) e
          rw [List.getElem?_drop] at this
          exact this
        rw [e0] at q
        rw [List.mem_singleton.mp q]
        exact of_decide_eq_true hc
    · have hd := w.hd
      cases cs with
      | nil => exact absurd rfl h
      | cons a0 r =>
        obtain ⟨m, hm⟩ : ∃ m, wl (a0 :: r) = m + 1 := ⟨wl (a0 :: r) - 1, by omega⟩
        rw [hm] at hd ⊢
        exact hd
/-- where the law stands behind a term -/
structure Aft (s : Sd) (w : Nat) (rest : List Nat) : Prop where
  hs : s = .word ∨ s = .behind ∨ s = .done
  b : NB rest
  w : ∀ c r, rest = c :: r → s = .word → isC c = false ∨ 12 ≤ w
  o : ∀ c r, rest = c :: r → c = 40 → s = .done
theorem Aft.none {s : Sd} {w : Nat} {c : Nat} {r : List Nat} (h : Aft s w (c :: r)) {d : Nat} (h1 : c = 41 → d = 0) (h2 : c = 44 → d = 0) : stp c s d w = none := by
  have hs := h.hs
  have h3 := h.w c r rfl
  have h4 := h.o c r rfl
  have h5 := h.b c r rfl
  unfold stp
  rw [if_neg, if_neg, if_neg h5, if_neg, if_neg, if_neg]
  · rintro ⟨a, b, _⟩
    have := h2 a
    omega
  · rintro ⟨a, b, _⟩
    have := h1 a
    omega
  · rintro ⟨a, b⟩
    have z := h4 b
    rw [z] at a
    rcases a with a | a <;> cases a
  · rintro ⟨a, b, c⟩
    rcases h3 a with z | z
    · rw [z] at b; cases b
    · omega
  · rintro ⟨a, _⟩
    rcases hs with z | z | z <;> rw [z] at a <;> rcases a with a | a <;> cases a
theorem drop_bn (cs : List Nat) (s : Sd) (hs : s ≠ .word) (d w k : Nat) : au cs s d w k = au (cs.drop (bn cs)) s d w (k + bn cs) := by
  have z := au_bl hs (cs.drop (bn cs)) d w (bn cs) k
  rw [← bn_bl] at z
  exact z
theorem cons_of {cs : List Nat} {c : Nat} (h : cs.take 1 = [c]) : cs = c :: cs.drop 1 := by
  cases cs with
  | nil => cases h
  | cons a r =>
    have z : [a] = [c] := h
    injection z with z _
    rw [z]
    rfl
/-- a reader that goes as the law goes -/
structure Good (f : List Nat → Option R1) : Prop where
  ok : ∀ cs t j s d w k, (s = .term ∨ s = .opn) → f cs = some (.ok t j) → j ≤ cs.length ∧ ∃ s' w', Aft s' w' (cs.drop j) ∧ au cs s d w k = au (cs.drop j) s' d w' (k + j)
  bad : ∀ cs j s d w k, (s = .term ∨ s = .opn) → f cs = some (.bad j) → NB cs → (s = .opn → cs.take 1 ≠ [41]) → au cs s d w k = ((k + j : Nat) : Int)
theorem lp_au {f : List Nat → Option R1} (g : Good f) (d k0 : Nat) : ∀ (m : Nat) {ts : List Tm} {j : Nat} {cs : List Nat} {s : Sd} {w : Nat} {r : RL}, Aft s w cs → lp f m ts j cs = some r → match r with
    | .ok _ i => j ≤ i ∧ i - j ≤ cs.length ∧ NB (cs.drop (i - j)) ∧ ∃ w', au cs s (d + 1) w (k0 + j) = au (cs.drop (i - j)) .done d w' (k0 + i)
    | .bad i => au cs s (d + 1) w (k0 + j) = ((k0 + i : Nat) : Int)
  | 0, _, _, _, _, _, _, _, h => by cases h
  | m + 1, ts, j, cs, s, w, r, a, h => by
    unfold lp at h
    by_cases h44 : cs.take 1 = [44]
    · rw [if_pos h44] at h
      have e := cons_of h44
      have l1 := take1_len h44
      have b0 := bn_le0 (cs.drop 1)
      have st : au cs s (d + 1) w (k0 + j) = au ((cs.drop 1).drop (bn (cs.drop 1))) .term (d + 1) w (k0 + j + 1 + bn (cs.drop 1)) := by
        have z : au cs s (d + 1) w (k0 + j) = au (44 :: cs.drop 1) s (d + 1) w (k0 + j) := by rw [← e]
        rw [z, au_cons (stp44 a.hs d w), drop_bn (cs.drop 1) .term (by decide)]
      cases hq : f ((cs.drop 1).drop (bn (cs.drop 1))) with
      | none => rw [hq] at h; cases h
      | some q =>
        rw [hq] at h
        cases q with
        | bad i =>
          injection h with h
          subst h
          show au cs s (d + 1) w (k0 + j) = _
          rw [st, g.bad _ i .term (d + 1) w _ (.inl rfl) hq (bn_nb _) (fun z => nomatch z)]
          congr 1
          omega
        | ok t i =>
          dsimp only at h
          obtain ⟨li, s', w', a', e'⟩ := g.ok _ t i .term (d + 1) w (k0 + j + 1 + bn (cs.drop 1)) (.inl rfl) hq
          have z := lp_au g d k0 m a' h
          have ek : k0 + j + 1 + bn (cs.drop 1) + i = k0 + (j + 1 + bn (cs.drop 1) + i) := by omega
          rw [ek] at e'
          rw [List.length_drop] at li
          cases r with
          | bad i' =>
            show au cs s (d + 1) w (k0 + j) = _
            rw [st, e']
            exact z
          | ok ps i' =>
            obtain ⟨z1, z2, z3, w2, z4⟩ := z
            rw [List.length_drop, List.length_drop] at z2
            have ed : (((cs.drop 1).drop (bn (cs.drop 1))).drop i).drop (i' - (j + 1 + bn (cs.drop 1) + i)) = cs.drop (i' - j) := by
              rw [List.drop_drop, List.drop_drop, List.drop_drop]
              congr 1
              omega
            rw [ed] at z3 z4
            refine ⟨by omega, by omega, z3, w2, ?_⟩
            rw [st, e']
            exact z4
    · rw [if_neg h44] at h
      by_cases h41 : cs.take 1 = [41]
      · rw [if_pos h41] at h
        injection h with h
        subst h
        have e := cons_of h41
        have l1 := take1_len h41
        have b0 := bn_le0 (cs.drop 1)
        have ed : cs.drop (j + 1 + bn (cs.drop 1) - j) = (cs.drop 1).drop (bn (cs.drop 1)) := by
          rw [List.drop_drop]
          congr 1
          omega
        refine ⟨by omega, by omega, ?_, w, ?_⟩
        · rw [ed]
          exact bn_nb _
        · have z : au cs s (d + 1) w (k0 + j) = au (41 :: cs.drop 1) s (d + 1) w (k0 + j) := by rw [← e]
          rw [z, au_cons (stp41 (fun q => by rcases a.hs with y | y | y <;> rw [y] at q <;> cases q) d w), drop_bn (cs.drop 1) .done (by decide), ed]
          congr 1
          omega
      · rw [if_neg h41] at h
        injection h with h
        subst h
        show au cs s (d + 1) w (k0 + j) = _
        cases cs with
        | nil =>
          show (if d + 1 = 0 ∧ _ then (-1 : Int) else _) = _
          rw [if_neg (by omega)]
        | cons c r =>
          refine au_none (a.none (fun z => absurd ?_ h41) (fun z => absurd ?_ h44))
          · rw [z]; rfl
          · rw [z]; rfl
theorem pt_au {f : List Nat → Option R1} (g : Good f) (d w k : Nat) {cs : List Nat} {r : RL} (nb : NB cs) (h : pt f cs = some r) : match r with
    | .ok _ i => i ≤ cs.length ∧ NB (cs.drop i) ∧ ∃ w', au cs .opn (d + 1) w k = au (cs.drop i) .done d w' (k + i)
    | .bad i => au cs .opn (d + 1) w k = ((k + i : Nat) : Int) := by
  unfold pt at h
  by_cases h41 : cs.take 1 = [41]
  · rw [if_pos h41] at h
    injection h with h
    subst h
    have e := cons_of h41
    have l1 := take1_len h41
    have b0 := bn_le0 (cs.drop 1)
    have ed : cs.drop (1 + bn (cs.drop 1)) = (cs.drop 1).drop (bn (cs.drop 1)) := by rw [List.drop_drop]
    refine ⟨by omega, ?_, w, ?_⟩
    · rw [ed]
      exact bn_nb _
    · have z : au cs .opn (d + 1) w k = au (41 :: cs.drop 1) .opn (d + 1) w k := by rw [← e]
      rw [z, au_cons (stp41 (by decide) d w), drop_bn (cs.drop 1) .done (by decide), ed]
      congr 1
      omega
  · rw [if_neg h41] at h
    cases hq : f cs with
    | none => rw [hq] at h; cases h
    | some q =>
      rw [hq] at h
      cases q with
      | bad i =>
        injection h with h
        subst h
        exact g.bad _ i .opn (d + 1) w k (.inr rfl) hq nb fun _ => h41
      | ok t i =>
        dsimp only at h
        obtain ⟨li, s', w', a', e'⟩ := g.ok _ t i .opn (d + 1) w k (.inr rfl) hq
        have z := lp_au g d k _ a' h
        cases r with
        | bad i' =>
          show au cs .opn (d + 1) w k = _
          rw [e']
          exact z
        | ok ps i' =>
          obtain ⟨z1, z2, z3, w2, z4⟩ := z
          rw [List.length_drop] at z2
          have ed : (cs.drop i).drop (i' - i) = cs.drop i' := by
            rw [List.drop_drop]
            congr 1
            omega
          rw [ed] at z3 z4
          refine ⟨by omega, z3, w2, ?_⟩
          rw [e']
          exact z4
theorem bad0 {cs : List Nat} (h : wl cs = 0) {s : Sd} {d w k : Nat} (hs : s = .term ∨ s = .opn) (nb : NB cs) (ho : s = .opn → cs.take 1 ≠ [41]) : au cs s d w k = ((k + 0 : Nat) : Int) := by
  cases cs with
  | nil =>
    show (if d = 0 ∧ _ then (-1 : Int) else _) = _
    rw [if_neg]
    · rfl
    · rintro ⟨_, a⟩
      rcases hs with z | z <;> rw [z] at a <;> rcases a with a | a | a <;> cases a
  | cons c r =>
    refine au_none ?_
    rw [wl_cons] at h
    have hl : isL c = false := by
      cases e : isL c with
      | false => rfl
      | true => rw [e, if_pos rfl] at h; omega
    have n32 := nb c r rfl
    unfold stp
    rw [if_neg (by simp [hl]), if_neg, if_neg n32, if_neg, if_neg, if_neg]
    · rintro ⟨_, _, a⟩
      rcases hs with z | z <;> rw [z] at a <;> rcases a with a | a | a <;> cases a
    · rintro ⟨a, _, b⟩
      rcases hs with z | z
      · exact b z
      · refine ho z ?_
        rw [a]
        rfl
    · rintro ⟨a, _⟩
      rcases hs with z | z <;> rw [z] at a <;> rcases a with a | a <;> cases a
    · rintro ⟨a, _⟩
      rcases hs with z | z <;> rw [z] at a <;> cases a
theorem pre_au {cs : List Nat} (h : wl cs ≠ 0) {s : Sd} (hs : s = .term ∨ s = .opn) (d w k : Nat) : au cs s d w k = au ((cs.drop (wl cs)).drop (bn (cs.drop (wl cs)))) (if bn (cs.drop (wl cs)) = 0 then .word else .behind) d (wl cs) (k + wl cs + bn (cs.drop (wl cs))) := by
  rw [au_wl hs d w k cs h]
  have z := au_wbl ((cs.drop (wl cs)).drop (bn (cs.drop (wl cs)))) d (wl cs) (bn (cs.drop (wl cs))) (k + wl cs)
  rw [← bn_bl] at z
  exact z
theorem rd_v {cs : List Nat} (h : wl cs ≠ 0) (h40 : ((cs.drop (wl cs)).drop (bn (cs.drop (wl cs)))).take 1 ≠ [40]) {s : Sd} (hs : s = .term ∨ s = .opn) (d w k : Nat) : ∃ s' w', Aft s' w' (cs.drop (wl cs + bn (cs.drop (wl cs)))) ∧ au cs s d w k = au (cs.drop (wl cs + bn (cs.drop (wl cs)))) s' d w' (k + (wl cs + bn (cs.drop (wl cs)))) := by
  have ed : cs.drop (wl cs + bn (cs.drop (wl cs))) = (cs.drop (wl cs)).drop (bn (cs.drop (wl cs))) := by rw [List.drop_drop]
  refine ⟨if bn (cs.drop (wl cs)) = 0 then .word else .behind, wl cs, ⟨?_, ?_, fun c r e hw => ?_, fun c r e hc => ?_⟩, ?_⟩
  · split
    · exact .inl rfl
    · exact .inr (.inl rfl)
  · rw [ed]
    exact bn_nb _
  · rw [ed] at e
    by_cases h0 : bn (cs.drop (wl cs)) = 0
    · rw [h0] at e
      exact wl_stop cs h c r e
    · rw [if_neg h0] at hw
      cases hw
  · rw [ed] at e
    refine absurd ?_ h40
    rw [e, hc]
    rfl
  · rw [pre_au h hs d w k, ed, show k + wl cs + bn (cs.drop (wl cs)) = k + (wl cs + bn (cs.drop (wl cs))) by omega]
theorem good_rd : ∀ n, Good (rd n) := by
  intro n
  induction n with
  | zero =>
    refine ⟨fun cs t j s d w k hs h => ?_, fun cs j s d w k hs h nb ho => ?_⟩
    · have l0 := rd_le 0 cs t j h
      refine ⟨l0, ?_⟩
      unfold rd at h
      split at h
      · cases h
      · rename_i h0
        split at h
        · rename_i h40
          injection h with h
          injection h with _ h
          subst h
          exact rd_v h0 h40 hs d w k
        · cases h
    · unfold rd at h
      split at h
      · rename_i h0
        injection h with h
        injection h with h
        subst h
        exact bad0 h0 hs nb ho
      · split at h
        · cases h
        · cases h
  | succ n ih =>
    have key : ∀ (cs : List Nat) (h0 : wl cs ≠ 0) (h40 : ((cs.drop (wl cs)).drop (bn (cs.drop (wl cs)))).take 1 = [40]) (s : Sd) (hs : s = .term ∨ s = .opn) (d w k : Nat),
        au cs s d w k = au ((((cs.drop (wl cs)).drop (bn (cs.drop (wl cs)))).drop 1).drop (bn (((cs.drop (wl cs)).drop (bn (cs.drop (wl cs)))).drop 1))) .opn (d + 1) (wl cs) (k + wl cs + bn (cs.drop (wl cs)) + 1 + bn (((cs.drop (wl cs)).drop (bn (cs.drop (wl cs)))).drop 1)) := by
      intro cs h0 h40 s hs d w k
      rw [pre_au h0 hs d w k]
      have e := cons_of h40
      have z : ∀ s', (s' = Sd.word ∨ s' = .behind) → au ((cs.drop (wl cs)).drop (bn (cs.drop (wl cs)))) s' d (wl cs) (k + wl cs + bn (cs.drop (wl cs))) = au (40 :: ((cs.drop (wl cs)).drop (bn (cs.drop (wl cs)))).drop 1) s' d (wl cs) (k + wl cs + bn (cs.drop (wl cs))) := fun s' _ => by rw [← e]
      have hs' : (if bn (cs.drop (wl cs)) = 0 then Sd.word else .behind) = .word ∨ (if bn (cs.drop (wl cs)) = 0 then Sd.word else .behind) = .behind := by
        split
        · exact .inl rfl
        · exact .inr rfl
      rw [z _ hs', au_cons (stp40 hs' d (wl cs)), drop_bn _ .opn (by decide)]
    refine ⟨fun cs t j s d w k hs h => ?_, fun cs j s d w k hs h nb ho => ?_⟩
    · have l0 := rd_le (n + 1) cs t j h
      refine ⟨l0, ?_⟩
      unfold rd at h
      split at h
      · cases h
      · rename_i h0
        split at h
        · rename_i h40
          injection h with h
          injection h with _ h
          subst h
          exact rd_v h0 h40 hs d w k
        · rename_i h40
          have h40 : ((cs.drop (wl cs)).drop (bn (cs.drop (wl cs)))).take 1 = [40] := by simpa using h40
          dsimp only at h
          split at h
          · rename_i ps i hq
            have z := pt_au ih d (wl cs) (k + wl cs + bn (cs.drop (wl cs)) + 1 + bn (((cs.drop (wl cs)).drop (bn (cs.drop (wl cs)))).drop 1)) (bn_nb _) hq
            obtain ⟨z1, z2, w', z3⟩ := z
            injection h with h
            injection h with _ h
            subst h
            have ed : ((((cs.drop (wl cs)).drop (bn (cs.drop (wl cs)))).drop 1).drop (bn (((cs.drop (wl cs)).drop (bn (cs.drop (wl cs)))).drop 1))).drop i = cs.drop (wl cs + bn (cs.drop (wl cs)) + 1 + bn (((cs.drop (wl cs)).drop (bn (cs.drop (wl cs)))).drop 1) + i) := by
              rw [List.drop_drop, List.drop_drop, List.drop_drop, List.drop_drop]
              congr 1
              omega
            rw [ed] at z2 z3
            refine ⟨.done, w', ⟨.inr (.inr rfl), z2, (fun _ _ _ z => nomatch z), fun _ _ _ _ => rfl⟩, ?_⟩
            rw [key cs h0 h40 s hs d w k, z3]
            congr 1
            omega
          · cases h
          · cases h
    · unfold rd at h
      split at h
      · rename_i h0
        injection h with h
        injection h with h
        subst h
        exact bad0 h0 hs nb ho
      · rename_i h0
        split at h
        · cases h
        · rename_i h40
          have h40 : ((cs.drop (wl cs)).drop (bn (cs.drop (wl cs)))).take 1 = [40] := by simpa using h40
          dsimp only at h
          split at h
          · cases h
          · rename_i i hq
            have z := pt_au ih d (wl cs) (k + wl cs + bn (cs.drop (wl cs)) + 1 + bn (((cs.drop (wl cs)).drop (bn (cs.drop (wl cs)))).drop 1)) (bn_nb _) hq
            injection h with h
            injection h with h
            subst h
            rw [key cs h0 h40 s hs d w k]
            have z : au _ _ _ _ _ = _ := z
            rw [z]
            congr 1
            omega
          · cases h
/-- the reader tells what the law tells -/
theorem rt_au {n : Nat} {cs : List Nat} {r : R1} (h : rt n cs = some r) : au cs .term 0 0 0 = due1 r := by
  have b0 := bn_le cs
  unfold rt at h
  rw [drop_bn cs .term (by decide) 0 0 0]
  cases hq : rd n (cs.drop (bn cs)) with
  | none => rw [hq] at h; cases h
  | some q =>
    rw [hq] at h
    cases q with
    | bad j =>
      injection h with h
      subst h
      rw [(good_rd n).bad _ j .term 0 0 _ (.inl rfl) hq (bn_nb _) (fun z => nomatch z), Nat.zero_add]
      rfl
    | ok t j =>
      dsimp only at h
      obtain ⟨lj, s', w', a, e⟩ := (good_rd n).ok _ t j .term 0 0 (0 + bn cs) (.inl rfl) hq
      rw [List.length_drop] at lj
      rw [e, List.drop_drop, Nat.zero_add]
      rw [List.drop_drop] at a
      by_cases hl : bn cs + j < cs.length
      · rw [if_pos hl] at h
        injection h with h
        subst h
        cases e2 : cs.drop (bn cs + j) with
        | nil =>
          have := congrArg List.length e2
          rw [List.length_drop, List.length_nil] at this
          omega
        | cons c r =>
          rw [e2] at a
          exact au_none (a.none (fun _ => rfl) (fun _ => rfl))
      · rw [if_neg hl] at h
        injection h with h
        subst h
        rw [List.drop_eq_nil_of_le (by omega)]
        show (if 0 = 0 ∧ _ then (-1 : Int) else _) = -1
        rw [if_pos ⟨rfl, a.hs⟩]
end K14


set_option Elab.async false
set_option linter.all false
set_option maxRecDepth 100000
set_option maxHeartbeats 4000000
namespace K14
open PySem PySem.Spec PyProof.Rows L2 Evl NdefX SX StX
theorem okL_app' : ∀ {a b : List Tm}, okL a → okL b → okL (a ++ b)
  | [], _, _, h => h
  | _ :: _, _, h, h' => ⟨h.1, okL_app' h.2 h'⟩
theorem depL_app' : ∀ {a b : List Tm} {n : Nat}, depL a ≤ n → depL b ≤ n → depL (a ++ b) ≤ n
  | [], _, _, _, h => h
  | t :: a, b, n, h, h' => by
    have h : max (dep t) (depL a) ≤ n := h
    have z := depL_app' (a := a) (by omega : depL a ≤ n) h'
    show max (dep t) (depL (a ++ b)) ≤ n
    omega
theorem costL_app' : ∀ (a b : List Tm), costL (a ++ b) = costL a + costL b
  | [], b => (Nat.zero_add _).symm
  | t :: a, b => by
    have z := costL_app' a b
    show cost t + 2 + costL (a ++ b) = cost t + 2 + costL a + costL b
    omega
structure Fine (n : Nat) (f : List Nat → Option R1) : Prop where
  ok : ∀ cs t j, f cs = some (.ok t j) → okT t ∧ dep t ≤ n ∧ cost t ≤ 33 * j
theorem lp_fine {n : Nat} {f : List Nat → Option R1} (g : Fine n f) : ∀ (m : Nat) {ts : List Tm} {j : Nat} {cs : List Nat} {ps : List Tm} {i : Nat}, okL ts → depL ts ≤ n → costL ts ≤ 33 * j + 2 → lp f m ts j cs = some (.ok ps i) → okL ps ∧ depL ps ≤ n ∧ costL ps + 31 ≤ 33 * i
  | 0, _, _, _, _, _, _, _, _, h => by cases h
  | m + 1, ts, j, cs, ps, i, h1, h2, h3, h => by
    unfold lp at h
    split at h
    · split at h
      · rename_i t i' hq
        obtain ⟨a, b, c⟩ := g.ok _ t i' hq
        refine lp_fine g m (okL_app' (b := [t]) h1 ⟨a, trivial⟩) (depL_app' (b := [t]) h2 (by show max (dep t) 0 ≤ n; omega)) ?_ h
        rw [costL_app']
        show costL ts + (cost t + 2 + 0) ≤ _
        omega
      · cases h
      · cases h
    · split at h
      · injection h with h
        injection h with a b
        rw [← a, ← b]
        exact ⟨h1, h2, by omega⟩
      · cases h
theorem pt_fine {n : Nat} {f : List Nat → Option R1} (g : Fine n f) {cs : List Nat} {ps : List Tm} {i : Nat} (h : pt f cs = some (.ok ps i)) : okL ps ∧ depL ps ≤ n ∧ costL ps + 31 ≤ 33 * i := by
  unfold pt at h
  split at h
  · injection h with h
    injection h with a b
    rw [← a, ← b]
    exact ⟨trivial, Nat.zero_le _, by show 0 + 31 ≤ _; omega⟩
  · split at h
    · rename_i t i' hq
      obtain ⟨a, b, c⟩ := g.ok _ t i' hq
      exact lp_fine (ts := [t]) g _ ⟨a, trivial⟩ (by show max (dep t) 0 ≤ n; omega) (by show cost t + 2 + 0 ≤ _; omega) h
    · cases h
    · cases h
theorem v_fine {cs : List Nat} (h : wl cs ≠ 0) (b : Nat) : okT (.v (cs.take (wl cs))) ∧ cost (.v (cs.take (wl cs))) ≤ 33 * (wl cs + b) := by
  refine ⟨wl_word h, ?_⟩
  show (cs.take (wl cs)).length + 14 ≤ _
  rw [List.length_take]
  omega
theorem rd_fine : ∀ n, Fine n (rd n) := by
  intro n
  induction n with
  | zero =>
    refine ⟨fun cs t j h => ?_⟩
    unfold rd at h
    split at h
    · cases h
    · rename_i h0
      split at h
      · injection h with h
        injection h with a b
        obtain ⟨x, y⟩ := v_fine h0 (bn (cs.drop (wl cs)))
        rw [← a, ← b]
        exact ⟨x, Nat.zero_le _, y⟩
      · cases h
  | succ n ih =>
    refine ⟨fun cs t j h => ?_⟩
    unfold rd at h
    split at h
    · cases h
    · rename_i h0
      split at h
      · injection h with h
        injection h with a b
        obtain ⟨x, y⟩ := v_fine h0 (bn (cs.drop (wl cs)))
        rw [← a, ← b]
        exact ⟨x, Nat.zero_le _, y⟩
      · dsimp only at h
        split at h
        · rename_i ps i hq
          obtain ⟨x, y, z⟩ := pt_fine ih hq
          injection h with h
          injection h with a b
          rw [← a, ← b]
          refine ⟨⟨wl_word h0, x⟩, by show depL ps + 1 ≤ n + 1; omega, ?_⟩
          show (cs.take (wl cs)).length + 30 + costL ps ≤ _
          rw [List.length_take]
          omega
        · cases h
        · cases h
theorem rt_fine {n : Nat} {cs : List Nat} {t : Tm} {j : Nat} (h : rt n cs = some (.ok t j)) : okT t ∧ dep t ≤ n ∧ cost t ≤ 33 * cs.length := by
  have b0 := bn_le cs
  unfold rt at h
  split at h
  · rename_i t' j' hq
    obtain ⟨a, b, c⟩ := (rd_fine n).ok _ _ _ hq
    have l := rd_le n _ _ _ hq
    rw [List.length_drop] at l
    split at h
    · cases h
    · injection h with h
      injection h with e _
      rw [← e]
      exact ⟨a, b, by omega⟩
  · cases h
  · cases h
/-! ### it is always told -/
theorem count_drop (cs : List Nat) (i : Nat) : (cs.drop i).count 40 ≤ cs.count 40 := (List.drop_sublist i cs).count_le 40
theorem count_40 {cs : List Nat} (h : cs.take 1 = [40]) : (cs.drop 1).count 40 + 1 = cs.count 40 := by
  have e := cons_of h
  have z : cs.count 40 = (40 :: cs.drop 1).count 40 := by rw [← e]
  rw [z, List.count_cons_self]
theorem lp_tot {n : Nat} {f : List Nat → Option R1} (hf : ∀ cs : List Nat, cs.count 40 ≤ n → ∃ r, f cs = some r) : ∀ (m : Nat) (ts : List Tm) (j : Nat) (cs : List Nat), cs.count 40 ≤ n → cs.length < m → ∃ r, lp f m ts j cs = some r
  | 0, _, _, _, _, h => absurd h (Nat.not_lt_zero _)
  | m + 1, ts, j, cs, hc, hl => by
    unfold lp
    split
    · rename_i h44
      have l1 := take1_len h44
      have c1 : ((cs.drop 1).drop (bn (cs.drop 1))).count 40 ≤ n := Nat.le_trans (count_drop _ _) (Nat.le_trans (count_drop _ _) hc)
      obtain ⟨r, hr⟩ := hf _ c1
      rw [hr]
      cases r with
      | ok t i =>
        refine lp_tot hf m _ _ _ (Nat.le_trans (count_drop _ _) c1) ?_
        rw [List.length_drop, List.length_drop]
        omega
      | bad i => exact ⟨_, rfl⟩
    · split
      · exact ⟨_, rfl⟩
      · exact ⟨_, rfl⟩
theorem pt_tot {n : Nat} {f : List Nat → Option R1} (hf : ∀ cs : List Nat, cs.count 40 ≤ n → ∃ r, f cs = some r) (cs : List Nat) (h : cs.count 40 ≤ n) : ∃ r, pt f cs = some r := by
  unfold pt
  split
  · exact ⟨_, rfl⟩
  · obtain ⟨r, hr⟩ := hf cs h
    rw [hr]
    cases r with
    | ok t i => exact lp_tot hf _ _ _ _ (Nat.le_trans (count_drop _ _) h) (by rw [List.length_drop]; omega)
    | bad i => exact ⟨_, rfl⟩
theorem rd_tot : ∀ (n : Nat) (cs : List Nat), cs.count 40 ≤ n → ∃ r, rd n cs = some r := by
  intro n
  induction n with
  | zero =>
    intro cs h
    unfold rd
    split
    · exact ⟨_, rfl⟩
    · split
      · exact ⟨_, rfl⟩
      · rename_i h40
        have h40 : ((cs.drop (wl cs)).drop (bn (cs.drop (wl cs)))).take 1 = [40] := by simpa using h40
        have := count_40 h40
        have := count_drop (cs.drop (wl cs)) (bn (cs.drop (wl cs)))
        have := count_drop cs (wl cs)
        omega
  | succ n ih =>
    intro cs h
    unfold rd
    split
    · exact ⟨_, rfl⟩
    · split
      · exact ⟨_, rfl⟩
      · rename_i h40
        have h40 : ((cs.drop (wl cs)).drop (bn (cs.drop (wl cs)))).take 1 = [40] := by simpa using h40
        have := count_40 h40
        have := count_drop (cs.drop (wl cs)) (bn (cs.drop (wl cs)))
        have := count_drop cs (wl cs)
        have := count_drop (((cs.drop (wl cs)).drop (bn (cs.drop (wl cs)))).drop 1) (bn (((cs.drop (wl cs)).drop (bn (cs.drop (wl cs)))).drop 1))
        obtain ⟨r, hr⟩ := pt_tot ih ((((cs.drop (wl cs)).drop (bn (cs.drop (wl cs)))).drop 1).drop (bn (((cs.drop (wl cs)).drop (bn (cs.drop (wl cs)))).drop 1))) (by omega)
        dsimp only
        rw [hr]
        cases r with
        | ok ps i => exact ⟨_, rfl⟩
        | bad i => exact ⟨_, rfl⟩
theorem rt_tot {n : Nat} {cs : List Nat} (h : cs.count 40 ≤ n) : ∃ r, rt n cs = some r := by
  unfold rt
  obtain ⟨r, hr⟩ := rd_tot n (cs.drop (bn cs)) (Nat.le_trans (count_drop _ _) h)
  rw [hr]
  cases r with
  | ok t j =>
    dsimp only
    split
    · exact ⟨_, rfl⟩
    · exact ⟨_, rfl⟩
  | bad j => exact ⟨_, rfl⟩
section
variable {P : Program} {w : World} {K : PySem.W.Frag} {mg : Str → Option Value} {base : Heap}
/-- a test that tells b -/
def Yl (t : TT) (b : Bool) (σ : L2.St) (H : Hp) : Prop := ∀ Q : Bool → Hp → Prop, (∀ H', Same H H' → Q b H') → t σ H Q
theorem Yl.and {t u : TT} {b1 b2 : Bool} {σ : L2.St} {H : Hp} (h1 : Yl t b1 σ H) (h2 : ∀ H', Same H H' → Yl u b2 σ H') : Yl (tAnd t u) (b1 && b2) σ H := fun Q q => h1 _ fun H' e => by
  cases b1 with
  | true => exact if_true_of rfl (h2 H' e Q fun H2 e2 => q H2 (e.trans e2))
  | false => exact if_false_of rfl (q H' e)
theorem Yl.ite {c : TT} {A B : TS} {D : Ends} {b : Bool} {σ : L2.St} {H : Hp} (h : Yl c b σ H) (hA : b = true → ∀ H', Same H H' → A D σ H') (hB : b = false → ∀ H', Same H H' → B D σ H') : tIfS c A B D σ H := h _ fun H' e => by
  cases b with
  | true => exact if_true_of rfl (hA rfl H' e)
  | false => exact if_false_of rfl (hB rfl H' e)
theorem y_eq {σ : L2.St} {H : Hp} {i : Nat} {x y : V} (h : σ[i]? = some (some x)) (hs : scal x y = true) : Yl (tTest (tOp rEq (tVar i) (tC y))) (decide (x = y)) σ H := fun Q q => ⟨_, h, hs, _, rfl, q H (Same.refl _)⟩
theorem y_ne {σ : L2.St} {H : Hp} {i : Nat} {x y : V} (h : σ[i]? = some (some x)) (hs : scal x y = true) : Yl (tTest (tOp rNe (tVar i) (tC y))) (!decide (x = y)) σ H := fun Q q => ⟨_, h, hs, _, rfl, q H (Same.refl _)⟩
theorem y_lt {σ : L2.St} {H : Hp} {i : Nat} {x y : Int} (h : σ[i]? = some (some (.int x))) : Yl (tTest (tOp (rI0 fun i j => V.bl (decide (i < j))) (tVar i) (tC (.int y)))) (decide (x < y)) σ H := fun Q q => ⟨_, h, _, _, rfl, rfl, _, rfl, q H (Same.refl _)⟩
theorem y_gt {σ : L2.St} {H : Hp} {i : Nat} {x y : Int} (h : σ[i]? = some (some (.int x))) : Yl (tTest (tOp (rI0 fun i j => V.bl (decide (j < i))) (tVar i) (tC (.int y)))) (decide (y < x)) σ H := fun Q q => ⟨_, h, _, _, rfl, rfl, _, rfl, q H (Same.refl _)⟩
theorem y_in2 {σ : L2.St} {H : Hp} {i : Nat} {x a b : Str} (h : σ[i]? = some (some (.str x))) : Yl (tTest (tOp (rIn K false) (tVar i) (tLst (tCons (tC (.str a)) (tCons (tC (.str b)) tNil))))) (inV (.str x) [.str a, .str b]) σ H := fun Q q =>
  ⟨_, h, by show 2 ≤ sizeLine; decide, fun l nl => ⟨l, [.str a, .str b], rfl, .inl (SqL.of upd_same), rfl, rfl, _, rfl, q _ (same_upd nl)⟩⟩
theorem y_in3 {σ : L2.St} {H : Hp} {i : Nat} {x a b c : Str} (h : σ[i]? = some (some (.str x))) : Yl (tTest (tOp (rIn K false) (tVar i) (tLst (tCons (tC (.str a)) (tCons (tC (.str b)) (tCons (tC (.str c)) tNil)))))) (inV (.str x) [.str a, .str b, .str c]) σ H := fun Q q =>
  ⟨_, h, by show 3 ≤ sizeLine; decide, fun l nl => ⟨l, [.str a, .str b, .str c], rfl, .inl (SqL.of upd_same), rfl, rfl, _, rfl, q _ (same_upd nl)⟩⟩
def sdS : Sd → Str
  | .term => "term"
  | .opn => "open"
  | .word => "word"
  | .behind => "behind"
  | .done => "done"
theorem sd_in1 (s : Sd) : inV (.str (sdS s)) [.str "term", .str "open"] = decide (s = .term ∨ s = .opn) := by cases s <;> decide +kernel
theorem sd_in2 (s : Sd) : inV (.str (sdS s)) [.str "word", .str "behind"] = decide (s = .word ∨ s = .behind) := by cases s <;> decide +kernel
theorem sd_in3 (s : Sd) : inV (.str (sdS s)) [.str "word", .str "behind", .str "done"] = decide (s = .word ∨ s = .behind ∨ s = .done) := by cases s <;> decide +kernel
theorem sd_w (s : Sd) : decide (V.str (sdS s) = V.str "word") = decide (s = .word) := by cases s <;> decide +kernel
theorem sd_t (s : Sd) : decide (V.str (sdS s) = V.str "term") = decide (s = .term) := by cases s <;> decide +kernel
theorem abc_9 : abc ++ "0123456789" = abc9 := by decide +kernel
theorem sgn (c d : Nat) : decide (V.str (⟨#[c]⟩ : Str) = V.str (S [d])) = decide (c = d) := by
  rw [decide_eq_decide]
  exact ⟨fun z => by
    have z : [c] = [d] := S_inj (V.str.inj z)
    injection z, fun z => by rw [z]⟩
def spDue : Sp := fun vs H Q _ => ∃ cs : List Nat, vs = [.str (S cs)] ∧ cs.length ≤ 100000 ∧ ∀ H', Same H H' → Q (.int (au cs .term 0 0 0)) H'
abbrev s__law_due : Stmt := top 21
abbrev N__law_due : List Str := ["text", "letters", "stand", "deep", "word", "k", "sign"]
theorem sc__law_due : FnScope N__law_due ["text"] (defScope s__law_due) := ⟨rfl, rfl, rfl, by decide +kernel, rfl, by decide +kernel, by decide +kernel⟩
theorem ok_due {f : Addr} {fd : FuncData} (F : Fun K "_law_due" "_law_due" s__law_due f fd) (T : Blt mg) : FnOk P w K mg base CX0 1 f fd ["text"] spDue := by
  refine F.ok sc__law_due (fun vs H Q E h => ?_) (fun cdv A outer s H vs Q E hr h => ?_)
  · obtain ⟨cs, rfl, _⟩ := h
    rfl
  · obtain ⟨cs, rfl, lc, k⟩ := h
    refine ⟨_, (pss_cons (ps_set (i := 1) sc__law_due.nd rfl (Or.inl rfl) (pe_str))
      (pss_cons (ps_set (i := 2) sc__law_due.nd rfl (Or.inl rfl) (pe_str))
      (pss_cons (ps_set (i := 3) sc__law_due.nd rfl (Or.inl rfl) (pe_int))
      (pss_cons (ps_set (i := 4) sc__law_due.nd rfl (Or.inl rfl) (pe_int))
      (pss_cons (ps_for PassesOwn.never rfl (pi_range1 (by rfl) T.range (pa_cons (pe_callB call_len_str (by rfl) T.len (by decide +kernel) (pa_cons (pv 0) pa_nil)) pa_nil)) (pg_name (i := 5) sc__law_due.nd rfl (Or.inl rfl)) (pss_cons (ps_set (i := 6) sc__law_due.nd rfl (Or.inl rfl) (pe_item_str (pv 0) (pv 5) (fun _ _ => rfl)))
      (pss_one (ps_if (PW.pt (pw_and (pt_cmpR (op_inK K) (pv 2) (pe_lst (pa_cons (pe_str) (pa_cons (pe_str) pa_nil))) rfl) (pw_and1 (pt_cmpR op_in_sign (pv 6) (pv 1) rfl)))) (pss_cons (ps_set (i := 2) sc__law_due.nd rfl (Or.inl rfl) (pe_str))
      (pss_one (ps_set (i := 4) sc__law_due.nd rfl (Or.inl rfl) (pe_int)))) (pss_one (ps_if (PW.pt (pw_and (pt_cmpR op_eq (pv 2) (pe_str) (nomark _)) (pw_and (pt_cmpR op_in_sign (pv 6) (pe_op op_add_str (pv 1) (pe_str)) rfl) (pw_and1 (pt_cmpR op_lt (pv 4) (pe_int) (nomark _)))))) (pss_one (ps_set (i := 4) sc__law_due.nd rfl (Or.inl rfl) (pe_op op_add (pv 4) (pe_int)))) (pss_one (ps_if (pt_cmpR op_eq (pv 6) (pe_str) (nomark _)) (pss_one (ps_set (i := 2) sc__law_due.nd rfl (Or.inl rfl) (pe_ifExp (pt_cmpR op_eq (pv 2) (pe_str) (nomark _)) (pe_str) (pv 2)))) (pss_one (ps_if (PW.pt (pw_and (pt_cmpR (op_inK K) (pv 2) (pe_lst (pa_cons (pe_str) (pa_cons (pe_str) pa_nil))) rfl) (pw_and1 (pt_cmpR op_eq (pv 6) (pe_str) (nomark _))))) (pss_cons (ps_set (i := 2) sc__law_due.nd rfl (Or.inl rfl) (pe_str))
      (pss_one (ps_set (i := 3) sc__law_due.nd rfl (Or.inl rfl) (pe_op op_add (pv 3) (pe_int))))) (pss_one (ps_if (PW.pt (pw_and (pt_cmpR op_eq (pv 6) (pe_str) (nomark _)) (pw_and (pt_cmpR op_gt (pv 3) (pe_int) (nomark _)) (pw_and1 (pt_cmpR op_ne (pv 2) (pe_str) (nomark _)))))) (pss_cons (ps_set (i := 2) sc__law_due.nd rfl (Or.inl rfl) (pe_str))
      (pss_one (ps_set (i := 3) sc__law_due.nd rfl (Or.inl rfl) (pe_op op_sub (pv 3) (pe_int))))) (pss_one (ps_if (PW.pt (pw_and (pt_cmpR op_eq (pv 6) (pe_str) (nomark _)) (pw_and (pt_cmpR op_gt (pv 3) (pe_int) (nomark _)) (pw_and1 (pt_cmpR (op_inK K) (pv 2) (pe_lst (pa_cons (pe_str) (pa_cons (pe_str) (pa_cons (pe_str) pa_nil)))) rfl))))) (pss_one (ps_set (i := 2) sc__law_due.nd rfl (Or.inl rfl) (pe_str))) (pss_one (ps_ret (pv 5)))))))))))))))))
      (pss_one (ps_ret (pe_ifExp (PW.pt (pw_and (pt_cmpR op_eq (pv 3) (pe_int) (nomark _)) (pw_and1 (pt_cmpR (op_inK K) (pv 2) (pe_lst (pa_cons (pe_str) (pa_cons (pe_str) (pa_cons (pe_str) pa_nil)))) rfl)))) (pe_un un_neg pe_int) (pe_callB call_len_str (by rfl) T.len (by decide +kernel) (pa_cons (pv 0) pa_nil)))))))))), ?_⟩
    have lS : (S cs).length = cs.length := S_len cs
    refine ⟨_, rfl, S cs, rfl, by rw [lS, sizeLine_eq]; omega, _, rfl, by omega, by rw [lS]; omega, for_range (lo := 0) (n := (((S cs).length : Nat) : Int).toNat) (fun j σ' H' => ∃ (s : Sd) (d u : Nat) (v5 v6 : Option V), σ' = [some (.str (S cs)), some (.str abc), some (.str (sdS s)), some (.int (d : Int)), some (.int (u : Int)), v5, v6] ∧ Same H H' ∧ au (cs.drop j) s d u j = au cs .term 0 0 0)
      ⟨.term, 0, 0, none, none, rfl, Same.refl _, rfl⟩ (fun j σ' H' hj p => ?_) (fun σ' H' p => ?_)⟩
    · obtain ⟨s, d, u, v5, v6, rfl, e, ha⟩ := p
      rw [Int.toNat_natCast, lS] at hj
      refine gN ?_
      obtain ⟨c, hc⟩ : ∃ c, cs[j]? = some c := ⟨cs[j], List.getElem?_eq_getElem hj⟩
      have ed : cs.drop j = c :: cs.drop (j + 1) := by
        rw [List.drop_eq_getElem_cons hj]
        rw [List.getElem?_eq_getElem hj] at hc
        injection hc with hc
        rw [hc]
      rw [ed] at ha
      refine ⟨_, rfl, _, rfl, S cs, (0 + (j : Int)), c, rfl, rfl, by omega, by omega, by rw [lS]; omega, ?_, gN ?_⟩
      · rw [Int.zero_add, Int.toNat_natCast]
        show (cs.toArray)[j]? = some c
        rw [List.getElem?_toArray]
        exact hc
      dsimp only
      have fin : ∀ (s' : Sd) (d' u' : Nat) (H2 : Hp) (v5' v6' : Option V), Same H' H2 → stp c s d u = some (s', d', u') → (∃ (s : Sd) (d u : Nat) (v5 v6 : Option V), [some (.str (S cs)), some (.str abc), some (.str (sdS s')), some (.int (d' : Int)), some (.int (u' : Int)), v5', v6'] = [some (.str (S cs)), some (.str abc), some (.str (sdS s)), some (.int (d : Int)), some (.int (u : Int)), v5, v6] ∧ Same H H2 ∧ au (cs.drop (j + 1)) s d u (j + 1) = au cs .term 0 0 0) := fun s' d' u' H2 v5' v6' e2 st => ⟨s', d', u', v5', v6', rfl, e.trans e2, by rw [← ha, au_cons st]⟩
      have yS : ∀ H2, Yl (tTest (tOp (fun x y H Q => ∃ c z, x = V.str ⟨#[c]⟩ ∧ y = V.str z ∧ Q (V.bl (decide (c ∈ z.cps.toList))) H) (tVar 6) (tVar 1))) (decide (c ∈ abc.cps.toList)) ([some (.str (S cs)), some (.str abc), some (.str (sdS s)), some (.int (d : Int)), some (.int (u : Int)), some (.int (0 + (j : Int))), some (.str ⟨#[c]⟩)]) H2 := fun H2 Q q => ⟨_, rfl, _, rfl, c, abc, rfl, rfl, _, rfl, q H2 (Same.refl _)⟩
      refine Yl.ite ((y_in2 (i := 2) rfl).and fun H2 _ => yS H2) (fun hb H2 e2 => ?_) (fun hb H2 e2 => ?_)
      · rw [sd_in1, Bool.and_eq_true, decide_eq_true_eq, decide_eq_true_eq] at hb
        exact fin .word d 1 H2 _ _ e2 (by unfold stp; rw [if_pos ⟨hb.1, decide_eq_true hb.2⟩])
      have n1 : ¬ ((s = .term ∨ s = .opn) ∧ isL c = true) := fun z => by
        rw [sd_in1, decide_eq_true z.1, show decide (c ∈ abc.cps.toList) = true from z.2] at hb
        cases hb
      clear hb
      have yD : ∀ H2, Yl (tTest (tOp (fun x y H Q => ∃ c z, x = V.str ⟨#[c]⟩ ∧ y = V.str z ∧ Q (V.bl (decide (c ∈ z.cps.toList))) H) (tVar 6) (tOp (fun x y H Q => ∃ i j, x = V.str i ∧ y = V.str j ∧ i.length + j.length ≤ sizeLine ∧ Q (V.str (i ++ j)) H) (tVar 1) (tC (V.str "0123456789"))))) (decide (c ∈ abc9.cps.toList)) ([some (.str (S cs)), some (.str abc), some (.str (sdS s)), some (.int (d : Int)), some (.int (u : Int)), some (.int (0 + (j : Int))), some (.str ⟨#[c]⟩)]) H2 := fun H2 Q q => by
        refine ⟨_, rfl, _, rfl, abc, "0123456789", rfl, rfl, by decide +kernel, c, _, rfl, rfl, ?_⟩
        rw [abc_9]
        exact ⟨_, rfl, q H2 (Same.refl _)⟩
      refine Yl.ite ((y_eq (i := 2) rfl rfl).and fun H3 _ => (yD H3).and fun _ _ => y_lt (i := 4) rfl) (fun hb H3 e3 => ?_) (fun hb H3 e3 => ?_)
      · rw [sd_w, Bool.and_eq_true, Bool.and_eq_true, decide_eq_true_eq, decide_eq_true_eq, decide_eq_true_eq] at hb
        refine ⟨_, rfl, _, _, rfl, rfl, ?_⟩
        exact fin .word d (u + 1) H3 _ _ (e2.trans e3) (by unfold stp; rw [if_neg n1, if_pos ⟨hb.1, decide_eq_true hb.2.1, by omega⟩]) |> fun z => by rw [hb.1]; exact z
      have n2 : ¬ (s = .word ∧ isC c = true ∧ u < 12) := fun z => by
        rw [sd_w, decide_eq_true z.1, show decide (c ∈ abc9.cps.toList) = true from z.2.1, decide_eq_true (by omega : (u : Int) < 12)] at hb
        cases hb
      clear hb
      refine Yl.ite (y_eq (i := 6) (y := .str " ") rfl rfl) (fun hb H4 e4 => ?_) (fun hb H4 e4 => ?_)
      · have hc : c = 32 := of_decide_eq_true ((sgn c 32).symm.trans hb)
        have st : stp c s d u = some (if s = .word then .behind else s, d, u) := by unfold stp; rw [if_neg n1, if_neg n2, if_pos hc]
        by_cases hw : s = .word
        · rw [if_pos hw] at st
          exact ⟨_, rfl, rfl, _, rfl, if_true_of ((sd_w s).trans (decide_eq_true hw)) (fin .behind d u H4 _ _ (e2.trans (e3.trans e4)) st)⟩
        · rw [if_neg hw] at st
          exact ⟨_, rfl, rfl, _, rfl, if_false_of ((sd_w s).trans (decide_eq_false hw)) ⟨_, rfl, fin s d u H4 _ _ (e2.trans (e3.trans e4)) st⟩⟩
      have n3 : ¬ c = 32 := fun z => by
        have z2 : decide (V.str (⟨#[c]⟩ : Str) = V.str " ") = true := (sgn c 32).trans (decide_eq_true z)
        rw [z2] at hb
        cases hb
      clear hb
      have e24 := e2.trans (e3.trans e4)
      refine Yl.ite ((y_in2 (i := 2) rfl).and fun _ _ => y_eq (i := 6) (y := .str "(") rfl rfl) (fun hb H5 e5 => ?_) (fun hb H5 e5 => ?_)
      · rw [sd_in2, Bool.and_eq_true, decide_eq_true_eq] at hb
        have hc : c = 40 := of_decide_eq_true ((sgn c 40).symm.trans hb.2)
        refine ⟨_, rfl, _, _, rfl, rfl, ?_⟩
        exact fin .opn (d + 1) u H5 _ _ (e24.trans e5) (by unfold stp; rw [if_neg n1, if_neg n2, if_neg n3, if_pos ⟨hb.1, hc⟩])
      have n4 : ¬ ((s = .word ∨ s = .behind) ∧ c = 40) := fun z => by
        have z2 : decide (V.str (⟨#[c]⟩ : Str) = V.str "(") = true := (sgn c 40).trans (decide_eq_true z.2)
        rw [sd_in2, decide_eq_true z.1, z2] at hb
        cases hb
      clear hb
      refine Yl.ite ((y_eq (i := 6) (y := .str ")") rfl rfl).and fun _ _ => (y_gt (i := 3) rfl).and fun _ _ => y_ne (i := 2) rfl rfl) (fun hb H6 e6 => ?_) (fun hb H6 e6 => ?_)
      · rw [sd_t, Bool.and_eq_true, Bool.and_eq_true, decide_eq_true_eq, Bool.not_eq_true', decide_eq_false_iff_not] at hb
        obtain ⟨h1, h2, h3⟩ := hb
        have hc : c = 41 := of_decide_eq_true ((sgn c 41).symm.trans (decide_eq_true h1))
        have h2 := of_decide_eq_true h2
        refine ⟨_, rfl, _, _, rfl, rfl, ?_⟩
        have z := fin .done (d - 1) u H6 (some (.int (0 + (j : Int)))) (some (.str ⟨#[c]⟩)) (e24.trans (e5.trans e6)) (by unfold stp; rw [if_neg n1, if_neg n2, if_neg n3, if_neg n4, if_pos ⟨hc, by omega, h3⟩])
        rw [show (((d - 1 : Nat)) : Int) = (d : Int) - 1 by omega] at z
        exact z
      have n5 : ¬ (c = 41 ∧ 0 < d ∧ s ≠ .term) := fun z => by
        have z2 : decide (V.str (⟨#[c]⟩ : Str) = V.str ")") = true := (sgn c 41).trans (decide_eq_true z.1)
        rw [sd_t, z2, decide_eq_true (by omega : (0 : Int) < (d : Int)), decide_eq_false z.2.2] at hb
        cases hb
      clear hb
      refine Yl.ite ((y_eq (i := 6) (y := .str ",") rfl rfl).and fun _ _ => (y_gt (i := 3) rfl).and fun _ _ => y_in3 (i := 2) rfl) (fun hb H7 e7 => ?_) (fun hb H7 e7 => ?_)
      · rw [sd_in3, Bool.and_eq_true, Bool.and_eq_true, decide_eq_true_eq, decide_eq_true_eq, decide_eq_true_eq] at hb
        obtain ⟨h1, h2, h3⟩ := hb
        have hc : c = 44 := of_decide_eq_true ((sgn c 44).symm.trans (decide_eq_true h1))
        exact fin .term d u H7 _ _ (e24.trans (e5.trans (e6.trans e7))) (by unfold stp; rw [if_neg n1, if_neg n2, if_neg n3, if_neg n4, if_neg n5, if_pos ⟨hc, by omega, h3⟩])
      have n6 : ¬ (c = 44 ∧ 0 < d ∧ (s = .word ∨ s = .behind ∨ s = .done)) := fun z => by
        have z2 : decide (V.str (⟨#[c]⟩ : Str) = V.str ",") = true := (sgn c 44).trans (decide_eq_true z.1)
        rw [sd_in3, z2, decide_eq_true (by omega : (0 : Int) < (d : Int)), decide_eq_true z.2.2] at hb
        cases hb
      have st : stp c s d u = none := by unfold stp; rw [if_neg n1, if_neg n2, if_neg n3, if_neg n4, if_neg n5, if_neg n6]
      rw [au_none st] at ha
      refine ⟨_, rfl, ?_⟩
      rw [Int.zero_add, ha]
      exact k H7 (e.trans (e24.trans (e5.trans (e6.trans e7))))
    · obtain ⟨s, d, u, v5, v6, rfl, e, ha⟩ := p
      rw [Int.toNat_natCast, lS, List.drop_length] at ha
      have ha : (if d = 0 ∧ (s = .word ∨ s = .behind ∨ s = .done) then (-1 : Int) else (cs.length : Int)) = au cs .term 0 0 0 := ha
      have y := (y_eq (H := H') (i := 3) (σ := [some (.str (S cs)), some (.str abc), some (.str (sdS s)), some (.int (d : Int)), some (.int (u : Int)), v5, v6]) (x := .int (d : Int)) (y := .int 0) rfl rfl).and fun H2 _ => y_in3 (K := K) (H := H2) (i := 2) (x := sdS s) (a := "word") (b := "behind") (c := "done") rfl
      refine y _ fun H2 e2 => ?_
      rw [sd_in3]
      by_cases h : d = 0 ∧ (s = .word ∨ s = .behind ∨ s = .done)
      · rw [if_pos h] at ha
        refine if_true_of (by rw [decide_eq_true (show V.int (d : Int) = V.int 0 by rw [h.1]; rfl), decide_eq_true h.2]; rfl) ⟨1, rfl, ?_⟩
        have z := k H2 (e.trans e2)
        rw [← ha] at z
        exact z
      · rw [if_neg h] at ha
        refine if_false_of (Bool.eq_false_iff.mpr fun z => h ?_) ⟨_, rfl, S cs, rfl, by rw [lS, sizeLine_eq]; omega, ?_⟩
        · rw [Bool.and_eq_true, decide_eq_true_eq, decide_eq_true_eq] at z
          exact ⟨by have := V.int.inj z.1; omega, z.2⟩
        · have z := k H2 (e.trans e2)
          rw [← ha] at z
          rw [lS]
          exact z
end
end K14


set_option Elab.async false
set_option linter.all false
set_option maxRecDepth 100000
set_option maxHeartbeats 4000000
namespace K14
open PySem PySem.Spec PyProof.Rows L2 Evl NdefX SX StX
/-- [e for ..] whose items turn the heap, by an invariant of the items so far -/
theorem lc_inv {J : It} {n : Nat} {G : Hp → Prop} {Y : Nat → Hp → V → Hp → Prop} {wi : TI} {g : TG} {te : TE} {vs : List Nat} {σ : L2.St} {H H1 : Hp} {Q : VK} (Iv : Nat → List V → Hp → Prop) (hl : ∀ R : It → Hp → Prop, R J H1 → wi σ H R) (w : Walk J n G Y) (hn : n ≤ 50000)
    (h0 : ∀ D, H1 D = none → Iv 0 [] (upd H1 D (.lst []))) (hG : ∀ i acc H', Iv i acc H' → G H') (hyE : ∀ i H' x H2, Y i H' x H2 → H2 = H')
    (hs : ∀ i x H' acc, i < n → acc.length = i → Iv i acc H' → Y i H' x H' → ∀ R : VK, (∀ y H4, (∀ D us, H1 D = none → H' D = some (.lst us) → H4 D = some (.lst us) ∧ ∀ u, Iv (i + 1) (acc ++ [y]) (upd H4 D u)) → R y H4) → g x (wipe σ vs) H' fun σ2 H3 => wipe σ2 vs = wipe σ vs ∧ te σ2 H3 R)
    (hg : ∀ x H2 (N M : L2.St → Hp → Prop), (∀ σ2 H3, N σ2 H3 → M σ2 H3) → g x (wipe σ vs) H2 N → g x (wipe σ vs) H2 M)
    (q : ∀ D H' acc, H1 D = none → acc.length = n → Iv n acc H' → H' D = some (.lst acc) → Q (.ref D) H') : tLc wi g tYes te vs σ H Q := by
  refine hl _ fun D hD => ?_
  refine lc_it w (tt := tYes) (Pv := fun i H' => ∃ acc, acc.length = i ∧ H' D = some (.lst acc) ∧ Iv i acc H') ⟨[], rfl, upd_same, h0 D hD⟩ (fun i H' _ p => by obtain ⟨acc, _, _, z⟩ := p; exact hG i acc H' z) (fun i x H' H2 hi p y => ?_) (fun H' p => by obtain ⟨acc, a, b, z⟩ := p; exact q D H' acc hD a z b)
  obtain ⟨acc, la, hD', iv⟩ := p
  obtain rfl := hyE i H' x H2 y
  refine hg x H2 _ _ ?_ (hs i x H2 acc hi la iv y (fun y' H4 => ∃ acc', H4 D = some (.lst acc') ∧ acc'.length < sizeLine ∧ ∃ acc2, acc2.length = i + 1 ∧ (upd H4 D (.lst (acc' ++ [y']))) D = some (.lst acc2) ∧ Iv (i + 1) acc2 (upd H4 D (.lst (acc' ++ [y'])))) fun y' H4 z => ?_)
  · exact fun σ2 H3 z => ⟨z.1, by unfold tYes; dsimp only; rw [if_pos rfl]; exact z.2⟩
  obtain ⟨z1, z2⟩ := z D acc hD hD'
  exact ⟨acc, z1, by rw [sizeLine_eq]; omega, acc ++ [y'], by rw [List.length_append, la]; rfl, upd_same, z2 _⟩
theorem Src.put {d L D : Addr} {H H1 : Hp} {u : HO} (s : Src d L H) (h : H1 D = none) (s1 : Src d L H1) : Src d L (upd H D u) := by
  obtain ⟨a, b⟩ := s1.d_ne h
  obtain ⟨cs, l, m, t, h1, h2, h3⟩ := s.ex
  exact ⟨cs, l, m, t, by rw [upd_ne a]; exact h1, by rw [upd_ne b]; exact h2, h3⟩
theorem But.free {d L D : Addr} {H H1 : Hp} (b : But d L H H1) (s : Src d L H1) (h : H1 D = none) : H D = none := by
  obtain ⟨x, y⟩ := s.d_ne h
  cases e : H D with
  | none => rfl
  | some o => rw [b _ _ e x.symm y.symm] at h; cases h
theorem lc_bind {wi : TI} {g : TG} {te : TE} {vs : List Nat} {σ : L2.St} {H : Hp} {Q : VK} {cond : It → Hp → Prop} (hw : ∀ R : It → Hp → Prop, (∀ J H1, cond J H1 → R J H1) → wi σ H R) (h : ∀ J H1, cond J H1 → tLc (fun _ _ R => R J H1) g tYes te vs σ H Q) : tLc wi g tYes te vs σ H Q := hw _ fun J H1 c => h J H1 c
theorem abc9_at {i : Nat} (h : i < 36) : ∃ c, abc9.cps[i]? = some c ∧ c ∈ abc9.cps.toList ∧ (i < 26 → c ∈ abc.cps.toList) := by
  have all : ∀ i, i < 36 → (abc9.cps[i]?).isSome = true ∧ abc9.cps.getD i 0 ∈ abc9.cps.toList ∧ (i < 26 → abc9.cps.getD i 0 ∈ abc.cps.toList) := by decide +kernel
  obtain ⟨a, b, c⟩ := all i h
  cases e : abc9.cps[i]? with
  | none => rw [e] at a; cases a
  | some x =>
    have g : abc9.cps.getD i 0 = x := by rw [Array.getD_eq_getD_getElem?, e]; rfl
    rw [g] at b c
    exact ⟨x, rfl, b, c⟩

def B : Nat → Nat
  | 0 => 12
  | n + 1 => 3 * B n + 25
def D : Nat → Nat
  | 0 => 0
  | n + 1 => 3 * D n + 1
theorem B_lo : ∀ n, 12 ≤ B n
  | 0 => Nat.le_refl _
  | n + 1 => by
    have z := B_lo n
    show 12 ≤ 3 * B n + 25
    omega
theorem joinL_le (sep : List Nat) : ∀ ys : List (List Nat), (TL.joinL sep ys).length ≤ (ys.map List.length).sum + ys.length * sep.length
  | [] => by simp [TL.joinL]
  | [y] => by simp [TL.joinL]
  | y :: z :: r => by
    have ih := joinL_le sep (z :: r)
    have e : TL.joinL sep (y :: z :: r) = y ++ (sep ++ TL.joinL sep (z :: r)) := rfl
    rw [e, List.length_append, List.length_append, List.map_cons, List.sum_cons, List.length_cons, Nat.succ_mul]
    omega
theorem joinL_cnt (sep : List Nat) : ∀ ys : List (List Nat), (TL.joinL sep ys).count 40 ≤ (ys.map (List.count 40)).sum + ys.length * sep.count 40
  | [] => by simp [TL.joinL]
  | [y] => by simp [TL.joinL]
  | y :: z :: r => by
    have ih := joinL_cnt sep (z :: r)
    have e : TL.joinL sep (y :: z :: r) = y ++ (sep ++ TL.joinL sep (z :: r)) := rfl
    rw [e, List.count_append, List.count_append, List.map_cons, List.sum_cons, List.length_cons, Nat.succ_mul]
    omega
theorem bl_cnt (n : Nat) : (bl n).count 40 = 0 := by
  refine List.count_eq_zero.mpr fun h => ?_
  have := List.eq_of_mem_replicate h
  omega
section
variable {P : Program} {w : World} {K : PySem.W.Frag} {mg : Str → Option Value} {base : Heap}
/-- a drawn text -/
def spTx (n : Nat) : Sp := fun vs H Q _ => ∃ d L : Addr, vs = [.ref d, .int (n : Int)] ∧ Src d L H ∧ B n ≤ 100000 ∧ ∀ cs H', cs.length ≤ B n → cs.count 40 ≤ D n → Src d L H' → But d L H H' → Q (.str (S cs)) H'
def spTxP : Nat → Sp
  | 0 => spNo
  | n + 1 => spTx n
abbrev s__law_text : Stmt := top 19
abbrev N__law_text : List Str := ["source", "deep", "signs", "word", "k", "parts", "blank"]
theorem sc__law_text : FnScope N__law_text ["source", "deep"] (defScope s__law_text) := ⟨rfl, rfl, rfl, by decide +kernel, rfl, by decide +kernel, by decide +kernel⟩
theorem ok_tx {f : Addr} {fd : FuncData} {kr n : Nat} (F : Fun K "_law_text" "_law_text" s__law_text f fd) (T : Blt mg) (c__law_pick : Cal P w K mg base 1 "_law_pick" ["source", "many"] spPick)
    (c__law_text : Cal P w K mg base kr "_law_text" ["source", "deep"] (spTxP n)) (hk : 1 ≤ kr) : FnOk P w K mg base CX0 (kr + 1) f fd ["source", "deep"] (spTx n) := by
  refine F.ok sc__law_text (fun vs H Q E h => ?_) (fun cdv A outer s H vs Q E hr h => ?_)
  · obtain ⟨d, L, rfl, _⟩ := h
    rfl
  · obtain ⟨d, L, rfl, S0, lb, k⟩ := h
    refine ⟨_, (pss_cons (ps_set (i := 2) sc__law_text.nd rfl (Or.inl rfl) (pe_str))
      (pss_cons (ps_set (i := 3) sc__law_text.nd rfl (Or.inl rfl) (pe_item_str (pv 2) (pe_cal c__law_pick (hr.mono (by omega)) (by rfl) (pa_cons (pv 0) (pa_cons (pe_int) pa_nil))) (fun _ _ => rfl)))
      (pss_cons (ps_for PassesOwn.never rfl (pi_range1 (by rfl) T.range (pa_cons (pe_ix (ix_listK K) (pe_lst (pa_cons (pe_int) (pa_cons (pe_int) (pa_cons (pe_int) pa_nil)))) (pe_cal c__law_pick (hr.mono (by omega)) (by rfl) (pa_cons (pv 0) (pa_cons (pe_int) pa_nil))) (fun _ _ => rfl)) pa_nil)) (pg_name (i := 4) sc__law_text.nd rfl (Or.inl rfl)) (pss_one (ps_set (i := 3) sc__law_text.nd rfl (Or.inl rfl) (pe_op op_add_str (pv 3) (pe_item_str (pv 2) (pe_cal c__law_pick (hr.mono (by omega)) (by rfl) (pa_cons (pv 0) (pa_cons (pe_int) pa_nil))) (fun _ _ => rfl))))))
      (pss_cons (ps_if (PW.pt (pw_or (pt_cmpR op_eq (pv 1) (pe_int) (nomark _)) (pw_or1 (pt_cmpR op_eq (pe_cal c__law_pick (hr.mono (by omega)) (by rfl) (pa_cons (pv 0) (pa_cons (pe_int) pa_nil))) (pe_int) (nomark _))))) (pss_one (ps_ret (pv 3))) pss_nil)
      (pss_cons (ps_setLc (i := 5) (own := [("k", 4)]) (g := gName 4) (by rfl) sc__law_text.nd rfl rfl (sw_true rfl rfl rfl (by decide +kernel)) (pi_range1 (by rfl) T.range (pa_cons (pe_cal c__law_pick (hr.mono (by omega)) (by rfl) (pa_cons (pv 0) (pa_cons (pe_int) pa_nil))) pa_nil)) (blkOk_by (own := [("k", 4)]) (N := N__law_text) (sc := defScope s__law_text) (by decide +kernel)) (fun _ _ _ _ _ => pg_name (i := 4) sc__law_text.nd rfl (Or.inl rfl)) (fun _ _ _ _ _ => pts_nil) (fun _ _ _ _ _ => pe_cal c__law_text (hr.mono (by omega)) (by rfl) (pa_cons (pv 0) (pa_cons (pe_op op_sub (pv 1) (pe_int)) pa_nil))))
      (pss_cons (ps_set (i := 6) sc__law_text.nd rfl (Or.inl rfl) (pe_op op_repS (pe_str) (pe_cal c__law_pick (hr.mono (by omega)) (by rfl) (pa_cons (pv 0) (pa_cons (pe_int) pa_nil)))))
      (pss_one (ps_ret (pe_op op_add_str (pe_op op_add_str (pe_op op_add_str (pe_op op_add_str (pe_op op_add_str (pv 3) (pv 6)) (pe_str)) (pe_join (pe_op op_add_str (pe_str) (pv 6)) (pv 5))) (pe_str)) (pv 6)))))))))), ?_⟩
    have lS : ∀ x : List Nat, (S x).length = x.length := fun x => S_len x
    refine ⟨_, rfl, _, rfl, d, L, 26, rfl, S0, by decide, fun r H1 r0 r1 S1 b1 => ?_⟩
    obtain ⟨i, rfl⟩ := Int.eq_ofNat_of_zero_le r0
    obtain ⟨c, hc, hc9, hca⟩ := abc9_at (i := i) (by omega)
    refine ⟨abc9, (i : Int), c, rfl, rfl, by omega, by omega, by show (i : Int) < 36; omega, hc, ?_⟩
    refine gN ?_
    refine ⟨by show 3 ≤ sizeLine; decide, fun l nl => ?_⟩
    obtain ⟨H2, eG, e2, hl⟩ := put_new (o := .lst [V.int 0, .int 1, .int 11]) nl
    rw [eG]
    clear eG
    have S2 := S1.same e2
    obtain ⟨dl, Ll⟩ := S1.d_ne nl
    refine ⟨_, rfl, d, L, 3, rfl, S2, by decide, fun r H3 r0 r1 S3 b3 => ?_⟩
    obtain ⟨i2, rfl⟩ := Int.eq_ofNat_of_zero_le r0
    obtain ⟨m, hm, ha⟩ : ∃ m : Nat, m ≤ 11 ∧ atI [V.int 0, .int 1, .int 11] (i2 : Int) = some (.int (m : Int)) := by
      have hh : i2 = 0 ∨ i2 = 1 ∨ i2 = 2 := by omega
      rcases hh with rfl | rfl | rfl
      · exact ⟨0, by decide, rfl⟩
      · exact ⟨1, by decide, rfl⟩
      · exact ⟨11, by decide, rfl⟩
    have hl3 := b3 _ _ hl dl.symm Ll.symm
    have b03 : But d L H H3 := b1.trans ((But.of_same e2).trans b3)
    have n40 : ∀ x, x ∈ abc9.cps.toList → [x].count 40 = 0 := fun x hx => List.count_eq_zero.mpr fun h => by
      rw [List.mem_singleton] at h
      rw [← h] at hx
      exact no_sign.2.1 hx
    refine ⟨l, _, _, _, rfl, rfl, SqL.of hl3, ha, (m : Int), rfl, by omega, by omega, for_range (lo := 0) (n := ((m : Int)).toNat) (fun j σ' H' => ∃ (u : List Nat) (v4 : Option V), σ' = [some (.ref d), some (.int (n : Int)), some (.str abc9), some (.str (S u)), v4, none, none] ∧ u.length = j + 1 ∧ u.count 40 = 0 ∧ Src d L H' ∧ But d L H H')
      ⟨[c], none, rfl, rfl, n40 c hc9, S3, b03⟩ (fun j σ' H' hj p => ?_) (fun σ' H4 p => ?_)⟩
    · obtain ⟨u, v3, rfl, lu, au, S', b'⟩ := p
      rw [Int.toNat_natCast] at hj
      refine gN ⟨_, rfl, _, rfl, _, rfl, d, L, 36, rfl, S', by decide, fun r H4 r0 r1 S4 b4 => ?_⟩
      obtain ⟨i4, rfl⟩ := Int.eq_ofNat_of_zero_le r0
      obtain ⟨c4, hc4, hc49, _⟩ := abc9_at (i := i4) (by omega)
      refine ⟨abc9, (i4 : Int), c4, rfl, rfl, by omega, by omega, by show (i4 : Int) < 36; omega, hc4, _, _, rfl, rfl, by rw [S_len, sizeLine_eq]; show _ + 1 ≤ _; omega, gN ?_⟩
      have e : S u ++ (⟨#[c4]⟩ : Str) = S (u ++ [c4]) := S_app u [c4]
      refine ⟨u ++ [c4], some (.int (0 + (j : Int))), by rw [← e]; rfl, by rw [List.length_append, lu]; rfl, by rw [List.count_append, au, n40 c4 hc49], S4, b'.trans b4⟩
    · obtain ⟨u, v4, rfl, lu, cu, S4, b4⟩ := p
      rw [Int.toNat_natCast] at lu
      have lo := B_lo n
      have leaf : ∀ H5, Src d L H5 → But d L H H5 → tRet (tVar 3) { nx := fun x H' => Q V.non H', rt := Q } [some (.ref d), some (.int (n : Int)), some (.str abc9), some (.str (S u)), v4, none, none] H5 := fun H5 S5 b5 => ⟨_, rfl, k u H5 (by omega) (by omega) S5 b5⟩
      by_cases h0 : n = 0
      · refine ⟨_, rfl, rfl, _, rfl, if_true_of (decide_eq_true (by rw [h0]; rfl)) (if_true_of rfl ?_)⟩
        exact leaf H4 S4 b4
      · refine ⟨_, rfl, rfl, _, rfl, if_false_of (decide_eq_false fun z => h0 (by have z := V.int.inj z; omega)) ?_⟩
        refine ⟨_, rfl, d, L, 3, rfl, S4, by decide, fun r H5 r0 r1 S5 b5 => ⟨rfl, _, rfl, ?_⟩⟩
        by_cases hz : r = 0
        · exact if_true_of (decide_eq_true (by rw [hz])) (leaf H5 S5 (b4.trans b5))
        · refine if_false_of (decide_eq_false fun z => hz (V.int.inj z)) ?_
          obtain ⟨n', rfl⟩ : ∃ n', n = n' + 1 := ⟨n - 1, by omega⟩
          have lb' : 3 * B n' + 25 ≤ 100000 := lb
          have b05 := b4.trans b5
          unfold tNext tSeq tAsg
          dsimp only
          refine lc_bind (cond := fun J H2 => ∃ m : Nat, m < 4 ∧ J = Itr 0 m ∧ Src d L H2 ∧ But d L H H2) (fun R r => ⟨_, rfl, d, L, 4, rfl, S5, by decide, fun r2 H2 r0 r1 S2 b2 => ⟨r2, rfl, by omega, by omega, r (Itr 0 r2.toNat) H2 ⟨r2.toNat, by omega, rfl, S2, b05.trans b2⟩⟩⟩) (fun J H6 c => ?_)
          obtain ⟨m, hm, rfl, S6, b6⟩ := c
          refine lc_inv (J := Itr 0 m) (H1 := H6) (g := gName 4) (fun i acc H' => Src d L H' ∧ But d L H H' ∧ ∃ css : List (List Nat), acc = css.map (fun c => V.str (S c)) ∧ css.length = i ∧ (css.map List.length).sum ≤ i * B n' ∧ (css.map (List.count 40)).sum ≤ i * D n') (fun R r => r) walk_range (by omega)
            (fun D hD => ⟨Src.put S6 hD S6, b6.new (But.free b6 S6 hD), [], rfl, rfl, Nat.zero_le _, Nat.zero_le _⟩) (fun _ _ _ _ => trivial) (fun i H' x H3 z => z.1) (fun i x H' acc hi la iv z R q => ?_) (fun _ _ _ _ h z => gn_mono h z) (fun D7 H7 acc nD la iv hD => ?_)
          · obtain ⟨S', b', css, rfl, lc, lsum, csum⟩ := iv
            refine gN ⟨rfl, _, rfl, _, rfl, _, _, rfl, rfl, d, L, arg2 (by omega), S', by omega, fun cs H8 hlen hcnt S8 b8 => q _ H8 fun D us nD hus => ?_⟩
            obtain ⟨e1, e2⟩ := S6.d_ne nD
            refine ⟨b8 _ _ hus e1.symm e2.symm, fun u => ⟨Src.put S8 nD S6, (b'.trans b8).new (But.free b6 S6 nD), css ++ [cs], by rw [List.map_append]; rfl, by rw [List.length_append, lc]; rfl, ?_, ?_⟩⟩
            · rw [List.map_append, List.sum_append, Nat.succ_mul]
              show _ + (cs.length + 0) ≤ _
              omega
            · rw [List.map_append, List.sum_append, Nat.succ_mul]
              show _ + (cs.count 40 + 0) ≤ _
              omega
          · obtain ⟨S7, b7, css, rfl, lc, lsum, csum⟩ := iv
            refine gN ?_
            obtain ⟨e1, e2⟩ := S6.d_ne nD
            refine ⟨_, rfl, d, L, 2, rfl, S7, by decide, fun r H8 r0 r1 S8 b8 => ?_⟩
            obtain ⟨q, rfl⟩ := Int.eq_ofNat_of_zero_le r0
            refine ⟨32, q, rfl, rfl, by omega, gN ?_⟩
            have hD8 := b8 _ _ hD e1.symm e2.symm
            have b08 := b7.trans b8
            have hq : q ≤ 1 := by omega
            have sz : ∀ x y : List Nat, x.length + y.length ≤ 300000 → (S x).length + (S y).length ≤ sizeLine := fun x y h => by rw [lS, lS, sizeLine_eq]; omega
            have lbl : (List.replicate q 32).length = q := List.length_replicate
            have l1 : (u ++ bl q).length = u.length + q := by rw [List.length_append, bl_len]
            have hmB : m * B n' ≤ 3 * B n' := Nat.mul_le_mul_right _ (by omega)
            have hmD : m * D n' ≤ 3 * D n' := Nat.mul_le_mul_right _ (by omega)
            refine ⟨_, rfl, _, rfl, _, _, rfl, rfl, sz u (bl q) (by rw [bl_len]; omega), ?_⟩
            rw [show S u ++ S (List.replicate q 32) = S (u ++ bl q) from S_app u (bl q)]
            refine ⟨_, _, rfl, rfl, sz (u ++ bl q) [40] (by rw [l1]; show _ + 1 ≤ _; omega), ?_⟩
            rw [show S (u ++ bl q) ++ "(" = S (u ++ bl q ++ [40]) from S_app _ [40]]
            have l2 : (u ++ bl q ++ [40]).length = u.length + q + 1 := by rw [List.length_append (as := u ++ bl q), l1]; rfl
            refine ⟨_, rfl, _, _, rfl, rfl, sz [44, 32] (bl q) (by rw [bl_len]; show 2 + q ≤ _; omega), ⟨_, rfl⟩, _, rfl, _, D7, css.map S, rfl, rfl, .inl (SqL.of (by rw [hD8, List.map_map]; rfl)), ?_, ?_⟩
            · rw [show (", " : Str) ++ S (List.replicate q 32) = S ([44, 32] ++ bl q) from S_app [44, 32] (bl q), lS, List.length_append, bl_len]
              have es : ((css.map S).map fun x => x.length) = css.map List.length := by
                rw [List.map_map]
                exact List.map_congr_left fun x _ => S_len x
              rw [es, List.length_map, lc]
              show _ + m * (2 + q) ≤ _
              have : m * (2 + q) ≤ 3 * 3 := Nat.mul_le_mul (by omega) (by omega)
              omega
            · rw [show (", " : Str) ++ S (List.replicate q 32) = S ([44, 32] ++ bl q) from S_app [44, 32] (bl q), show Txt.join (S ([44, 32] ++ bl q)) (css.map S) = S (TL.joinL ([44, 32] ++ bl q) css) from join_S _ _]
              have jl := joinL_le ([44, 32] ++ bl q) css
              have jc := joinL_cnt ([44, 32] ++ bl q) css
              have sl : ([44, 32] ++ bl q).length = 2 + q := by rw [List.length_append, bl_len]; rfl
              have sc : ([44, 32] ++ bl q).count 40 = 0 := by rw [List.count_append, bl_cnt]; rfl
              rw [sl, lc] at jl
              rw [sc, Nat.mul_zero] at jc
              have hm3 : m * (2 + q) ≤ 3 * 3 := Nat.mul_le_mul (by omega) (by omega)
              generalize TL.joinL ([44, 32] ++ bl q) css = js at jl jc ⊢
              refine ⟨_, _, rfl, rfl, sz (u ++ bl q ++ [40]) js (by rw [l2]; omega), ?_⟩
              rw [S_app]
              have l3 : (u ++ bl q ++ [40] ++ js).length = u.length + q + 1 + js.length := by rw [List.length_append (as := u ++ bl q ++ [40]), l2]
              refine ⟨_, _, rfl, rfl, sz (u ++ bl q ++ [40] ++ js) [41] (by rw [l3]; show _ + 1 ≤ _; omega), ?_⟩
              rw [show S (u ++ bl q ++ [40] ++ js) ++ ")" = S (u ++ bl q ++ [40] ++ js ++ [41]) from S_app _ [41]]
              have l4 : (u ++ bl q ++ [40] ++ js ++ [41]).length = u.length + q + 1 + js.length + 1 := by rw [List.length_append (as := u ++ bl q ++ [40] ++ js), l3]; rfl
              refine ⟨_, rfl, _, _, rfl, rfl, sz (u ++ bl q ++ [40] ++ js ++ [41]) (bl q) (by rw [l4, bl_len]; omega), ?_⟩
              rw [show S (u ++ bl q ++ [40] ++ js ++ [41]) ++ S (List.replicate q 32) = S (u ++ bl q ++ [40] ++ js ++ [41] ++ bl q) from S_app _ (bl q)]
              refine k _ H8 ?_ ?_ S8 b08
              · rw [List.length_append (bs := bl q), l4, bl_len]
                show _ ≤ 3 * B n' + 25
                omega
              · rw [List.count_append, List.count_append, List.count_append, List.count_append, List.count_append, bl_cnt, cu]
                show 0 + 0 + 1 + js.count 40 + 0 + 0 ≤ 3 * D n' + 1
                omega
theorem all_tx {f : Addr} {fd : FuncData} (F : Fun K "_law_text" "_law_text" s__law_text f fd) (T : Blt mg) (mf : mg "_law_text" = some (.ref f)) (kf : PySem.W.keepIn K (.ref f) = true) (bf : Binds K fd ["source", "deep"] [])
    (c__law_pick : Cal P w K mg base 1 "_law_pick" ["source", "many"] spPick) : ∀ n, FnOk P w K mg base CX0 (n + 1 + 1) f fd ["source", "deep"] (spTx n)
  | 0 => ok_tx F T c__law_pick ⟨_, _, mf, kf, bf, (ok_no (k := 0 + 1)).toX⟩ (by omega)
  | n + 1 => ok_tx F T c__law_pick ⟨_, _, mf, kf, bf, (all_tx F T mf kf bf c__law_pick n).toX⟩ (by omega)
end
end K14


set_option Elab.async false
set_option linter.all false
set_option maxRecDepth 100000
set_option maxHeartbeats 4000000
namespace K14
open PySem PySem.Spec PyProof.Rows L2 Evl NdefX SX StX
theorem cut_to (cs : List Nat) (j : Nat) : cutS (S cs) none (some (j : Int)) = S (cs.take j) := by
  have z := cut_nat cs 0 j (Nat.zero_le _)
  unfold cutS at z ⊢
  rw [HT.sIx_nat, HT.sIx_nat, Nat.zero_min] at z
  rw [HT.sIx_none, HT.sIx_nat]
  exact z
theorem cut_from (cs : List Nat) (j : Nat) : cutS (S cs) (some (j : Int)) none = S (cs.drop j) := by
  unfold cutS
  have e : (S cs).cps.toList = cs := rfl
  have l : (S cs).length = cs.length := S_len cs
  rw [HT.sIx_nat, HT.sIx_none, e, l]
  show (⟨_⟩ : Str) = ⟨_⟩
  congr 2
  by_cases h : j ≤ cs.length
  · rw [Nat.min_eq_left h, List.take_of_length_le (by rw [List.length_drop]; omega)]
  · rw [Nat.min_eq_right (by omega), List.drop_eq_nil_of_le (Nat.le_refl _), List.drop_eq_nil_of_le (show cs.length ≤ j by omega)]
    simp
def signs : List Str := ["(", ")", ",", " ", "a", "9", "A", "_", ".", "\t", "\n", "Z", "-"]
section
variable {P : Program} {w : World} {K : PySem.W.Frag} {mg : Str → Option Value} {base : Heap}
/-- a text with a sign changed -/
def spSpt : Sp := fun vs H Q _ => ∃ (d L : Addr) (cs : List Nat), vs = [.ref d, .str (S cs)] ∧ Src d L H ∧ cs.length ≤ 50000 ∧ ∀ cs' H', cs'.length ≤ cs.length + 1 → cs'.count 40 ≤ cs.count 40 + 1 → Src d L H' → But d L H H' → Q (.str (S cs')) H'
abbrev s__law_spoilt : Stmt := top 20
abbrev N__law_spoilt : List Str := ["source", "text", "spot", "sign", "pick"]
theorem sc__law_spoilt : FnScope N__law_spoilt ["source", "text"] (defScope s__law_spoilt) := ⟨rfl, rfl, rfl, by decide +kernel, rfl, by decide +kernel, by decide +kernel⟩
theorem ok_spt {f : Addr} {fd : FuncData} (F : Fun K "_law_spoilt" "_law_spoilt" s__law_spoilt f fd) (T : Blt mg) (c__law_pick : Cal P w K mg base 1 "_law_pick" ["source", "many"] spPick) : FnOk P w K mg base CX0 2 f fd ["source", "text"] spSpt := by
  refine F.ok sc__law_spoilt (fun vs H Q E h => ?_) (fun cdv A outer s H vs Q E hr h => ?_)
  · obtain ⟨d, L, cs, rfl, _⟩ := h
    rfl
  · obtain ⟨d, L, cs, rfl, S0, lc, k⟩ := h
    refine ⟨_, (pss_cons (ps_set (i := 2) sc__law_spoilt.nd rfl (Or.inl rfl) (pe_cal c__law_pick (hr.mono (by decide)) (by rfl) (pa_cons (pv 0) (pa_cons (pe_op op_add (pe_callB call_len_str (by rfl) T.len (by decide +kernel) (pa_cons (pv 1) pa_nil)) (pe_int)) pa_nil))))
      (pss_cons (ps_set (i := 3) sc__law_spoilt.nd rfl (Or.inl rfl) (pe_ix (ix_listK K) (pe_lst (pa_cons (pe_str) (pa_cons (pe_str) (pa_cons (pe_str) (pa_cons (pe_str) (pa_cons (pe_str) (pa_cons (pe_str) (pa_cons (pe_str) (pa_cons (pe_str) (pa_cons (pe_str) (pa_cons (pe_str) (pa_cons (pe_str) (pa_cons (pe_str) (pa_cons (pe_str) pa_nil)))))))))))))) (pe_cal c__law_pick (hr.mono (by decide)) (by rfl) (pa_cons (pv 0) (pa_cons (pe_int) pa_nil))) (fun _ _ => rfl)))
      (pss_cons (ps_set (i := 4) sc__law_spoilt.nd rfl (Or.inl rfl) (pe_cal c__law_pick (hr.mono (by decide)) (by rfl) (pa_cons (pv 0) (pa_cons (pe_int) pa_nil))))
      (pss_cons (ps_if (pt_cmpR op_eq (pv 4) (pe_int) (nomark _)) (pss_one (ps_ret (pe_slice sl_str (pv 1) po_none (po_some (pv 2))))) pss_nil)
      (pss_cons (ps_if (pt_cmpR op_eq (pv 4) (pe_int) (nomark _)) (pss_one (ps_ret (pe_op op_add_str (pe_op op_add_str (pe_slice sl_str (pv 1) po_none (po_some (pv 2))) (pv 3)) (pe_slice sl_str (pv 1) (po_some (pv 2)) po_none)))) pss_nil)
      (pss_one (ps_ret (pe_ifExp (pt_cmpR op_eq (pv 4) (pe_int) (nomark _)) (pe_op op_add_str (pe_slice sl_str (pv 1) po_none (po_some (pv 2))) (pe_slice sl_str (pv 1) (po_some (pe_op op_add (pv 2) (pe_int))) po_none)) (pe_op op_add_str (pe_op op_add_str (pe_slice sl_str (pv 1) po_none (po_some (pv 2))) (pv 3)) (pe_slice sl_str (pv 1) (po_some (pe_op op_add (pv 2) (pe_int))) po_none)))))))))), ?_⟩
    have lS : ∀ x : List Nat, (S x).length = x.length := fun x => S_len x
    have zs : (S cs).length ≤ sizeLine := by rw [lS, sizeLine_eq]; omega
    refine ⟨_, rfl, _, rfl, S cs, rfl, zs, _, _, rfl, rfl, d, L, _, rfl, S0, by rw [lS]; omega, fun r H1 r0 r1 S1 b1 => ?_⟩
    obtain ⟨i, rfl⟩ := Int.eq_ofNat_of_zero_le r0
    rw [lS] at r1
    refine gN ?_
    refine ⟨by show 13 ≤ sizeLine; decide, fun l nl => ?_⟩
    obtain ⟨H2, eG, e2, hl⟩ := put_new (o := .lst (signs.map V.str)) nl
    rw [show signs.map V.str = [V.str "(", .str ")", .str ",", .str " ", .str "a", .str "9", .str "A", .str "_", .str ".", .str "\t", .str "\n", .str "Z", .str "-"] from rfl] at eG hl
    rw [eG]
    clear eG
    have S2 := S1.same e2
    obtain ⟨dl, Ll⟩ := S1.d_ne nl
    refine ⟨_, rfl, d, L, 13, rfl, S2, by decide, fun r H3 q0 q1 S3 b3 => ?_⟩
    obtain ⟨i2, rfl⟩ := Int.eq_ofNat_of_zero_le q0
    obtain ⟨c, ha⟩ : ∃ c : Nat, atI [V.str "(", .str ")", .str ",", .str " ", .str "a", .str "9", .str "A", .str "_", .str ".", .str "\t", .str "\n", .str "Z", .str "-"] (i2 : Int) = some (.str (S [c])) := by
      have hh : i2 = 0 ∨ i2 = 1 ∨ i2 = 2 ∨ i2 = 3 ∨ i2 = 4 ∨ i2 = 5 ∨ i2 = 6 ∨ i2 = 7 ∨ i2 = 8 ∨ i2 = 9 ∨ i2 = 10 ∨ i2 = 11 ∨ i2 = 12 := by omega
      rcases hh with rfl | rfl | rfl | rfl | rfl | rfl | rfl | rfl | rfl | rfl | rfl | rfl | rfl
      · exact ⟨40, rfl⟩
      · exact ⟨41, rfl⟩
      · exact ⟨44, rfl⟩
      · exact ⟨32, rfl⟩
      · exact ⟨97, rfl⟩
      · exact ⟨57, rfl⟩
      · exact ⟨65, rfl⟩
      · exact ⟨95, rfl⟩
      · exact ⟨46, rfl⟩
      · exact ⟨9, rfl⟩
      · exact ⟨10, rfl⟩
      · exact ⟨90, rfl⟩
      · exact ⟨45, rfl⟩
    have b03 : But d L H H3 := b1.trans ((But.of_same e2).trans b3)
    refine ⟨l, _, _, _, rfl, rfl, SqL.of (b3 _ _ hl dl.symm Ll.symm), ha, gN ?_⟩
    refine ⟨_, rfl, d, L, 4, rfl, S3, by decide, fun p H4 p0 p1 S4 b4 => gN ?_⟩
    have b04 := b03.trans b4
    have li : i ≤ cs.length := by omega
    have lt : (cs.take i).length = i := by rw [List.length_take]; omega
    have ct : (cs.take i).count 40 + (cs.drop i).count 40 = cs.count 40 := by rw [← List.count_append, List.take_append_drop]
    have c1 : [c].count 40 ≤ 1 := List.count_le_length
    have ld : (cs.drop i).length = cs.length - i := List.length_drop
    have ld1 : (cs.drop (i + 1)).length = cs.length - (i + 1) := List.length_drop
    have cd1 : (cs.drop (i + 1)).count 40 ≤ (cs.drop i).count 40 := by
      rw [show i + 1 = i + 1 from rfl, ← List.drop_drop]
      exact count_drop _ 1
    have sz : ∀ x y : List Nat, x.length + y.length ≤ 300000 → (S x).length + (S y).length ≤ sizeLine := fun x y h => by rw [lS, lS, sizeLine_eq]; omega
    by_cases h0 : p = 0
    · refine ⟨_, rfl, rfl, _, rfl, if_true_of (decide_eq_true (by rw [h0])) ⟨_, rfl, _, rfl, _, rfl, S cs, rfl, zs, ?_⟩⟩
      rw [cut_to]
      exact k _ H4 (by omega) (by omega) S4 b04
    refine ⟨_, rfl, rfl, _, rfl, if_false_of (decide_eq_false fun z => h0 (V.int.inj z)) ?_⟩
    by_cases h1 : p = 1
    · refine ⟨_, rfl, rfl, _, rfl, if_true_of (decide_eq_true (by rw [h1])) ⟨_, rfl, _, rfl, _, rfl, S cs, rfl, zs, ?_⟩⟩
      rw [cut_to]
      refine ⟨_, rfl, _, _, rfl, rfl, sz (cs.take i) [c] (by rw [lt]; show _ + 1 ≤ _; omega), ?_⟩
      rw [S_app]
      refine ⟨_, rfl, _, rfl, _, rfl, S cs, rfl, zs, ?_⟩
      rw [cut_from]
      have l2 : (cs.take i ++ [c]).length = i + 1 := by rw [List.length_append, lt]; rfl
      refine ⟨_, _, rfl, rfl, sz (cs.take i ++ [c]) (cs.drop i) (by rw [l2]; omega), ?_⟩
      rw [S_app]
      exact k _ H4 (by rw [List.length_append, l2]; omega) (by rw [List.count_append, List.count_append]; omega) S4 b04
    refine ⟨_, rfl, rfl, _, rfl, if_false_of (decide_eq_false fun z => h1 (V.int.inj z)) ?_⟩
    by_cases h2 : p = 2
    · refine ⟨_, rfl, rfl, _, rfl, if_true_of (decide_eq_true (by rw [h2])) ⟨_, rfl, _, rfl, _, rfl, S cs, rfl, zs, ?_⟩⟩
      rw [cut_to]
      refine ⟨_, rfl, _, rfl, _, _, rfl, rfl, ((i + 1 : Nat) : Int), by rw [show ((i + 1 : Nat) : Int) = (i : Int) + 1 by omega], S cs, rfl, zs, ?_⟩
      rw [cut_from]
      refine ⟨_, _, rfl, rfl, sz (cs.take i) (cs.drop (i + 1)) (by rw [lt]; omega), ?_⟩
      rw [S_app]
      exact k _ H4 (by rw [List.length_append, lt]; omega) (by rw [List.count_append]; omega) S4 b04
    · refine ⟨_, rfl, rfl, _, rfl, if_false_of (decide_eq_false fun z => h2 (V.int.inj z)) ⟨_, rfl, _, rfl, _, rfl, S cs, rfl, zs, ?_⟩⟩
      rw [cut_to]
      refine ⟨_, rfl, _, _, rfl, rfl, sz (cs.take i) [c] (by rw [lt]; show _ + 1 ≤ _; omega), ?_⟩
      rw [S_app]
      refine ⟨_, rfl, _, rfl, _, _, rfl, rfl, ((i + 1 : Nat) : Int), by rw [show ((i + 1 : Nat) : Int) = (i : Int) + 1 by omega], S cs, rfl, zs, ?_⟩
      rw [cut_from]
      have l2 : (cs.take i ++ [c]).length = i + 1 := by rw [List.length_append, lt]; rfl
      refine ⟨_, _, rfl, rfl, sz (cs.take i ++ [c]) (cs.drop (i + 1)) (by rw [l2]; omega), ?_⟩
      rw [S_app]
      exact k _ H4 (by rw [List.length_append, l2]; omega) (by rw [List.count_append, List.count_append]; omega) S4 b04
end
end K14


set_option Elab.async false
set_option linter.all false
set_option maxRecDepth 100000
set_option maxHeartbeats 4000000
namespace K14
open PySem PySem.Spec PyProof.Rows L2 Evl NdefX SX StX
/-- what stands behind the first of some parts -/
def tailR : List Tm → List Nat
  | [] => []
  | t :: r => 44 :: 32 :: (txt t ++ tailR r)
theorem join_tail : ∀ (ts : List Tm) (x : List Nat), TL.joinL [44, 32] (x :: txtL ts) = x ++ tailR ts
  | [], x => (List.append_nil x).symm
  | t :: ts, x => by
    have e : TL.joinL [44, 32] (x :: txtL (t :: ts)) = x ++ ([44, 32] ++ TL.joinL [44, 32] (txt t :: txtL ts)) := rfl
    rw [e, join_tail ts]
    rfl
mutual
theorem txt_spl : ∀ (t : Tm), okT t → Spl t (txt t)
  | .v w, h => by
    have z := Spl.v (n := 0) h
    rw [show w ++ bl 0 = w from List.append_nil w] at z
    exact z
  | .f w [], h => Spl.f0 (n := 0) (m := 0) (k := 0) h.1
  | .f w (t :: ts), h => by
    have z := Spl.f (n := 0) (m := 0) (k := 0) h.1 (txt_spl t h.2.1) (txtL_rm ts h.2.2)
    have e : w ++ (bl 0 ++ 40 :: (bl 0 ++ (txt t ++ (tailR ts ++ 41 :: bl 0)))) = txt (.f w (t :: ts)) := by
      show w ++ 40 :: (txt t ++ (tailR ts ++ [41])) = w ++ 40 :: (TL.joinL [44, 32] (txt t :: txtL ts) ++ [41])
      rw [join_tail, List.append_assoc]
    rw [e] at z
    exact z
theorem txtL_rm : ∀ (ts : List Tm), okL ts → Rm ts (tailR ts)
  | [], _ => .nil
  | t :: ts, h => .cons (n := 1) (txt_spl t h.1) (txtL_rm ts h.2)
end
mutual
def dtT : Tm → PyData
  | .v w => .str (S w)
  | .f w ps => .tuple (.str (S w) :: dtL ps)
def dtL : List Tm → List PyData
  | [] => []
  | t :: r => dtT t :: dtL r
end
theorem word_ok {w : List Nat} (h : Word w) : PyData.strOk (S w) = true := by
  refine Wee.ok ⟨?_, fun c hc => abc9_lt c (h.all c hc)⟩
  have := h.hi
  rw [S_len]
  omega
mutual
theorem dt_lay : ∀ t : Tm, okT t → (dtT t).canLay0 = true
  | .v w, h => word_ok h
  | .f w ps, h => by
    show (PyData.canLay0 (.str (S w)) && PyData.canLayAll0 (dtL ps)) = true
    rw [dtL_lay ps h.2, show PyData.canLay0 (.str (S w)) = true from word_ok h.1]
    rfl
theorem dtL_lay : ∀ ps : List Tm, okL ps → PyData.canLayAll0 (dtL ps) = true
  | [], _ => rfl
  | t :: r, h => by
    show ((dtT t).canLay0 && PyData.canLayAll0 (dtL r)) = true
    rw [dt_lay t h.1, dtL_lay r h.2]
    rfl
end
mutual
theorem dt_dep : ∀ t : Tm, (dtT t).depth ≤ dep t
  | .v w => Nat.le_refl _
  | .f w ps => by
    have z := dtL_dep ps
    show max 0 (PyData.depthAll (dtL ps)) + 1 ≤ depL ps + 1
    omega
theorem dtL_dep : ∀ ps : List Tm, PyData.depthAll (dtL ps) ≤ depL ps
  | [] => Nat.le_refl _
  | t :: r => by
    have a := dt_dep t
    have b := dtL_dep r
    show max (dtT t).depth (PyData.depthAll (dtL r)) ≤ max (dep t) (depL r)
    omega
end
theorem dt_sh {t : Tm} (h : okT t) (hd : dep t ≤ 64) : SeqAt.shaped (dtT t) = true := by
  unfold SeqAt.shaped
  rw [dt_lay t h, decide_eq_true (Nat.le_trans (dt_dep t) hd)]
  rfl
mutual
theorem dp_tm {K : PySem.W.Frag} {H : Hp} : ∀ {x : V} {t : Tm}, TmAt H x t → Dp K H x (dtT t)
  | _, _, .v => .str _
  | _, _, .f h r => .tup (SqT.of h) (.cons (.str _) (dp_tms r))
theorem dp_tms {K : PySem.W.Frag} {H : Hp} : ∀ {vs : List V} {ps : List Tm}, TmsAt H vs ps → DpAll K H vs (dtL ps)
  | _, _, .nil => .nil
  | _, _, .cons h r => .cons (dp_tm h) (dp_tms r)
end
section
variable {P : Program} {w : World} {K : PySem.W.Frag} {mg : Str → Option Value} {base : Heap} {Cb : Addr}
def upTo (N : Nat) (sp : Nat → Sp) : Sp := fun vs H Q E => ∃ n, n ≤ N ∧ sp n vs H Q E
theorem FnOk.up {k f fd} {ps : List Str} {CX : CXT} {N : Nat} {sp : Nat → Sp} (h : ∀ n, n ≤ N → FnOk P w K mg base CX k f fd ps (sp n)) : FnOk P w K mg base CX k f fd ps (upTo N sp) :=
  ⟨fun vs H Q E ⟨n, d, z⟩ => (h n d).len vs H Q E z, fun A outer s H args us vs Q E hr e0 hb hv ⟨n, d, z⟩ => (h n d).run A outer s H args us vs Q E hr e0 hb hv z⟩
def spLaw (K : PySem.W.Frag) : Sp := fun vs H Q _ => ∃ (a : Addr) (ns : List Int), vs = [.ref a] ∧ SqL K H a (ns.map V.int) ∧ ns.length ≤ 63 ∧ ∀ H', Q (.bl true) H'
/-- both ways of an if end alike -/
theorem ifS_join {c : TT} {t u : TS} {D : Ends} {σ : L2.St} {H : Hp} (J : L2.St → Hp → Prop) (h : ∀ D' : Ends, (∀ σ' H', J σ' H' → D'.nx σ' H') → tIfS c t u D' σ H) (hJ : ∀ σ' H', J σ' H' → D.nx σ' H') : tIfS c t u D σ H := h D hJ
theorem seq_go {t u : TS} {D : Ends} {σ : L2.St} {H : Hp} (h : t { D with nx := u D } σ H) : tSeq t u D σ H := h
def spOr (a b : Sp) : Sp := fun vs H Q E => a vs H Q E ∨ b vs H Q E
theorem FnOk.or {k : Nat} {f : Addr} {fd : FuncData} {ps : List Str} {CX : CXT} {a b : Sp} (h1 : FnOk P w K mg base CX k f fd ps a) (h2 : FnOk P w K mg base CX k f fd ps b) : FnOk P w K mg base CX k f fd ps (spOr a b) :=
  ⟨fun vs H Q E z => z.elim (h1.len vs H Q E) (h2.len vs H Q E), fun A outer s H args us vs Q E hr e0 hb hv z => z.elim (h1.run A outer s H args us vs Q E hr e0 hb hv) (h2.run A outer s H args us vs Q E hr e0 hb hv)⟩
theorem BD_top {n : Nat} (h : n ≤ 3) : B n ≤ 649 ∧ D n ≤ 13 := by
  have hh : n = 0 ∨ n = 1 ∨ n = 2 ∨ n = 3 := by omega
  rcases hh with rfl | rfl | rfl | rfl <;> decide
def few : Str := "(), ab9_"
abbrev s_law : Stmt := top 23
abbrev N_law : List Str := ["script", "source", "k", "text", "n", "due"]
theorem sc_law : FnScope N_law ["script"] (defScope s_law) := ⟨rfl, rfl, rfl, by decide +kernel, rfl, by decide +kernel, by decide +kernel⟩
theorem ok_law {f : Addr} {fd : FuncData} (F : Fun K "law" "law" s_law f fd) (T : Blt mg) (c__law_source : Cal P w K mg base 1 "_law_source" ["script"] (spSource K)) (c__law_pick : Cal P w K mg base 1 "_law_pick" ["source", "many"] spPick)
    (c__law_text : Cal P w K mg base 5 "_law_text" ["source", "deep"] (upTo 3 spTx)) (c__law_spoilt : Cal P w K mg base 2 "_law_spoilt" ["source", "text"] spSpt) (c__law_due : Cal P w K mg base 1 "_law_due" ["text"] spDue) (c__law_said : Cal P w K mg base 86 "_law_said" ["text"] (spSaid 40))
    (c_write_term : Cal P w K mg base 42 "write_term" ["term"] (spWr 40)) (c_read_term : Cal P w K mg base 85 "read_term" ["text"] (spOr (spRt Cb 40) (spRT 40))) : FnOk P w K mg base CX0 87 f fd ["script"] (spLaw K) := by
  refine F.ok sc_law (fun vs H Q E h => ?_) (fun cdv A outer s H vs Q E hr h => ?_)
  · obtain ⟨a, ns, rfl, _⟩ := h
    rfl
  · obtain ⟨a, ns, rfl, ha, hn, g⟩ := h
    have hu64 := hu64_of hr
    refine ⟨_, (pss_cons (ps_set (i := 1) sc_law.nd rfl (Or.inl rfl) (pe_cal c__law_source (hr.mono (by decide)) (by rfl) (pa_cons (pv 0) pa_nil)))
      (pss_cons (ps_for PassesOwn.never rfl (pi_range1 (by rfl) T.range (pa_cons (pe_int) pa_nil)) (pg_name (i := 2) sc_law.nd rfl (Or.inl rfl)) (pss_cons (ps_set (i := 3) sc_law.nd rfl (Or.inl rfl) (pe_cal c__law_text (hr.mono (by decide)) (by rfl) (pa_cons (pv 1) (pa_cons (pe_cal c__law_pick (hr.mono (by decide)) (by rfl) (pa_cons (pv 1) (pa_cons (pe_int) pa_nil))) pa_nil))))
      (pss_cons (ps_if (pt_cmpR op_eq (pe_cal c__law_pick (hr.mono (by decide)) (by rfl) (pa_cons (pv 1) (pa_cons (pe_int) pa_nil))) (pe_int) (nomark _)) (pss_cons (ps_set (i := 3) sc_law.nd rfl (Or.inl rfl) (pe_str))
      (pss_one (ps_for PassesOwn.never rfl (pi_range1 (by rfl) T.range (pa_cons (pe_cal c__law_pick (hr.mono (by decide)) (by rfl) (pa_cons (pv 1) (pa_cons (pe_int) pa_nil))) pa_nil)) (pg_name (i := 4) sc_law.nd rfl (Or.inl rfl)) (pss_one (ps_set (i := 3) sc_law.nd rfl (Or.inl rfl) (pe_op op_add_str (pv 3) (pe_item_str (pe_str) (pe_cal c__law_pick (hr.mono (by decide)) (by rfl) (pa_cons (pv 1) (pa_cons (pe_int) pa_nil))) (fun _ _ => rfl)))))))) pss_nil)
      (pss_cons (ps_for PassesOwn.never rfl (pi_range1 (by rfl) T.range (pa_cons (pe_cal c__law_pick (hr.mono (by decide)) (by rfl) (pa_cons (pv 1) (pa_cons (pe_int) pa_nil))) pa_nil)) (pg_name (i := 4) sc_law.nd rfl (Or.inl rfl)) (pss_one (ps_set (i := 3) sc_law.nd rfl (Or.inl rfl) (pe_cal c__law_spoilt (hr.mono (by decide)) (by rfl) (pa_cons (pv 1) (pa_cons (pv 3) pa_nil))))))
      (pss_cons (ps_set (i := 5) sc_law.nd rfl (Or.inl rfl) (pe_cal c__law_due (hr.mono (by decide)) (by rfl) (pa_cons (pv 3) pa_nil)))
      (pss_cons (ps_if (pt_cmpR op_ne (pe_cal c__law_said (hr.mono (by decide)) (by rfl) (pa_cons (pv 3) pa_nil)) (pv 5) (nomark _)) (pss_one (ps_ret (pe_bl))) pss_nil)
      (pss_one (ps_if (PW.pt (pw_and (pt_cmpR op_eq (pv 5) (pe_un un_neg pe_int) (nomark _)) (pw_and1 (pt_cmpR (op_neDK K hu64) (pe_cal c_read_term (hr.mono (by decide)) (by rfl) (pa_cons (pe_cal c_write_term (hr.mono (by decide)) (by rfl) (pa_cons (pe_cal c_read_term (hr.mono (by decide)) (by rfl) (pa_cons (pv 3) pa_nil)) pa_nil)) pa_nil)) (pe_cal c_read_term (hr.mono (by decide)) (by rfl) (pa_cons (pv 3) pa_nil)) (nomark _))))) (pss_one (ps_ret (pe_bl))) pss_nil))))))))
      (pss_one (ps_ret (pe_bl))))), ?_⟩
    have lS : ∀ x : List Nat, (S x).length = x.length := fun x => S_len x
    refine ⟨_, rfl, a, ns, rfl, ha, hn, fun d L H1 hd hL S1 s1 => gN ?_⟩
    refine ⟨8, rfl, by decide, by decide, for_range (lo := 0) (n := ((8 : Int)).toNat) (fun j σ' H' => (∃ v2 v3 v4 v5, σ' = [some (.ref a), some (.ref d), v2, v3, v4, v5]) ∧ Src d L H')
      ⟨⟨none, none, none, none, rfl⟩, S1⟩ (fun j σ' H' hj p => ?_) (fun σ' H' p => ?_)⟩
    · obtain ⟨⟨v2, v3, v4, v5, rfl⟩, S'⟩ := p
      refine gN ⟨_, rfl, _, rfl, d, L, 4, rfl, S', by decide, fun r H2 r0 r1 S2 b2 => ?_⟩
      obtain ⟨n, rfl⟩ := Int.eq_ofNat_of_zero_le r0
      obtain ⟨bt, dt⟩ := BD_top (n := n) (by omega)
      refine ⟨n, by omega, d, L, rfl, S2, by omega, fun cs H3 lcs ccs S3 b3 => gN ?_⟩
      dsimp only
      refine seq_go (t := tIfS _ _ _) ?_
      refine ifS_join (fun σ' H' => ∃ (cs : List Nat) (v4 : Option V), σ' = [some (.ref a), some (.ref d), some (.int (0 + (j : Int))), some (.str (S cs)), v4, v5] ∧ Src d L H' ∧ cs.length ≤ 1000 ∧ cs.count 40 ≤ 20) (fun D' hD => ?_) (fun σ' H4 p => ?_)
      · refine ⟨_, rfl, d, L, 3, rfl, S3, by decide, fun r H4 q0 q1 S4 b4 => ⟨rfl, _, rfl, ?_⟩⟩
        by_cases h0 : r = 0
        · refine if_true_of (decide_eq_true (by rw [h0])) ?_
          refine ⟨_, rfl, d, L, 7, rfl, S4, by decide, fun r H5 q0 q1 S5 b5 => ⟨r, rfl, by omega, by omega, for_range (lo := 0) (n := r.toNat) (fun j2 σ' H' => ∃ (u : List Nat) (v4 : Option V), σ' = [some (.ref a), some (.ref d), some (.int (0 + (j : Int))), some (.str (S u)), v4, v5] ∧ Src d L H' ∧ u.length ≤ j2 ∧ u.count 40 ≤ j2)
            ⟨[], v4, rfl, S5, Nat.le_refl _, Nat.le_refl _⟩ (fun j2 σ' H' hj2 p => ?_) (fun σ' H' p => ?_)⟩⟩
          · obtain ⟨u, v4, rfl, S6, lu, cu⟩ := p
            refine gN ⟨_, rfl, _, rfl, d, L, 8, rfl, S6, by decide, fun r2 H7 t0 t1 S7 b7 => ?_⟩
            obtain ⟨i4, rfl⟩ := Int.eq_ofNat_of_zero_le t0
            obtain ⟨c4, hc4⟩ : ∃ c, few.cps[i4]? = some c := by
              have h8 : i4 < few.cps.size := by show i4 < 8; omega
              exact ⟨_, Array.getElem?_eq_getElem h8⟩
            refine ⟨few, (i4 : Int), c4, rfl, rfl, by omega, by omega, by show (i4 : Int) < 8; omega, hc4, _, _, rfl, rfl, by rw [S_len, sizeLine_eq]; show _ + 1 ≤ _; omega, gN ?_⟩
            have e : S u ++ (⟨#[c4]⟩ : Str) = S (u ++ [c4]) := S_app u [c4]
            have c1 : [c4].count 40 ≤ 1 := List.count_le_length
            exact ⟨u ++ [c4], some (.int (0 + (j2 : Int))), by rw [← e]; rfl, S7, by rw [List.length_append]; show _ + 1 ≤ _; omega, by rw [List.count_append]; omega⟩
          · obtain ⟨u, v4, rfl, S6, lu, cu⟩ := p
            exact hD _ _ ⟨u, v4, rfl, S6, by omega, by omega⟩
        · refine if_false_of (decide_eq_false fun z => h0 (V.int.inj z)) ?_
          exact hD _ _ ⟨cs, v4, rfl, S4, by omega, by omega⟩
      · obtain ⟨cs, v4, rfl, S4, lcs, ccs⟩ := p
        refine ⟨_, rfl, d, L, 3, rfl, S4, by decide, fun r H5 q0 q1 S5 b5 => ⟨r, rfl, by omega, by omega, for_range (lo := 0) (n := r.toNat) (fun j2 σ' H' => ∃ (u : List Nat) (v4 : Option V), σ' = [some (.ref a), some (.ref d), some (.int (0 + (j : Int))), some (.str (S u)), v4, v5] ∧ Src d L H' ∧ u.length ≤ 1000 + j2 ∧ u.count 40 ≤ 20 + j2)
            ⟨cs, v4, rfl, S5, lcs, ccs⟩ (fun j2 σ' H' hj2 p => ?_) (fun σ' H' p => ?_)⟩⟩
        · obtain ⟨u, v4, rfl, S6, lu, cu⟩ := p
          refine gN ⟨_, rfl, _, rfl, d, L, u, rfl, S6, by omega, fun cs' H7 lc' cc' S7 b7 => gN ?_⟩
          exact ⟨cs', _, rfl, S7, by omega, by omega⟩
        · obtain ⟨cs, v4, rfl, S6, lcs, ccs⟩ := p
          refine ⟨_, rfl, cs, rfl, by omega, fun H7 e7 => gN ?_⟩
          obtain ⟨r1, hrt⟩ := rt_tot (n := 40) (cs := cs) (by omega)
          have hau := rt_au hrt
          rw [hau]
          refine ⟨_, rfl, cs, r1, rfl, by omega, hrt, fun H8 e8 => ⟨_, rfl, rfl, _, rfl, if_false_of (by simp) ?_⟩⟩
          have S8 := (S6.same e7).same e8
          by_cases hd1 : due1 r1 = -1
          · refine ⟨_, rfl, 1, rfl, rfl, _, rfl, if_true_of (decide_eq_true (by rw [hd1])) ?_⟩
            cases r1 with
            | bad j => exact absurd hd1 (by show ((j : Nat) : Int) ≠ -1; omega)
            | ok t j1 =>
              obtain ⟨ok, dp, ct⟩ := rt_fine hrt
              have lt := txt_le t
              refine ⟨_, rfl, .inl ⟨cs, .ok t j1, rfl, by omega, hrt, fun H9 v9 e9 hv9 => ?_⟩⟩
              refine ⟨v9, t, rfl, hv9, dp, by omega, fun H10 e10 => .inr ⟨txt t, txt t, 0, t, rfl, rfl, txt_spl t ok, dp, by omega, fun H11 v11 e11 hv11 => ?_⟩⟩
              refine ⟨_, rfl, .inl ⟨cs, .ok t j1, rfl, by omega, hrt, fun H12 v12 e12 hv12 => ?_⟩⟩
              refine neD_same (dp_tm (hv11.keep (Tups.of e12))) (dp_tm hv12) (dt_sh ok (by omega)) (tst (if_false_of rfl ?_))
              exact ⟨⟨_, _, _, _, rfl⟩, (((S8.same e9).same e10).same e11).same e12⟩
          · refine ⟨_, rfl, 1, rfl, rfl, _, rfl, if_false_of (decide_eq_false fun z => hd1 (V.int.inj z)) (if_false_of rfl ?_)⟩
            exact ⟨⟨_, _, _, _, rfl⟩, S8⟩
    · obtain ⟨⟨v2, v3, v4, v5, rfl⟩, S'⟩ := p
      exact g H'
end
end K14


set_option Elab.async false
set_option linter.all false
set_option maxRecDepth 100000
set_option maxHeartbeats 4000000
namespace K14
open PySem PySem.Spec PyProof.Rows L2 Evl NdefX SX StX
structure TabE (K : PySem.W.Frag) (E : Addr) : Prop where
  ci : PySem.W.excInitIn K E [.type "ValueError", .type "Exception", .type "BaseException", .type "object"] "ValueError.__new__" = true
  ov : PySem.W.excOver K E [.type "ValueError", .type "Exception", .type "BaseException", .type "object"] = true
  sa : PySem.W.findIn K (.ref E) "__setattr__" = some (some (.builtin "object.__setattr__"))
  hd : PySem.W.hasDictIn K E = true
  eb : PySem.W.subIn K (.ref E) (.type "BaseException") = some true
  ty : PySem.W.typeIn K (.ref E) = some (.type "type")
  kp : PySem.W.keepIn K (.ref E) = true
  nm : PySem.W.findIn K (.ref E) "place" = some none
  xm : PySem.W.exmOne K (.ref E) (.ref E) = some true
  xf : xfB K E = true
section
variable {P : Program} {w : World} {K : PySem.W.Frag} {mg : Str → Option Value} {h : Heap}
theorem xi_mk (KX : K.In h) (G : h.Ns mainGlobals mg) {x q : Str} {st : Stmt} {ps : List Str} {D f cc c : Addr} {B nI iI : String} {bB : List Value} {oc kV doc pm ct o1 o2 : Value} {od an d1 d2 : Option Addr} {osl s1 s2 : Array (Option Value)} {vs : Array Value} {file : Str} {tf : Tok} {cd : ClassData}
    (xb : XBase B nI iI bB) (xc : XCls K D nI bB) (g : PySem.W.nsIn K mainGlobals x = some (some (.ref D))) (iC : PySem.W.findIn K (.ref D) "__init__" = some (some (.ref f))) (tI : PySem.W.typeIn K (.ref f) = some (.type "function"))
    (l : K.lookup f = some ⟨oc, od, .func (PySem.W.fnX "__init__" q (defArgs st) (defBody st) (defScope st) [(("__class__" : Str), cc)] .none kV doc pm an (.ref c) ct), osl⟩)
    (lc : K.lookup cc = some ⟨o1, d1, .cell (some (.ref D)), s1⟩) (lo : K.lookup c = some ⟨o2, d2, .fields vs, s2⟩) (lv : vs[2]? = some (.str file tf)) (lf : ((P.main.file : Str) == file) = true)
    (cl : PySem.W.clsIn K D = some cd) (sb : PySem.W.mroIn K D (.ref D) = some true) (up : PySem.W.ks_superIn K D D "__init__" = some (some (.builtin iI))) (isB : PySem.W.subIn K (.ref D) (.type B) = some true)
    (opq : PySem.W.nsIn K cStatics "thirdparty.any" = some none) (noS : mg "super" = none) (tp : (P.main.scope.names.lookup ("super" : Str)).isSome = false)
    (sf : ∃ ar, ((defArgs st).posonlyargs ++ (defArgs st).args).head? = some ar ∧ ar.arg = "self") (kS : (defScope st).names.lookup ("super" : Str) = some .globalImplicit) (kC : (defScope st).names.lookup ("__class__" : Str) = some .free) (kA : (defScope st).names.lookup ("self" : Str) = some .local)
    (hc : PySem.W.codeIn K (.ref c) q = true) (bd : ∀ us : List Value, us.length = ps.length → bindArgs (PySem.W.fnX "__init__" q (defArgs st) (defBody st) (defScope st) [(("__class__" : Str), cc)] .none kV doc pm an (.ref c) ct) ⟨us, []⟩ = pure (ps.zip us)) :
    XI P K mg x q st ps D f cc c B nI iI bB (PySem.W.fnX "__init__" q (defArgs st) (defBody st) (defScope st) [(("__class__" : Str), cc)] .none kV doc pm an (.ref c) ct) where
  xb := xb
  g := PySem.W.mg_of KX G g
  xc := xc
  iC := iC
  tI := tI
  xs := { cl := rfl, cell := ⟨_, _, _, lc⟩, code := ⟨_, _, _, _, _, _, lo, lv, lf⟩, cls := ⟨_, cl⟩, sub := sb, up := up, isB := isB, opq := opq, noS := noS, top := tp, self := sf, kS := kS, kC := kC, kA := kA }
  lk := ⟨_, _, _, _, _, _, _, _, rfl, l⟩
  cd := hc
  bd := .all bd
end
section
variable {P : Program} {w : World} {K : PySem.W.Frag} {mg : Str → Option Value} {h : Heap}
set_option maxHeartbeats 16000000 in
theorem all_mk {fa : Addr} (X : K.In h) (G : h.Ns mainGlobals mg) (hfa : mg "law" = some (.ref fa)) (lf : ((P.main.file : Str) == "/claim/cut.py") = true) (tp : (P.main.scope.names.lookup ("super" : Str)).isSome = false)
    {E0 f0 q0 c0 g0 g1 g2 g3 g4 g5 g6 g7 g8 g9 g10 g11 g12 g13 g14 : Addr}
    {oc0 kV0 dc0 pm0 ct0 oo0 pp0 : Value} {od0 an0 dd0 ee0 : Option Addr} {sl0 sm0 sn0 : Array (Option Value)} {vs0 : Array Value} {tf0 : Tok} {cd0 : ClassData}
    {Oc0 Oc1 Oc2 Oc3 Oc4 Oc5 Oc6 Oc7 Oc8 Oc9 Oc10 Oc11 Oc12 Oc13 Oc14 : Value}
    {Kv0 Kv1 Kv2 Kv3 Kv4 Kv5 Kv6 Kv7 Kv8 Kv9 Kv10 Kv11 Kv12 Kv13 Kv14 : Value}
    {Dc0 Dc1 Dc2 Dc3 Dc4 Dc5 Dc6 Dc7 Dc8 Dc9 Dc10 Dc11 Dc12 Dc13 Dc14 : Value}
    {Pm0 Pm1 Pm2 Pm3 Pm4 Pm5 Pm6 Pm7 Pm8 Pm9 Pm10 Pm11 Pm12 Pm13 Pm14 : Value}
    {Cd0 Cd1 Cd2 Cd3 Cd4 Cd5 Cd6 Cd7 Cd8 Cd9 Cd10 Cd11 Cd12 Cd13 Cd14 : Value}
    {Ct0 Ct1 Ct2 Ct3 Ct4 Ct5 Ct6 Ct7 Ct8 Ct9 Ct10 Ct11 Ct12 Ct13 Ct14 : Value}
    {Od0 Od1 Od2 Od3 Od4 Od5 Od6 Od7 Od8 Od9 Od10 Od11 Od12 Od13 Od14 : Option Addr}
    {An0 An1 An2 An3 An4 An5 An6 An7 An8 An9 An10 An11 An12 An13 An14 : Option Addr}
    {Sl0 Sl1 Sl2 Sl3 Sl4 Sl5 Sl6 Sl7 Sl8 Sl9 Sl10 Sl11 Sl12 Sl13 Sl14 : Array (Option Value)}
    {tk0 tk1 tk2 : Tok}
    (e0 : PySem.W.nsIn K mainGlobals "BadText" = some (some (.ref E0)))
    (i0 : PySem.W.findIn K (.ref E0) "__init__" = some (some (.ref f0)))
    (l0 : K.lookup f0 = some ⟨oc0, od0, .func (PySem.W.fnX "__init__" "BadText.__init__" (defArgs (inClass (top 2) 0)) (defBody (inClass (top 2) 0)) (defScope (inClass (top 2) 0)) [(("__class__" : Str), q0)] .none kV0 dc0 pm0 an0 (.ref c0) ct0), sl0⟩)
    (m0 : K.lookup q0 = some ⟨oo0, dd0, .cell (some (.ref E0)), sm0⟩)
    (n0 : K.lookup c0 = some ⟨pp0, ee0, .fields vs0, sn0⟩)
    (v0 : vs0[2]? = some (.str "/claim/cut.py" tf0))
    (d0 : PySem.W.clsIn K E0 = some cd0)
    (t0 : PySem.W.typeIn K (.ref f0) = some (.type "function"))
    (s0 : PySem.W.mroIn K E0 (.ref E0) = some true)
    (u0 : PySem.W.ks_superIn K E0 E0 "__init__" = some (some (.builtin "ValueError.__init__")))
    (b0 : PySem.W.subIn K (.ref E0) (.type "ValueError") = some true)
    (h0 : PySem.W.codeIn K (.ref c0) "BadText.__init__" = true)
    (A0 : PySem.W.nsIn K mainGlobals "_law_source" = some (some (.ref g0)))
    (Lk0 : K.lookup g0 = some ⟨Oc0, Od0, .func (PySem.W.fnOf "_law_source" "_law_source" (defArgs s__law_source) (defBody s__law_source) (defScope s__law_source) .none Kv0 Dc0 Pm0 An0 Cd0 Ct0), Sl0⟩)
    (Hk0 : PySem.W.codeIn K Cd0 "_law_source" = true)
    (Kk0 : PySem.W.keepIn K (.ref g0) = true)
    (A1 : PySem.W.nsIn K mainGlobals "_law_pick" = some (some (.ref g1)))
    (Lk1 : K.lookup g1 = some ⟨Oc1, Od1, .func (PySem.W.fnOf "_law_pick" "_law_pick" (defArgs sPick) (defBody sPick) (defScope sPick) .none Kv1 Dc1 Pm1 An1 Cd1 Ct1), Sl1⟩)
    (Hk1 : PySem.W.codeIn K Cd1 "_law_pick" = true)
    (Kk1 : PySem.W.keepIn K (.ref g1) = true)
    (A2 : PySem.W.nsIn K mainGlobals "is_plain" = some (some (.ref g2)))
    (Lk2 : K.lookup g2 = some ⟨Oc2, Od2, .func (PySem.W.fnOf "is_plain" "is_plain" (defArgs s_is_plain) (defBody s_is_plain) (defScope s_is_plain) .none Kv2 Dc2 Pm2 An2 Cd2 Ct2), Sl2⟩)
    (Hk2 : PySem.W.codeIn K Cd2 "is_plain" = true)
    (Kk2 : PySem.W.keepIn K (.ref g2) = true)
    (A3 : PySem.W.nsIn K mainGlobals "is_word" = some (some (.ref g3)))
    (Lk3 : K.lookup g3 = some ⟨Oc3, Od3, .func (PySem.W.fnOf "is_word" "is_word" (defArgs s_is_word) (defBody s_is_word) (defScope s_is_word) .none Kv3 Dc3 Pm3 An3 Cd3 Ct3), Sl3⟩)
    (Hk3 : PySem.W.codeIn K Cd3 "is_word" = true)
    (Kk3 : PySem.W.keepIn K (.ref g3) = true)
    (A4 : PySem.W.nsIn K mainGlobals "_behind_blanks" = some (some (.ref g4)))
    (Lk4 : K.lookup g4 = some ⟨Oc4, Od4, .func (PySem.W.fnOf "_behind_blanks" "_behind_blanks" (defArgs s__behind_blanks) (defBody s__behind_blanks) (defScope s__behind_blanks) .none Kv4 Dc4 Pm4 An4 Cd4 Ct4), Sl4⟩)
    (Hk4 : PySem.W.codeIn K Cd4 "_behind_blanks" = true)
    (Kk4 : PySem.W.keepIn K (.ref g4) = true)
    (A5 : PySem.W.nsIn K mainGlobals "_word_end" = some (some (.ref g5)))
    (Lk5 : K.lookup g5 = some ⟨Oc5, Od5, .func (PySem.W.fnOf "_word_end" "_word_end" (defArgs s__word_end) (defBody s__word_end) (defScope s__word_end) .none Kv5 Dc5 Pm5 An5 Cd5 Ct5), Sl5⟩)
    (Hk5 : PySem.W.codeIn K Cd5 "_word_end" = true)
    (Kk5 : PySem.W.keepIn K (.ref g5) = true)
    (A6 : PySem.W.nsIn K mainGlobals "_read" = some (some (.ref g6)))
    (Lk6 : K.lookup g6 = some ⟨Oc6, Od6, .func (PySem.W.fnOf "_read" "_read" (defArgs s__read) (defBody s__read) (defScope s__read) .none Kv6 Dc6 Pm6 An6 Cd6 Ct6), Sl6⟩)
    (Hk6 : PySem.W.codeIn K Cd6 "_read" = true)
    (Kk6 : PySem.W.keepIn K (.ref g6) = true)
    (A7 : PySem.W.nsIn K mainGlobals "_read_parts" = some (some (.ref g7)))
    (Lk7 : K.lookup g7 = some ⟨Oc7, Od7, .func (PySem.W.fnOf "_read_parts" "_read_parts" (defArgs s__read_parts) (defBody s__read_parts) (defScope s__read_parts) .none Kv7 Dc7 Pm7 An7 Cd7 Ct7), Sl7⟩)
    (Hk7 : PySem.W.codeIn K Cd7 "_read_parts" = true)
    (Kk7 : PySem.W.keepIn K (.ref g7) = true)
    (A8 : PySem.W.nsIn K mainGlobals "read_term" = some (some (.ref g8)))
    (Lk8 : K.lookup g8 = some ⟨Oc8, Od8, .func (PySem.W.fnOf "read_term" "read_term" (defArgs s_read_term) (defBody s_read_term) (defScope s_read_term) .none Kv8 Dc8 Pm8 An8 Cd8 Ct8), Sl8⟩)
    (Hk8 : PySem.W.codeIn K Cd8 "read_term" = true)
    (Kk8 : PySem.W.keepIn K (.ref g8) = true)
    (A9 : PySem.W.nsIn K mainGlobals "write_term" = some (some (.ref g9)))
    (Lk9 : K.lookup g9 = some ⟨Oc9, Od9, .func (PySem.W.fnOf "write_term" "write_term" (defArgs s_write_term) (defBody s_write_term) (defScope s_write_term) .none Kv9 Dc9 Pm9 An9 Cd9 Ct9), Sl9⟩)
    (Hk9 : PySem.W.codeIn K Cd9 "write_term" = true)
    (Kk9 : PySem.W.keepIn K (.ref g9) = true)
    (A10 : PySem.W.nsIn K mainGlobals "_law_text" = some (some (.ref g10)))
    (Lk10 : K.lookup g10 = some ⟨Oc10, Od10, .func (PySem.W.fnOf "_law_text" "_law_text" (defArgs s__law_text) (defBody s__law_text) (defScope s__law_text) .none Kv10 Dc10 Pm10 An10 Cd10 Ct10), Sl10⟩)
    (Hk10 : PySem.W.codeIn K Cd10 "_law_text" = true)
    (Kk10 : PySem.W.keepIn K (.ref g10) = true)
    (A11 : PySem.W.nsIn K mainGlobals "_law_spoilt" = some (some (.ref g11)))
    (Lk11 : K.lookup g11 = some ⟨Oc11, Od11, .func (PySem.W.fnOf "_law_spoilt" "_law_spoilt" (defArgs s__law_spoilt) (defBody s__law_spoilt) (defScope s__law_spoilt) .none Kv11 Dc11 Pm11 An11 Cd11 Ct11), Sl11⟩)
    (Hk11 : PySem.W.codeIn K Cd11 "_law_spoilt" = true)
    (Kk11 : PySem.W.keepIn K (.ref g11) = true)
    (A12 : PySem.W.nsIn K mainGlobals "_law_due" = some (some (.ref g12)))
    (Lk12 : K.lookup g12 = some ⟨Oc12, Od12, .func (PySem.W.fnOf "_law_due" "_law_due" (defArgs s__law_due) (defBody s__law_due) (defScope s__law_due) .none Kv12 Dc12 Pm12 An12 Cd12 Ct12), Sl12⟩)
    (Hk12 : PySem.W.codeIn K Cd12 "_law_due" = true)
    (Kk12 : PySem.W.keepIn K (.ref g12) = true)
    (A13 : PySem.W.nsIn K mainGlobals "_law_said" = some (some (.ref g13)))
    (Lk13 : K.lookup g13 = some ⟨Oc13, Od13, .func (PySem.W.fnOf "_law_said" "_law_said" (defArgs s__law_said) (defBody s__law_said) (defScope s__law_said) .none Kv13 Dc13 Pm13 An13 Cd13 Ct13), Sl13⟩)
    (Hk13 : PySem.W.codeIn K Cd13 "_law_said" = true)
    (Kk13 : PySem.W.keepIn K (.ref g13) = true)
    (A14 : PySem.W.nsIn K mainGlobals "law" = some (some (.ref g14)))
    (Lk14 : K.lookup g14 = some ⟨Oc14, Od14, .func (PySem.W.fnOf "law" "law" (defArgs s_law) (defBody s_law) (defScope s_law) .none Kv14 Dc14 Pm14 An14 Cd14 Ct14), Sl14⟩)
    (Hk14 : PySem.W.codeIn K Cd14 "law" = true)
    (Kk14 : PySem.W.keepIn K (.ref g14) = true)
    (z_len : PySem.W.nsIn K mainGlobals "len" = some none)
    (z_int : PySem.W.nsIn K mainGlobals "int" = some none)
    (z_abs : PySem.W.nsIn K mainGlobals "abs" = some none)
    (z_range : PySem.W.nsIn K mainGlobals "range" = some none)
    (z_str : PySem.W.nsIn K mainGlobals "str" = some none)
    (z_list : PySem.W.nsIn K mainGlobals "list" = some none)
    (z_tuple : PySem.W.nsIn K mainGlobals "tuple" = some none)
    (z_isinstance : PySem.W.nsIn K mainGlobals "isinstance" = some none)
    (z_all : PySem.W.nsIn K mainGlobals "all" = some none)
    (z_set : PySem.W.nsIn K mainGlobals "set" = some none)
    (z_enumerate : PySem.W.nsIn K mainGlobals "enumerate" = some none)
    (z_sum : PySem.W.nsIn K mainGlobals "sum" = some none)
    (z_max : PySem.W.nsIn K mainGlobals "max" = some none)
    (z_min : PySem.W.nsIn K mainGlobals "min" = some none)
    (z_bool : PySem.W.nsIn K mainGlobals "bool" = some none)
    (z_super : PySem.W.nsIn K mainGlobals "super" = some none)
    (y0 : PySem.W.nsIn K mainGlobals "_LETTERS" = some (some (.str "abcdefghijklmnopqrstuvwxyz" tk0)))
    (y1 : PySem.W.nsIn K mainGlobals "_CHARACTERS" = some (some (.str "abcdefghijklmnopqrstuvwxyz0123456789" tk1)))
    (y2 : PySem.W.nsIn K mainGlobals "_LONGEST" = some (some (.int 12 tk2)))
    (opq : PySem.W.nsIn K cStatics "thirdparty.any" = some none)
    (te : TabE K E0)
    : ∃ fd : FuncData, (∀ (s : Shared) (v : Value), BindsTo s fd ⟨[v], []⟩ [("script", v)]) ∧ ∀ base : Heap, K.In base → base.Ns mainGlobals mg → FnOk P w K mg base CX0 87 fa fd ["script"] (spLaw K) := by
  have e := hfa.symm.trans (PySem.W.mg_of X G A14)
  cases e
  have noS : mg "super" = none := PySem.W.mg_none_of X G z_super
  have BL : Blt mg := {
    len := PySem.W.mg_none_of X G z_len
    int := PySem.W.mg_none_of X G z_int
    abs := PySem.W.mg_none_of X G z_abs
    range := PySem.W.mg_none_of X G z_range
    str := PySem.W.mg_none_of X G z_str
    list := PySem.W.mg_none_of X G z_list
    tuple := PySem.W.mg_none_of X G z_tuple
    isinstance := PySem.W.mg_none_of X G z_isinstance
    all := PySem.W.mg_none_of X G z_all
    set := PySem.W.mg_none_of X G z_set
    enumerate := PySem.W.mg_none_of X G z_enumerate
    sum := PySem.W.mg_none_of X G z_sum
    max := PySem.W.mg_none_of X G z_max
    min := PySem.W.mg_none_of X G z_min
    bool := PySem.W.mg_none_of X G z_bool
    c_LETTERS := ⟨_, PySem.W.mg_of X G y0, ⟨_, rfl⟩⟩
    c_CHARACTERS := ⟨_, PySem.W.mg_of X G y1, ⟨_, rfl⟩⟩
    c_LONGEST := ⟨_, PySem.W.mg_of X G y2, ⟨_, rfl⟩⟩ }
  have U : XB P K mg E0 f0 q0 c0 (PySem.W.fnX "__init__" "BadText.__init__" (defArgs (inClass (top 2) 0)) (defBody (inClass (top 2) 0)) (defScope (inClass (top 2) 0)) [(("__class__" : Str), q0)] .none kV0 dc0 pm0 an0 (.ref c0) ct0) := xi_mk X G xbV ⟨te.ci, te.ov, te.sa, te.hd, te.eb, te.ty, te.kp⟩ e0 i0 t0 l0 m0 n0 v0 lf d0 s0 u0 b0 opq noS tp ⟨_, rfl, rfl⟩ (by decide +kernel) (by decide +kernel) (by decide +kernel) h0 fun us hl => match us, hl with | [_, _], _ => rfl
  have F0 := fun_mk (st := s__law_source) Lk0 Hk0 Kk0
  have B0 := F0.binds (ps := ["script"]) fun _ _ _ _ _ _ us hl => match us, hl with | [_], _ => rfl
  have F1 := fun_mk (st := sPick) Lk1 Hk1 Kk1
  have B1 := F1.binds (ps := ["source", "many"]) fun _ _ _ _ _ _ us hl => match us, hl with | [_, _], _ => rfl
  have F2 := fun_mk (st := s_is_plain) Lk2 Hk2 Kk2
  have B2 := F2.binds (ps := ["thing"]) fun _ _ _ _ _ _ us hl => match us, hl with | [_], _ => rfl
  have F3 := fun_mk (st := s_is_word) Lk3 Hk3 Kk3
  have B3 := F3.binds (ps := ["thing"]) fun _ _ _ _ _ _ us hl => match us, hl with | [_], _ => rfl
  have F4 := fun_mk (st := s__behind_blanks) Lk4 Hk4 Kk4
  have B4 := F4.binds (ps := ["text", "place"]) fun _ _ _ _ _ _ us hl => match us, hl with | [_, _], _ => rfl
  have F5 := fun_mk (st := s__word_end) Lk5 Hk5 Kk5
  have B5 := F5.binds (ps := ["text", "start"]) fun _ _ _ _ _ _ us hl => match us, hl with | [_, _], _ => rfl
  have F6 := fun_mk (st := s__read) Lk6 Hk6 Kk6
  have B6 := F6.binds (ps := ["text", "start"]) fun _ _ _ _ _ _ us hl => match us, hl with | [_, _], _ => rfl
  have F7 := fun_mk (st := s__read_parts) Lk7 Hk7 Kk7
  have B7 := F7.binds (ps := ["text", "start"]) fun _ _ _ _ _ _ us hl => match us, hl with | [_, _], _ => rfl
  have F8 := fun_mk (st := s_read_term) Lk8 Hk8 Kk8
  have B8 := F8.binds (ps := ["text"]) fun _ _ _ _ _ _ us hl => match us, hl with | [_], _ => rfl
  have F9 := fun_mk (st := s_write_term) Lk9 Hk9 Kk9
  have B9 := F9.binds (ps := ["term"]) fun _ _ _ _ _ _ us hl => match us, hl with | [_], _ => rfl
  have F10 := fun_mk (st := s__law_text) Lk10 Hk10 Kk10
  have B10 := F10.binds (ps := ["source", "deep"]) fun _ _ _ _ _ _ us hl => match us, hl with | [_, _], _ => rfl
  have F11 := fun_mk (st := s__law_spoilt) Lk11 Hk11 Kk11
  have B11 := F11.binds (ps := ["source", "text"]) fun _ _ _ _ _ _ us hl => match us, hl with | [_, _], _ => rfl
  have F12 := fun_mk (st := s__law_due) Lk12 Hk12 Kk12
  have B12 := F12.binds (ps := ["text"]) fun _ _ _ _ _ _ us hl => match us, hl with | [_], _ => rfl
  have F13 := fun_mk (st := s__law_said) Lk13 Hk13 Kk13
  have B13 := F13.binds (ps := ["text"]) fun _ _ _ _ _ _ us hl => match us, hl with | [_], _ => rfl
  have F14 := fun_mk (st := s_law) Lk14 Hk14 Kk14
  refine ⟨PySem.W.fnOf "law" "law" (defArgs s_law) (defBody s_law) (defScope s_law) .none Kv14 Dc14 Pm14 An14 Cd14 Ct14, fun s v => .of_eq rfl, fun base _ _ => ?_⟩
  have k__law_source : Cal P w K mg base 1 "_law_source" ["script"] (spSource K) := ⟨_, _, PySem.W.mg_of X G A0, Kk0, B0, (ok_source F0 BL).toX⟩
  have k__law_pick : Cal P w K mg base 1 "_law_pick" ["source", "many"] spPick := ⟨_, _, PySem.W.mg_of X G A1, Kk1, B1, (ok_pick F1 BL).toX⟩
  have k_is_plain : Cal P w K mg base 1 "is_plain" ["thing"] (spText plainB) := ⟨_, _, PySem.W.mg_of X G A2, Kk2, B2, (ok_is_plain F2 BL).toX⟩
  have k_is_word : Cal P w K mg base 2 "is_word" ["thing"] (spText wordB) := ⟨_, _, PySem.W.mg_of X G A3, Kk3, B3, (ok_is_word F3 BL k_is_plain).toX⟩
  have k__behind_blanks : Cal P w K mg base 1 "_behind_blanks" ["text", "place"] spBB := ⟨_, _, PySem.W.mg_of X G A4, Kk4, B4, (ok_bb F4).toX⟩
  have k_weG : Cal P w K mg base 3 "_word_end" ["text", "start"] spWE := ⟨_, _, PySem.W.mg_of X G A5, Kk5, B5, (ok_we F5 BL k_is_word).toX⟩
  have k_weX : Cal P w K mg base 3 "_word_end" ["text", "start"] spWl := ⟨_, _, PySem.W.mg_of X G A5, Kk5, B5, (ok_wl F5 BL k_is_word).toX⟩
  have kR := all_read F6 F7 (PySem.W.mg_of X G A6) (PySem.W.mg_of X G A7) Kk6 Kk7 B6 B7 k_weG k__behind_blanks 40
  have kX := all_rd F6 F7 (PySem.W.mg_of X G A6) (PySem.W.mg_of X G A7) Kk6 Kk7 B6 B7 U te.nm k_weX k__behind_blanks 40
  have k_rdG : Cal P w K mg base 84 "_read" ["text", "start"] (spRead 40) := ⟨_, _, PySem.W.mg_of X G A6, Kk6, B6, kR.1.toX⟩
  have k_rdX : Cal P w K mg base 84 "_read" ["text", "start"] (spRd E0 40) := ⟨_, _, PySem.W.mg_of X G A6, Kk6, B6, kX.1⟩
  have fG := ok_rt F8 BL k__behind_blanks k_rdG (by decide)
  have fX := ok_rtX F8 BL U te.nm k__behind_blanks k_rdX (by decide)
  have k_read_term : Cal P w K mg base 85 "read_term" ["text"] (spOr (spRt E0 40) (spRT 40)) := ⟨_, _, PySem.W.mg_of X G A8, Kk8, B8, FnOk.or fX fG.toX⟩
  have k_rtX : Cal P w K mg base 85 "read_term" ["text"] (spRt E0 40) := ⟨_, _, PySem.W.mg_of X G A8, Kk8, B8, fX⟩
  have k_write_term : Cal P w K mg base 42 "write_term" ["term"] (spWr 40) := ⟨_, _, PySem.W.mg_of X G A9, Kk9, B9, (all_wr F9 BL (PySem.W.mg_of X G A9) Kk9 B9 40).toX⟩
  have k__law_text : Cal P w K mg base 5 "_law_text" ["source", "deep"] (upTo 3 spTx) := ⟨_, _, PySem.W.mg_of X G A10, Kk10, B10, FnOk.up fun n hn => ((all_tx F10 BL (PySem.W.mg_of X G A10) Kk10 B10 k__law_pick n).mono (by omega)).toX⟩
  have k__law_spoilt : Cal P w K mg base 2 "_law_spoilt" ["source", "text"] spSpt := ⟨_, _, PySem.W.mg_of X G A11, Kk11, B11, (ok_spt F11 BL k__law_pick).toX⟩
  have k__law_due : Cal P w K mg base 1 "_law_due" ["text"] spDue := ⟨_, _, PySem.W.mg_of X G A12, Kk12, B12, (ok_due F12 BL).toX⟩
  have k__law_said : Cal P w K mg base 86 "_law_said" ["text"] (spSaid 40) := ⟨_, _, PySem.W.mg_of X G A13, Kk13, B13, (ok_said F13 U te.nm te.xm (xfB_ok te.xf) k_rtX (by decide)).toX⟩
  exact ok_law F14 BL k__law_source k__law_pick k__law_text k__law_spoilt k__law_due k__law_said k_write_term k_read_term
end
theorem walk {l : PySem.W.OpenLaw} {q : Program} {loose : List Str} {XP : (Str → Option Value) → Heap → Prop} {YP : World → Heap → Prop} {d : DefRec} {K : Params → PySem.W.Frag} (hn : l.most = some 63) (hdf : d.params.defaults = [])
    (hY : ∀ (w : World) (h : Heap), YP w h → (K w.params).In h)
    (F : ∀ (w : World) (mg : Str → Option Value) (fa : Addr) (h : Heap), (K w.params).In h → h.Ns mainGlobals mg → mg d.name = some (.ref fa) →
      ∃ fd : FuncData, (∀ (s : Shared) (u : Value), BindsTo s fd ⟨[u], []⟩ [("script", u)]) ∧ ∀ base : Heap, (K w.params).In base → base.Ns mainGlobals mg → FnOk l.prog w (K w.params) mg base CX0 87 fa fd ["script"] (spLaw (K w.params))) :
    PySem.W.WalkO q loose XP YP l.row.toRowW d [] (fun f vs => PySem.call f vs) :=
  L2.walk_of (n := 63) (k := 87) (x := "script") (CX := fun _ => CX0) (sp := fun w => spLaw (K w.params)) hn (by decide) hdf ⟨rfl, by decide, by decide⟩ hY F (fun _ _ a ns hl _ hS => ⟨a, ns, rfl, hS, hl, fun _ => rfl⟩) fun _ _ _ _ _ z => z
end K14


set_option Elab.async false
set_option linter.all false
open PySem PySem.W PyProof.Rows
set_option maxRecDepth 100000 in
set_option maxHeartbeats 0 in
theorem PySem.Challenge.cw_equalkin_k14_texts_that_tell_no_term_holds : PySem.Challenge.rw_equalkin_k14_texts_that_tell_no_term.Holds := by
  w_on; o_law; k_head; (case hw => w_witness2)
  k_fill
  refine K14.walk (l := PySem.Challenge.rw_equalkin_k14_texts_that_tell_no_term) rfl rfl (fun w h Y => PySem.W.kIn_of Y) ?F
  case F =>
    intro w mg fa h KX G hmg
    refine' K14.all_mk KX G hmg ?lf ?tp ?e0 ?i0 ?l0 ?m0 ?n0 ?v0 ?d0 ?t0 ?s0 ?u0 ?b0 ?h0 ?A0 ?Lk0 ?Hk0 ?Kk0 ?A1 ?Lk1 ?Hk1 ?Kk1 ?A2 ?Lk2 ?Hk2 ?Kk2 ?A3 ?Lk3 ?Hk3 ?Kk3 ?A4 ?Lk4 ?Hk4 ?Kk4 ?A5 ?Lk5 ?Hk5 ?Kk5 ?A6 ?Lk6 ?Hk6 ?Kk6 ?A7 ?Lk7 ?Hk7 ?Kk7 ?A8 ?Lk8 ?Hk8 ?Kk8 ?A9 ?Lk9 ?Hk9 ?Kk9 ?A10 ?Lk10 ?Hk10 ?Kk10 ?A11 ?Lk11 ?Hk11 ?Kk11 ?A12 ?Lk12 ?Hk12 ?Kk12 ?A13 ?Lk13 ?Hk13 ?Kk13 ?A14 ?Lk14 ?Hk14 ?Kk14 ?z_len ?z_int ?z_abs ?z_range ?z_str ?z_list ?z_tuple ?z_isinstance ?z_all ?z_set ?z_enumerate ?z_sum ?z_max ?z_min ?z_bool ?z_super ?y0 ?y1 ?y2 ?opq ?te
    (case lf => kernel_rfl); (case tp => kernel_rfl)
    (case e0 => k_is); (case i0 => k_is); (case l0 => k_is); (case m0 => k_is); (case n0 => k_is); (case v0 => rfl)
    (case d0 => k_is); (case t0 => k_is); (case s0 => k_is); (case u0 => ks_is); (case b0 => k_is); (case h0 => k_is)
    (case A0 => k_is); (case Lk0 => k_is); (case Hk0 => k_is); (case Kk0 => k_is); (case A1 => k_is); (case Lk1 => k_is)
    (case Hk1 => k_is); (case Kk1 => k_is); (case A2 => k_is); (case Lk2 => k_is); (case Hk2 => k_is); (case Kk2 => k_is)
    (case A3 => k_is); (case Lk3 => k_is); (case Hk3 => k_is); (case Kk3 => k_is); (case A4 => k_is); (case Lk4 => k_is)
    (case Hk4 => k_is); (case Kk4 => k_is); (case A5 => k_is); (case Lk5 => k_is); (case Hk5 => k_is); (case Kk5 => k_is)
    (case A6 => k_is); (case Lk6 => k_is); (case Hk6 => k_is); (case Kk6 => k_is); (case A7 => k_is); (case Lk7 => k_is)
    (case Hk7 => k_is); (case Kk7 => k_is); (case A8 => k_is); (case Lk8 => k_is); (case Hk8 => k_is); (case Kk8 => k_is)
    (case A9 => k_is); (case Lk9 => k_is); (case Hk9 => k_is); (case Kk9 => k_is); (case A10 => k_is); (case Lk10 => k_is)
    (case Hk10 => k_is); (case Kk10 => k_is); (case A11 => k_is); (case Lk11 => k_is); (case Hk11 => k_is); (case Kk11 => k_is)
    (case A12 => k_is); (case Lk12 => k_is); (case Hk12 => k_is); (case Kk12 => k_is); (case A13 => k_is); (case Lk13 => k_is)
    (case Hk13 => k_is); (case Kk13 => k_is); (case A14 => k_is); (case Lk14 => k_is); (case Hk14 => k_is); (case Kk14 => k_is)
    (case z_len => k_is); (case z_int => k_is); (case z_abs => k_is); (case z_range => k_is); (case z_str => k_is); (case z_list => k_is)
    (case z_tuple => k_is); (case z_isinstance => k_is); (case z_all => k_is); (case z_set => k_is); (case z_enumerate => k_is); (case z_sum => k_is)
    (case z_max => k_is); (case z_min => k_is); (case z_bool => k_is); (case z_super => k_is); (case y0 => k_is); (case y1 => k_is)
    (case y2 => k_is); (case opq => k_is)
    case te =>
      refine' ⟨?_, ?_, ?_, ?_, ?_, ?_, ?_, ?_, ?_, ?_⟩ <;> kernel_rfl

