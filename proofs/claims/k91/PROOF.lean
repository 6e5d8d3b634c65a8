import PyProof.Rows.All
import Wide.All
import OpenK.AllK
import Wide.FinOn
import KE.KExcTry
import KE.KExcStr
import HandS.ForMost
import HandS.Exc
import HandS.ExcOwn
import HandS.ExcInit
import HandS.Nested
import HandS.Flow
import HandS.FStr
import HandS.More
import HandS.TryMany
import HandS.ExcField
import HandS.IsInst
import HandS.RaiseMore
import HandS.WordsExc
import HandS.Evl
import HandS.Conv
import HandS.Deep
import HandS.Style
import HandS.NoneIn
import HandS.ExcValue
import HandS.ExcIs
import KE.KExcIs
import PySem.Challenge.RW_equalkin_k91_errors
set_option Elab.async false
set_option linter.all false
set_option maxRecDepth 100000
set_option maxHeartbeats 4000000
/-! Own errors over any base whose __init__ begins with super().__init__(text): the classes' facts, stores, the def's rule, the making. -/
namespace L2
open PySem PySem.Spec PyProof.Rows NdefX

/-- the built-in base of an own error: its name, maker, initializer, chain -/
structure XBase (B nI iI : String) (bB : List Value) : Prop where
  fb : ExcBaseFacts B nI iI bB
  sf : StoreFacts B bB "object.__setattr__" "object"
  kf : PySem.W.KxsFacts B iI

theorem xbV : XBase "ValueError" "ValueError.__new__" "ValueError.__init__" [.type "ValueError", .type "Exception", .type "BaseException", .type "object"] :=
  ⟨F.excBase_ValueError, F.store_ValueError, PySem.W.kxs_ValueError⟩
theorem xbL : XBase "LookupError" "LookupError.__new__" "LookupError.__init__" [.type "LookupError", .type "Exception", .type "BaseException", .type "object"] :=
  ⟨F.excBase_LookupError, F.store_LookupError, PySem.W.kxs_LookupError⟩

/-- what the written part says of such a class -/
structure XCls (K : PySem.W.Frag) (C : Addr) (nI : String) (bB : List Value) : Prop where
  ci : PySem.W.excInitIn K C bB nI = true
  ov : PySem.W.excOver K C bB = true
  sa : PySem.W.findIn K (.ref C) "__setattr__" = some (some (.builtin "object.__setattr__"))
  hd : PySem.W.hasDictIn K C = true
  eb : PySem.W.subIn K (.ref C) (.type "BaseException") = some true
  ty : PySem.W.typeIn K (.ref C) = some (.type "type")
  kp : PySem.W.keepIn K (.ref C) = true

/-- the method-wrapper at u, bound to the error at a, called -/
theorem mw_call {prog : Program} {w : World} {A : Around} {E : Value → Shared → Prop} {s : Shared} {K : PySem.W.Frag} {C a u t0 : Addr} {B nI iI : String} {bB rest : List Value} {Q : Value → Shared → Prop}
    (XB : XBase B nI iI bB) (KX : K.In s.heap) (ci : PySem.W.excInitIn K C bB nI = true) (hu : s.heap.get? u = some (PySem.W.kxs_mw iI a)) (ha : s.heap.get? a = some (PySem.W.excObj C t0 none .none)) (hz : rest.length ≤ sizeLine)
    (fin : ∀ h2 t2, (∀ b o, b ≠ a → s.heap.get? b = some o → h2.get? b = some o) → h2.get? a = some (PySem.W.excObj C t2 none .none) → Q .none { s with heap := h2 }) :
    wpAny (model prog w) A (call (.ref u) rest) Q E s := by
  obtain ⟨nm, N1, qn, bs, bm, hdct, sn, sub, ab, col, dd, k0, k1, k2, k3, k5, hC, hT⟩ := PySem.W.excInit_of KX ci
  have FB := XB.fb
  obtain ⟨hh, gg, dr, tk, os⟩ := s
  refine wpAny_call (codeAny_of_tree ?_)
  show wpAny (model prog w) A.in1 (callAny (.ref u) ⟨rest, []⟩) _ _ _
  simp only [callAny]
  refine wpAny_bind (wpAny_load hu ?_)
  have c1 : (Value.type "method-wrapper" == Value.type "method" || Value.type "method-wrapper" == Value.type "builtin_function_or_method" || Value.type "method-wrapper" == Value.type "method-wrapper") = true := by decide
  simp only [PySem.W.kxs_mw, c1, if_true]
  refine PySem.W.KFB.if_so (by decide) (wpAny_bind (PySem.W.check_bound_init FB.toExcCallFacts hC ha rfl (wpAny_bind (wpAny_pure (wpAny_pure ?_)))))
  refine ⟨plainId_quiet FB.init.plain _, codeAny_builtin FB.initEntry (PySem.W.exc_init_tree (cls := .ref C) (t0 := t0) (dv := none) (c2 := .none) (c3 := .none) (b4 := .bool false) ha hz fun h2 k2 e2 _ => fin h2 _ k2 e2)⟩

/-- what the written part says of an __init__ (at f) of the class at C that begins with super().__init__ -/
structure XSup (P : Program) (K : PySem.W.Frag) (mg : Str → Option Value) (C f cc : Addr) (B iI : String) (F : NF) : Prop where
  cl : F.cl = [(("__class__" : Str), cc)]
  cell : ∃ o d sl, K.lookup cc = some ⟨o, d, .cell (some (.ref C)), sl⟩
  code : ∃ o d vs sl file tf, K.lookup F.c = some ⟨o, d, .fields vs, sl⟩ ∧ vs[2]? = some (.str file tf) ∧ ((P.main.file : Str) == file) = true
  cls : ∃ cd, PySem.W.clsIn K C = some cd
  sub : PySem.W.mroIn K C (.ref C) = some true
  up : PySem.W.ks_superIn K C C "__init__" = some (some (.builtin iI))
  isB : PySem.W.subIn K (.ref C) (.type B) = some true
  opq : PySem.W.nsIn K cStatics "thirdparty.any" = some none
  noS : mg "super" = none
  top : (P.main.scope.names.lookup ("super" : Str)).isSome = false
  self : ∃ ar, (F.params.posonlyargs ++ F.params.args).head? = some ar ∧ ar.arg = "self"
  kS : F.scope.names.lookup ("super" : Str) = some .globalImplicit
  kC : F.scope.names.lookup ("__class__" : Str) = some .free
  kA : F.scope.names.lookup ("self" : Str) = some .local
end L2


set_option Elab.async false
set_option linter.all false
set_option maxRecDepth 100000
set_option maxHeartbeats 4000000
namespace L2
open PySem PySem.Spec PyProof.Rows NdefX

section
variable {P : Program} {w : World} {K : PySem.W.Frag} {mg : Str → Option Value} {base : Heap}
theorem boot_super : bootBuiltins "super" = some (.type "super") := by decide +kernel
theorem startF_at {N : List Str} {vs : List V} {ws : List (Option V)} {v : V} (h : vs[0]? = some v) : (startF N vs ws)[0]? = some (some v) := by
  unfold startF
  cases vs with
  | nil => cases h
  | cons x r =>
    obtain rfl : x = v := Option.some.inj h
    rfl
/-- nothing but a is another's: the same map -/
theorem upd_self {H : Hp} {a : Addr} {o : HO} (h : H a = some o) : upd H a o = H := by
  funext b
  by_cases e : b = a
  · subst e
    rw [upd_same, h]
  · exact upd_ne e

/-- the call super().__init__(msg) in the def's own words -/
def SupCall (F : NF) (f : Addr) (p0 p1 p2 p3 : Pos) (msg : Expr) : Prop := ∃ pl : Addr → Sem Bool, ∀ L : Addr, eval (.Call (.Attribute (.Call (.Name "super" p0) [] [] p1) "__init__" p2) [msg] [] p3) (envF F f L) = (do
  let ov ← attributeBase (.Call (.Name "super" p0) [] [] p1) "__init__" (envF F f L) (eval (.Call (.Name "super" p0) [] [] p1) (envF F f L))
  standAt p2.atName
  let (g, first) ← holding [ov] (getMethod ov "__init__" (pl L))
  callWith p3 g first (backTo p3 (starEach [msg] (envF F f L))) [])
/-- THE RULE: an __init__ whose first statement is super().__init__(text) -/
theorem fn_super {CX : CXT} {N ps : List Str} {F : NF} {f C cc : Addr} {k : Nat} {sp : Sp} {B nI iI : String} {bB : List Value} {oc : Value} {od an : Option Addr} {osl : Array (Option Value)} {kV doc pm ct : Value}
    {msg : Expr} {p0 p1 p2 p3 p4 : Pos} {body : List Stmt} (XB : XBase B nI iI bB) (XC : XCls K C nI bB) (XS : XSup P K mg C f cc B iI F)
    (lk : K.lookup f = some ⟨oc, od, .func (PySem.W.fnX F.name F.qual F.params F.body F.scope F.cl .none kV doc pm an (.ref F.c) ct), osl⟩) (hcd : PySem.W.codeIn K (.ref F.c) F.qual = true)
    (hbd : F.body = .Expr (.Call (.Attribute (.Call (.Name "super" p0) [] [] p1) "__init__" p2) [msg] [] p3) p4 :: body)
    (hms : ∀ L : Addr, starEach [msg] (envF F f L) = [(false, eval msg (envF F f L))]) (hia : ∀ L : Addr, interactive (envF F f L) = false)
    (hcl : SupCall F f p0 p1 p2 p3 msg)
    (hsw : ∀ L : Addr, swapsWith (.Call (.Attribute (.Call (.Name "super" p0) [] [] p1) "__init__" p2) [msg] [] p3) none p4.line (envF F f L) = pure false)
    (S : NScope N ps ["__class__"] F.scope) (hN0 : N[0]? = some ("self" : Str)) (len : ∀ vs H Q E, sp vs H Q E → vs.length = ps.length)
    (hbody : ∀ (A : Around) (outer : List Env) (s : Shared) (H : Hp) (vs : List V) (Q : VK) (E : XK), Room k (A.deeper (envF F f s.heap.objs.size)) → sp vs H Q E →
      ∃ (te : TE) (t : TS) (a : Addr), PE (ncx CX P w K mg base N F f A outer s H E) msg te ∧ PSs (ncx CX P w K mg base N F f A outer s H E) body t ∧ vs[0]? = some (.ref a) ∧ H a = some (exo a C none) ∧
        te (startF N vs [some (.ref C)]) H fun _ H1 => H1 a = some (exo a C none) ∧ t { nx := fun _ H2 => Q .non H2, rt := Q } (startF N vs [some (.ref C)]) H1) :
    FnOk P w K mg base CX (k + 1) f (PySem.W.fnX F.name F.qual F.params F.body F.scope F.cl .none kV doc pm an (.ref F.c) ct) ps sp := by
  refine ⟨len, fun A outer s H args us vs Q E hr e0 hb r hsp => ?_⟩
  have hl := len _ _ _ _ hsp
  obtain ⟨pl, hcl⟩ := hcl
  have inS : ∀ {b : Addr} {o : Obj}, K.lookup b = some o → s.heap.get? b = some o ∧ H b = none := fun {b o} q => e0.bs b o (e0.mod.kin _ _ q)
  have KX : K.In s.heap := fun b o q => (inS q).1
  have lim : s.heap.NoLimit := e0.mod.nolimit.keeps fun b o e => (e0.bs b o e).1
  obtain ⟨o1, d1, sl1, hcell⟩ := XS.cell
  obtain ⟨o2, d2, cvs, sl2, file, tf, hcode, hvs, hfile⟩ := XS.code
  obtain ⟨cd, hcls⟩ := XS.cls
  obtain ⟨ar, hp, har⟩ := XS.self
  obtain ⟨mb, hb1, hb2⟩ := e0.mod.blt
  have CA : CellsAt F.cl ["__class__"] [some (V.ref C)] s.heap H := by
    rw [XS.cl]
    have one : ∀ {y : Str} {c : Addr}, List.lookup y [(("__class__" : Str), cc)] = some c → y = "__class__" ∧ c = cc := fun {y c} q => by
      have q' := PySem.mem_of_lookup q
      rw [List.mem_singleton] at q'
      exact ⟨(Prod.mk.inj q').1, (Prod.mk.inj q').2⟩
    have ic : s.heap.IsCell cc (some (.ref C)) := ⟨_, (inS hcell).1, rfl⟩
    refine ⟨rfl, fun y c hy => ?_, fun x y c hx hy => ?_, fun i y hy => ?_⟩
    · rw [(one hy).2]
      exact ⟨(inS hcell).2, _, ic⟩
    · rw [(one hx).1, (one hy).1]
    · have hi : i = 0 := by
        cases i with
        | zero => rfl
        | succ i => simp at hy
      subst hi
      obtain rfl : ("__class__" : Str) = y := Option.some.inj hy
      refine ⟨cc, by simp [List.lookup], fun v hv => ⟨.ref C, ?_, ic⟩⟩
      obtain rfl : V.ref C = v := Option.some.inj (Option.some.inj hv)
      rfl
  refine PySem.ks_codeAny_call_defAt (fd := PySem.W.fnX F.name F.qual F.params F.body F.scope F.cl .none kV doc pm an (.ref F.c) ct) (body := F.body) (binds := ps.zip us) hr.depth (KX _ _ lk) rfl lim (PySem.W.codeRec_of KX hcd) rfl hb S.nocell
    (fun ⟨n, _⟩ hy => S.par n (List.of_mem_zip hy).1) (fun h1 hns kp => ?_) S.co S.gen S.kind
  obtain ⟨te, t, a, hte, ht, h0, ha, hq⟩ := hbody A outer s H vs Q E (hr.deeper _) hsp
  have I0 : Inv (ncx CX P w K mg base N F f A outer s H E) [] (startF N vs [some (.ref C)]) H { s with heap := h1, toks := s.toks + (ps.zip us).length } := inv_startN S hr.hd e0 hl r CA hns kp
  have KX1 : K.In h1 := fun b o q => kp _ _ (KX _ _ q)
  rw [hbd]
  refine PySem.ks_wpAt_execs_cons (PySem.ks_wpAt_Expr_any (PySem.ks_wpAt_MethodCall ?_ (hcl _)) (hia _) (hsw _))
  refine PySem.ks_wpAt_super_base (env := envF F f s.heap.objs.size) XS.kS XS.kC (by decide) rfl (KX1 _ _ lk) rfl hp rfl (KX1 _ _ hcode) rfl hvs hfile XS.top ?_
  refine PySem.W.ks_loadName_global S.kind XS.kS (Calls.loadGlobal_builtin (I0.mod.glob.keeps I0.bk) XS.noS (hb1.keeps I0.bk) ((hb2 "super" (by decide)).trans boot_super) ⟨rfl, ?_⟩)
  refine PySem.wpAny_loadName_free S.kind XS.kC (by show F.cl.lookup _ = _; rw [XS.cl]; simp [List.lookup]) ⟨_, KX1 _ _ hcell, rfl⟩ ?_
  rw [har]
  obtain ⟨m0, hm0, hl0⟩ := I0.loc
  obtain ⟨ua, rua, lka⟩ := hl0 0 "self" (.ref a) hN0 (startF_at h0) (.inl XS.kA)
  have hself : m0 "self" = some (.ref a) := by
    rcases lka with ⟨_, z⟩ | ⟨z, _⟩
    · rw [z]
      exact congrArg some rua
    · have z' : F.scope.names.lookup ("self" : Str) = some .cell ∨ F.scope.names.lookup ("self" : Str) = some .free := z
      rw [XS.kA] at z'
      rcases z' with z' | z' <;> cases z'
  refine wpAny_loadName_local S.kind XS.kA hm0 hself ?_
  obtain ⟨oD, hD1, hD2⟩ : ∃ oD, h1.get? C = some oD ∧ oD.data = .cls cd := by
    have q := hcls
    unfold PySem.W.clsIn at q
    split at q
    · rename_i ho
      cases q
      exact ⟨_, KX1 _ _ ho, rfl⟩
    · cases q
  obtain ⟨t1, hx⟩ := exo_at I0.hok ha
  refine PySem.ks_wpAny_isType_cls hD1 hD2 ⟨rfl, ?_⟩
  refine PySem.ks_wpAny_call_super hD1 hD2 hx rfl (fun c e => by cases e) (PySem.W.looks_mroIn KX1 XS.sub) (fun h2 hso k2 => ?_)
  -- the super object at L2
  have I1 : Inv (ncx CX P w K mg base N F f A outer s H E) [] (startF N vs [some (.ref C)]) H { s with heap := h2, toks := s.toks + (ps.zip us).length } := I0.kept (h' := h2) (t' := s.toks + (ps.zip us).length) k2
  have KX2 : K.In h2 := fun b o q => k2 _ _ (KX1 _ _ q)
  have IA : PySem.W.InstAt h2 a (PySem.W.excObj C t1 none .none) C none := ⟨k2 _ _ hx, rfl, rfl, trivial⟩
  have hmro : PySem.W.Looks (model P w) h2 (mroOf (.ref C)) cd.mro := (PySem.W.looks_clsIn KX2 hcls).andThen .now
  have hup : PySem.W.alongIn K "__init__" ((cd.mro.dropWhile (· != .ref C)).drop 1) = some (some (.builtin iI)) := by
    have q := XS.up
    unfold PySem.W.ks_superIn at q
    rw [hcls] at q
    exact q
  refine PySem.W.kxs_getMethod XB.kf hso (PySem.W.looks_opaque KX2 XS.opq) hmro rfl KX2 hup (IA.type.andThen (PySem.W.looks_subIn KX2 XS.isB)) (PySem.W.ks_ne KX2 IA hcls) (by decide) ?_
  -- the method-wrapper at u
  have ku : ∀ b o, h2.get? b = some o → (h2.push (PySem.W.kxs_mw iI a)).get? b = some o := fun b o e => Heap.get?_push_of_some _ e
  have hu : (h2.push (PySem.W.kxs_mw iI a)).get? h2.objs.size = some (PySem.W.kxs_mw iI a) := Heap.get?_push_at rfl rfl
  have I2 : Inv (ncx CX P w K mg base N F f A outer s H E) [] (startF N vs [some (.ref C)]) H { s with heap := h2.push (PySem.W.kxs_mw iI a), toks := s.toks + (ps.zip us).length + 1 } := I1.kept (h' := h2.push (PySem.W.kxs_mw iI a)) (t' := s.toks + (ps.zip us).length + 1) ku
  have I3 : Inv (ncx CX P w K mg base N F f A outer s H E) [(h2.objs.size, PySem.W.kxs_mw iI a)] (startF N vs [some (.ref C)]) H { s with heap := h2.push (PySem.W.kxs_mw iI a), toks := s.toks + (ps.zip us).length + 1 } :=
    I2.pins_of fun q hq' => by
      have q1 : q = (h2.objs.size, PySem.W.kxs_mw iI a) := by simpa using hq'
      subst q1
      refine ⟨hu, I1.hok.fresh (Nat.le_refl _), Nat.ne_of_gt I1.lt, I1.nofs (Nat.le_refl _), fun v z => by cases z⟩
  show wpAny (model P w) (ncx CX P w K mg base N F f A outer s H E).A (callWith p3 (.ref h2.objs.size) [] (backTo p3 (starEach [msg] (envF F f s.heap.objs.size))) []) _ _ _
  rw [hms]
  refine PySem.W.kxs_callWith (i := iI) (x := a) (u := h2.objs.size) rfl (Calls.evalArgs_plain ?_)
  show wpAny _ _ (spliced ((false, eval msg (envF F f s.heap.objs.size)) :: backTo p3 [])) _ _ _
  refine Calls.spliced_cons (thn (hte.run _ _ _ _ _ I3 hq) fun uv s3 ⟨v, H1, I4, rv, ea, q4⟩ => Calls.spliced_nil ?_)
  have hu3 : s3.heap.get? h2.objs.size = some (PySem.W.kxs_mw iI a) := (I4.pin (h2.objs.size, PySem.W.kxs_mw iI a) (List.mem_append_right _ List.mem_cons_self)).1
  obtain ⟨t3, hx3⟩ := exo_at I4.hok ea
  refine ⟨hu3, mw_call XB I4.kIn XC.ci hu3 hx3 (by rw [sizeLine_eq]; show 1 ≤ 16777216; decide) fun h4 t4 k4 hx4 => ?_⟩
  -- behind super().__init__
  have J := (I4.pins_of (pins' := []) fun q hq' => by cases hq').write (h' := h4) (t' := s3.toks) (x := a) (e := a) (o := exo a C none) (by rw [ea]; exact True.intro) (.inl rfl) k4 ⟨_, hx4⟩ (exo_ok hx4)
  rw [upd_self ea] at J
  refine PySem.wpAt_of_wpAny (wpAny_mono (ht.run [] _ _ H1 _ J q4) (fun fl s5 hs => ?_) fun e s5 hs => hs)
  have done : ∀ {σ5 : St} {H5 : Hp} {v5 : V} {u5 : Value}, Inv (ncx CX P w K mg base N F f A outer s H E) [] σ5 H5 s5 → RelV v5 u5 → Q v5 H5 → CE outer P w H s Q u5 s5 := fun {σ5 H5 v5 u5} J5 r5 q5 => ⟨v5, H5, J5.os, J5.bare, J5.base, J5.hok, r5, q5⟩
  cases fl with
  | ret u5 =>
    obtain ⟨v5, σ5, H5, J5, r5, q5⟩ := hs
    exact done J5 r5 q5
  | next =>
    obtain ⟨σ5, H5, J5, q5⟩ := hs
    exact done (v5 := V.non) (u5 := Value.none) J5 rfl q5
  | brk =>
    obtain ⟨_, _, _, q5⟩ := hs
    exact False.elim q5
  | cont =>
    obtain ⟨_, _, _, q5⟩ := hs
    exact False.elim q5
end
end L2


set_option Elab.async false
set_option linter.all false
set_option maxRecDepth 100000
set_option maxHeartbeats 4000000
namespace L2
open PySem PySem.Spec PyProof.Rows NdefX

/-! ### self.f = y on an error that is being made, whatever its base -/
section
open Builtin Builtin.ObjectAttr
variable {prog : Program} {w : World} {A : Around} {R : Result → Shared → Prop} {hp : Heap} {g : Array GenState} {dr : Drawn} {t : Nat} {os : OsState} {K : PySem.W.Frag} {B nI iI : String} {bB : List Value} {x C : Addr} {name : Str} {tk : Tok} {y : Value} {fv : Array Value}
theorem x_taker (hno : PySem.W.findIn K (.ref C) name = some none) : PySem.W.takerIn K C name = some none := by
  unfold PySem.W.takerIn
  rw [hno]
  rfl
theorem x_osa_new (XB : XBase B nI iI bB) (XC : XCls K C nI bB) (KX : K.In hp) (hx : hp.get? x = some { cls := .ref C, data := .fields fv }) (hno : PySem.W.findIn K (.ref C) name = some none)
    (fin : ∀ h2 t2 dx, (∀ b o, b ≠ x → hp.get? b = some o → h2.get? b = some o) → hp.objs.size ≤ dx → dx ≠ x → h2.get? x = some { cls := .ref C, dict := some dx, data := .fields fv } → h2.Ns1 dx (fun z => if z = name then some y else none) → R (.ok (.ret .none)) ⟨h2, g, dr, t2, os⟩) :
    codeAny (model prog w) A (.call (.builtin "object.__setattr__") ⟨[.ref x, .str name tk, y], []⟩) R ⟨hp, g, dr, t, os⟩ := by
  obtain ⟨cd, hc, hh⟩ := PySem.W.any_some XC.hd
  have xs : x ≠ hp.objs.size := Nat.ne_of_lt (Heap.lt_size hx)
  have look : PySem.W.Looks (model prog w) hp (classData C) cd := PySem.W.looks_clsIn KX hc
  refine PySem.W.osa_openX (od := none) XB.sf KX ⟨hx, rfl, rfl, trivial⟩ XC.ov (x_taker hno) fun b => ?_
  obtain ⟨n1, n2, n3, n4, n5, n6, n7, n8, n9, n10, n11⟩ := cd
  dsimp only at hh
  subst hh
  unfold storeInOwnDict ownDictForStores
  repeat (first | with_reducible refine HandSPX.store_in_new ?_ ?_ | with_reducible refine wpAny_loadPart_at hx ?_ | with_reducible refine look.at ?_ | wp_step)
  · exact ⟨_, #[], _, (Heap.get?_update_ne _ _ _ _ xs.symm).trans (Heap.get?_push_at rfl rfl), rfl, fun e he => absurd he (by simp), fun _ => rfl⟩
  · intro h2 t2 hn2 hs2
    have hx2 : (hp.push { cls := .type "dict", data := .dict #[] }).get? x = some { cls := .ref C, data := .fields fv } := Heap.get?_push_of_some _ hx
    refine fin h2 t2 hp.objs.size (fun b o hb ho => ?_) (Nat.le_refl _) xs.symm ?_ hn2
    · have e1 := Heap.get?_push_of_some { cls := .type "dict", data := .dict #[] } ho
      exact (hs2.2 b (Nat.ne_of_lt (Heap.lt_size ho))).trans ((Heap.get?_update_ne _ _ _ _ hb).trans e1)
    · have e2 := Heap.get?_update_self (fun o : Obj => { o with dict := some hp.objs.size }) hx2 rfl
      exact (hs2.2 x xs).trans e2
theorem x_osa_old {dx : Addr} {m0 : Str → Option Value} {nl : List Str} (XB : XBase B nI iI bB) (XC : XCls K C nI bB) (KX : K.In hp) (hx : hp.get? x = some { cls := .ref C, dict := some dx, data := .fields fv }) (hns : hp.Ns1 dx m0) (hw : Within m0 nl) (hz : nl.length ≤ 1000)
    (hno : PySem.W.findIn K (.ref C) name = some none)
    (fin : ∀ h2 t2, (∀ b o, b ≠ dx → hp.get? b = some o → h2.get? b = some o) → h2.Ns1 dx (fun z => if z = name then some y else m0 z) → R (.ok (.ret .none)) ⟨h2, g, dr, t2, os⟩) :
    codeAny (model prog w) A (.call (.builtin "object.__setattr__") ⟨[.ref x, .str name tk, y], []⟩) R ⟨hp, g, dr, t, os⟩ := by
  obtain ⟨oD, es1, ep1, hoD, hdD, _⟩ := hns.count hw
  obtain ⟨cd, hc, hh⟩ := PySem.W.any_some XC.hd
  have look : PySem.W.Looks (model prog w) hp (classData C) cd := PySem.W.looks_clsIn KX hc
  refine PySem.W.osa_openX (od := some oD) XB.sf KX ⟨hx, rfl, rfl, hoD⟩ XC.ov (x_taker hno) fun b => ?_
  obtain ⟨n1, n2, n3, n4, n5, n6, n7, n8, n9, n10, n11⟩ := cd
  dsimp only at hh
  subst hh
  unfold storeInOwnDict ownDictForStores
  repeat (first | with_reducible refine OEX.store_in_old hns hw hz ?_ | with_reducible refine wpAny_loadPart_at hx ?_ | with_reducible refine look.at ?_ | wp_step)
  intro h2 t2 hn2 hs2
  exact fin h2 t2 (fun b o hb ho => (hs2.2 b hb).trans ho) hn2
end

section
variable {X : Cx} {pins : List (Addr × Obj)} {σ : St} {H : Hp} {s : Shared} {a C dx : Addr} {f : Str} {y : V} {u : Value} {fs : List (Str × V)} {Q : Unit → Shared → Prop} {E : Value → Shared → Prop} {A : Around} {B nI iI : String} {bB : List Value}
theorem xst_new (XB : XBase B nI iI bB) (XC : XCls X.K C nI bB) (I : Inv X pins σ H s) (ea : H a = some (exo a C none)) (hno : PySem.W.findIn X.K (.ref C) f = some none) (ry : RelV y u)
    (next : ∀ dx s2, H dx = none → dx ≠ a → Inv X pins σ (upd (upd H dx (exd dx [(f, y)])) a (exo a C (some dx))) s2 → Q () s2) : wpAny (model X.prog X.w) A (setAttr (.ref a) f u) Q E s := by
  obtain ⟨t1, ho⟩ := exo_at I.hok ea
  obtain ⟨hp, g, d, t, os⟩ := s
  refine PySem.W.set_plain I.kIn (od := none) ⟨ho, rfl, rfl, trivial⟩ XC.sa (x_osa_new XB XC I.kIn ho hno fun h2 t2 dx kp dn dne hx hn => ?_)
  have fr : H dx = none := I.hok.fresh dn
  have nd : ∀ {b : Addr} {o : Obj}, hp.get? b = some o → b ≠ dx := fun {b o} q z => Nat.lt_irrefl _ (Nat.lt_of_lt_of_le (z ▸ Heap.lt_size q) dn)
  have na : ∀ {b : Addr}, H b = none → b ≠ a := fun {b} n z => by
    rw [z, ea] at n
    cases n
  have low : ∀ {b : Addr} {o : HO}, H b = some o → b ≠ dx := fun {b o} q => ne_of_none q fr
  have U : Un X.fs [] H (upd (upd H dx (exd dx [(f, y)])) a (exo a C (some dx))) hp h2 :=
    ⟨fun b o q n _ _ => kp b o (na n) q, fun b o q n _ _ => ⟨o.slots, kp b o (na n) q⟩, fun b o q n _ => by rw [upd_ne (na n), upd_ne (nd q), n],
      fun b o q _ => (Classical.em (b = a)).elim (fun e => by subst e; exact ⟨_, hx⟩) fun e => ⟨o, kp b o e q⟩, fun b xs q => by rw [upd_ne (at_ne ea q exo_tup), upd_ne (low q), q],
      fun b o v q => by rw [upd_ne (at_ne ea q exo_frz), upd_ne (low q), q], fun b ps q => ⟨#[], by rw [upd_ne (at_ne ea q exo_tbl), upd_ne (low q), q, Array.append_empty]⟩⟩
  refine next dx _ fr dne (I.un (t' := t2) U fun b o q => ?_)
  by_cases hb : b = a
  · subst hb
    rw [upd_same] at q
    obtain rfl := Option.some.inj q
    exact exo_ok hx
  rw [upd_ne hb] at q
  by_cases hd : b = dx
  · subst hd
    rw [upd_same] at q
    obtain rfl := Option.some.inj q
    exact exd_ok hn (relO_put (fs := []) ry fun _ => True.intro)
  rw [upd_ne hd] at q
  refine (I.hok b o q).stay (fun c v hc z => kp c v ?_ z) (fun c hc => ?_) fun c xs hc => ?_
  · rcases hc with hc | hc
    · rw [hc]
      exact hb
    · exact at_ne ea hc exo_own
  · rw [upd_ne (at_ne ea hc exo_own), upd_ne (low hc), hc]
  · rw [upd_ne (at_ne ea hc exo_tup), upd_ne (low hc), hc]
theorem xst_old (XB : XBase B nI iI bB) (XC : XCls X.K C nI bB) (I : Inv X pins σ H s) (ea : H a = some (exo a C (some dx))) (ed : H dx = some (exd dx fs)) (hl : fs.length ≤ 900) (hno : PySem.W.findIn X.K (.ref C) f = some none) (ry : RelV y u)
    (next : ∀ s2, Inv X pins σ (upd H dx (exd dx ((f, y) :: fs))) s2 → Q () s2) : wpAny (model X.prog X.w) A (setAttr (.ref a) f u) Q E s := by
  obtain ⟨t1, ho⟩ := exo_at I.hok ea
  obtain ⟨mA, hns, rel⟩ := exd_at I.hok ed
  have hw := within_of rel
  obtain ⟨hp, g, d, t, os⟩ := s
  obtain ⟨oD, _, _, hoD, _, _⟩ := hns.count hw
  refine PySem.W.set_plain I.kIn (od := some oD) ⟨ho, rfl, rfl, hoD⟩ XC.sa (x_osa_old XB XC I.kIn ho hns hw (by rw [List.length_map]; omega) hno fun h2 t2 kp hn => ?_)
  have there : ∃ o, h2.get? dx = some o := by
    obtain ⟨o, _, _, e2, _⟩ := hn
    exact ⟨o, e2⟩
  exact next _ (I.write (t' := t2) (x := dx) (e := dx) (o := exd dx ((f, y) :: fs)) (by rw [ed]; exact True.intro) (.inl rfl) kp there (exd_ok hn (relO_put ry rel)))
end

/-- self.f = e -/
def tXst (K : PySem.W.Frag) (C : Addr) (f : Str) (to te : TE) : TS := fun D σ H => te σ H fun y H1 => to σ H1 fun x H2 => ∃ a : Addr, x = .ref a ∧ PySem.W.findIn K (.ref C) f = some none ∧
  ((H2 a = some (exo a C none) ∧ ∀ dx, H2 dx = none → dx ≠ a → D.nx σ (upd (upd H2 dx (exd dx [(f, y)])) a (exo a C (some dx)))) ∨
    ∃ (dx : Addr) (fs : List (Str × V)), H2 a = some (exo a C (some dx)) ∧ H2 dx = some (exd dx fs) ∧ fs.length ≤ 900 ∧ D.nx σ (upd H2 dx (exd dx ((f, y) :: fs))))
theorem ps_xst {X : Cx} {o e : Expr} {to te : TE} {f : Str} {p' pos : Pos} {C : Addr} {B nI iI : String} {bB : List Value} (XB : XBase B nI iI bB) (XC : XCls X.K C nI bB) (ho : PE X o to) (he : PE X e te)
    (hs : swapsWith e (some (.Attribute o f p')) pos.line X.env = pure false := by rfl) : PS X (.Assign [.Attribute o f p'] e pos) (tXst X.K C f to te) := by
  refine ⟨fun pins s σ H D I h => plainObj_wpAny_Assign_Attribute (thn (he.run pins s σ H _ I h) fun v s1 ⟨y, H1, I1, r1, q1⟩ => thn (ho.run pins s1 σ H1 _ I1 q1) fun u s2 ⟨x, H2, I2, r2, a, ex, hno, q⟩ => ?_) hs⟩
  subst ex
  obtain rfl : u = Value.ref a := r2
  rcases q with ⟨ea, q⟩ | ⟨dx, fs, ea, ed, hl, q⟩
  · exact xst_new XB XC I2 ea hno r1 fun dx s3 n ne J => ⟨σ, _, J, q dx n ne⟩
  · exact xst_old XB XC I2 ea ed hl hno r1 fun s3 J => ⟨σ, _, J, q⟩
end L2


set_option Elab.async false
set_option linter.all false
set_option maxRecDepth 100000
set_option maxHeartbeats 4000000
namespace L2
open PySem PySem.Spec PyProof.Rows NdefX

/-! ### errors made: as values, to be raised -/
section
variable {X : Cx} {x : Str} {C fI : Addr} {p pos : Pos} {e : Expr} {es : List Expr} {ta : TA} {B nI iI : String} {bB : List Value} {CX : CXT} {k : Nat} {fd : FuncData} {ps : List Str} {sp : Sp} {ds : List Value} {dvs : List V}
/-- the call of a class without own __init__, with nothing -/
theorem x_call0 {pins : List (Addr × Obj)} {σ : St} {H : Hp} {s : Shared} {Q : Value → Shared → Prop} {E : Value → Shared → Prop} {A : Around} (XB : XBase B nI iI bB) (XC : XCls X.K C nI bB) (hi : PySem.W.findIn X.K (.ref C) "__init__" = some (some (.builtin iI))) (I : Inv X pins σ H s)
    (next : ∀ a h2, (∀ b o, s.heap.get? b = some o → h2.get? b = some o) → s.heap.objs.size ≤ a → h2.get? a = some (PySem.W.excObj C (a + 1) none .none) → Q (.ref a) { s with heap := h2 }) : wpAny (model X.prog X.w) A (call (.ref C) []) Q E s := by
  obtain ⟨nm, N1, qn, bs, bm, hdct, sn, sub, ab, col, dd, k0, k1, k2, k3, k5, hC, hT⟩ := PySem.W.excInit_of I.kIn XC.ci
  have look := PySem.W.looks_findIn (M := model X.prog X.w) I.kIn hi
  obtain ⟨hp, g, dr, tk, os⟩ := s
  exact PySem.W.call_B XB.fb hT hC look (Nat.zero_le _) fun h2 kp e1 _ => next _ h2 kp (Nat.le_succ _) e1
/-- C() -/
def tX0 (C : Addr) : TE := fun _ H Q => ∀ a, H a = none → Q (.ref a) (upd H a (exo a C none))
theorem pe_x0 (XB : XBase B nI iI bB) (XC : XCls X.K C nI bB) (hi : PySem.W.findIn X.K (.ref C) "__init__" = some (some (.builtin iI))) (hg : Gl X x) (hm : X.mg x = some (.ref C)) (hdb : (x == ("__debug__" : Str)) = false := by decide) :
    PE X (.Call (.Name x p) [] [] pos) (tX0 C) := by
  refine ⟨fun pins s σ H Q I h => wpAny_Call_Name_kw (ld_glob I hg hm ?_ hdb)⟩
  refine PySem.W.callWith_K0 I.kIn XC.kp (x_call0 XB XC hi I fun a h2 kp na e2 => ?_)
  exact ⟨.ref a, upd H a (exo a C none), I.laid (t' := s.toks) (a := a) (o := exo a C none) kp na (exo_ok e2), rfl, h a (I.hok.fresh na)⟩
/-- raise C() -/
theorem pmk_x0 (XB : XBase B nI iI bB) (XC : XCls X.K C nI bB) (hi : PySem.W.findIn X.K (.ref C) "__init__" = some (some (.builtin iI))) (hg : Gl X x) (hm : X.mg x = some (.ref C)) (hdb : (x == ("__debug__" : Str)) = false := by decide) :
    PMk X (.Call (.Name x p) [] [] pos) (fun _ H Q => Q (.ref C) none H) := by
  intro pins s σ H Q I h
  refine wpAny_Call_Name_kw (ld_glob I hg hm ?_ hdb)
  refine PySem.W.callWith_K0 I.kIn XC.kp (x_call0 XB XC hi I fun a h2 kp na e2 => ?_)
  exact ⟨a, _, _, s, H, .ref C, none, rfl, I, kp, Heap.get?_none_of_le na, e2, ⟨rfl, rfl⟩, rfl, rfl, I.hok.fresh na, rfl, I.bare, raises_own XC.eb XC.ty, h⟩

/-- the call of a class with an __init__ of its own -/
theorem x_call {pins : List (Addr × Obj)} {σ : St} {H1 : Hp} {s : Shared} {us : List Value} {vs : List V} {Q : Value → Shared → Prop} (XB : XBase B nI iI bB) (XC : XCls X.K C nI bB) (iC : PySem.W.findIn X.K (.ref C) "__init__" = some (some (.ref fI))) (tI : PySem.W.typeIn X.K (.ref fI) = some (.type "function"))
    (F1 : FnOk X.prog X.w X.K X.mg X.base CX k fI fd ps sp) (hr : Room (k + 1) X.A) (hb : Binds X.K fd ps ds) (hd : Vals dvs ds) (hx : Passes CX X (fun _ _ _ => False)) (I : Inv X pins σ H1 s) (r : Vals vs us) (hz : vs.length ≤ 1000) {R : V → Hp → Prop} {a : Addr} (ea : a = s.heap.objs.size + 1)
    (q : sp (.ref a :: (vs ++ dvs)) (upd H1 a (exo a C none)) R (fun _ _ _ => False))
    (next : ∀ s1 s2 H2 v, (∀ b o, s.heap.get? b = some o → s1.heap.get? b = some o) → s1.os = s.os → s1.gens = s.gens → Inv X pins σ (upd H1 a (exo a C none)) s1 → Un (frs X.stack) [] (upd H1 a (exo a C none)) H2 s1.heap s2.heap → HOk X.prog X.w H2 s2.heap → s2.os = s1.os → AllBare s2.gens → R v H2 → v = .non → Q (.ref a) s2)
    (hnon : ∀ v H2, R v H2 → v = .non) : wpAny (model X.prog X.w) X.A (call (.ref C) us) Q X.xe s := by
  obtain ⟨nm, N1, qn, bs, bm, hdct, sn, sub, ab, col, dd, k0, k1, k2, k3, k5, hC, hT⟩ := PySem.W.excInit_of I.kIn XC.ci
  obtain ⟨hp, g, dr, tk, os⟩ := s
  subst ea
  have up : hp.objs.size ≤ hp.objs.size + 1 := Nat.le_succ _
  have kk : ∀ b o, hp.get? b = some o → ((hp.push (PySem.W.kdv_tup us)).push (HandSPX.excO C hp.objs.size)).get? b = some o := fun b o e => Heap.get?_push_of_some _ (Heap.get?_push_of_some _ e)
  have hget : ((hp.push (PySem.W.kdv_tup us)).push (HandSPX.excO C hp.objs.size)).get? (hp.objs.size + 1) = some (HandSPX.excO C hp.objs.size) := by heap_get
  have J : Inv X pins σ (upd H1 (hp.objs.size + 1) (exo (hp.objs.size + 1) C none)) ⟨(hp.push (PySem.W.kdv_tup us)).push (HandSPX.excO C hp.objs.size), g, dr, tk, os⟩ := I.laid (t' := tk) kk up (exo_ok hget)
  have rr : Vals (V.ref (hp.objs.size + 1) :: (vs ++ dvs)) (Value.ref (hp.objs.size + 1) :: (us ++ ds)) := .cons rfl (r.append hd)
  have len : (Value.ref (hp.objs.size + 1) :: us ++ ds).length = ps.length := (rr.length.symm.trans (F1.len _ _ _ _ q))
  have lus : us.length ≤ sizeLine := by
    have z := r.length
    rw [sizeLine_eq]
    omega
  refine wpAny_call (HandSPX.call_own XB.fb hT hC (PySem.W.looks_findIn I.kIn iC) (fun self => PySem.W.bind_fn I.kIn self tI) lus
    (codeAny_mono (F1.run _ X.stack _ _ ⟨Value.ref (hp.objs.size + 1) :: us, []⟩ (Value.ref (hp.objs.size + 1) :: (us ++ ds)) _ _ (fun _ _ _ => False) (hr.make C us []) (J.env0.make C us []) (hb _ (Value.ref (hp.objs.size + 1) :: us) J.kIn len) rr q) fun res s2 z => ?_))
  cases res with
  | error er => exact hx pins σ _ _ er s2 J z
  | ok fl =>
    cases fl with
    | ret u =>
      obtain ⟨v, H2, os2, bare2, un2, hok2, rv, qv⟩ := z
      have ev := hnon v H2 qv
      have eu : u = Value.none := by
        rw [ev] at rv
        exact rv
      exact ⟨eu, next ⟨(hp.push (PySem.W.kdv_tup us)).push (HandSPX.excO C hp.objs.size), g, dr, tk, os⟩ s2 H2 v kk rfl rfl J un2 hok2 os2 bare2 qv ev⟩
    | next => exact False.elim z
    | brk => exact False.elim z
    | cont => exact False.elim z
/-- C(e, ..) as a value -/
def tXv (C : Addr) (sp : Sp) (dvs : List V) (ta : TA) : TE := fun σ H Q => ta σ H fun vs H1 => vs.length ≤ 1000 ∧ ∀ a, H1 a = none → sp (.ref a :: (vs ++ dvs)) (upd H1 a (exo a C none)) (fun v H2 => v = .non ∧ Q (.ref a) H2) (fun _ _ _ => False)
theorem pe_xv (XB : XBase B nI iI bB) (XC : XCls X.K C nI bB) (iC : PySem.W.findIn X.K (.ref C) "__init__" = some (some (.ref fI))) (tI : PySem.W.typeIn X.K (.ref fI) = some (.type "function")) (F1 : FnOk X.prog X.w X.K X.mg X.base CX k fI fd ps sp) (hr : Room (k + 1) X.A) (hb : Binds X.K fd ps ds) (hd : Vals dvs ds)
    (hx : Passes CX X (fun _ _ _ => False)) (hg : Gl X x) (hm : X.mg x = some (.ref C)) (ha : PA X (e :: es) ta) (hdb : (x == ("__debug__" : Str)) = false := by decide) (he : starEach (e :: es) X.env = (false, eval e X.env) :: starEach es X.env := by rfl)
    (hpl : (backTo pos (starEach es X.env)).any (·.1) = false := by rfl) : PE X (.Call (.Name x p) (e :: es) [] pos) (tXv C sp dvs ta) := by
  refine ⟨fun pins s σ H Q I h => wpAny_Call_Name_kw (ld_glob I hg hm ?_ hdb)⟩
  refine PySem.W.callWith_K (h₀ := X.base) I.ok.mod.kin XC.kp (thn (ha.run pos pins s σ H _ I h) fun us s1 ⟨vs, H1, I1, r1, hz, q1⟩ => ⟨I1.kIn, ?_⟩) he hpl
  exact x_call XB XC iC tI F1 hr hb hd hx I1 r1 hz rfl (q1 _ (I1.hok.fresh (Nat.le_succ _))) (fun s2 s3 H2 v kk os2 g2 J un hok ho ag qv ev => ⟨.ref _, H2, J.call' (ch := []) ho un hok ag (fun b z => absurd z (by simp)), rfl, qv.2⟩) fun v H2 z => z.1
/-- raise C(e, ..) -/
theorem pmk_x (XB : XBase B nI iI bB) (XC : XCls X.K C nI bB) (iC : PySem.W.findIn X.K (.ref C) "__init__" = some (some (.ref fI))) (tI : PySem.W.typeIn X.K (.ref fI) = some (.type "function")) (F1 : FnOk X.prog X.w X.K X.mg X.base CX k fI fd ps sp) (hr : Room (k + 1) X.A) (hb : Binds X.K fd ps ds) (hd : Vals dvs ds)
    (hx : Passes CX X (fun _ _ _ => False)) (hg : Gl X x) (hm : X.mg x = some (.ref C)) (ha : PA X (e :: es) ta) (hdb : (x == ("__debug__" : Str)) = false := by decide) (he : starEach (e :: es) X.env = (false, eval e X.env) :: starEach es X.env := by rfl)
    (hpl : (backTo pos (starEach es X.env)).any (·.1) = false := by rfl) : PMk X (.Call (.Name x p) (e :: es) [] pos) (tMkO C sp dvs ta) := by
  intro pins s σ H Q I h
  refine wpAny_Call_Name_kw (ld_glob I hg hm ?_ hdb)
  refine PySem.W.callWith_K (h₀ := X.base) I.ok.mod.kin XC.kp (thn (ha.run pos pins s σ H _ I h) fun us s1 ⟨vs, H1, I1, r1, hz, q1⟩ => ⟨I1.kIn, ?_⟩) he hpl
  obtain ⟨hp, g, dr, tk, os⟩ := s1
  refine x_call XB XC iC tI F1 hr hb hd hx I1 r1 hz rfl (q1 _ (I1.hok.fresh (Nat.le_succ _))) (fun s2 s3 H2 v kk os2 g2 J un hok ho ag qv ev => ?_) fun v H2 z => z.1
  obtain ⟨_, d, fs, ea, ed, hd1, q2⟩ := qv
  obtain ⟨h2, ga, da, tka, osa⟩ := s2
  obtain ⟨h3, gb, db, tkb, osb⟩ := s3
  exact mk_end (raises_own XC.eb XC.ty) I1 (Nat.le_succ _) kk un hok (ho.trans os2) ag ea ed hd1 q2
end
end L2


set_option Elab.async false
set_option linter.all false
set_option maxRecDepth 100000
set_option maxHeartbeats 4000000
/-! words for all laws: a def's promise in one hand, the draws' source -/
namespace L2
open PySem PySem.Spec PyProof.Rows

/-- the module's name x is a def that keeps sp -/
structure Cal (P : Program) (w : World) (K : PySem.W.Frag) (mg : Str → Option Value) (base : Heap) (k : Nat) (x : Str) (ps : List Str) (sp : Sp) : Prop where
  ex : ∃ f fd, mg x = some (.ref f) ∧ PySem.W.keepIn K (.ref f) = true ∧ Binds K fd ps [] ∧ FnOk P w K mg base (L2.CX P w) k f fd ps sp
theorem FnOk.toX {P : Program} {w : World} {K : PySem.W.Frag} {mg : Str → Option Value} {base : Heap} {CX : CXT} {k : Nat} {f : Addr} {fd : FuncData} {ps : List Str} {sp : Sp} (o : FnOk P w K mg base CX0 k f fd ps sp) : FnOk P w K mg base CX k f fd ps sp :=
  ⟨o.len, fun A outer s H args us vs Q E hr e0 hb hv hs => codeAny_mono (o.run A outer s H args us vs Q E hr e0 hb hv hs) fun r s2 z => by
    cases r with
    | error e => exact False.elim z
    | ok fl => cases fl <;> exact z⟩
section
variable {X : Cx} {k : Nat} {x : Str} {ps : List Str} {sp : Sp} {E : XK} {e : Expr} {es : List Expr} {t : TA} {p pos : Pos}
/-- f(e, ..), nothing raised -/
theorem pe_cal (c : Cal X.prog X.w X.K X.mg X.base k x ps sp) (hr : Room k X.A) (hg : Gl X x) (ha : PA X (e :: es) t) (hdb : (x == ("__debug__" : Str)) = false := by decide)
    (he : starEach (e :: es) X.env = (false, eval e X.env) :: starEach es X.env := by rfl) (hpl : (backTo pos (starEach es X.env)).any (·.1) = false := by rfl) : PE X (.Call (.Name x p) (e :: es) [] pos) (tCall sp [] E0 t) := by
  obtain ⟨f, fd, hm, hk, hb, G⟩ := c.ex
  exact pe_call G hr hg hm hk hb .nil passL ha hdb he hpl
theorem pe_cal0 (c : Cal X.prog X.w X.K X.mg X.base k x ps sp) (hr : Room k X.A) (hg : Gl X x) (hdb : (x == ("__debug__" : Str)) = false := by decide) : PE X (.Call (.Name x p) [] [] pos) (tCall sp [] E0 tNil) := by
  obtain ⟨f, fd, hm, hk, hb, G⟩ := c.ex
  exact pe_call0 G hr hg hm hk hb .nil passL hdb
/-- .. what it raises goes on -/
theorem pe_calE (c : Cal X.prog X.w X.K X.mg X.base k x ps sp) (hr : Room k X.A) (hg : Gl X x) (hx : Passes (L2.CX X.prog X.w) X E) (ha : PA X (e :: es) t) (hdb : (x == ("__debug__" : Str)) = false := by decide)
    (he : starEach (e :: es) X.env = (false, eval e X.env) :: starEach es X.env := by rfl) (hpl : (backTo pos (starEach es X.env)).any (·.1) = false := by rfl) : PE X (.Call (.Name x p) (e :: es) [] pos) (tCall sp [] E t) := by
  obtain ⟨f, fd, hm, hk, hb, G⟩ := c.ex
  exact pe_call G hr hg hm hk hb .nil hx ha hdb he hpl
/-- .. in a try -/
theorem pe_calT {W : WX} (c : Cal X.prog X.w X.K X.mg X.base k x ps sp) (hr : Room k X.A) (hg : Gl X x) (tk : Takes X W) (ha : PA X (e :: es) t) (hdb : (x == ("__debug__" : Str)) = false := by decide)
    (he : starEach (e :: es) X.env = (false, eval e X.env) :: starEach es X.env := by rfl) (hpl : (backTo pos (starEach es X.env)).any (·.1) = false := by rfl) : PE X (.Call (.Name x p) (e :: es) [] pos) (tCallS sp (WE W) t) := by
  obtain ⟨f, fd, hm, hk, hb, G⟩ := c.ex
  exact pe_callS G hr hg hm hk hb (fun σ => passAt tk σ) ha hdb he hpl
end

/-! ### rules whose K is told (within a comprehension) -/
theorem call_lenK {X : Cx} (K : PySem.W.Frag) (h : X.K = K := by rfl) : CallR X (.builtin "len") (Evl.rLenS K) := by
  subst h
  exact call_len_seq
theorem call_listK {X : Cx} (K : PySem.W.Frag) (h : X.K = K := by rfl) : CallR X (.type "list") (Evl.rListS K) := by
  subst h
  exact call_list_of

theorem call_tupK {X : Cx} (K : PySem.W.Frag) (h : X.K = K := by rfl) : CallR X (.type "tuple") (fun xs H Q => ∃ p ys, xs = [.ref p] ∧ ((SqL K H p ys ∧ ∀ l, H l = none → Q (.ref l) (upd H l (.tup ys))) ∨ (SqT K H p ys ∧ Q (.ref p) H))) := by
  subst h
  exact call_tuple_of
section
variable {X : Cx} (K : PySem.W.Frag)
theorem ix_listK (h : X.K = K := by rfl) : IxR X (rIxL K) := by
  subst h
  exact ix_list
theorem ix_tupK (h : X.K = K := by rfl) : IxR X (rIxT K) := by
  subst h
  exact ix_tup
theorem sl_listK (h : X.K = K := by rfl) : SlR X (rSlL K) := by
  subst h
  exact sl_list
theorem sl_tupK (h : X.K = K := by rfl) : SlR X (rSlT K) := by
  subst h
  exact sl_tup
theorem op_catTK (h : X.K = K := by rfl) : OpR X (binaryOp .Add) (rCatT K) := by
  subst h
  exact op_catT
theorem op_inK (h : X.K = K := by rfl) : OpR X (compareOp .In) (rIn K false) := by
  subst h
  exact op_in_seq
theorem op_notInK (h : X.K = K := by rfl) : OpR X (compareOp .NotIn) (rIn K true) := by
  subst h
  exact op_notIn_seq
theorem op_inDK (hu : X.A.units + 65 < cLine) (h : X.K = K := by rfl) : OpR X (compareOp .In) (rInD K) := by
  subst h
  exact op_inD hu
theorem op_notInDK (hu : X.A.units + 65 < cLine) (h : X.K = K := by rfl) : OpR X (compareOp .NotIn) (rNotInD K) := by
  subst h
  exact op_notInD hu
theorem op_eqDK (hu : X.A.units + 64 < cLine) (h : X.K = K := by rfl) : OpR X (compareOp .Eq) (rEqD K) := by
  subst h
  exact op_eqD hu
theorem op_neDK (hu : X.A.units + 64 < cLine) (h : X.K = K := by rfl) : OpR X (compareOp .NotEq) (rNeD K) := by
  subst h
  exact op_neD hu
theorem cr_sumK (hc : X.calm = true) (h : X.K = K := by rfl) : CallR X (.builtin "sum") (rSum K) := by
  subst h
  exact cr_sum hc
theorem cr_maxK (hc : X.calm = true) (h : X.K = K := by rfl) : CallR X (.builtin "max") (rMax K) := by
  subst h
  exact cr_max hc
theorem cr_minK (hc : X.calm = true) (h : X.K = K := by rfl) : CallR X (.builtin "min") (rMin K) := by
  subst h
  exact cr_min hc
theorem cr_anyK (hc : X.calm = true) (h : X.K = K := by rfl) : CallR X (.builtin "any") (rAny K) := by
  subst h
  exact cr_any hc
theorem cr_allK (hc : X.calm = true) (h : X.K = K := by rfl) : CallR X (.builtin "all") (rAll K) := by
  subst h
  exact cr_all hc
theorem mt_indexK (h : X.K = K := by rfl) : MtR X "list.index" (rIndex K) := by
  subst h
  exact mt_index
theorem call_isiK' (h : X.K = K := by rfl) : CallR X (.builtin "isinstance") (rIsi K) := by
  subst h
  exact call_isi
end
theorem hu64_of {A : Around} {k : Nat} (hr : Room k A) : A.units + 64 < cLine := by
  have := hr.un
  omega
theorem hu65_of {A : Around} {k : Nat} (hr : Room k A) : A.units + 65 < cLine := by
  have := hr.un
  omega

theorem use_lc {wi : TI} {g : TG} {tt : TT} {te : TE} {vs : List Nat} {σ : St} {H : Hp} {xs : List V} {Q : VK} (h : Evl.EvL (tLc wi g tt te vs) σ H xs) (k : ∀ p H2, H p = none → Evl.Ex H H2 → H2 p = some (.lst xs) → Q (.ref p) H2) : tLc wi g tt te vs σ H Q := h H (Evl.Ex.refl H) Q k
theorem ex_same {H H1 : Hp} (h : Evl.Ex H H1) : Same H H1 := h
theorem et_yes {σ : St} {H : Hp} : Evl.EvT tYes σ H true := fun H3 _ _ q3 => q3 H3 (Evl.Ex.refl H3)
/-- all of a range -/
theorem given_all (n : Nat) (v : Nat → V) : Evl.given n (fun _ => true) v = (List.range n).map v := by
  unfold Evl.given
  rw [List.filter_eq_self.mpr (fun _ _ => rfl)]

/-! ### what stays -/
/-- all that was tracked stands, but at d and L -/
def But (d L : Addr) (H H' : Hp) : Prop := ∀ b o, H b = some o → b ≠ d → b ≠ L → H' b = some o
theorem But.refl {d L : Addr} {H : Hp} : But d L H H := fun _ _ h _ _ => h
theorem But.trans {d L : Addr} {H H1 H2 : Hp} (a : But d L H H1) (b : But d L H1 H2) : But d L H H2 := fun c o h h1 h2 => b c o (a c o h h1 h2) h1 h2
theorem But.of_same {d L : Addr} {H H1 : Hp} (a : Same H H1) : But d L H H1 := fun c o h _ _ => a c o h
theorem But.upd_d {d L : Addr} {H H1 : Hp} {o : HO} (a : But d L H H1) : But d L H (upd H1 d o) := fun c u h h1 h2 => by rw [upd_ne h1]; exact a c u h h1 h2
theorem But.upd_L {d L : Addr} {H H1 : Hp} {o : HO} (a : But d L H H1) : But d L H (upd H1 L o) := fun c u h h1 h2 => by rw [upd_ne h2]; exact a c u h h1 h2
theorem But.new {d L p : Addr} {H H1 : Hp} {o : HO} (a : But d L H H1) (hp : H p = none) : But d L H (upd H1 p o) := fun c u h h1 h2 => by rw [upd_ne (ne_of_none h hp)]; exact a c u h h1 h2
theorem Same.new {H : Hp} {p : Addr} {o : HO} (hp : H p = none) : Same H (upd H p o) := fun c u h => by rw [upd_ne (ne_of_none h hp)]; exact h

/-! ### the draws' source -/
/-- its pairs -/
def srcD (L : Addr) (l m t : Int) : List (Key × V) := [(Sum.inr "cells", .ref L), (Sum.inr "left", .int l), (Sum.inr "mixed", .int m), (Sum.inr "turn", .int t)]
theorem kne {a b : Str} (h : (a == b) = false) : ¬ (Sum.inr a : Key) = Sum.inr b := fun z => by
  have e : a = b := Sum.inr.inj z
  subst e
  simp at h
section
variable {L : Addr} {l m t x : Int}
theorem src_cells : valV (srcD L l m t) (Sum.inr "cells" : Key) = some (.ref L) := valV_pos rfl
theorem src_left : valV (srcD L l m t) (Sum.inr "left" : Key) = some (.int l) := (valV_neg (kne (by decide +kernel))).trans (valV_pos rfl)
theorem src_mixed : valV (srcD L l m t) (Sum.inr "mixed" : Key) = some (.int m) := (valV_neg (kne (by decide +kernel))).trans ((valV_neg (kne (by decide +kernel))).trans (valV_pos rfl))
theorem src_turn : valV (srcD L l m t) (Sum.inr "turn" : Key) = some (.int t) := (valV_neg (kne (by decide +kernel))).trans ((valV_neg (kne (by decide +kernel))).trans ((valV_neg (kne (by decide +kernel))).trans (valV_pos rfl)))
theorem put_left : putK (srcD L l m t) (Sum.inr "left" : Key) (.int x) = srcD L x m t := by
  unfold putK srcD
  rw [if_pos (by simp)]
  simp only [List.map_cons, List.map_nil]
  rw [if_neg (kne (by decide +kernel)), if_pos True.intro, if_neg (kne (by decide +kernel)), if_neg (kne (by decide +kernel))]
theorem put_turn : putK (srcD L l m t) (Sum.inr "turn" : Key) (.int x) = srcD L l m x := by
  unfold putK srcD
  rw [if_pos (by simp)]
  simp only [List.map_cons, List.map_nil]
  rw [if_neg (kne (by decide +kernel)), if_neg (kne (by decide +kernel)), if_neg (kne (by decide +kernel)), if_pos True.intro]
end
theorem merge_src {L : Addr} {l m t : Int} : mergeK [] (srcD L l m t) = srcD L l m t := by
  unfold mergeK srcD
  simp only [List.foldl_cons, List.foldl_nil]
  rw [putK_new (kvs := []) _ rfl, List.nil_append, putK_new _ ((valV_neg (kne (by decide +kernel))).trans rfl)]
  simp only [List.nil_append, List.cons_append]
  rw [putK_new _ ((valV_neg (kne (by decide +kernel))).trans ((valV_neg (kne (by decide +kernel))).trans rfl))]
  simp only [List.nil_append, List.cons_append]
  rw [putK_new _ ((valV_neg (kne (by decide +kernel))).trans ((valV_neg (kne (by decide +kernel))).trans ((valV_neg (kne (by decide +kernel))).trans rfl)))]
  rfl
section
variable {H : Hp} {d L : Addr} {l m t x : Int} (h : H d = some (.dK (srcD L l m t)))
include h
theorem dg_cells : DGet H d (.str "cells") (some (.ref L)) := by rw [← src_cells (L := L) (l := l) (m := m) (t := t)]; exact DGet.k (k := Sum.inr "cells") h
theorem dg_left : DGet H d (.str "left") (some (.int l)) := by rw [← src_left (L := L) (l := l) (m := m) (t := t)]; exact DGet.k (k := Sum.inr "left") h
theorem dg_mixed : DGet H d (.str "mixed") (some (.int m)) := by rw [← src_mixed (L := L) (l := l) (m := m) (t := t)]; exact DGet.k (k := Sum.inr "mixed") h
theorem dg_turn : DGet H d (.str "turn") (some (.int t)) := by rw [← src_turn (L := L) (l := l) (m := m) (t := t)]; exact DGet.k (k := Sum.inr "turn") h
theorem dp_left : DPut H d (.str "left") (.int x) (upd H d (.dK (srcD L x m t))) := by rw [← put_left (L := L) (l := l) (m := m) (t := t)]; exact DPut.k (k := Sum.inr "left") h (by show 4 < sizeLine; decide)
theorem dp_turn : DPut H d (.str "turn") (.int x) (upd H d (.dK (srcD L l m x))) := by rw [← put_turn (L := L) (l := l) (m := m) (t := t)]; exact DPut.k (k := Sum.inr "turn") h (by show 4 < sizeLine; decide)
end
theorem tT {b : Bool} {A B : Prop} (hb : b = true) (h : A) : if b = true then A else B := by rw [if_pos hb]; exact h
theorem tF {b : Bool} {A B : Prop} (hb : b = false) (h : B) : if b = true then A else B := by rw [hb, if_neg Bool.false_ne_true]; exact h
/-- the source at d, its cells at L -/
structure Src (d L : Addr) (H : Hp) : Prop where
  ex : ∃ (cs : List Int) (l m t : Int), H d = some (.dK (srcD L l m t)) ∧ H L = some (.lst (cs.map V.int)) ∧ cs.length ≤ 63
theorem Src.same {d L : Addr} {H H1 : Hp} (S : Src d L H) (h : Same H H1) : Src d L H1 := by
  obtain ⟨cs, l, m, t, h1, h2, h3⟩ := S.ex
  exact ⟨cs, l, m, t, h _ _ h1, h _ _ h2, h3⟩
theorem Src.ne {d L : Addr} {H : Hp} (S : Src d L H) : d ≠ L := by
  obtain ⟨cs, l, m, t, h1, h2, _⟩ := S.ex
  exact ne_of h1 h2 (by intro z; cases z)
theorem Src.d_ne {d L p : Addr} {H : Hp} (S : Src d L H) (hp : H p = none) : d ≠ p ∧ L ≠ p := by
  obtain ⟨cs, l, m, t, h1, h2, _⟩ := S.ex
  exact ⟨ne_of_none h1 hp, ne_of_none h2 hp⟩
/-- _law_pick(source, many): a number below many -/
def spPick : Sp := fun vs H Q _ => ∃ (d L : Addr) (n : Int), vs = [.ref d, .int n] ∧ Src d L H ∧ n ≤ 10000000 ∧ ∀ (r : Int) (H' : Hp), 0 ≤ r → (r < n ∨ r = 0) → Src d L H' → But d L H H' → Q (.int r) H'
/-- _law_source(script) -/
def spSource (K : PySem.W.Frag) : Sp := fun vs H Q _ => ∃ (a : Addr) (ns : List Int), vs = [.ref a] ∧ SqL K H a (ns.map V.int) ∧ ns.length ≤ 63 ∧ ∀ (d L : Addr) (H' : Hp), H d = none → H L = none → Src d L H' → Same H H' → Q (.ref d) H'
end L2


set_option Elab.async false
set_option linter.all false
set_option maxRecDepth 100000
set_option maxHeartbeats 4000000
/-! the errors' own __init__, shape by shape -/
namespace L2
open PySem PySem.Spec PyProof.Rows NdefX

/-- a text of ordinary size and signs -/
def Wee (x : Str) : Prop := x.length ≤ 1000 ∧ ∀ c ∈ x.cps.toList, c < 0x110000
theorem wee_of (s : String) (h : s.length ≤ 1000) : Wee (Str.ofString s) := by
  refine ⟨by rw [PySem.ofString_length]; exact h, fun c hc => ?_⟩
  rw [Str.ofString_eq_toList] at hc
  simp only [List.mem_map] at hc
  obtain ⟨ch, _, rfl⟩ := hc
  have v := ch.valid
  have e : ch.toNat = ch.val.toNat := rfl
  rw [e]
  rcases v with v | ⟨_, v⟩
  · have : ch.val.toNat < 0xd800 := v
    omega
  · have : ch.val.toNat < 0x110000 := v
    omega
theorem Wee.repr {x : Str} (h : Wee x) : (reprText x).length ≤ 10002 := by
  have := PySem.StrLaws.reprText_len x fun c hc => Nat.lt_trans (h.2 c hc) (by decide)
  have := h.1
  omega
theorem wee_app {x y : Str} (hx : Wee x) (hy : Wee y) (hl : x.length + y.length ≤ 1000) : Wee (x ++ y) := by
  refine ⟨by rw [Str.length_append]; exact hl, fun c hc => ?_⟩
  have e : (x ++ y).cps.toList = x.cps.toList ++ y.cps.toList := by
    show (x.cps ++ y.cps).toList = _
    simp
  rw [e] at hc
  rcases List.mem_append.mp hc with hc | hc
  · exact hx.2 c hc
  · exact hy.2 c hc

/-- the parts of a text between braces -/
theorem js_two {t2 : TE} {a : Str} {σ : St} {H : Hp} {Q : Str → Hp → Prop} (ha : a.length ≤ 1000) (h : t2 σ H fun x H1 => ∃ y : Str, x = .str y ∧ y.length ≤ 100000 ∧ Q (Str.empty ++ a ++ y) H1)
    (mono : ∀ (Q Q' : VK), (∀ v H1, Q v H1 → Q' v H1) → t2 σ H Q → t2 σ H Q') : tJs [tC (.str a), t2] Str.empty σ H Q := by
  have e0 : (Str.empty ++ a).length = a.length := by rw [Str.length_append]; exact Nat.zero_add _
  refine ⟨a, rfl, by rw [e0, sizeLine_eq]; omega, mono _ _ (fun v H1 ⟨y, e, hy, q⟩ => ⟨y, e, by rw [Str.length_append, e0, sizeLine_eq]; omega, q⟩) h⟩

section
variable {P : Program} {w : World} {K : PySem.W.Frag} {mg : Str → Option Value} {base : Heap} {C f cc c : Addr} {k : Nat} {B nI iI : String} {bB : List Value} {oc : Value} {od an : Option Addr} {osl : Array (Option Value)} {kV doc pm ct : Value} {qual txt : Str} {pr : Arguments} {p0 p1 p2 p3 p4 p5 p6 p7 p8 q1 q2 q3 q4 : Pos} {j : Nat}

/-! ### self.name = name -/
abbrev scNm : Scope := { kind := .function, names := [(("self" : Str), .local), (("name" : Str), .local), (("__class__" : Str), .free), (("super" : Str), .globalImplicit)], isGenerator := false, isCoroutine := false, more := [] }
abbrev supOf (p0 p1 p2 p3 p4 : Pos) (msg : Expr) : Stmt := .Expr (.Call (.Attribute (.Call (.Name "super" p0) [] [] p1) "__init__" p2) [msg] [] p3) p4
abbrev nfNm (qual : Str) (pr : Arguments) (cc c : Addr) (txt : Str) (j : Nat) (p0 p1 p2 p3 p4 p5 p6 p7 p8 q1 q2 q3 q4 : Pos) : NF :=
  ⟨"__init__", qual, pr, [supOf p0 p1 p2 p3 p4 (.JoinedStr [.Constant (.str txt) j p5, .FormattedValue (.Name "name" p6) 114 none p7] p8), .Assign [.Attribute (.Name "self" q1) "name" q2] (.Name "name" q3) q4], scNm, [(("__class__" : Str), cc)], c⟩
/-- a name that is kept -/
def spNm (C : Addr) : Sp := fun vs H Q _ => ∃ (a : Addr) (x : Str), vs = [.ref a, .str x] ∧ Wee x ∧ H a = some (exo a C none) ∧ ∀ dx, H dx = none → dx ≠ a → Q .non (upd (upd H dx (exd dx [("name", .str x)])) a (exo a C (some dx)))
theorem ok_nm (XB : XBase B nI iI bB) (XC : XCls K C nI bB) (XS : XSup P K mg C f cc B iI (nfNm qual pr cc c txt j p0 p1 p2 p3 p4 p5 p6 p7 p8 q1 q2 q3 q4)) (ht : txt.length ≤ 1000) (hno : PySem.W.findIn K (.ref C) "name" = some none)
    (hcl : SupCall (nfNm qual pr cc c txt j p0 p1 p2 p3 p4 p5 p6 p7 p8 q1 q2 q3 q4) f p0 p1 p2 p3 (.JoinedStr [.Constant (.str txt) j p5, .FormattedValue (.Name "name" p6) 114 none p7] p8))
    (lk : K.lookup f = some ⟨oc, od, .func (PySem.W.fnX "__init__" qual pr (nfNm qual pr cc c txt j p0 p1 p2 p3 p4 p5 p6 p7 p8 q1 q2 q3 q4).body scNm [(("__class__" : Str), cc)] .none kV doc pm an (.ref c) ct), osl⟩) (hcd : PySem.W.codeIn K (.ref c) qual = true) :
    FnOk P w K mg base (L2.CX P w) 1 f (PySem.W.fnX "__init__" qual pr (nfNm qual pr cc c txt j p0 p1 p2 p3 p4 p5 p6 p7 p8 q1 q2 q3 q4).body scNm [(("__class__" : Str), cc)] .none kV doc pm an (.ref c) ct) ["self", "name"] (spNm C) := by
  refine fn_super (N := ["self", "name", "__class__"]) (F := nfNm qual pr cc c txt j p0 p1 p2 p3 p4 p5 p6 p7 p8 q1 q2 q3 q4) (k := 0) XB XC XS lk hcd rfl (fun _ => rfl) (fun _ => rfl) hcl (fun _ => rfl) (by exact nscope_by (by show nscB _ _ _ scNm = true; decide +kernel)) rfl (fun vs H Q E h => ?_) (fun A outer s H vs Q E hr h => ?_)
  · obtain ⟨a, x, rfl, _⟩ := h
    rfl
  obtain ⟨a, x, rfl, hx, ha, q⟩ := h
  refine ⟨_, _, a, pe_joined (PJ.cons pe_str (PJ.cons (pe_fmtR (pv 1)) PJ.nil)), pss_one (ps_xst XB XC (pv 0) (pv 1)), rfl, ha, ?_⟩
  have e0 : (Str.empty ++ txt).length = txt.length := by rw [Str.length_append]; exact Nat.zero_add _
  have r0 := hx.repr
  refine ⟨txt, rfl, by rw [e0, sizeLine_eq]; omega, _, rfl, .inl ⟨x, rfl, by rw [sizeLine_eq]; omega, _, rfl, by rw [Str.length_append, e0, sizeLine_eq]; omega, ha, ?_⟩⟩
  exact ⟨_, rfl, _, rfl, a, rfl, hno, .inl ⟨ha, q⟩⟩
theorem nil_len {x : Str} : (Str.empty ++ x).length = x.length := by rw [Str.length_append]; exact Nat.zero_add _
theorem int_wee {i : Int} (h0 : 0 ≤ i) (h : i < 10 ^ 10) : (Str.ofString (toString i)).length ≤ 10 := toString_length_le h0 (by decide) h
theorem int_log {i : Int} (h0 : 0 ≤ i) (h : i < 10 ^ 10) : i.natAbs.log2 < 1920 := by
  have h1 : i.natAbs < 2 ^ 1920 := by
    have : i.natAbs < 10 ^ 10 := by omega
    have e : (10 : Nat) ^ 10 ≤ 2 ^ 1920 := by decide +kernel
    omega
  by_cases z : i.natAbs = 0
  · rw [z]; decide
  · exact (Nat.log2_lt z).mpr h1
/-! ### self.place = place -/
abbrev scPl : Scope := { kind := .function, names := [(("self" : Str), .local), (("place" : Str), .local), (("__class__" : Str), .free), (("super" : Str), .globalImplicit)], isGenerator := false, isCoroutine := false, more := [] }
abbrev msgPl (txt : Str) (j : Nat) (p5 p6 p7 p8 : Pos) : Expr := .JoinedStr [.Constant (.str txt) j p5, .FormattedValue (.Name "place" p6) (-1) none p7] p8
abbrev nfPl (qual : Str) (pr : Arguments) (cc c : Addr) (txt : Str) (j : Nat) (p0 p1 p2 p3 p4 p5 p6 p7 p8 q1 q2 q3 q4 : Pos) : NF :=
  ⟨"__init__", qual, pr, [supOf p0 p1 p2 p3 p4 (msgPl txt j p5 p6 p7 p8), .Assign [.Attribute (.Name "self" q1) "place" q2] (.Name "place" q3) q4], scPl, [(("__class__" : Str), cc)], c⟩
/-- a place that is kept -/
def spPl (C : Addr) : Sp := fun vs H Q _ => ∃ (a : Addr) (i : Int), vs = [.ref a, .int i] ∧ 0 ≤ i ∧ i < 10 ^ 10 ∧ H a = some (exo a C none) ∧ ∀ dx, H dx = none → dx ≠ a → Q .non (upd (upd H dx (exd dx [("place", .int i)])) a (exo a C (some dx)))
theorem ok_pl (XB : XBase B nI iI bB) (XC : XCls K C nI bB) (XS : XSup P K mg C f cc B iI (nfPl qual pr cc c txt j p0 p1 p2 p3 p4 p5 p6 p7 p8 q1 q2 q3 q4)) (ht : txt.length ≤ 1000) (hno : PySem.W.findIn K (.ref C) "place" = some none) (hcl : SupCall (nfPl qual pr cc c txt j p0 p1 p2 p3 p4 p5 p6 p7 p8 q1 q2 q3 q4) f p0 p1 p2 p3 (msgPl txt j p5 p6 p7 p8))
    (lk : K.lookup f = some ⟨oc, od, .func (PySem.W.fnX "__init__" qual pr (nfPl qual pr cc c txt j p0 p1 p2 p3 p4 p5 p6 p7 p8 q1 q2 q3 q4).body scPl [(("__class__" : Str), cc)] .none kV doc pm an (.ref c) ct), osl⟩) (hcd : PySem.W.codeIn K (.ref c) qual = true) :
    FnOk P w K mg base (L2.CX P w) 1 f (PySem.W.fnX "__init__" qual pr (nfPl qual pr cc c txt j p0 p1 p2 p3 p4 p5 p6 p7 p8 q1 q2 q3 q4).body scPl [(("__class__" : Str), cc)] .none kV doc pm an (.ref c) ct) ["self", "place"] (spPl C) := by
  refine fn_super (N := ["self", "place", "__class__"]) (F := nfPl qual pr cc c txt j p0 p1 p2 p3 p4 p5 p6 p7 p8 q1 q2 q3 q4) (k := 0) XB XC XS lk hcd rfl (fun _ => rfl) (fun _ => rfl) hcl (fun _ => rfl) (by exact nscope_by (by show nscB _ _ _ scPl = true; decide +kernel)) rfl (fun vs H Q E h => ?_) (fun A outer s H vs Q E hr h => ?_)
  · obtain ⟨a, x, rfl, _⟩ := h
    rfl
  obtain ⟨a, i, rfl, h0, h1, ha, q⟩ := h
  refine ⟨_, _, a, pe_joined (PJ.cons pe_str (PJ.cons (pe_fmt (pv 1)) PJ.nil)), pss_one (ps_xst XB XC (pv 0) (pv 1)), rfl, ha, ?_⟩
  have r0 := int_wee h0 h1
  refine ⟨txt, rfl, by rw [nil_len, sizeLine_eq]; omega, _, rfl, .inr ⟨i, rfl, int_log h0 h1, _, rfl, by rw [Str.length_append, nil_len, sizeLine_eq]; omega, ha, ?_⟩⟩
  exact ⟨_, rfl, _, rfl, a, rfl, hno, .inl ⟨ha, q⟩⟩

end

/-! ### a class of errors with its __init__, as the top has made it -/
abbrev nfS (st : Stmt) (q : Str) (cc c : Addr) : NF := ⟨"__init__", q, defArgs st, defBody st, defScope st, [(("__class__" : Str), cc)], c⟩
structure XI (P : Program) (K : PySem.W.Frag) (mg : Str → Option Value) (x q : Str) (st : Stmt) (ps : List Str) (C f cc c : Addr) (B nI iI : String) (bB : List Value) (fd : FuncData) : Prop where
  xb : XBase B nI iI bB
  g : mg x = some (.ref C)
  xc : XCls K C nI bB
  iC : PySem.W.findIn K (.ref C) "__init__" = some (some (.ref f))
  tI : PySem.W.typeIn K (.ref f) = some (.type "function")
  xs : XSup P K mg C f cc B iI (nfS st q cc c)
  lk : ∃ (oc : Value) (od : Option Addr) (osl : Array (Option Value)) (kV doc pm : Value) (an : Option Addr) (ct : Value), fd = PySem.W.fnX "__init__" q (defArgs st) (defBody st) (defScope st) [(("__class__" : Str), cc)] .none kV doc pm an (.ref c) ct ∧ K.lookup f = some ⟨oc, od, .func fd, osl⟩
  cd : PySem.W.codeIn K (.ref c) q = true
  bd : Binds K fd ps []
/-- the end of an __init__: the error at a has the fields fs, what stood stands -/
def Init (C a : Addr) (fs : List (Str × V)) (H : Hp) (Q : VK) : Prop := ∀ (dx : Addr) (H' : Hp), H dx = none → dx ≠ a → H' a = some (exo a C (some dx)) → H' dx = some (exd dx fs) → (∀ b o, H b = some o → b ≠ a → H' b = some o) → Q .non H'
/-- .. with a new sequence as one of its fields -/
def InitS (K : PySem.W.Frag) (tup : Bool) (C a : Addr) (fs : Addr → List (Str × V)) (ys : List V) (H : Hp) (Q : VK) : Prop := ∀ (t dx : Addr) (H' : Hp), H dx = none → dx ≠ a → H' a = some (exo a C (some dx)) → H' dx = some (exd dx (fs t)) →
  (if tup then SqT K H' t ys else H t = none ∧ H' t = some (.lst ys)) → (∀ b o, H b = some o → b ≠ a → H' b = some o) → Q .non H'
/-- a field more -/
theorem xst_go {H : Hp} {a C dx : Addr} {fs : List (Str × V)} {f : Str} {y : V} {G : Hp → Prop} (ea : H a = some (exo a C (some dx))) (ed : H dx = some (exd dx fs)) (hl : fs.length ≤ 900) (g : G (upd H dx (exd dx ((f, y) :: fs)))) :
    ∃ (dx : Addr) (fs : List (Str × V)), H a = some (exo a C (some dx)) ∧ H dx = some (exd dx fs) ∧ fs.length ≤ 900 ∧ G (upd H dx (exd dx ((f, y) :: fs))) := ⟨dx, fs, ea, ed, hl, g⟩
/-- sign and arguments -/
def spSA (K : PySem.W.Frag) (C : Addr) : Sp := fun vs H Q _ => ∃ (a : Addr) (x : Str) (l : Addr) (ys : List V), vs = [.ref a, .str x, .ref l] ∧ Wee x ∧ (SqL K H l ys ∨ SqT K H l ys) ∧ H a = some (exo a C none) ∧ InitS K true C a (fun t => [("arguments", .ref t), ("sign", .str x)]) ys H Q
def spNL (K : PySem.W.Frag) (C : Addr) : Sp := fun vs H Q _ => ∃ (a : Addr) (x : Str) (l : Addr) (ys : List V) (i : Int) (z : Str), vs = [.ref a, .str x, .ref l, .int i, .str z] ∧ Wee x ∧ Wee z ∧ 0 ≤ i ∧ i < 10 ^ 10 ∧ (SqL K H l ys ∨ SqT K H l ys) ∧ H a = some (exo a C none) ∧
  InitS K true C a (fun t => [("other", .str z), ("place", .int i), ("arguments", .ref t), ("sign", .str x)]) ys H Q
def spLR (C : Addr) : Sp := fun vs H Q _ => ∃ (a : Addr) (x y : V), vs = [.ref a, x, y] ∧ H a = some (exo a C none) ∧ Init C a [("right", y), ("left", x)] H Q
def spLb (K : PySem.W.Frag) (C : Addr) : Sp := fun vs H Q _ => ∃ (a : Addr) (l : Addr) (ys : List V), vs = [.ref a, .ref l] ∧ (SqL K H l ys ∨ SqT K H l ys) ∧ H a = some (exo a C none) ∧ InitS K false C a (fun t => [("labels", .ref t)]) ys H Q
theorem app_le {x y : Str} {m n : Nat} (h1 : x.length ≤ m) (h2 : y.length ≤ n) : (x ++ y).length ≤ m + n := by
  rw [Str.length_append]
  omega
theorem emp_le {y : Str} {n : Nat} (h2 : y.length ≤ n) : (Str.empty ++ y).length ≤ n := by
  rw [nil_len]
  exact h2
theorem le_line {n m : Nat} (h : n ≤ m) (hm : m ≤ 1000000) : n ≤ sizeLine := by
  rw [sizeLine_eq]
  omega
theorem or_seq {K : PySem.W.Frag} {H H' : Hp} {l : Addr} {ys : List V} (e : Same H H') (h : SqL K H l ys ∨ SqT K H l ys) : SqL K H' l ys ∨ SqT K H' l ys := h.imp (fun q => e.seq q) fun q => Evl.ex_t e q
theorem rd_but {H H' : Hp} {l a C : Addr} {d : Option Addr} {u : HO} (hu : ∀ b, u ≠ exo b C d) (e : ∀ b o, H b = some o → b ≠ a → H' b = some o) (ha : H a = some (exo a C d)) (h : Rd H l u) : Rd H' l u := by
  rcases h with h | ⟨o, h⟩
  · exact .inl (e l _ h (ne_of h ha (hu a)))
  · exact .inr ⟨o, e l _ h (ne_of h ha (fun z => exo_frz z.symm))⟩
theorem seq_but {K : PySem.W.Frag} {H H' : Hp} {l a C : Addr} {d : Option Addr} {ys : List V} (e : ∀ b o, H b = some o → b ≠ a → H' b = some o) (ha : H a = some (exo a C d)) (h : SqL K H l ys ∨ SqT K H l ys) : SqL K H' l ys ∨ SqT K H' l ys := by
  rcases h with (h | h) | (h | h)
  · exact .inl (.inl (rd_but (fun b z => by cases z) e ha h))
  · exact .inl (.inr h)
  · exact .inr (.inl (rd_but (fun b z => exo_tup z.symm) e ha h))
  · exact .inr (.inr h)
/-- the first field's heap -/
theorem one_but {H : Hp} {a dx C : Addr} {fs : List (Str × V)} (hd : H dx = none) : ∀ b o, H b = some o → b ≠ a → (upd (upd H dx (exd dx fs)) a (exo a C (some dx))) b = some o := fun b o h hb => by
  rw [upd_ne hb, upd_ne (ne_of_none h hd)]
  exact h
end L2


set_option Elab.async false
set_option linter.all false
set_option maxRecDepth 100000
set_option maxHeartbeats 4000000
/-! errors held as values: isinstance, their fields -/
namespace L2
open PySem PySem.Spec PyProof.Rows

/-- an error stands at a, its own dict (if any) holds fs -/
def ErrAt (H : Hp) (a C : Addr) (fs : List (Str × V)) : Prop := (H a = some (exo a C none) ∧ fs = []) ∨ ∃ dx, H a = some (exo a C (some dx)) ∧ H dx = some (exd dx fs)
theorem ErrAt.same {H H' : Hp} {a C : Addr} {fs : List (Str × V)} (h : ErrAt H a C fs) (e : Same H H') : ErrAt H' a C fs := by
  rcases h with ⟨h, f⟩ | ⟨dx, h1, h2⟩
  · exact .inl ⟨e _ _ h, f⟩
  · exact .inr ⟨dx, e _ _ h1, e _ _ h2⟩
theorem ErrAt.inst {X : Cx} {pins : List (Addr × Obj)} {σ : St} {H : Hp} {s : Shared} {a C : Addr} {fs : List (Str × V)} (I : Inv X pins σ H s) (h : ErrAt H a C fs) :
    ∃ (ox : Obj) (od : Option Obj), PySem.W.InstAt s.heap a ox C od ∧ (∀ (n : Str) (v : V), fs.lookup n = some v → ∃ (o : Obj) (u : Value), od = some o ∧ PySem.W.lookIn n o = some (some u) ∧ RelV v u) := by
  rcases h with ⟨h, rfl⟩ | ⟨dx, h1, h2⟩
  · obtain ⟨t1, ho⟩ := exo_at I.hok h
    exact ⟨_, none, ⟨ho, rfl, rfl, trivial⟩, fun n v z => by cases z⟩
  · obtain ⟨t1, ho⟩ := exo_at I.hok h1
    obtain ⟨mA, hns, rel⟩ := exd_at I.hok h2
    obtain ⟨od, hod, hl⟩ := lookIn_ns hns
    refine ⟨_, some od, ⟨ho, rfl, rfl, hod⟩, fun n v z => ?_⟩
    obtain ⟨u, hu, ru⟩ := RelO.some_of (v := v) (o := mA n) (by rw [← z]; exact rel n)
    exact ⟨od, u, rfl, by rw [hl, hu], ru⟩
/-- isinstance(e, c), e an error held as a value -/
def rIsX (K : PySem.W.Frag) : List V → Hp → VK → Prop := fun xs H Q => ∃ (a C : Addr) (fs : List (Str × V)) (c : V) (u : Value) (b : Bool), xs = [.ref a, c] ∧ ErrAt H a C fs ∧ ExcC K C ∧ ClsV c u ∧ PySem.W.kitOne K (.ref C) u = some b ∧ Q (.bl b) H
theorem call_isX {X : Cx} (K : PySem.W.Frag) (hK : X.K = K := by rfl) : CallR X (.builtin "isinstance") (rIsX K) := by
  subst hK
  intro pins s σ H xs us Q I r h
  obtain ⟨a, C, fs, c, u, b, rfl, ea, E, k, e, q⟩ := h
  obtain ⟨u1, u2, rfl, r1, r2⟩ := vals2 r
  have e2 := k.eq r2
  subst e2
  obtain rfl : u1 = Value.ref a := r1
  obtain ⟨ox, od, J, _⟩ := ea.inst I
  obtain ⟨cd, hcd, _⟩ := PySem.W.any_some E.hd
  exact PySem.W.kia_one (PySem.W.kitx_exc (by rw [hcd]; rfl) E.hg E.hk E.hs E.ha E.hn E.ht E.hm) I.kIn J e (fun z => nomatch z) fun tk => ⟨.bl b, H, I.tok tk, rfl, q⟩
/-- e.f, e an error held as a value -/
def tXval (K : PySem.W.Frag) (n : Str) (te : TE) : TE := fun σ H Q => te σ H fun x H1 => ∃ (a C : Addr) (fs : List (Str × V)) (v : V), x = .ref a ∧ ErrAt H1 a C fs ∧ ExcC K C ∧ PySem.W.findIn K (.ref C) n = some none ∧ fs.lookup n = some v ∧ Q v H1
theorem pe_xval {X : Cx} (K : PySem.W.Frag) {e : Expr} {te : TE} {n : Str} {pos : Pos} (he : PE X e te) (hb : attributeBase e n X.env (eval e X.env) = eval e X.env := by rfl) (hK : X.K = K := by rfl) : PE X (.Attribute e n pos) (tXval K n te) := by
  subst hK
  refine ⟨fun pins s σ H Q I h => attr_of hb (thn (he.run pins s σ H _ I h) fun u s1 hh => ?_)⟩
  obtain ⟨x, H1, I1, rx, a, C, fs, v, ex, ea, E, hno, hl, q⟩ := hh
  subst ex
  obtain rfl : u = Value.ref a := rx
  obtain ⟨ox, od, J, look⟩ := ea.inst I1
  obtain ⟨o, w, rfl, hw, rw'⟩ := look n v hl
  exact HandSPX.exc_get I1.kIn J E.hg E.hk E.hs (PySem.W.findObj_own E.hd hno rfl hw) (handed_of rw') ⟨v, H1, I1.tok _, rw', q⟩

/-! ### made as values -/
structure X0 (K : PySem.W.Frag) (mg : Str → Option Value) (x : Str) (C : Addr) (B nI iI : String) (bB : List Value) : Prop where
  xb : XBase B nI iI bB
  g : mg x = some (.ref C)
  xc : XCls K C nI bB
  hi : PySem.W.findIn K (.ref C) "__init__" = some (some (.builtin iI))
section
variable {X : Cx} {x q : Str} {C f cc c : Addr} {p pos : Pos} {e : Expr} {es : List Expr} {ta : TA} {B nI iI : String} {bB : List Value} {fd : FuncData} {ps : List Str} {sp : Sp} {st : Stmt}
theorem X0.pe (t : X0 X.K X.mg x C B nI iI bB) (hg : Gl X x) (hdb : (x == ("__debug__" : Str)) = false := by decide) : PE X (.Call (.Name x p) [] [] pos) (tX0 C) := pe_x0 t.xb t.xc t.hi hg t.g hdb
theorem X0.pmk (t : X0 X.K X.mg x C B nI iI bB) (hg : Gl X x) (hdb : (x == ("__debug__" : Str)) = false := by decide) : PMk X (.Call (.Name x p) [] [] pos) (fun _ H Q => Q (.ref C) none H) := pmk_x0 t.xb t.xc t.hi hg t.g hdb
theorem XI.pe (t : XI X.prog X.K X.mg x q st ps C f cc c B nI iI bB fd) (F : FnOk X.prog X.w X.K X.mg X.base (L2.CX X.prog X.w) 1 f fd ps sp) (hr : Room 2 X.A) (hg : Gl X x) (ha : PA X (e :: es) ta) (hdb : (x == ("__debug__" : Str)) = false := by decide)
    (he : starEach (e :: es) X.env = (false, eval e X.env) :: starEach es X.env := by rfl) (hpl : (backTo pos (starEach es X.env)).any (·.1) = false := by rfl) : PE X (.Call (.Name x p) (e :: es) [] pos) (tXv C sp [] ta) :=
  pe_xv t.xb t.xc t.iC t.tI F hr t.bd .nil passL hg t.g ha hdb he hpl
theorem XI.pmk (t : XI X.prog X.K X.mg x q st ps C f cc c B nI iI bB fd) (F : FnOk X.prog X.w X.K X.mg X.base (L2.CX X.prog X.w) 1 f fd ps sp) (hr : Room 2 X.A) (hg : Gl X x) (ha : PA X (e :: es) ta) (hdb : (x == ("__debug__" : Str)) = false := by decide)
    (he : starEach (e :: es) X.env = (false, eval e X.env) :: starEach es X.env := by rfl) (hpl : (backTo pos (starEach es X.env)).any (·.1) = false := by rfl) : PMk X (.Call (.Name x p) (e :: es) [] pos) (tMkO C sp [] ta) :=
  pmk_x t.xb t.xc t.iC t.tI F hr t.bd .nil passL hg t.g ha hdb he hpl
end
section
variable {K : PySem.W.Frag} {H : Hp} {C : Addr} {Q : VK} {ys : List V}
/-- an error is made: a new one at a -/
def New (C : Addr) (fs : List (Str × V)) (H : Hp) (Q : VK) : Prop := ∀ a H', H a = none → Same H H' → ErrAt H' a C fs → Q (.ref a) H'
theorem same_upd {H : Hp} {a : Addr} {o : HO} (h : H a = none) : Same H (upd H a o) := fun b u q => by rw [upd_ne (ne_of_none q h)]; exact q
theorem go_x0 (k : New C [] H Q) : ∀ a, H a = none → Q (.ref a) (upd H a (exo a C none)) := fun a n => k a _ n (same_upd n) (.inl ⟨upd_same, rfl⟩)
theorem go_nm {x : Str} (hx : Wee x) (k : New C [("name", .str x)] H Q) : ∀ a, H a = none → spNm C (.ref a :: ([.str x] ++ [])) (upd H a (exo a C none)) (fun v H2 => v = .non ∧ Q (.ref a) H2) (fun _ _ _ => False) := fun a n =>
  ⟨a, x, rfl, hx, upd_same, fun dx hd ne => ⟨rfl, k a _ n (fun b u q => by
    rw [upd_ne (ne_of_none q n), upd_ne (ne_of_none (same_upd n _ _ q) hd), upd_ne (ne_of_none q n)]
    exact q) (.inr ⟨dx, upd_same, by rw [upd_ne ne, upd_same]⟩)⟩⟩
theorem go_pl {i : Int} (h0 : 0 ≤ i) (h1 : i < 10 ^ 10) (k : New C [("place", .int i)] H Q) : ∀ a, H a = none → spPl C (.ref a :: ([.int i] ++ [])) (upd H a (exo a C none)) (fun v H2 => v = .non ∧ Q (.ref a) H2) (fun _ _ _ => False) := fun a n =>
  ⟨a, i, rfl, h0, h1, upd_same, fun dx hd ne => ⟨rfl, k a _ n (fun b u q => by
    rw [upd_ne (ne_of_none q n), upd_ne (ne_of_none (same_upd n _ _ q) hd), upd_ne (ne_of_none q n)]
    exact q) (.inr ⟨dx, upd_same, by rw [upd_ne ne, upd_same]⟩)⟩⟩
theorem but_same {H H' : Hp} {a : Addr} {o : HO} (n : H a = none) (e : ∀ b u, (upd H a o) b = some u → b ≠ a → H' b = some u) : Same H H' := fun b u q => e b u (same_upd n _ _ q) (ne_of_none q n)
theorem go_sa {x : Str} {l : Addr} (hx : Wee x) (hl : SqL K H l ys ∨ SqT K H l ys) (k : ∀ a t H', H a = none → Same H H' → ErrAt H' a C [("arguments", .ref t), ("sign", .str x)] → SqT K H' t ys → Q (.ref a) H') :
    ∀ a, H a = none → spSA K C (.ref a :: ([.str x, .ref l] ++ [])) (upd H a (exo a C none)) (fun v H2 => v = .non ∧ Q (.ref a) H2) (fun _ _ _ => False) := fun a n =>
  ⟨a, x, l, ys, rfl, hx, or_seq (same_upd n) hl, upd_same, fun t dx H' hd ne e1 e2 e3 e4 => ⟨rfl, k a t H' n (but_same n e4) (.inr ⟨dx, e1, e2⟩) e3⟩⟩
theorem go_nl {x z : Str} {l : Addr} {i : Int} (hx : Wee x) (hz : Wee z) (h0 : 0 ≤ i) (h1 : i < 10 ^ 10) (hl : SqL K H l ys ∨ SqT K H l ys)
    (k : ∀ a t H', H a = none → Same H H' → ErrAt H' a C [("other", .str z), ("place", .int i), ("arguments", .ref t), ("sign", .str x)] → SqT K H' t ys → Q (.ref a) H') :
    ∀ a, H a = none → spNL K C (.ref a :: ([.str x, .ref l, .int i, .str z] ++ [])) (upd H a (exo a C none)) (fun v H2 => v = .non ∧ Q (.ref a) H2) (fun _ _ _ => False) := fun a n =>
  ⟨a, x, l, ys, i, z, rfl, hx, hz, h0, h1, or_seq (same_upd n) hl, upd_same, fun t dx H' hd ne e1 e2 e3 e4 => ⟨rfl, k a t H' n (but_same n e4) (.inr ⟨dx, e1, e2⟩) e3⟩⟩
theorem go_lr {x y : V} (k : New C [("right", y), ("left", x)] H Q) : ∀ a, H a = none → spLR C (.ref a :: ([x, y] ++ [])) (upd H a (exo a C none)) (fun v H2 => v = .non ∧ Q (.ref a) H2) (fun _ _ _ => False) := fun a n =>
  ⟨a, x, y, rfl, upd_same, fun dx H' hd ne e1 e2 e3 => ⟨rfl, k a H' n (but_same n e3) (.inr ⟨dx, e1, e2⟩)⟩⟩
theorem go_lb {l : Addr} (hl : SqL K H l ys ∨ SqT K H l ys) (k : ∀ a t H', H a = none → Same H H' → ErrAt H' a C [("labels", .ref t)] → H t = none → H' t = some (.lst ys) → Q (.ref a) H') :
    ∀ a, H a = none → spLb K C (.ref a :: ([.ref l] ++ [])) (upd H a (exo a C none)) (fun v H2 => v = .non ∧ Q (.ref a) H2) (fun _ _ _ => False) := fun a n =>
  ⟨a, l, ys, rfl, or_seq (same_upd n) hl, upd_same, fun t dx H' hd ne e1 e2 e3 e4 => ⟨rfl, k a t H' n (but_same n e4) (.inr ⟨dx, e1, e2⟩) ((same_upd n).free e3.1) e3.2⟩⟩
/-- many of the plain ones -/
def tX0s : List Addr → TA
  | [] => tNil
  | C :: r => tCons (tX0 C) (tX0s r)
def Errs (H : Hp) (as Cs : List Addr) : Prop := Paired (fun a C => ErrAt H a C []) as Cs
theorem Errs.same {H H' : Hp} {as Cs : List Addr} (h : Errs H as Cs) (e : Same H H') : Errs H' as Cs := Paired.mapP h fun _ _ z => z.same e
theorem x0s_go : ∀ (Cs : List Addr) (σ : St) (H : Hp) (Q : List V → Hp → Prop), (∀ as H', Same H H' → Errs H' as Cs → Q (as.map V.ref) H') → tX0s Cs σ H Q
  | [], σ, H, Q, k => k [] H (Same.refl H) .nil
  | C :: r, σ, H, Q, k => fun a n => x0s_go r σ _ _ fun as H' e he => k (a :: as) H' ((same_upd n).trans e) (.cons (ErrAt.same (.inl ⟨upd_same, rfl⟩) e) he)
end

/-- an own class, a built-in class, as a value -/
theorem pe_gref {X : Cx} {x : Str} {a : Addr} {pos : Pos} (hg : Gl X x) (hm : X.mg x = some (.ref a)) (hd : (x == ("__debug__" : Str)) = false := by decide) : PE X (.Name x pos) (tC (.ref a)) := pe_glob hg hm rfl hd
theorem pe_bty {X : Cx} {x : Str} {n : String} {pos : Pos} (hg : Gl X x) (hm : X.mg x = none) (hv : bootBuiltins x = some (.type n)) (hn : x ≠ "__name__" := by decide) (hd : (x == ("__debug__" : Str)) = false := by decide) : PE X (.Name x pos) (tC (.ty n)) := pe_bltn hg hm hv rfl hn hd

def tTruK (K : PySem.W.Frag) (ta : TE) : TT := fun σ H Q => ta σ H fun x H' => ∃ k, TruV K x H' k ∧ Q k H'
theorem pt_truthK {X : Cx} (K : PySem.W.Frag) {a : Expr} {ta : TE} (ha : PE X a ta) (he : ∀ whole, isTrue a X.env whole = (do let v ← whole; standAt a.pos; holding [v] (truthy v)) := by intro _; rfl) (hK : X.K = K := by rfl) : PT X a (tTruK K ta) := by
  subst hK
  exact pt_truth ha he

theorem x0s_lst (Cs : List Addr) {σ : St} {H : Hp} {Q : VK} (hz : Cs.length ≤ 1000) (k : ∀ as H', Same H H' → Errs H' as Cs → ∀ p, H' p = none → Q (.ref p) (upd H' p (.lst (as.map V.ref)))) : tLst (tX0s Cs) σ H Q :=
  x0s_go Cs σ H _ fun as H1 e1 h1 => ⟨by rw [List.length_map, Paired.length h1]; exact Nat.le_of_lt (small1000 hz), fun p hp => k as H1 e1 h1 p hp⟩

/-- an error with one field is new -/
theorem one_new {H : Hp} {a dx C : Addr} {fs : List (Str × V)} (n : H a = none) (hd : (upd H a (exo a C none)) dx = none) (ne : dx ≠ a) :
    ∃ H', upd (upd (upd H a (exo a C none)) dx (exd dx fs)) a (exo a C (some dx)) = H' ∧ Same H H' ∧ ErrAt H' a C fs :=
  ⟨_, rfl, fun b u q => by
    rw [upd_ne (ne_of_none q n), upd_ne (ne_of_none (same_upd n _ _ q) hd), upd_ne (ne_of_none q n)]
    exact q, .inr ⟨dx, upd_same, by rw [upd_ne ne, upd_same]⟩⟩
theorem put_new {H : Hp} {a : Addr} {o : HO} (n : H a = none) : ∃ H', upd H a o = H' ∧ Same H H' ∧ H' a = some o := ⟨_, rfl, same_upd n, upd_same⟩

/-! ### == of data -/
theorem Wee.ok {x : Str} (h : Wee x) : PyData.strOk x = true := by
  unfold PyData.strOk
  rw [← Array.all_toList, List.all_eq_true]
  exact fun c hc => decide_eq_true (h.2 c hc)
section
variable {K : PySem.W.Frag} {H : Hp} {x y : V} {d : PyData} {Q : VK}
theorem neD_same (hx : Dp K H x d) (hy : Dp K H y d) (hs : SeqAt.shaped d = true) (q : Q (.bl false) H) : rNeD K x y H Q := ⟨d, d, hx, hy, hs, hs, by rw [SeqAt.eqv_refl d (SeqAt.canLay_of_shaped hs)]; exact q⟩
theorem eqD_same (hx : Dp K H x d) (hy : Dp K H y d) (hs : SeqAt.shaped d = true) (q : Q (.bl true) H) : rEqD K x y H Q := ⟨d, d, hx, hy, hs, hs, by rw [SeqAt.eqv_refl d (SeqAt.canLay_of_shaped hs)]; exact q⟩
theorem dp_two {p : Addr} {a b : Str} (h : SqL K H p [.str a, .str b]) : Dp K H (.ref p) (.list [.str a, .str b]) := .lst h (.cons (.str a) (.cons (.str b) .nil))
theorem sh_two {a b : Str} (ha : Wee a) (hb : Wee b) : SeqAt.shaped (.list [.str a, .str b]) = true := by
  simp [SeqAt.shaped, PyData.canLay0, PyData.canLayAll0, PyData.depth, PyData.depthAll, ha.ok, hb.ok]
theorem tst {k : Bool} {G : Bool → Prop} (q : G k) : ∃ b, V.bl k = V.bl b ∧ G b := ⟨k, rfl, q⟩
/-- lists of one int each -/
theorem dp_ones {D : Addr} {ps : List Addr} (hD : SqL K H D (ps.map V.ref)) (h : ∀ (j : Nat) p, ps[j]? = some p → H p = some (.lst [.int (j : Int)])) : Dp K H (.ref D) (.list ((List.range ps.length).map fun (j : Nat) => .list [.int (j : Int)])) := by
  refine .lst hD ?_
  have key : ∀ (qs : List Addr) (n : Nat), (∀ (j : Nat) p, qs[j]? = some p → H p = some (.lst [.int ((n + j : Nat) : Int)])) → DpAll K H (qs.map V.ref) ((List.range qs.length).map fun (j : Nat) => .list [.int ((n + j : Nat) : Int)]) := by
    intro qs
    induction qs with
    | nil => intro n _; exact .nil
    | cons q r ih =>
      intro n hq
      have h0 := hq 0 q rfl
      have h1 := ih (n + 1) fun j p e => by
        have z := hq (j + 1) p (by simpa using e)
        rw [z, show n + (j + 1) = n + 1 + j by omega]
      rw [List.length_cons, List.range_succ_eq_map, List.map_cons, List.map_cons, List.map_map]
      refine .cons (.lst (SqL.of h0) (.cons (.int _) .nil)) ?_
      have e : (fun j : Nat => PyData.list [PyData.int ((n + j : Nat) : Int)]) ∘ Nat.succ = fun (j : Nat) => PyData.list [PyData.int ((n + 1 + j : Nat) : Int)] := by
        funext j
        show PyData.list [PyData.int ((n + (j + 1) : Nat) : Int)] = _
        rw [show n + (j + 1) = n + 1 + j by omega]
      rw [e]
      exact h1
  have z := key ps 0 fun j p e => by rw [Nat.zero_add]; exact h j p e
  simpa using z
end
theorem gN {i : Nat} {v : V} {σ : St} {H : Hp} {N : St → Hp → Prop} (h : N (σ.set i (some v)) H) : gName i v σ H N := h

/-! ### comprehensions whose items are new lists -/
/-- D holds the lists made so far -/
def Made (H1 : Hp) (D : Addr) (cs : Nat → List V) (i : Nat) (H' : Hp) : Prop := ∃ ps : List Addr, ps.length = i ∧ H' D = some (.lst (ps.map V.ref)) ∧ (∀ (j : Nat) p, ps[j]? = some p → p ≠ D ∧ H' p = some (.lst (cs j))) ∧ Same H1 H'
theorem made_more {H1 H' H2 : Hp} {D p : Addr} {cs : Nat → List V} {i : Nat} (hD : H1 D = none) (m : Made H1 D cs i H') (hi : i < 100000) (n : H' p = none) (e : Same H' H2) (h : H2 p = some (.lst (cs i))) :
    ∃ acc, H2 D = some (.lst acc) ∧ acc.length < sizeLine ∧ Made H1 D cs (i + 1) (upd H2 D (.lst (acc ++ [.ref p]))) := by
  obtain ⟨ps, l, d, all, s⟩ := m
  have npD : p ≠ D := fun z => by rw [z, d] at n; cases n
  refine ⟨_, e _ _ d, by rw [List.length_map, l, sizeLine_eq]; omega, ps ++ [p], by rw [List.length_append, l]; rfl, by rw [List.map_append]; exact upd_same, fun j q hq => ?_, fun b o hb => ?_⟩
  · by_cases c : j < ps.length
    · rw [List.getElem?_append_left c] at hq
      obtain ⟨z1, z2⟩ := all j q hq
      exact ⟨z1, by rw [upd_ne z1]; exact e _ _ z2⟩
    · rw [List.getElem?_append_right (by omega)] at hq
      have j0 : j = i := by
        by_cases c2 : j - ps.length = 0
        · omega
        · have : ([p] : List Addr)[j - ps.length]? = none := List.getElem?_eq_none (by show 1 ≤ _; omega)
          rw [this] at hq
          cases hq
      subst j0
      rw [l, Nat.sub_self] at hq
      obtain rfl : p = q := Option.some.inj hq
      exact ⟨npD, by rw [upd_ne npD]; exact h⟩
  · rw [upd_ne (ne_of_none hb hD)]
    exact e _ _ (s _ _ hb)
theorem lc_newl {K : PySem.W.Frag} {tl : TE} {a : Addr} {xs : List V} {jx : Nat} {te : TE} {vs : List Nat} {σ : St} {H1 : Hp} {Q : VK} (cs : Nat → List V) (hx : SqL K H1 a xs) (hz : xs.length ≤ 50000) (hw : ∀ x, wipe ((wipe σ vs).set jx (some x)) vs = wipe σ vs)
    (he : ∀ (i : Nat) x H', xs[i]? = some x → Same H1 H' → ∀ Q' : VK, (∀ p H2, H' p = none → Same H' H2 → H2 p = some (.lst (cs i)) → Q' (.ref p) H2) → te ((wipe σ vs).set jx (some x)) H' Q')
    (q : ∀ D (ps : List Addr) H', H1 D = none → Same H1 H' → ps.length = xs.length → H' D = some (.lst (ps.map V.ref)) → (∀ (j : Nat) p, ps[j]? = some p → H' p = some (.lst (cs j))) → Q (.ref D) H') (hl : ∀ Q' : VK, Q' (.ref a) H1 → tl σ H1 Q') : tLc (iList K tl) (gName jx) tYes te vs σ H1 Q := by
  refine hl _ ⟨a, rfl, ⟨_, hx⟩, fun D hD => lc_list (K := K) (a := a) (xs := xs) (Made H1 D cs) ⟨[], rfl, upd_same, fun j p h => by simp at h, same_upd hD⟩ (fun i H' _ m => ?_) (fun i x H' hi m => ?_) (fun H' m => ?_)⟩
  · obtain ⟨_, _, _, _, s⟩ := m
    exact s.seq hx
  · have hi2 := (List.getElem?_eq_some_iff.mp hi).1
    have s : Same H1 H' := m.elim fun _ z => z.2.2.2
    refine ⟨hw x, iteT (B := Made H1 D cs (i + 1) H') ?_⟩
    exact he i x H' hi s _ fun p H2 n e h => made_more hD m (by omega) n e h
  · obtain ⟨ps, l, d, all, s⟩ := m
    exact q D ps H' hD s l d fun j p h => (all j p h).2
theorem lc_newr {n : Int} {ta : TA} {jx : Nat} {te : TE} {vs : List Nat} {σ : St} {H1 : Hp} {Q : VK} (cs : Nat → List V) (hn : 0 ≤ n ∧ n ≤ 50000) (hw : ∀ x, wipe ((wipe σ vs).set jx (some x)) vs = wipe σ vs)
    (he : ∀ (i : Nat) H', (i : Int) < n → Same H1 H' → ∀ Q' : VK, (∀ p H2, H' p = none → Same H' H2 → H2 p = some (.lst (cs i)) → Q' (.ref p) H2) → te ((wipe σ vs).set jx (some (.int (i : Int)))) H' Q')
    (q : ∀ D (ps : List Addr) H', H1 D = none → Same H1 H' → ps.length = n.toNat → H' D = some (.lst (ps.map V.ref)) → (∀ (j : Nat) p, ps[j]? = some p → H' p = some (.lst (cs j))) → Q (.ref D) H') (hl : ∀ Q' : List V → Hp → Prop, Q' [.int n] H1 → ta σ H1 Q') : tLc (iRng1 ta) (gName jx) tYes te vs σ H1 Q := by
  refine hl _ ⟨n, rfl, by omega, by omega, fun D hD => lc_range (lo := 0) (n := n.toNat) (Made H1 D cs) ⟨[], rfl, upd_same, fun j p h => by simp at h, same_upd hD⟩ (fun i H' hi m => ?_) (fun H' m => ?_)⟩
  · rw [Int.zero_add]
    have s : Same H1 H' := m.elim fun _ z => z.2.2.2
    refine ⟨hw _, iteT (B := Made H1 D cs (i + 1) H') ?_⟩
    exact he i H' (by omega) s _ fun p H2 n e h => made_more hD m (by omega) n e h
  · obtain ⟨ps, l, d, all, s⟩ := m
    exact q D ps H' hD s l d fun j p h => (all j p h).2
end L2


set_option Elab.async false
set_option linter.all false
set_option maxRecDepth 100000
set_option maxHeartbeats 4000000
namespace K91
open PySem PySem.Spec PyProof.Rows L2
def top (i : Nat) : Stmt := PySem.Challenge.pw_equalkin_k91_errors.main.body.getD i (.Pass ⟨0, 0, 0, 0⟩)
abbrev sPick : Stmt := top 29
/-- the built-in names that the module leaves alone -/
structure Blt (mg : Str → Option Value) : Prop where
  len : mg "len" = none
  int : mg "int" = none
  abs : mg "abs" = none
  range : mg "range" = none
  str : mg "str" = none
  list : mg "list" = none
  tuple : mg "tuple" = none
  isinstance : mg "isinstance" = none
  vError : mg "ValueError" = none
  lError : mg "LookupError" = none
  kError : mg "KeyError" = none
  iError : mg "IndexError" = none
section
variable {P : Program} {w : World} {K : PySem.W.Frag} {mg : Str → Option Value} {base : Heap}
/-- between two turns of the draws' while -/
def WPick (d L : Addr) (n : Int) (H : Hp) (j : Nat) (σ : L2.St) (H1 : Hp) : Prop := σ = [some (.ref d), some (.int n), some (.ref L), none, none, none] ∧ But d L H H1 ∧
  ∃ (cs : List Int) (l m t : Int), H1 d = some (.dK (srcD L l m t)) ∧ H1 L = some (.lst (cs.map V.int)) ∧ cs.length ≤ 63 ∧ j = cs.length
theorem scPick : FnScope ["source", "many", "cells", "left", "turn", "mixed"] ["source", "many"] (defScope sPick) := ⟨rfl, rfl, rfl, by decide +kernel, rfl, by decide +kernel, by decide +kernel⟩
theorem ok_pick {f : Addr} {fd : FuncData} (F : Fun K "_law_pick" "_law_pick" sPick f fd) (T : Blt mg) : FnOk P w K mg base CX0 1 f fd ["source", "many"] spPick := by
  refine F.ok scPick (fun vs H Q E h => ?_) (fun cdv A outer s H vs Q E hr h => ?_)
  · obtain ⟨d, L, n, rfl, _⟩ := h
    rfl
  · obtain ⟨d, L, n, rfl, S, hn, k⟩ := h
    have hu := hu_of hr
    refine ⟨_, pss_cons (ps_if (pt_cmpR op_lt (pv 1) pe_int (nomark _)) (pss_one (ps_ret pe_int)) pss_nil)
      (pss_cons (ps_set (i := 2) scPick.nd rfl (Or.inl rfl) (pe_dget hu (pv 0) pe_str (fun _ _ => rfl)))
      (pss_cons (ps_while PassesOwn.never (PW.pt (pw_and (pt_cmpR op_lt (pe_dget hu (pv 0) pe_str (fun _ _ => rfl)) pe_int (nomark _))
          (pw_and1 (pt_cmpR op_gt (pe_callB call_len_seq (by rfl) T.len PySem.boot_len (pa_cons (pv 2) pa_nil)) pe_int (nomark _)))))
        (pss_one (ps_dput hu (pv 0) pe_str (pe_bm0 PySem.F.plainAttrs_list PySem.F.slot_list_pop PySem.F.type_list_pop mt_pop (pv 2)) rfl)))
      (pss_cons (ps_set (i := 3) scPick.nd rfl (Or.inl rfl) (pe_dget hu (pv 0) pe_str (fun _ _ => rfl)))
      (pss_cons (ps_if (pt_cmpR op_gt (pv 3) pe_int (nomark _)) (pss_cons (ps_dput hu (pv 0) pe_str (pe_op op_fdiv (pv 3) (pv 1)) rfl)
          (pss_one (ps_ret (pe_op op_mod (pe_callTy call_int1 (by rfl) T.int (by decide +kernel) (pa_cons (pv 3) pa_nil)) (pv 1))))) pss_nil)
      (pss_cons (ps_dput hu (pv 0) pe_str (pe_op op_add (pe_dget hu (pv 0) pe_str (fun _ _ => rfl)) pe_int) rfl)
      (pss_cons (ps_set (i := 4) scPick.nd rfl (Or.inl rfl) (pe_dget hu (pv 0) pe_str (fun _ _ => rfl)))
      (pss_cons (ps_set (i := 5) scPick.nd rfl (Or.inl rfl) (pe_op op_mod (pe_callTy call_int1 (by rfl) T.int (by decide +kernel) (pa_cons (pe_op op_add (pe_dget hu (pv 0) pe_str (fun _ _ => rfl)) (pe_op op_mul (pv 4) pe_int)) pa_nil)) pe_int))
      (pss_cons (ps_set (i := 5) scPick.nd rfl (Or.inl rfl) (pe_op op_mod (pe_callTy call_int1 (by rfl) T.int (by decide +kernel) (pa_cons (pe_op op_add (pe_op op_mul (pv 5) (pv 5)) (pe_op op_mul (pv 4) pe_int)) pa_nil)) pe_int))
      (pss_cons (ps_if (pt_cmpR op_gt (pv 1) (pe_op op_pow pe_int pe_int) (nomark _)) (pss_one (ps_set (i := 5) scPick.nd rfl (Or.inl rfl) (pe_op op_pow (pe_callTy call_int1 (by rfl) T.int (by decide +kernel) (pa_cons (pe_op op_add (pe_op op_mul (pv 5) pe_int) (pv 4)) pa_nil)) pe_int))) pss_nil)
      (pss_one (ps_ret (pe_op op_mod (pe_callTy call_int1 (by rfl) T.int (by decide +kernel) (pa_cons (pe_op op_fdiv (pv 5) pe_int) pa_nil)) (pv 1))))))))))))), ?_⟩
    obtain ⟨cs, l, m, t, h1, h2, h3⟩ := S.ex
    have ndL := S.ne
    -- if many < 2
    refine ⟨_, rfl, _, _, rfl, rfl, _, rfl, ?_⟩
    refine ite2 (fun c => ?_) (fun c => ?_)
    · exact k 0 H (Int.le_refl 0) (.inr rfl) S But.refl
    have c2 : 2 ≤ n := by
      have c := of_decide_eq_false (Bool.eq_false_iff.mpr c)
      omega
    -- cells = source['cells']
    refine ⟨_, rfl, _, _, rfl, dg_cells h1, ?_⟩
    -- the while
    refine ⟨WPick d L n H, ⟨_, rfl, But.refl, cs, l, m, t, h1, h2, h3, rfl⟩, ?_⟩
    clear h1 h2 h3 S cs l m t
    rintro j σ H1 ⟨rfl, b1, cs, l, m, t, h1, h2, h3, rfl⟩
    refine ⟨_, rfl, _, _, rfl, dg_left h1, _, _, rfl, rfl, _, rfl, ?_⟩
    by_cases c : l < 2 ∧ 0 < cs.length
    · refine tT (decide_eq_true c.1) ⟨_, rfl, _, _, rfl, .inl (SqL.of h2), _, _, rfl, rfl, _, rfl, tT (decide_eq_true (by rw [List.length_map]; omega)) ?_⟩
      obtain ⟨z, hz⟩ : ∃ z, cs[cs.length - 1]? = some z := ⟨_, List.getElem?_eq_getElem (by omega)⟩
      refine ⟨WPick d L n H (cs.length - 1), fun σ' H' q => ⟨_, by omega, q⟩, ?_⟩
      refine ⟨_, rfl, .inl ⟨rfl, _, SqL.of h2⟩, L, _, .int z, rfl, rfl, h2, by rw [List.length_map, List.getElem?_map, hz]; rfl, _, rfl, d, _, rfl, dp_left (by rw [upd_ne ndL]; exact h1), ?_⟩
      refine ⟨rfl, (b1.upd_L).upd_d, cs.dropLast, z, m, t, upd_same, ?_, by rw [List.length_dropLast]; omega, by rw [List.length_dropLast]⟩
      rw [upd_ne ndL.symm, upd_same, List.map_dropLast]
    have c0 : decide (l < 2) = false ∨ decide (l < 2) = true ∧ cs.length = 0 := by
      by_cases c1 : l < 2
      · exact .inr ⟨decide_eq_true c1, by omega⟩
      · exact .inl (decide_eq_false c1)
    rcases c0 with c1 | ⟨c1, c2⟩
    all_goals first | refine tF c1 (iteF ?_) | refine tT c1 ⟨_, rfl, _, _, rfl, .inl (SqL.of h2), _, _, rfl, rfl, _, rfl, tF (decide_eq_false (by rw [List.length_map]; omega)) ?_⟩
    all_goals
      -- left = source['left']; if left > 1
      refine ⟨_, rfl, _, _, rfl, dg_left h1, ?_⟩
      refine ⟨_, rfl, _, _, rfl, rfl, _, rfl, ?_⟩
      by_cases c3 : 1 < l
      · refine tT (decide_eq_true c3) ?_
        refine ⟨_, rfl, _, rfl, l, n, rfl, rfl, ⟨by omega, by omega⟩, _, rfl, d, _, rfl, dp_left h1, ?_⟩
        refine ⟨_, rfl, .inl ⟨_, rfl, _, rfl, _, _, rfl, rfl, by omega, ?_⟩⟩
        refine k (l % n) _ (Int.emod_nonneg _ (by omega)) (.inl (Int.emod_lt_of_pos _ (by omega))) ⟨cs, l / n, m, t, upd_same, by rw [upd_ne ndL.symm]; exact h2, h3⟩ b1.upd_d
      · refine tF (decide_eq_false c3) ?_
        -- source['turn'] += 1; turn; mixed
        refine ⟨_, rfl, _, _, rfl, dg_turn h1, _, _, rfl, rfl, _, rfl, d, _, rfl, dp_turn h1, ?_⟩
        refine ⟨_, rfl, _, _, rfl, dg_turn upd_same, ?_⟩
        refine ⟨_, rfl, _, _, rfl, dg_mixed upd_same, _, rfl, t + 1, 104729, rfl, rfl, .inr (by decide), _, _, rfl, rfl, .inl ⟨_, rfl, _, _, rfl, rfl, (by show (0 : Int) < _; decide), ?_⟩⟩
        have m1 := Int.emod_lt_of_pos (m + (t + 1) * 104729) (show (0 : Int) < 998244353 by decide)
        have m0 := Int.emod_nonneg (m + (t + 1) * 104729) (show (998244353 : Int) ≠ 0 by decide)
        refine ⟨_, rfl, _, rfl, _, _, rfl, rfl, .inl (by constructor <;> omega), _, rfl, t + 1, 17, rfl, rfl, .inr (by decide), _, _, rfl, rfl, .inl ⟨_, rfl, _, _, rfl, rfl, (by show (0 : Int) < _; decide), ?_⟩⟩
        have e7 : ¬ ((10 : Int) ^ (7 : Int).toNat < n) := by
          have e : (10 : Int) ^ (7 : Int).toNat = 10000000 := by decide
          omega
        refine ⟨_, rfl, 10, 7, rfl, rfl, ⟨by decide, by decide, by decide⟩, _, _, rfl, rfl, _, rfl, tF (decide_eq_false e7) ?_⟩
        refine ⟨_, rfl, _, 16, rfl, rfl, ⟨by decide, by decide⟩, .inl ⟨_, rfl, _, rfl, _, n, rfl, rfl, by omega, ?_⟩⟩
        refine k _ _ (Int.emod_nonneg _ (by omega)) (.inl (Int.emod_lt_of_pos _ (by omega))) ⟨cs, l, m, t + 1, upd_same, by rw [upd_ne ndL.symm]; exact h2, h3⟩ b1.upd_d
end
end K91


set_option Elab.async false
set_option linter.all false
set_option maxRecDepth 100000
set_option maxHeartbeats 4000000
namespace K91
open PySem PySem.Spec PyProof.Rows L2 Evl
section
variable {P : Program} {w : World} {K : PySem.W.Frag} {mg : Str → Option Value} {base : Heap}
theorem int_of {ns : List Int} {i : Nat} {y : V} (hi : (ns.map V.int)[i]? = some y) : ∃ z, ns[i]? = some z ∧ y = V.int z := by
  rw [List.getElem?_map] at hi
  cases e : ns[i]? with
  | none => rw [e] at hi; cases hi
  | some z => rw [e] at hi; exact ⟨z, rfl, (Option.some.inj hi).symm⟩
abbrev s__law_source : Stmt := top 28
abbrev N__law_source : List Str := ["script", "mixed", "cell", "cells", "k"]
theorem sc__law_source : FnScope N__law_source ["script"] (defScope s__law_source) := ⟨rfl, rfl, rfl, by decide +kernel, rfl, by decide +kernel, by decide +kernel⟩
theorem ok_source {f : Addr} {fd : FuncData} (F : Fun K "_law_source" "_law_source" s__law_source f fd) (T : Blt mg) : FnOk P w K mg base CX0 1 f fd ["script"] (spSource K) := by
  refine F.ok sc__law_source (fun vs H Q E h => ?_) (fun cdv A outer s H vs Q E hr h => ?_)
  · obtain ⟨a, ns, rfl, _⟩ := h
    rfl
  · obtain ⟨a, ns, rfl, hS, hlen, k⟩ := h
    have hu := hu_of hr
    refine ⟨_, (pss_cons (ps_set (i := 1) sc__law_source.nd rfl (Or.inl rfl) (pe_int))
      (pss_cons (ps_for PassesOwn.never rfl (pi_list (pv 0)) (pg_name (i := 2) sc__law_source.nd rfl (Or.inl rfl)) (pss_one (ps_set (i := 1) sc__law_source.nd rfl (Or.inl rfl) (pe_op op_mod (pe_callTy call_int1 (by rfl) T.int (by decide +kernel) (pa_cons (pe_op op_add (pe_op op_add (pe_op op_mul (pv 1) (pe_int)) (pe_op op_mul (pv 2) (pe_int))) (pe_int)) pa_nil)) (pe_int)))))
      (pss_cons (ps_set (i := 3) sc__law_source.nd rfl (Or.inr rfl) (pe_lc (own := [("cell", 2)]) (g := gName 2) (by rfl) sc__law_source.nd (pi_list (pv 0)) (blkOk_by (own := [("cell", 2)]) (N := N__law_source) (sc := defScope s__law_source) (by decide +kernel)) (fun _ _ _ _ _ => pg_name (i := 2) sc__law_source.nd rfl (Or.inl rfl)) (fun _ _ _ _ _ => pts_nil) (fun _ _ _ _ _ => pe_callB call_abs (by rfl) T.abs (by decide +kernel) (pa_cons (pv 2) pa_nil))))
      (pss_one (ps_ret (pe_disp (pps_cons (pe_str) (pe_lc (own := [("k", 4)]) (g := gName 4) (by rfl) sc__law_source.nd (pi_range1 (by rfl) T.range (pa_cons (pe_callB (call_lenK K) (by rfl) T.len (by decide +kernel) (pa_cons (pv 3) pa_nil)) pa_nil)) (blkOk_by (own := [("k", 4)]) (N := N__law_source) (sc := defScope s__law_source) (by decide +kernel)) (fun _ _ _ _ _ => pg_name (i := 4) sc__law_source.nd rfl (Or.inl rfl)) (fun _ _ _ _ _ => pts_nil) (fun _ _ _ _ _ => pe_ix (ix_listK K) (pv 3) (pe_op op_sub (pe_op op_sub (pe_callB (call_lenK K) (by rfl) T.len (by decide +kernel) (pa_cons (pv 3) pa_nil)) (pe_int)) (pv 4)) (fun _ _ => rfl))) (pps_cons (pe_str) (pe_int) (pps_cons (pe_str) (pv 1) (pps_cons (pe_str) (pe_int) pps_nil)))) (by rfl) (by rfl) (fun z => by cases z) (by decide))))))), ?_⟩
    refine ⟨_, rfl, a, rfl, ⟨_, hS⟩, for_list (K := K) (a := a) (xs := ns.map V.int) (fun i σ H1 => ∃ (m : Int) (v : Option V), σ = [some (.ref a), some (.int m), v, none, none] ∧ H1 = H) ⟨11, none, rfl, rfl⟩ (fun i σ H1 _ ⟨_, _, _, e⟩ => by rw [e]; exact hS) ?_ ?_⟩
    · rintro i y σ H1 hi ⟨m, v, rfl, rfl⟩
      obtain ⟨z, _, rfl⟩ := int_of hi
      refine ⟨_, rfl, _, _, rfl, rfl, .inr (by decide), _, rfl, _, _, rfl, rfl, .inr (by decide), _, _, rfl, rfl, _, _, rfl, rfl, .inl ⟨_, rfl, _, _, rfl, rfl, (by show (0 : Int) < _; decide), ?_⟩⟩
      exact ⟨_, _, rfl, rfl⟩
    · rintro σ H1 ⟨m, v, rfl, rfl⟩
      have hl : (ns.map V.int).length = ns.length := List.length_map _
      -- cells = [abs(cell) for cell in script]
      have len0 : (ns.map V.int).length = ns.length := List.length_map _
      dsimp only
      refine q_asgL (xs := given (ns.map V.int).length (fun _ => true) (fun i => .int (if ns.getD i 0 < 0 then - ns.getD i 0 else ns.getD i 0))) (by
        refine el_lcL (K := K) (xs := ns.map V.int) (a := a) (fun _ => true) _ (ev_var rfl) hS (by omega) (fun _ => rfl) (fun i x H2 e2 hi => ?_) (fun i x H2 e2 hi _ => ?_)
        · exact et_yes
        · obtain ⟨z, hz, rfl⟩ := int_of hi
          rw [List.getD_eq_getElem?_getD, hz]
          exact fun H3 e3 Q3 q3 => ⟨_, rfl, z, rfl, q3 H3 (Ex.refl H3)⟩) (fun L H2 hL e2 h2 => ?_)
      rw [given_all, hl] at h2
      -- the dict
      intro d hd
      have nLd : L ≠ d := ne_of_none h2 hd
      have ex3 : Ex H2 (upd H2 d (.dK [])) := Ex.new hd
      have h3 : (upd H2 d (.dK [])) L = some (.lst ((List.range ns.length).map fun i => .int (if ns.getD i 0 < 0 then - ns.getD i 0 else ns.getD i 0))) := by rw [upd_ne nLd]; exact h2
      simp only [tPairs, tC, List.map_cons, List.map_nil]
      refine use_lc (xs := given ns.length (fun _ => true) (fun i => .int (if ns.getD (ns.length - 1 - i) 0 < 0 then - ns.getD (ns.length - 1 - i) 0 else ns.getD (ns.length - 1 - i) 0))) ?_ ?_
      · have lenE : ((List.range ns.length).map fun i => (V.int (if ns.getD i 0 < 0 then - ns.getD i 0 else ns.getD i 0))).length = ns.length := by rw [List.length_map, List.length_range]
        have eq : (ns.length : Int).toNat = ns.length := Int.toNat_natCast _
        rw [← eq]
        refine el_lcR1 (n := (ns.length : Int)) (fun _ => true) _ ?_ (by omega) (fun _ => rfl) (fun i H4 e4 hi => et_yes) (fun i H4 e4 hi _ => ?_)
        · have q := ev_len (K := K) (ta := tVar 3) (σ := [some (.ref a), some (.int m), v, some (.ref L), none]) (ev_var rfl) (sq_of h3)
          rw [lenE] at q
          exact ea_cons q ea_nil
        · have h4 := e4 L _ h3
          have q := ev_len (K := K) (ta := tVar 3) (σ := [some (.ref a), some (.int m), v, some (.ref L), some (.int (i : Int))]) (ev_var rfl) (sq_of h4)
          rw [lenE] at q
          refine ev_op (ev_var rfl) (ev_op (ev_op q ev_c rv_I0) (ev_var rfl) rv_I0) (rv_ixL (sq_of h4) ?_)
          have ei : ((ns.length : Int) - 1 - (i : Int)) = ((ns.length - 1 - i : Nat) : Int) := by omega
          rw [ei]
          refine atI_nat ?_
          rw [List.getElem?_map, List.getElem?_range (by omega)]
          rfl
      · intro R H4 hR e4 h4
        rw [given_all] at h4
        have hd4 : H4 d = some (.dK []) := e4 _ _ upd_same
        refine ⟨_, rfl, hd4, srcD R 1 m 0, rfl, (by show 4 ≤ 15; decide), ?_⟩
        rw [merge_src]
        have nRd : d ≠ R := ne_of_none upd_same hR
        refine k d R _ (fresh_back e2 hd) (fresh_back e2 (fresh_back ex3 hR)) ?_ ?_
        · refine ⟨(List.range ns.length).map fun i => (if ns.getD (ns.length - 1 - i) 0 < 0 then - ns.getD (ns.length - 1 - i) 0 else ns.getD (ns.length - 1 - i) 0), 1, m, 0, upd_same, ?_, by rw [List.length_map, List.length_range]; exact hlen⟩
          rw [upd_ne nRd.symm, h4, List.map_map]
          rfl
        · exact fun b o q => by
            rw [upd_ne (ne_of_none (e2 _ _ q) hd)]
            exact e4 _ _ (ex3 _ _ (e2 _ _ q))
end
end K91


set_option Elab.async false
set_option linter.all false
set_option maxRecDepth 100000
set_option maxHeartbeats 4000000
namespace K91
open PySem PySem.Spec PyProof.Rows L2 Evl NdefX
section
variable {P : Program} {w : World} {K : PySem.W.Frag} {mg : Str → Option Value} {base : Heap} {C f cc c : Addr} {B nI iI : String} {bB : List Value} {fd : FuncData}
theorem init_UnknownMember (T : XI P K mg "UnknownMember" "UnknownMember.__init__" (inClass (top 22) 0) ["self", "name"] C f cc c B nI iI bB fd) (hno : PySem.W.findIn K (.ref C) "name" = some none) : FnOk P w K mg base (L2.CX P w) 1 f fd ["self", "name"] (spNm C) := by
  obtain ⟨oc, od, osl, kV, doc, pm, an, ct, rfl, lk⟩ := T.lk
  exact ok_nm T.xb T.xc T.xs (by decide +kernel) hno ⟨_, fun _ => rfl⟩ lk T.cd
theorem xst_var {K : PySem.W.Frag} {C a dx : Addr} {f : Str} {i : Nat} {y : V} {fs : List (Str × V)} {D : Ends} {σ : L2.St} {H : Hp} (hno : PySem.W.findIn K (.ref C) f = some none) (s0 : σ[0]? = some (some (.ref a))) (si : σ[i]? = some (some y)) (ea : H a = some (exo a C (some dx))) (ed : H dx = some (exd dx fs)) (hl : fs.length ≤ 900)
    (q : D.nx σ (upd H dx (exd dx ((f, y) :: fs)))) : tXst K C f (tVar 0) (tVar i) D σ H := ⟨_, si, _, s0, a, rfl, hno, .inr ⟨dx, fs, ea, ed, hl, q⟩⟩
theorem two_go (K : PySem.W.Frag) {D1 D2 : Ends} {σ : L2.St} {H : Hp} {a l : Addr} {x : Str} {ys : List V} (s0 : σ[0]? = some (some (.ref a))) (s1 : σ[1]? = some (some (.str x))) (s2 : σ[2]? = some (some (.ref l))) (h1 : PySem.W.findIn K (.ref C) "sign" = some none) (h2 : PySem.W.findIn K (.ref C) "arguments" = some none) (hl : SqL K H l ys ∨ SqT K H l ys) (ha : H a = some (exo a C none))
    (hD : D1.nx = tXst K C "arguments" (tVar 0) (tCB (fun xs H Q => ∃ p ys, xs = [.ref p] ∧ ((SqL K H p ys ∧ ∀ l, H l = none → Q (.ref l) (upd H l (.tup ys))) ∨ (SqT K H p ys ∧ Q (.ref p) H))) (tCons (tVar 2) tNil)) D2)
    (q : ∀ (t dx : Addr) (H' : Hp), H dx = none → dx ≠ a → H' a = some (exo a C (some dx)) → H' dx = some (exd dx [("arguments", .ref t), ("sign", .str x)]) → SqT K H' t ys → (∀ b o, H b = some o → b ≠ a → H' b = some o) → D2.nx σ H') :
    tXst K C "sign" (tVar 0) (tVar 1) D1 σ H := by
  refine ⟨_, s1, _, s0, a, rfl, h1, .inl ⟨ha, fun dx hd ne => ?_⟩⟩
  rw [hD]
  have b1 := one_but (a := a) (C := C) (fs := [("sign", V.str x)]) hd
  have ea : (upd (upd H dx (exd dx [("sign", V.str x)])) a (exo a C (some dx))) a = some (exo a C (some dx)) := upd_same
  have ed : (upd (upd H dx (exd dx [("sign", V.str x)])) a (exo a C (some dx))) dx = some (exd dx [("sign", V.str x)]) := by rw [upd_ne ne, upd_same]
  refine ⟨_, s2, l, ys, rfl, ?_⟩
  rcases seq_but b1 ha hl with hs | hs
  · refine .inl ⟨hs, fun t ht => ⟨_, s0, a, rfl, h2, .inr ?_⟩⟩
    have na : a ≠ t := ne_of_none ea ht
    have nd : dx ≠ t := ne_of_none ed ht
    refine xst_go (G := fun H' => D2.nx σ H') (fs := [("sign", V.str x)]) (dx := dx) (by rw [upd_ne na]; exact ea) (by rw [upd_ne nd]; exact ed) (by show 1 ≤ 900; decide) ?_
    refine q t dx _ hd ne (by rw [upd_ne ne.symm, upd_ne na]; exact ea) upd_same (SqT.of (by rw [upd_ne nd.symm, upd_same])) fun b o h hb => ?_
    have := b1 b o h hb
    rw [upd_ne (ne_of_none h hd), upd_ne (ne_of_none this ht)]
    exact this
  · refine .inr ⟨hs, _, s0, a, rfl, h2, .inr ?_⟩
    refine xst_go (G := fun H' => D2.nx σ H') (fs := [("sign", V.str x)]) (dx := dx) ea ed (by show 1 ≤ 900; decide) ?_
    have b2 : ∀ b o, (upd (upd H dx (exd dx [("sign", V.str x)])) a (exo a C (some dx))) b = some o → b ≠ dx → (upd (upd (upd H dx (exd dx [("sign", V.str x)])) a (exo a C (some dx))) dx (exd dx [("arguments", V.ref l), ("sign", V.str x)])) b = some o := fun b o h hb => by rw [upd_ne hb]; exact h
    refine q l dx _ hd ne (by rw [upd_ne ne.symm]; exact ea) upd_same ?_ fun b o h hb => b2 b o (b1 b o h hb) (ne_of_none h hd)
    rcases hs with (z | ⟨ob, z⟩) | z
    · exact .inl (.inl (b2 _ _ z (ne_of z ed fun y => exd_tup y.symm)))
    · exact .inl (.inr ⟨ob, b2 _ _ z (ne_of z ed fun y => by cases y)⟩)
    · exact .inr z
theorem init_NotClosed (T : XI P K mg "NotClosed" "NotClosed.__init__" (inClass (top 8) 0) ["self", "sign", "arguments"] C f cc c B nI iI bB fd) (tp : mg "tuple" = none) (h1 : PySem.W.findIn K (.ref C) "sign" = some none) (h2 : PySem.W.findIn K (.ref C) "arguments" = some none) : FnOk P w K mg base (L2.CX P w) 1 f fd ["self", "sign", "arguments"] (spSA K C) := by
  obtain ⟨oc, od, osl, kV, doc, pm, an, ct, rfl, lk⟩ := T.lk
  refine fn_super (N := ["self", "sign", "arguments", "__class__"]) (F := nfS (inClass (top 8) 0) "NotClosed.__init__" cc c) (k := 0) T.xb T.xc T.xs lk T.cd rfl (fun _ => rfl) (fun _ => rfl) ⟨_, fun _ => rfl⟩ (fun _ => rfl) (by exact nscope_by (by show nscB _ _ _ (defScope (inClass (top 8) 0)) = true; decide +kernel)) rfl (fun vs H Q E h => ?_) (fun A outer s H vs Q E hr h => ?_)
  · obtain ⟨a, x, l, ys, rfl, _⟩ := h
    rfl
  obtain ⟨a, x, l, ys, rfl, hx, hl, ha, q⟩ := h
  refine ⟨_, _, a, pe_joined (PJ.cons pe_str (PJ.cons (pe_fmtR (pv 1)) (PJ.cons pe_str PJ.nil))), pss_cons (ps_xst T.xb T.xc (pv 0) (pv 1)) (pss_one (ps_xst T.xb T.xc (pv 0) (pe_callTy (call_tupK K) (by rfl) tp (by decide +kernel) (pa_cons (pv 2) pa_nil)))), rfl, ha, ?_⟩
  refine ⟨_, rfl, le_line (emp_le (n := 1000) (by decide +kernel)) (by decide), _, rfl, .inl ⟨x, rfl, le_line hx.repr (by decide), _, rfl, le_line (app_le (emp_le (n := 1000) (by decide +kernel)) hx.repr) (by decide), _, rfl, le_line (app_le (app_le (emp_le (n := 1000) (by decide +kernel)) hx.repr) (n := 1000) (by decide +kernel)) (by decide), ha, ?_⟩⟩
  exact two_go K rfl rfl rfl h1 h2 hl ha rfl q
theorem init_NotKept (T : XI P K mg "NotKept" "NotKept.__init__" (inClass (top 13) 0) ["self", "sign", "arguments"] C f cc c B nI iI bB fd) (tp : mg "tuple" = none) (h1 : PySem.W.findIn K (.ref C) "sign" = some none) (h2 : PySem.W.findIn K (.ref C) "arguments" = some none) : FnOk P w K mg base (L2.CX P w) 1 f fd ["self", "sign", "arguments"] (spSA K C) := by
  obtain ⟨oc, od, osl, kV, doc, pm, an, ct, rfl, lk⟩ := T.lk
  refine fn_super (N := ["self", "sign", "arguments", "__class__"]) (F := nfS (inClass (top 13) 0) "NotKept.__init__" cc c) (k := 0) T.xb T.xc T.xs lk T.cd rfl (fun _ => rfl) (fun _ => rfl) ⟨_, fun _ => rfl⟩ (fun _ => rfl) (by exact nscope_by (by show nscB _ _ _ (defScope (inClass (top 13) 0)) = true; decide +kernel)) rfl (fun vs H Q E h => ?_) (fun A outer s H vs Q E hr h => ?_)
  · obtain ⟨a, x, l, ys, rfl, _⟩ := h
    rfl
  obtain ⟨a, x, l, ys, rfl, hx, hl, ha, q⟩ := h
  refine ⟨_, _, a, pe_joined (PJ.cons pe_str (PJ.cons (pe_fmtR (pv 1)) PJ.nil)), pss_cons (ps_xst T.xb T.xc (pv 0) (pv 1)) (pss_one (ps_xst T.xb T.xc (pv 0) (pe_callTy (call_tupK K) (by rfl) tp (by decide +kernel) (pa_cons (pv 2) pa_nil)))), rfl, ha, ?_⟩
  refine ⟨_, rfl, le_line (emp_le (n := 1000) (by decide +kernel)) (by decide), _, rfl, .inl ⟨x, rfl, le_line hx.repr (by decide), _, rfl, le_line (app_le (emp_le (n := 1000) (by decide +kernel)) hx.repr) (by decide), ha, ?_⟩⟩
  exact two_go K rfl rfl rfl h1 h2 hl ha rfl q
theorem init_NotLinked (T : XI P K mg "NotLinked" "NotLinked.__init__" (inClass (top 15) 0) ["self", "sign", "arguments", "place", "other"] C f cc c B nI iI bB fd) (tp : mg "tuple" = none) (h1 : PySem.W.findIn K (.ref C) "sign" = some none)(h2 : PySem.W.findIn K (.ref C) "arguments" = some none)(h3 : PySem.W.findIn K (.ref C) "place" = some none)(h4 : PySem.W.findIn K (.ref C) "other" = some none) : FnOk P w K mg base (L2.CX P w) 1 f fd ["self", "sign", "arguments", "place", "other"] (spNL K C) := by
  obtain ⟨oc, od, osl, kV, doc, pm, an, ct, rfl, lk⟩ := T.lk
  refine fn_super (N := ["self", "sign", "arguments", "place", "other", "__class__"]) (F := nfS (inClass (top 15) 0) "NotLinked.__init__" cc c) (k := 0) T.xb T.xc T.xs lk T.cd rfl (fun _ => rfl) (fun _ => rfl) ⟨_, fun _ => rfl⟩ (fun _ => rfl) (by exact nscope_by (by show nscB _ _ _ (defScope (inClass (top 15) 0)) = true; decide +kernel)) rfl (fun vs H Q E h => ?_) (fun A outer s H vs Q E hr h => ?_)
  · obtain ⟨a, x, l, ys, i, z, rfl, _⟩ := h
    rfl
  obtain ⟨a, x, l, ys, i, z, rfl, hx, hz, i0, i1, hl, ha, q⟩ := h
  refine ⟨_, _, a, pe_joined (PJ.cons pe_str (PJ.cons (pe_fmtR (pv 1)) (PJ.cons pe_str (PJ.cons (pe_fmtR (pv 4)) (PJ.cons pe_str (PJ.cons (pe_fmt (pv 3)) (PJ.cons pe_str PJ.nil))))))), pss_cons (ps_xst T.xb T.xc (pv 0) (pv 1)) (pss_cons (ps_xst T.xb T.xc (pv 0) (pe_callTy (call_tupK K) (by rfl) tp (by decide +kernel) (pa_cons (pv 2) pa_nil))) (pss_cons (ps_xst T.xb T.xc (pv 0) (pv 3)) (pss_one (ps_xst T.xb T.xc (pv 0) (pv 4))))), rfl, ha, ?_⟩
  have l1 := app_le (emp_le (n := 1000) (y := "the values of ") (by decide +kernel)) hx.repr
  have l2 := app_le l1 (y := " with ") (n := 1000) (by decide +kernel)
  have l3 := app_le l2 hz.repr
  have l4 := app_le l3 (y := " in place ") (n := 1000) (by decide +kernel)
  have l5 := app_le l4 (int_wee i0 i1)
  have l6 := app_le l5 (y := " lie in unlike blocks") (n := 1000) (by decide +kernel)
  refine ⟨_, rfl, le_line (emp_le (n := 1000) (by decide +kernel)) (by decide), _, rfl, .inl ⟨x, rfl, le_line hx.repr (by decide), _, rfl, le_line l1 (by decide), _, rfl, le_line l2 (by decide), _, rfl, .inl ⟨z, rfl, le_line hz.repr (by decide), _, rfl, le_line l3 (by decide), _, rfl, le_line l4 (by decide), _, rfl, .inr ⟨i, rfl, int_log i0 i1, _, rfl, le_line l5 (by decide), _, rfl, le_line l6 (by decide), ha, ?_⟩⟩⟩⟩
  refine two_go K rfl rfl rfl h1 h2 hl ha rfl fun t dx H' n1 n2 e1 e2 e3 e4 => ?_
  refine xst_var h3 rfl rfl e1 e2 (by show 2 ≤ 900; decide) (xst_var h4 rfl rfl (by rw [upd_ne n2.symm]; exact e1) upd_same (by show 3 ≤ 900; decide) ?_)
  refine q t dx _ n1 n2 (by rw [upd_ne n2.symm, upd_ne n2.symm]; exact e1) upd_same ?_ fun b o h hb => by
    have nb : b ≠ dx := ne_of_none h n1
    rw [upd_ne nb, upd_ne nb]
    exact e4 b o h hb
  rcases e3 with (z | ⟨ob, z⟩) | z
  · have nt := ne_of z e2 (fun y => exd_tup y.symm)
    exact .inl (.inl (by rw [upd_ne nt, upd_ne nt]; exact z))
  · have nt := ne_of z e2 (fun y => by cases y)
    exact .inl (.inr ⟨ob, by rw [upd_ne nt, upd_ne nt]; exact z⟩)
  · exact .inr z
theorem init_NotKin (T : XI P K mg "NotKin" "NotKin.__init__" (inClass (top 16) 0) ["self", "left", "right"] C f cc c B nI iI bB fd) (h1 : PySem.W.findIn K (.ref C) "left" = some none)(h2 : PySem.W.findIn K (.ref C) "right" = some none) : FnOk P w K mg base (L2.CX P w) 1 f fd ["self", "left", "right"] (spLR C) := by
  obtain ⟨oc, od, osl, kV, doc, pm, an, ct, rfl, lk⟩ := T.lk
  refine fn_super (N := ["self", "left", "right", "__class__"]) (F := nfS (inClass (top 16) 0) "NotKin.__init__" cc c) (k := 0) T.xb T.xc T.xs lk T.cd rfl (fun _ => rfl) (fun _ => rfl) ⟨_, fun _ => rfl⟩ (fun _ => rfl) (by exact nscope_by (by show nscB _ _ _ (defScope (inClass (top 16) 0)) = true; decide +kernel)) rfl (fun vs H Q E h => ?_) (fun A outer s H vs Q E hr h => ?_)
  · obtain ⟨a, x, y, rfl, _⟩ := h
    rfl
  obtain ⟨a, x, y, rfl, ha, q⟩ := h
  refine ⟨_, _, a, pe_str, pss_cons (ps_xst T.xb T.xc (pv 0) (pv 1)) (pss_one (ps_xst T.xb T.xc (pv 0) (pv 2))), rfl, ha, ?_⟩
  refine ⟨ha, _, rfl, _, rfl, a, rfl, h1, .inl ⟨ha, fun dx hd ne => ?_⟩⟩
  refine xst_var h2 rfl rfl upd_same (by rw [upd_ne ne, upd_same]) (by show 1 ≤ 900; decide) ?_
  refine q dx _ hd ne (by rw [upd_ne ne.symm, upd_same]) upd_same fun b o h hb => ?_
  rw [upd_ne (ne_of_none h hd)]
  exact one_but hd b o h hb
theorem init_Clash (T : XI P K mg "Clash" "Clash.__init__" (inClass (top 19) 0) ["self", "labels"] C f cc c B nI iI bB fd) (tl : mg "list" = none)(h1 : PySem.W.findIn K (.ref C) "labels" = some none) : FnOk P w K mg base (L2.CX P w) 1 f fd ["self", "labels"] (spLb K C) := by
  obtain ⟨oc, od, osl, kV, doc, pm, an, ct, rfl, lk⟩ := T.lk
  refine fn_super (N := ["self", "labels", "__class__"]) (F := nfS (inClass (top 19) 0) "Clash.__init__" cc c) (k := 0) T.xb T.xc T.xs lk T.cd rfl (fun _ => rfl) (fun _ => rfl) ⟨_, fun _ => rfl⟩ (fun _ => rfl) (by exact nscope_by (by show nscB _ _ _ (defScope (inClass (top 19) 0)) = true; decide +kernel)) rfl (fun vs H Q E h => ?_) (fun A outer s H vs Q E hr h => ?_)
  · obtain ⟨a, l, ys, rfl, _⟩ := h
    rfl
  obtain ⟨a, l, ys, rfl, hl, ha, q⟩ := h
  refine ⟨_, _, a, pe_str, pss_one (ps_xst T.xb T.xc (pv 0) (pe_callTy (call_listK K) (by rfl) tl (by decide +kernel) (pa_cons (pv 1) pa_nil))), rfl, ha, ?_⟩
  refine ⟨ha, _, rfl, l, ys, rfl, hl, fun t ht => ?_⟩
  have na : a ≠ t := ne_of_none ha ht
  refine ⟨_, rfl, a, rfl, h1, .inl ⟨by rw [upd_ne na]; exact ha, fun dx hd ne => ?_⟩⟩
  have nd : dx ≠ t := fun z => by rw [z, upd_same] at hd; cases hd
  have hd' : H dx = none := by rw [upd_ne nd] at hd; exact hd
  refine q t dx _ hd' ne upd_same (by rw [upd_ne ne, upd_same]) ⟨ht, by rw [upd_ne na.symm, upd_ne nd.symm, upd_same]⟩ fun b o h hb => ?_
  rw [upd_ne hb, upd_ne (ne_of_none h hd'), upd_ne (ne_of_none h ht)]
  exact h
theorem init_BadName (T : XI P K mg "BadName" "BadName.__init__" (inClass (top 17) 0) ["self", "name"] C f cc c B nI iI bB fd) (hno : PySem.W.findIn K (.ref C) "name" = some none) : FnOk P w K mg base (L2.CX P w) 1 f fd ["self", "name"] (spNm C) := by
  obtain ⟨oc, od, osl, kV, doc, pm, an, ct, rfl, lk⟩ := T.lk
  exact ok_nm T.xb T.xc T.xs (by decide +kernel) hno ⟨_, fun _ => rfl⟩ lk T.cd
theorem init_TwiceTold (T : XI P K mg "TwiceTold" "TwiceTold.__init__" (inClass (top 18) 0) ["self", "name"] C f cc c B nI iI bB fd) (hno : PySem.W.findIn K (.ref C) "name" = some none) : FnOk P w K mg base (L2.CX P w) 1 f fd ["self", "name"] (spNm C) := by
  obtain ⟨oc, od, osl, kV, doc, pm, an, ct, rfl, lk⟩ := T.lk
  exact ok_nm T.xb T.xc T.xs (by decide +kernel) hno ⟨_, fun _ => rfl⟩ lk T.cd
theorem init_UnknownSign (T : XI P K mg "UnknownSign" "UnknownSign.__init__" (inClass (top 23) 0) ["self", "name"] C f cc c B nI iI bB fd) (hno : PySem.W.findIn K (.ref C) "name" = some none) : FnOk P w K mg base (L2.CX P w) 1 f fd ["self", "name"] (spNm C) := by
  obtain ⟨oc, od, osl, kV, doc, pm, an, ct, rfl, lk⟩ := T.lk
  exact ok_nm T.xb T.xc T.xs (by decide +kernel) hno ⟨_, fun _ => rfl⟩ lk T.cd
theorem init_UnknownName (T : XI P K mg "UnknownName" "UnknownName.__init__" (inClass (top 24) 0) ["self", "name"] C f cc c B nI iI bB fd) (hno : PySem.W.findIn K (.ref C) "name" = some none) : FnOk P w K mg base (L2.CX P w) 1 f fd ["self", "name"] (spNm C) := by
  obtain ⟨oc, od, osl, kV, doc, pm, an, ct, rfl, lk⟩ := T.lk
  exact ok_nm T.xb T.xc T.xs (by decide +kernel) hno ⟨_, fun _ => rfl⟩ lk T.cd
theorem init_NoValue (T : XI P K mg "NoValue" "NoValue.__init__" (inClass (top 25) 0) ["self", "name"] C f cc c B nI iI bB fd) (hno : PySem.W.findIn K (.ref C) "name" = some none) : FnOk P w K mg base (L2.CX P w) 1 f fd ["self", "name"] (spNm C) := by
  obtain ⟨oc, od, osl, kV, doc, pm, an, ct, rfl, lk⟩ := T.lk
  exact ok_nm T.xb T.xc T.xs (by decide +kernel) hno ⟨_, fun _ => rfl⟩ lk T.cd
theorem init_NotTold (T : XI P K mg "NotTold" "NotTold.__init__" (inClass (top 26) 0) ["self", "name"] C f cc c B nI iI bB fd) (hno : PySem.W.findIn K (.ref C) "name" = some none) : FnOk P w K mg base (L2.CX P w) 1 f fd ["self", "name"] (spNm C) := by
  obtain ⟨oc, od, osl, kV, doc, pm, an, ct, rfl, lk⟩ := T.lk
  exact ok_nm T.xb T.xc T.xs (by decide +kernel) hno ⟨_, fun _ => rfl⟩ lk T.cd
theorem init_BadText (T : XI P K mg "BadText" "BadText.__init__" (inClass (top 5) 0) ["self", "place"] C f cc c B nI iI bB fd) (hno : PySem.W.findIn K (.ref C) "place" = some none) : FnOk P w K mg base (L2.CX P w) 1 f fd ["self", "place"] (spPl C) := by
  obtain ⟨oc, od, osl, kV, doc, pm, an, ct, rfl, lk⟩ := T.lk
  exact ok_pl T.xb T.xc T.xs (by decide +kernel) hno ⟨_, fun _ => rfl⟩ lk T.cd
end
end K91


set_option Elab.async false
set_option linter.all false
set_option maxRecDepth 100000
set_option maxHeartbeats 4000000
namespace K91
open PySem PySem.Spec PyProof.Rows L2 Evl NdefX
/-- what the top has made -/
structure T91 (P : Program) (K : PySem.W.Frag) (mg : Str → Option Value) (C f cc c : Nat → Addr) (fd : Nat → FuncData) (ce cm : Addr) : Prop where
  bl : Blt mg
  x0 : X0 K mg "BadAlgebra" (C 0) "ValueError" "ValueError.__new__" "ValueError.__init__" [.type "ValueError", .type "Exception", .type "BaseException", .type "object"]
  x1 : X0 K mg "BadCount" (C 1) "ValueError" "ValueError.__new__" "ValueError.__init__" [.type "ValueError", .type "Exception", .type "BaseException", .type "object"]
  x2 : X0 K mg "BadTerm" (C 2) "ValueError" "ValueError.__new__" "ValueError.__init__" [.type "ValueError", .type "Exception", .type "BaseException", .type "object"]
  x3 : X0 K mg "TooMany" (C 3) "ValueError" "ValueError.__new__" "ValueError.__init__" [.type "ValueError", .type "Exception", .type "BaseException", .type "object"]
  x4 : X0 K mg "NoMembers" (C 4) "ValueError" "ValueError.__new__" "ValueError.__init__" [.type "ValueError", .type "Exception", .type "BaseException", .type "object"]
  x5 : X0 K mg "MixedSigns" (C 5) "ValueError" "ValueError.__new__" "ValueError.__init__" [.type "ValueError", .type "Exception", .type "BaseException", .type "object"]
  x6 : X0 K mg "MixedMembers" (C 6) "ValueError" "ValueError.__new__" "ValueError.__init__" [.type "ValueError", .type "Exception", .type "BaseException", .type "object"]
  x7 : X0 K mg "MixedAlgebras" (C 7) "ValueError" "ValueError.__new__" "ValueError.__init__" [.type "ValueError", .type "Exception", .type "BaseException", .type "object"]
  x8 : X0 K mg "BadImages" (C 8) "ValueError" "ValueError.__new__" "ValueError.__init__" [.type "ValueError", .type "Exception", .type "BaseException", .type "object"]
  x9 : X0 K mg "BadBlocks" (C 9) "ValueError" "ValueError.__new__" "ValueError.__init__" [.type "ValueError", .type "Exception", .type "BaseException", .type "object"]
  x10 : X0 K mg "NothingDone" (C 10) "ValueError" "ValueError.__new__" "ValueError.__init__" [.type "ValueError", .type "Exception", .type "BaseException", .type "object"]
  x11 : XI P K mg "BadText" "BadText.__init__" (inClass (top 5) 0) ["self", "place"] (C 11) (f 11) (cc 11) (c 11) "ValueError" "ValueError.__new__" "ValueError.__init__" [.type "ValueError", .type "Exception", .type "BaseException", .type "object"] (fd 11)
  x12 : XI P K mg "NotClosed" "NotClosed.__init__" (inClass (top 8) 0) ["self", "sign", "arguments"] (C 12) (f 12) (cc 12) (c 12) "ValueError" "ValueError.__new__" "ValueError.__init__" [.type "ValueError", .type "Exception", .type "BaseException", .type "object"] (fd 12)
  x13 : XI P K mg "NotKept" "NotKept.__init__" (inClass (top 13) 0) ["self", "sign", "arguments"] (C 13) (f 13) (cc 13) (c 13) "ValueError" "ValueError.__new__" "ValueError.__init__" [.type "ValueError", .type "Exception", .type "BaseException", .type "object"] (fd 13)
  x14 : XI P K mg "NotLinked" "NotLinked.__init__" (inClass (top 15) 0) ["self", "sign", "arguments", "place", "other"] (C 14) (f 14) (cc 14) (c 14) "ValueError" "ValueError.__new__" "ValueError.__init__" [.type "ValueError", .type "Exception", .type "BaseException", .type "object"] (fd 14)
  x15 : XI P K mg "NotKin" "NotKin.__init__" (inClass (top 16) 0) ["self", "left", "right"] (C 15) (f 15) (cc 15) (c 15) "ValueError" "ValueError.__new__" "ValueError.__init__" [.type "ValueError", .type "Exception", .type "BaseException", .type "object"] (fd 15)
  x16 : XI P K mg "BadName" "BadName.__init__" (inClass (top 17) 0) ["self", "name"] (C 16) (f 16) (cc 16) (c 16) "ValueError" "ValueError.__new__" "ValueError.__init__" [.type "ValueError", .type "Exception", .type "BaseException", .type "object"] (fd 16)
  x17 : XI P K mg "TwiceTold" "TwiceTold.__init__" (inClass (top 18) 0) ["self", "name"] (C 17) (f 17) (cc 17) (c 17) "ValueError" "ValueError.__new__" "ValueError.__init__" [.type "ValueError", .type "Exception", .type "BaseException", .type "object"] (fd 17)
  x18 : XI P K mg "Clash" "Clash.__init__" (inClass (top 19) 0) ["self", "labels"] (C 18) (f 18) (cc 18) (c 18) "ValueError" "ValueError.__new__" "ValueError.__init__" [.type "ValueError", .type "Exception", .type "BaseException", .type "object"] (fd 18)
  x19 : XI P K mg "UnknownMember" "UnknownMember.__init__" (inClass (top 22) 0) ["self", "name"] (C 19) (f 19) (cc 19) (c 19) "LookupError" "LookupError.__new__" "LookupError.__init__" [.type "LookupError", .type "Exception", .type "BaseException", .type "object"] (fd 19)
  x20 : XI P K mg "UnknownSign" "UnknownSign.__init__" (inClass (top 23) 0) ["self", "name"] (C 20) (f 20) (cc 20) (c 20) "LookupError" "LookupError.__new__" "LookupError.__init__" [.type "LookupError", .type "Exception", .type "BaseException", .type "object"] (fd 20)
  x21 : XI P K mg "UnknownName" "UnknownName.__init__" (inClass (top 24) 0) ["self", "name"] (C 21) (f 21) (cc 21) (c 21) "LookupError" "LookupError.__new__" "LookupError.__init__" [.type "LookupError", .type "Exception", .type "BaseException", .type "object"] (fd 21)
  x22 : XI P K mg "NoValue" "NoValue.__init__" (inClass (top 25) 0) ["self", "name"] (C 22) (f 22) (cc 22) (c 22) "LookupError" "LookupError.__new__" "LookupError.__init__" [.type "LookupError", .type "Exception", .type "BaseException", .type "object"] (fd 22)
  x23 : XI P K mg "NotTold" "NotTold.__init__" (inClass (top 26) 0) ["self", "name"] (C 23) (f 23) (cc 23) (c 23) "LookupError" "LookupError.__new__" "LookupError.__init__" [.type "LookupError", .type "Exception", .type "BaseException", .type "object"] (fd 23)
  ge : mg "EqualkinError" = some (.ref ce)
  gm : mg "NameMissing" = some (.ref cm)
  ec : ∀ i, i < 24 → ExcC K (C i)
  nf : ∀ i, i < 24 → ∀ n : Str, n ∈ (["name", "place", "sign", "arguments", "other", "left", "right", "labels"] : List Str) → PySem.W.findIn K (.ref (C i)) n = some none
  kt : ∀ i j, i < 24 → j < 24 → PySem.W.kitOne K (.ref (C i)) (.ref (C j)) = some (decide (i = j))
  kv : ∀ i, i < 24 → PySem.W.kitOne K (.ref (C i)) (.type "ValueError") = some (decide (i < 19))
  ke : ∀ i, i < 24 → PySem.W.kitOne K (.ref (C i)) (.ref ce) = some (decide (i < 19))
  kl : ∀ i, i < 24 → PySem.W.kitOne K (.ref (C i)) (.type "LookupError") = some (!decide (i < 19))
  km : ∀ i, i < 24 → PySem.W.kitOne K (.ref (C i)) (.ref cm) = some (!decide (i < 19))
  kk : ∀ i, i < 24 → PySem.W.kitOne K (.ref (C i)) (.type "KeyError") = some false
  kx : ∀ i, i < 24 → PySem.W.kitOne K (.ref (C i)) (.type "IndexError") = some false
section
variable {P : Program} {w : World} {K : PySem.W.Frag} {mg : Str → Option Value} {base : Heap} {C f cc c : Nat → Addr} {fd : Nat → FuncData} {ce cm : Addr}
/-- a word drawn -/
def spWord : Sp := fun vs H Q _ => ∃ (d L : Addr), vs = [.ref d] ∧ Src d L H ∧ ∀ (x : Str) (H' : Hp), Wee x → Src d L H' → But d L H H' → Q (.str x) H'
abbrev s__law_word : Stmt := top 30
abbrev N__law_word : List Str := ["source"]
theorem sc__law_word : FnScope N__law_word ["source"] (defScope s__law_word) := ⟨rfl, rfl, rfl, by decide +kernel, rfl, by decide +kernel, by decide +kernel⟩
theorem ok_word {g : Addr} {gd : FuncData} (F : Fun K "_law_word" "_law_word" s__law_word g gd) (T : Blt mg) (c__law_pick : Cal P w K mg base 1 "_law_pick" ["source", "many"] spPick) : FnOk P w K mg base CX0 2 g gd ["source"] spWord := by
  refine F.ok sc__law_word (fun vs H Q E h => ?_) (fun cdv A outer s H vs Q E hr h => ?_)
  · obtain ⟨d, L, rfl, _⟩ := h
    rfl
  · obtain ⟨d, L, rfl, S, k⟩ := h
    refine ⟨_, (pss_one (ps_ret (pe_op op_add_str (pe_item_str (pe_str) (pe_cal c__law_pick (hr.mono (by decide)) (by rfl) (pa_cons (pv 0) (pa_cons (pe_int) pa_nil))) (fun _ _ => rfl)) (pe_callTy call_str_int (by rfl) T.str (by decide +kernel) (pa_cons (pe_cal c__law_pick (hr.mono (by decide)) (by rfl) (pa_cons (pv 0) (pa_cons (pe_op op_pow (pe_int) (pe_int)) pa_nil))) pa_nil))))), ?_⟩
    refine ⟨_, rfl, d, L, 26, rfl, S, by decide, fun r H1 r0 r1 S1 b1 => ?_⟩
    have rlt : r < 26 := by omega
    have hch : ∃ ch, (("abcdefghijklmnopqrstuvwxyz" : Str)).cps[r.toNat]? = some ch ∧ ch < 0x110000 := by
      have hw := wee_of "abcdefghijklmnopqrstuvwxyz" (by decide)
      have sz : ("abcdefghijklmnopqrstuvwxyz" : Str).cps.size = 26 := by decide +kernel
      have lt : r.toNat < ("abcdefghijklmnopqrstuvwxyz" : Str).cps.size := by omega
      exact ⟨_, Array.getElem?_eq_getElem lt, hw.2 _ (by simp)⟩
    obtain ⟨ch, hc, hlt⟩ := hch
    have sl : ("abcdefghijklmnopqrstuvwxyz" : Str).length = 26 := by decide +kernel
    refine ⟨_, r, ch, rfl, rfl, r0, by omega, by rw [sl]; omega, hc, ?_⟩
    refine ⟨_, rfl, 10, 6, rfl, rfl, ⟨by decide, by decide, by decide⟩, d, L, (10 : Int) ^ (6 : Int).toNat, rfl, S1, by decide, fun r2 H2 q0 q1 S2 b2 => ?_⟩
    have q2 : r2 < 10 ^ 10 := by
      have e : (10 : Int) ^ (6 : Int).toNat = 1000000 := by decide
      omega
    refine ⟨r2, rfl, int_log q0 q2, _, _, rfl, rfl, ?_, ?_⟩
    · have := int_wee q0 q2
      show 1 + _ ≤ _
      rw [sizeLine_eq]
      omega
    · refine k _ H2 ?_ S2 (b1.trans b2)
      have w1 := wee_of (toString r2) (by have := int_wee q0 q2; rw [PySem.ofString_length] at this; omega)
      refine wee_app ⟨by show 1 ≤ 1000; decide, fun z hz => ?_⟩ w1 (by have := int_wee q0 q2; show 1 + _ ≤ 1000; omega)
      have e : z = ch := by simpa using hz
      rw [e]
      exact hlt
/-- the classes of an error -/
def spClasses (C : Nat → Addr) : Sp := fun vs H Q _ => ∃ (a : Addr) (i : Nat) (fs : List (Str × V)), vs = [.ref a] ∧ i < 24 ∧ ErrAt H a (C i) fs ∧ RetL [.int (i : Int)] H Q
theorem only_one : ∀ i, i < 24 → given 24 (fun k => decide (i = k)) (fun k => V.int (k : Int)) = [V.int (i : Int)] := by decide +kernel
abbrev s__law_classes : Stmt := top 31
abbrev N__law_classes : List Str := ["e", "rows", "k"]
theorem sc__law_classes : FnScope N__law_classes ["e"] (defScope s__law_classes) := ⟨rfl, rfl, rfl, by decide +kernel, rfl, by decide +kernel, by decide +kernel⟩
set_option maxHeartbeats 16000000 in
theorem ok_classes {g : Addr} {gd : FuncData} (F : Fun K "_law_classes" "_law_classes" s__law_classes g gd) (U : T91 P K mg C f cc c fd ce cm) : FnOk P w K mg base CX0 1 g gd ["e"] (spClasses C) := by
  have T := U.bl
  refine F.ok sc__law_classes (fun vs H Q E h => ?_) (fun cdv A outer s H vs Q E hr h => ?_)
  · obtain ⟨a, i, fs, rfl, _⟩ := h
    rfl
  · obtain ⟨a, i, fs, rfl, hi, he, k⟩ := h
    refine ⟨_, (pss_cons (ps_set (i := 1) sc__law_classes.nd rfl (Or.inr rfl) (pe_lst (pa_cons (pe_callB (call_isX K) (by rfl) T.isinstance (by decide +kernel) (pa_cons (pv 0) (pa_cons (pe_gref rfl U.x0.g) pa_nil))) (pa_cons (pe_callB (call_isX K) (by rfl) T.isinstance (by decide +kernel) (pa_cons (pv 0) (pa_cons (pe_gref rfl U.x1.g) pa_nil))) (pa_cons (pe_callB (call_isX K) (by rfl) T.isinstance (by decide +kernel) (pa_cons (pv 0) (pa_cons (pe_gref rfl U.x2.g) pa_nil))) (pa_cons (pe_callB (call_isX K) (by rfl) T.isinstance (by decide +kernel) (pa_cons (pv 0) (pa_cons (pe_gref rfl U.x3.g) pa_nil))) (pa_cons (pe_callB (call_isX K) (by rfl) T.isinstance (by decide +kernel) (pa_cons (pv 0) (pa_cons (pe_gref rfl U.x4.g) pa_nil))) (pa_cons (pe_callB (call_isX K) (by rfl) T.isinstance (by decide +kernel) (pa_cons (pv 0) (pa_cons (pe_gref rfl U.x5.g) pa_nil))) (pa_cons (pe_callB (call_isX K) (by rfl) T.isinstance (by decide +kernel) (pa_cons (pv 0) (pa_cons (pe_gref rfl U.x6.g) pa_nil))) (pa_cons (pe_callB (call_isX K) (by rfl) T.isinstance (by decide +kernel) (pa_cons (pv 0) (pa_cons (pe_gref rfl U.x7.g) pa_nil))) (pa_cons (pe_callB (call_isX K) (by rfl) T.isinstance (by decide +kernel) (pa_cons (pv 0) (pa_cons (pe_gref rfl U.x8.g) pa_nil))) (pa_cons (pe_callB (call_isX K) (by rfl) T.isinstance (by decide +kernel) (pa_cons (pv 0) (pa_cons (pe_gref rfl U.x9.g) pa_nil))) (pa_cons (pe_callB (call_isX K) (by rfl) T.isinstance (by decide +kernel) (pa_cons (pv 0) (pa_cons (pe_gref rfl U.x10.g) pa_nil))) (pa_cons (pe_callB (call_isX K) (by rfl) T.isinstance (by decide +kernel) (pa_cons (pv 0) (pa_cons (pe_gref rfl U.x11.g) pa_nil))) (pa_cons (pe_callB (call_isX K) (by rfl) T.isinstance (by decide +kernel) (pa_cons (pv 0) (pa_cons (pe_gref rfl U.x12.g) pa_nil))) (pa_cons (pe_callB (call_isX K) (by rfl) T.isinstance (by decide +kernel) (pa_cons (pv 0) (pa_cons (pe_gref rfl U.x13.g) pa_nil))) (pa_cons (pe_callB (call_isX K) (by rfl) T.isinstance (by decide +kernel) (pa_cons (pv 0) (pa_cons (pe_gref rfl U.x14.g) pa_nil))) (pa_cons (pe_callB (call_isX K) (by rfl) T.isinstance (by decide +kernel) (pa_cons (pv 0) (pa_cons (pe_gref rfl U.x15.g) pa_nil))) (pa_cons (pe_callB (call_isX K) (by rfl) T.isinstance (by decide +kernel) (pa_cons (pv 0) (pa_cons (pe_gref rfl U.x16.g) pa_nil))) (pa_cons (pe_callB (call_isX K) (by rfl) T.isinstance (by decide +kernel) (pa_cons (pv 0) (pa_cons (pe_gref rfl U.x17.g) pa_nil))) (pa_cons (pe_callB (call_isX K) (by rfl) T.isinstance (by decide +kernel) (pa_cons (pv 0) (pa_cons (pe_gref rfl U.x18.g) pa_nil))) (pa_cons (pe_callB (call_isX K) (by rfl) T.isinstance (by decide +kernel) (pa_cons (pv 0) (pa_cons (pe_gref rfl U.x19.g) pa_nil))) (pa_cons (pe_callB (call_isX K) (by rfl) T.isinstance (by decide +kernel) (pa_cons (pv 0) (pa_cons (pe_gref rfl U.x20.g) pa_nil))) (pa_cons (pe_callB (call_isX K) (by rfl) T.isinstance (by decide +kernel) (pa_cons (pv 0) (pa_cons (pe_gref rfl U.x21.g) pa_nil))) (pa_cons (pe_callB (call_isX K) (by rfl) T.isinstance (by decide +kernel) (pa_cons (pv 0) (pa_cons (pe_gref rfl U.x22.g) pa_nil))) (pa_cons (pe_callB (call_isX K) (by rfl) T.isinstance (by decide +kernel) (pa_cons (pv 0) (pa_cons (pe_gref rfl U.x23.g) pa_nil))) pa_nil))))))))))))))))))))))))))
      (pss_one (ps_ret (pe_lc (own := [("k", 2)]) (g := gName 2) (by rfl) sc__law_classes.nd (pi_range1 (by rfl) T.range (pa_cons (pe_callB (call_lenK K) (by rfl) T.len (by decide +kernel) (pa_cons (pv 1) pa_nil)) pa_nil)) (blkOk_by (own := [("k", 2)]) (N := N__law_classes) (sc := defScope s__law_classes) (by decide +kernel)) (fun _ _ _ _ _ => pg_name (i := 2) sc__law_classes.nd rfl (Or.inl rfl)) (fun _ _ _ _ _ => pts_one (pt_val (pe_ix (ix_listK K) (pv 1) (pv 2) (fun _ _ => rfl)))) (fun _ _ _ _ _ => pv 2))))), ?_⟩
    refine ⟨_, rfl, a, C i, fs, _, _, decide (i = 0), rfl, he, U.ec i hi, ClsV.own _, U.kt i 0 hi (by decide),
      _, rfl, a, C i, fs, _, _, decide (i = 1), rfl, he, U.ec i hi, ClsV.own _, U.kt i 1 hi (by decide),
      _, rfl, a, C i, fs, _, _, decide (i = 2), rfl, he, U.ec i hi, ClsV.own _, U.kt i 2 hi (by decide),
      _, rfl, a, C i, fs, _, _, decide (i = 3), rfl, he, U.ec i hi, ClsV.own _, U.kt i 3 hi (by decide),
      _, rfl, a, C i, fs, _, _, decide (i = 4), rfl, he, U.ec i hi, ClsV.own _, U.kt i 4 hi (by decide),
      _, rfl, a, C i, fs, _, _, decide (i = 5), rfl, he, U.ec i hi, ClsV.own _, U.kt i 5 hi (by decide),
      _, rfl, a, C i, fs, _, _, decide (i = 6), rfl, he, U.ec i hi, ClsV.own _, U.kt i 6 hi (by decide),
      _, rfl, a, C i, fs, _, _, decide (i = 7), rfl, he, U.ec i hi, ClsV.own _, U.kt i 7 hi (by decide),
      _, rfl, a, C i, fs, _, _, decide (i = 8), rfl, he, U.ec i hi, ClsV.own _, U.kt i 8 hi (by decide),
      _, rfl, a, C i, fs, _, _, decide (i = 9), rfl, he, U.ec i hi, ClsV.own _, U.kt i 9 hi (by decide),
      _, rfl, a, C i, fs, _, _, decide (i = 10), rfl, he, U.ec i hi, ClsV.own _, U.kt i 10 hi (by decide),
      _, rfl, a, C i, fs, _, _, decide (i = 11), rfl, he, U.ec i hi, ClsV.own _, U.kt i 11 hi (by decide),
      _, rfl, a, C i, fs, _, _, decide (i = 12), rfl, he, U.ec i hi, ClsV.own _, U.kt i 12 hi (by decide),
      _, rfl, a, C i, fs, _, _, decide (i = 13), rfl, he, U.ec i hi, ClsV.own _, U.kt i 13 hi (by decide),
      _, rfl, a, C i, fs, _, _, decide (i = 14), rfl, he, U.ec i hi, ClsV.own _, U.kt i 14 hi (by decide),
      _, rfl, a, C i, fs, _, _, decide (i = 15), rfl, he, U.ec i hi, ClsV.own _, U.kt i 15 hi (by decide),
      _, rfl, a, C i, fs, _, _, decide (i = 16), rfl, he, U.ec i hi, ClsV.own _, U.kt i 16 hi (by decide),
      _, rfl, a, C i, fs, _, _, decide (i = 17), rfl, he, U.ec i hi, ClsV.own _, U.kt i 17 hi (by decide),
      _, rfl, a, C i, fs, _, _, decide (i = 18), rfl, he, U.ec i hi, ClsV.own _, U.kt i 18 hi (by decide),
      _, rfl, a, C i, fs, _, _, decide (i = 19), rfl, he, U.ec i hi, ClsV.own _, U.kt i 19 hi (by decide),
      _, rfl, a, C i, fs, _, _, decide (i = 20), rfl, he, U.ec i hi, ClsV.own _, U.kt i 20 hi (by decide),
      _, rfl, a, C i, fs, _, _, decide (i = 21), rfl, he, U.ec i hi, ClsV.own _, U.kt i 21 hi (by decide),
      _, rfl, a, C i, fs, _, _, decide (i = 22), rfl, he, U.ec i hi, ClsV.own _, U.kt i 22 hi (by decide),
      _, rfl, a, C i, fs, _, _, decide (i = 23), rfl, he, U.ec i hi, ClsV.own _, U.kt i 23 hi (by decide),
      (by show 24 ≤ sizeLine; decide), fun p hp => ?_⟩
    have ex1 : Ex H _ := Ex.new (o := .lst ((List.range 24).map fun j => V.bl (decide (i = j)))) hp
    have hl : ((List.range 24).map fun j => V.bl (decide (i = j))).length = 24 := by rw [List.length_map, List.length_range]
    unfold gName
    dsimp only
    change tRet _ _ _ (upd H p (.lst ((List.range 24).map fun j => V.bl (decide (i = j)))))
    refine use_lc (xs := [V.int (i : Int)]) ?_ fun q H2 hq e2 h2 => k q H2 (fresh_back ex1 hq) (ex1.trans e2) h2
    rw [← only_one i hi]
    refine el_lcR1 (n := 24) (fun k => decide (i = k)) (fun k => V.int (k : Int)) ?_ (by decide) (fun _ => rfl) (fun j H4 e4 hj => ?_) (fun j H4 e4 hj _ => ev_var rfl)
    · have z := ev_len (K := K) (ta := tVar 1) (σ := [some (.ref a), some (.ref p), none]) (ev_var rfl) (sq_of (upd_same (H := H) (a := p) (o := .lst ((List.range 24).map fun j => V.bl (decide (i = j))))))
      rw [hl] at z
      exact ea_cons z ea_nil
    · have z : Ev (tOp (rIxL K) (tVar 1) (tVar 2)) [some (.ref a), some (.ref p), some (.int (j : Int))] H4 (.bl (decide (i = j))) := by
        refine ev_op (ev_var rfl) (ev_var rfl) (rv_ixL (sq_of (e4 p _ upd_same)) (atI_nat ?_))
        rw [List.getElem?_map, List.getElem?_range (by omega)]
        rfl
      exact fun H5 e5 Q5 q5 => z H5 e5 _ fun H6 e6 => ⟨_, rfl, q5 H6 e6⟩
end
end K91


set_option Elab.async false
set_option linter.all false
set_option maxRecDepth 100000
set_option maxHeartbeats 4000000
namespace K91
open PySem PySem.Spec PyProof.Rows L2 Evl NdefX
section
variable {P : Program} {w : World} {K : PySem.W.Frag} {mg : Str → Option Value} {base : Heap} {C f cc c : Nat → Addr} {fd : Nat → FuncData} {ce cm : Addr}
/-! ### the plain ones -/
def spPlain (C : Nat → Addr) : Sp := fun vs H Q _ => vs = [] ∧ ∀ p as H', H p = none → Same H H' → Errs H' as ((List.range 11).map C) → H' p = some (.lst (as.map V.ref)) → Q (.ref p) H'
theorem errs_len : ∀ {H : Hp} {as Cs : List Addr}, Errs H as Cs → as.length = Cs.length := fun h => Paired.length h
theorem errs_app : ∀ {H : Hp} {as Cs bs Ds : List Addr}, Errs H as Cs → Errs H bs Ds → Errs H (as ++ bs) (Cs ++ Ds)
  | _, _, _, _, _, .nil, s => s
  | _, _, _, _, _, .cons r t, s => .cons r (errs_app t s)
theorem errs_get : ∀ {H : Hp} {as Cs : List Addr} {i : Nat} {a : Addr}, Errs H as Cs → as[i]? = some a → ∃ D, Cs[i]? = some D ∧ ErrAt H a D []
  | _, _, _, _, _, .nil, e => by simp at e
  | _, _, _, 0, _, .cons r t, e => by simp at e; subst e; exact ⟨_, rfl, r⟩
  | _, _, _, i + 1, _, .cons r t, e => by
    obtain ⟨D, h1, h2⟩ := errs_get (i := i) t (by simpa using e)
    exact ⟨D, by simpa using h1, h2⟩
abbrev s__law_plain : Stmt := top 32
abbrev N__law_plain : List Str := ["rows"]
theorem sc__law_plain : FnScope N__law_plain [] (defScope s__law_plain) := ⟨rfl, rfl, rfl, by decide +kernel, rfl, by decide +kernel, by decide +kernel⟩
theorem ok_plain {g : Addr} {gd : FuncData} (F : Fun K "_law_plain" "_law_plain" s__law_plain g gd) (U : T91 P K mg C f cc c fd ce cm) : FnOk P w K mg base CX0 1 g gd [] (spPlain C) := by
  refine F.ok sc__law_plain (fun vs H Q E h => ?_) (fun cdv A outer s H vs Q E hr h => ?_)
  · obtain ⟨rfl, _⟩ := h
    rfl
  · obtain ⟨rfl, k⟩ := h
    refine ⟨_, (pss_cons (ps_set (i := 0) sc__law_plain.nd rfl (Or.inl rfl) (pe_lst (pa_cons (U.x0.pe (by rfl)) (pa_cons (U.x1.pe (by rfl)) (pa_cons (U.x2.pe (by rfl)) (pa_cons (U.x3.pe (by rfl)) (pa_cons (U.x4.pe (by rfl)) (pa_cons (U.x5.pe (by rfl)) (pa_cons (U.x6.pe (by rfl)) pa_nil)))))))))
      (pss_one (ps_ret (pe_op op_cat (pv 0) (pe_lst (pa_cons (U.x7.pe (by rfl)) (pa_cons (U.x8.pe (by rfl)) (pa_cons (U.x9.pe (by rfl)) (pa_cons (U.x10.pe (by rfl)) pa_nil))))))))), ?_⟩
    unfold tSeq tAsg gName
    refine x0s_lst [C 0, C 1, C 2, C 3, C 4, C 5, C 6] (by show 7 ≤ 1000; decide) fun as H1 e1 h1 p hp => ?_
    have s1 : Same H1 (upd H1 p (.lst (as.map V.ref))) := same_upd hp
    refine ⟨_, rfl, ?_⟩
    refine x0s_lst [C 7, C 8, C 9, C 10] (by show 4 ≤ 1000; decide) fun bs H2 e2 h2 q hq => ?_
    have s2 : Same H2 (upd H2 q (.lst (bs.map V.ref))) := same_upd hq
    refine ⟨p, q, as.map V.ref, bs.map V.ref, rfl, rfl, s2 _ _ (e2 _ _ upd_same), upd_same, ?_, fun r hr2 => ?_⟩
    · rw [List.length_map, List.length_map, errs_len h1, errs_len h2]
      show 7 + 4 ≤ sizeLine
      decide
    have s3 := same_upd (o := .lst (as.map V.ref ++ bs.map V.ref)) hr2
    have t3 := (((e1.trans s1).trans e2).trans s2).trans s3
    have er : Errs _ (as ++ bs) ((List.range 11).map C) := errs_app ((((h1.same s1).same e2).same s2).same s3) ((h2.same s2).same s3)
    refine k r (as ++ bs) _ ((((e1.trans s1).trans e2).trans s2).free hr2) t3 er ?_
    rw [List.map_append]
    exact upd_same
/-! ### those with arguments -/
structure ToldAt (K : PySem.W.Frag) (C : Nat → Addr) (ws : Addr) (H : Hp) (pl : Int) (x y : Str) (a : Nat → Addr) : Prop where
  e0 : ErrAt H (a 0) (C 11) [("place", .int pl)]
  e1 : ∃ t, ErrAt H (a 1) (C 12) [("arguments", .ref t), ("sign", .str x)] ∧ SqT K H t [.str y, .str x]
  e2 : ∃ t, ErrAt H (a 2) (C 13) [("arguments", .ref t), ("sign", .str y)] ∧ SqT K H t [.str y, .str x]
  e3 : ∃ t, ErrAt H (a 3) (C 14) [("other", .str y), ("place", .int pl), ("arguments", .ref t), ("sign", .str x)] ∧ SqT K H t [.str y, .str x]
  e4 : ∃ t, ErrAt H (a 4) (C 15) [("right", .ref t), ("left", .str x)] ∧ SqT K H t [.str "f", .str y]
  e5 : ErrAt H (a 5) (C 16) [("name", .str x)]
  e6 : ErrAt H (a 6) (C 17) [("name", .str y)]
  e7 : ∃ t, ErrAt H (a 7) (C 18) [("labels", .ref t)] ∧ ws ≠ t ∧ H t = some (.lst [.str x, .str y])
theorem ToldAt.same {ws : Addr} {H H' : Hp} {pl : Int} {x y : Str} {a : Nat → Addr} (h : ToldAt K C ws H pl x y a) (e : Same H H') : ToldAt K C ws H' pl x y a :=
  ⟨h.e0.same e, h.e1.imp fun _ z => ⟨z.1.same e, ex_t e z.2⟩, h.e2.imp fun _ z => ⟨z.1.same e, ex_t e z.2⟩, h.e3.imp fun _ z => ⟨z.1.same e, ex_t e z.2⟩, h.e4.imp fun _ z => ⟨z.1.same e, ex_t e z.2⟩, h.e5.same e, h.e6.same e, h.e7.imp fun _ z => ⟨z.1.same e, z.2.1, e _ _ z.2.2⟩⟩
def spTold (K : PySem.W.Frag) (C : Nat → Addr) : Sp := fun vs H Q _ => ∃ (pl : Int) (ws row : Addr) (x y : Str), vs = [.int pl, .ref ws, .ref row] ∧ 0 ≤ pl ∧ pl < 10 ^ 10 ∧ Wee x ∧ Wee y ∧ H ws = some (.lst [.str x, .str y]) ∧ SqT K H row [.str y, .str x] ∧
  ∀ (p : Addr) (a : Nat → Addr) (H' : Hp), H p = none → Same H H' → ToldAt K C ws H' pl x y a → H' p = some (.lst ((List.range 8).map fun i => .ref (a i))) → Q (.ref p) H'
/-- past a change of a list -/
theorem err_put {H : Hp} {p a D : Addr} {fs : List (Str × V)} {xs : List V} {o : HO} (hp : H p = some (.lst xs)) (h : ErrAt H a D fs) : ErrAt (upd H p o) a D fs := by
  rcases h with ⟨h, f⟩ | ⟨dx, h1, h2⟩
  · exact .inl ⟨by rw [upd_ne (ne_of h hp fun z => by cases z)]; exact h, f⟩
  · exact .inr ⟨dx, by rw [upd_ne (ne_of h1 hp fun z => by cases z)]; exact h1, by rw [upd_ne (ne_of h2 hp fun z => by cases z)]; exact h2⟩
theorem sqt_put {H : Hp} {p t : Addr} {ys xs : List V} {o : HO} (hp : H p = some (.lst xs)) (h : SqT K H t ys) : SqT K (upd H p o) t ys := by
  rcases h with (z | ⟨ob, z⟩) | z
  · exact .inl (.inl (by rw [upd_ne (ne_of z hp fun y => by cases y)]; exact z))
  · exact .inl (.inr ⟨ob, by rw [upd_ne (ne_of z hp fun y => by cases y)]; exact z⟩)
  · exact .inr z
abbrev s__law_told : Stmt := top 33
abbrev N__law_told : List Str := ["place", "words", "row", "found"]
theorem sc__law_told : FnScope N__law_told ["place", "words", "row"] (defScope s__law_told) := ⟨rfl, rfl, rfl, by decide +kernel, rfl, by decide +kernel, by decide +kernel⟩
set_option maxHeartbeats 16000000 in
theorem ok_told {g : Addr} {gd : FuncData} (F : Fun K "_law_told" "_law_told" s__law_told g gd) (U : T91 P K mg C f cc c fd ce cm) : FnOk P w K mg base CX0 4 g gd ["place", "words", "row"] (spTold K C) := by
  have T := U.bl
  have F11 : FnOk P w K mg base (L2.CX P w) 1 (f 11) (fd 11) ["self", "place"] (spPl (C 11)) := init_BadText U.x11 (U.nf 11 (by decide) "place" (by decide +kernel))
  have F12 : FnOk P w K mg base (L2.CX P w) 1 (f 12) (fd 12) ["self", "sign", "arguments"] (spSA K (C 12)) := init_NotClosed U.x12 U.bl.tuple (U.nf 12 (by decide) "sign" (by decide +kernel)) (U.nf 12 (by decide) "arguments" (by decide +kernel))
  have F13 : FnOk P w K mg base (L2.CX P w) 1 (f 13) (fd 13) ["self", "sign", "arguments"] (spSA K (C 13)) := init_NotKept U.x13 U.bl.tuple (U.nf 13 (by decide) "sign" (by decide +kernel)) (U.nf 13 (by decide) "arguments" (by decide +kernel))
  have F14 : FnOk P w K mg base (L2.CX P w) 1 (f 14) (fd 14) ["self", "sign", "arguments", "place", "other"] (spNL K (C 14)) := init_NotLinked U.x14 U.bl.tuple (U.nf 14 (by decide) "sign" (by decide +kernel)) (U.nf 14 (by decide) "arguments" (by decide +kernel)) (U.nf 14 (by decide) "place" (by decide +kernel)) (U.nf 14 (by decide) "other" (by decide +kernel))
  have F15 : FnOk P w K mg base (L2.CX P w) 1 (f 15) (fd 15) ["self", "left", "right"] (spLR (C 15)) := init_NotKin U.x15 (U.nf 15 (by decide) "left" (by decide +kernel)) (U.nf 15 (by decide) "right" (by decide +kernel))
  have F16 : FnOk P w K mg base (L2.CX P w) 1 (f 16) (fd 16) ["self", "name"] (spNm (C 16)) := init_BadName U.x16 (U.nf 16 (by decide) "name" (by decide +kernel))
  have F17 : FnOk P w K mg base (L2.CX P w) 1 (f 17) (fd 17) ["self", "name"] (spNm (C 17)) := init_TwiceTold U.x17 (U.nf 17 (by decide) "name" (by decide +kernel))
  have F18 : FnOk P w K mg base (L2.CX P w) 1 (f 18) (fd 18) ["self", "labels"] (spLb K (C 18)) := init_Clash U.x18 U.bl.list (U.nf 18 (by decide) "labels" (by decide +kernel))
  refine F.ok sc__law_told (fun vs H Q E h => ?_) (fun cdv A outer s H vs Q E hr h => ?_)
  · obtain ⟨pl, ws, row, x, y, rfl, _⟩ := h
    rfl
  · obtain ⟨pl, ws, row, x, y, rfl, p0, p1, hx, hy, hw, hrow, k⟩ := h
    refine ⟨_, (pss_cons (ps_set (i := 3) sc__law_told.nd rfl (Or.inl rfl) (pe_lst (pa_cons (U.x11.pe F11 (hr.mono (by decide)) (by rfl) (pa_cons (pv 0) pa_nil)) (pa_cons (U.x12.pe F12 (hr.mono (by decide)) (by rfl) (pa_cons (pe_ix (ix_listK K) (pv 1) (pe_int) (fun _ _ => rfl)) (pa_cons (pe_callTy (call_listK K) (by rfl) T.list (by decide +kernel) (pa_cons (pv 2) pa_nil)) pa_nil))) (pa_cons (U.x13.pe F13 (hr.mono (by decide)) (by rfl) (pa_cons (pe_ix (ix_listK K) (pv 1) (pe_int) (fun _ _ => rfl)) (pa_cons (pe_callTy (call_listK K) (by rfl) T.list (by decide +kernel) (pa_cons (pv 2) pa_nil)) pa_nil))) pa_nil)))))
      (pss_cons (ps_expr (pe_bm PySem.F.plainAttrs_list PySem.F.slot_list_append PySem.F.type_list_append mt_append (pv 3) (pa_cons (U.x14.pe F14 (hr.mono (by decide)) (by rfl) (pa_cons (pe_ix (ix_listK K) (pv 1) (pe_int) (fun _ _ => rfl)) (pa_cons (pe_callTy (call_listK K) (by rfl) T.list (by decide +kernel) (pa_cons (pv 2) pa_nil)) (pa_cons (pv 0) (pa_cons (pe_ix (ix_listK K) (pv 1) (pe_int) (fun _ _ => rfl)) pa_nil))))) pa_nil)))
      (pss_one (ps_ret (pe_op op_cat (pv 3) (pe_lst (pa_cons (U.x15.pe F15 (hr.mono (by decide)) (by rfl) (pa_cons (pe_ix (ix_listK K) (pv 1) (pe_int) (fun _ _ => rfl)) (pa_cons (pe_tup (pa_cons (pe_str) (pa_cons (pe_ix (ix_listK K) (pv 1) (pe_int) (fun _ _ => rfl)) pa_nil))) pa_nil))) (pa_cons (U.x16.pe F16 (hr.mono (by decide)) (by rfl) (pa_cons (pe_ix (ix_listK K) (pv 1) (pe_int) (fun _ _ => rfl)) pa_nil)) (pa_cons (U.x17.pe F17 (hr.mono (by decide)) (by rfl) (pa_cons (pe_ix (ix_listK K) (pv 1) (pe_int) (fun _ _ => rfl)) pa_nil)) (pa_cons (U.x18.pe F18 (hr.mono (by decide)) (by rfl) (pa_cons (pe_callTy (call_tupK K) (by rfl) T.tuple (by decide +kernel) (pa_cons (pv 1) pa_nil)) pa_nil)) pa_nil)))))))))), ?_⟩
    -- BadText(place)
    refine ⟨_, rfl, (by show 1 ≤ 1000; decide), fun a0 n0 => ⟨a0, pl, rfl, p0, p1, upd_same, fun dx0 hd0 ne0 => ⟨rfl, ?_⟩⟩⟩
    obtain ⟨H1, eH, s1, e0⟩ := one_new (fs := [("place", .int pl)]) n0 hd0 ne0
    rw [eH]
    -- NotClosed(words[0], list(row))
    refine ⟨_, rfl, ws, _, 0, .str x, rfl, rfl, SqL.of (s1 _ _ hw), rfl, _, rfl, row, _, rfl, .inr (ex_t s1 hrow), fun l1 nl1 => ?_⟩
    obtain ⟨G1, eG, g1, h1⟩ := put_new (o := .lst [.str y, .str x]) nl1
    rw [eG]
    refine ⟨(by show 2 ≤ 1000; decide), fun a1 n1 => ⟨a1, x, l1, _, rfl, hx, or_seq (same_upd n1) (.inl (SqL.of h1)), upd_same, fun t1 dx1 H2 hd1 ne1 q1 q2 e1t q4 => ⟨rfl, ?_⟩⟩⟩
    have s2 := g1.trans (but_same n1 q4)
    have e1 : ErrAt H2 a1 (C 12) _ := .inr ⟨dx1, q1, q2⟩
    have S2 := s1.trans s2
    have f0 := e0.same s2
    -- NotKept(words[1], list(row))
    refine ⟨_, rfl, ws, _, 1, .str y, rfl, rfl, SqL.of (S2 _ _ hw), rfl, _, rfl, row, _, rfl, .inr (ex_t S2 hrow), fun l2 nl2 => ?_⟩
    obtain ⟨G2, eG, g2, h2⟩ := put_new (o := .lst [.str y, .str x]) nl2
    rw [eG]
    refine ⟨(by show 2 ≤ 1000; decide), fun a2 n2 => ⟨a2, y, l2, _, rfl, hy, or_seq (same_upd n2) (.inl (SqL.of h2)), upd_same, fun t2 dx2 H3 hd2 ne2 q1' q2' e2t q4' => ⟨rfl, ?_⟩⟩⟩
    have s3 := g2.trans (but_same n2 q4')
    have e2 : ErrAt H3 a2 (C 13) _ := .inr ⟨dx2, q1', q2'⟩
    have S3 := S2.trans s3
    refine ⟨by show 3 ≤ sizeLine; decide, fun p np => ?_⟩
    obtain ⟨H4, eG, s4, hp4⟩ := put_new (o := .lst [.ref a0, .ref a1, .ref a2]) np
    have S4 := S3.trans s4
    have f0 := (f0.same s3).same s4
    have f1 := (e1.same s3).same s4
    have f1t := ex_t s4 (ex_t s3 e1t)
    have f2 := e2.same s4
    have f2t := ex_t s4 e2t
    have Hp0 : H p = none := S3.free np
    unfold gName
    dsimp only
    rw [eG]
    -- found.append(NotLinked(..))
    refine ⟨_, rfl, .inl ⟨rfl, _, SqL.of hp4⟩, _, rfl, ws, _, 0, .str x, rfl, rfl, SqL.of (S4 _ _ hw), rfl, ?_⟩
    refine ⟨_, rfl, row, _, rfl, .inr (ex_t S4 hrow), fun l3 nl3 => ?_⟩
    obtain ⟨G3, eG, g3, h3⟩ := put_new (o := .lst [.str y, .str x]) nl3
    rw [eG]
    refine ⟨_, rfl, _, rfl, ws, _, 1, .str y, rfl, rfl, SqL.of (g3 _ _ (S4 _ _ hw)), rfl, ?_⟩
    refine ⟨(by show 4 ≤ 1000; decide), fun a3 n3 => ⟨a3, x, l3, _, pl, y, rfl, hx, hy, p0, p1, or_seq (same_upd n3) (.inl (SqL.of h3)), upd_same, fun t3 dx3 H5 hd3 ne3 r1 r2 e3t r4 => ⟨rfl, ?_⟩⟩⟩
    have s5 := g3.trans (but_same n3 r4)
    have e3 : ErrAt H5 a3 (C 14) _ := .inr ⟨dx3, r1, r2⟩
    have hp5 := s5 _ _ hp4
    refine ⟨p, _, _, rfl, rfl, hp5, by show 3 < sizeLine; decide, ?_⟩
    obtain ⟨H6, eG, hp6⟩ : ∃ H6, upd H5 p (.lst [.ref a0, .ref a1, .ref a2, .ref a3]) = H6 ∧ H6 p = some (.lst [.ref a0, .ref a1, .ref a2, .ref a3]) := ⟨_, rfl, upd_same⟩
    have S6 : Same H H6 := fun b o q => by
      rw [← eG, upd_ne (ne_of_none q Hp0)]
      exact s5 _ _ (S4 _ _ q)
    have f0 : ErrAt H6 a0 _ _ := eG ▸ err_put hp5 (f0.same s5)
    have f1 : ErrAt H6 a1 _ _ := eG ▸ err_put hp5 (f1.same s5)
    have f2 : ErrAt H6 a2 _ _ := eG ▸ err_put hp5 (f2.same s5)
    have f3 : ErrAt H6 a3 _ _ := eG ▸ err_put hp5 e3
    have f1t : SqT K H6 t1 _ := eG ▸ sqt_put hp5 (ex_t s5 f1t)
    have f2t : SqT K H6 t2 _ := eG ▸ sqt_put hp5 (ex_t s5 f2t)
    have f3t : SqT K H6 t3 _ := eG ▸ sqt_put hp5 e3t
    dsimp only [List.cons_append, List.nil_append]
    rw [eG]
    clear eG hp5 s5 e3 r4 r2 r1 e3t h3 g3 nl3
    -- found + [NotKin(words[0], ('f', words[1])), ..]
    refine ⟨_, rfl, _, rfl, ws, _, 0, .str x, rfl, rfl, SqL.of (S6 _ _ hw), rfl, _, rfl, ws, _, 1, .str y, rfl, rfl, SqL.of (S6 _ _ hw), rfl, (by show 2 ≤ sizeLine; decide), fun t4 nt4 => ?_⟩
    obtain ⟨G4, eG, g4, h4⟩ := put_new (o := .tup [.str "f", .str y]) nt4
    rw [eG]
    refine ⟨(by show 2 ≤ 1000; decide), fun a4 n4 => ⟨a4, .str x, .ref t4, rfl, upd_same, fun dx4 H7 hd4 ne4 r1 r2 r4 => ⟨rfl, ?_⟩⟩⟩
    have s7 := g4.trans (but_same n4 r4)
    have f4 : ErrAt H7 a4 (C 15) _ := .inr ⟨dx4, r1, r2⟩
    have f4t : SqT K H7 t4 [.str "f", .str y] := SqT.of (but_same n4 r4 _ _ h4)
    have S7 := S6.trans s7
    -- BadName(words[0])
    refine ⟨_, rfl, ws, _, 0, .str x, rfl, rfl, SqL.of (S7 _ _ hw), rfl, (by show 1 ≤ 1000; decide), fun a5 n5 => ⟨a5, x, rfl, hx, upd_same, fun dx5 hd5 ne5 => ⟨rfl, ?_⟩⟩⟩
    obtain ⟨H8, eG, s8, f5⟩ := one_new (fs := [("name", .str x)]) n5 hd5 ne5
    rw [eG]
    have S8 := S7.trans s8
    -- TwiceTold(words[1])
    refine ⟨_, rfl, ws, _, 1, .str y, rfl, rfl, SqL.of (S8 _ _ hw), rfl, (by show 1 ≤ 1000; decide), fun a6 n6 => ⟨a6, y, rfl, hy, upd_same, fun dx6 hd6 ne6 => ⟨rfl, ?_⟩⟩⟩
    obtain ⟨H9, eG, s9, f6⟩ := one_new (fs := [("name", .str y)]) n6 hd6 ne6
    rw [eG]
    have S9 := S8.trans s9
    -- Clash(tuple(words))
    refine ⟨_, rfl, ws, _, rfl, .inl ⟨SqL.of (S9 _ _ hw), fun t7 nt7 => ?_⟩⟩
    obtain ⟨G7, eG, g7, h7⟩ := put_new (o := .tup [.str x, .str y]) nt7
    rw [eG]
    refine ⟨(by show 1 ≤ 1000; decide), fun a7 n7 => ⟨a7, t7, _, rfl, or_seq (same_upd n7) (.inr (SqT.of h7)), upd_same, fun l7 dx7 HA hd7 ne7 q1 q2 q3 q4 => ⟨rfl, ?_⟩⟩⟩
    have sA := g7.trans (but_same n7 q4)
    have f7 : ErrAt HA a7 (C 18) _ := .inr ⟨dx7, q1, q2⟩
    have f7t : HA l7 = some (.lst [.str x, .str y]) := q3.2
    have f7n : ws ≠ l7 := ne_of_none (same_upd n7 _ _ (g7 _ _ (S9 _ _ hw))) q3.1
    have u7 := ((s7.trans s8).trans s9).trans sA
    refine ⟨by show 4 ≤ sizeLine; decide, fun r nr => ?_⟩
    obtain ⟨HB, eG, sB, hB⟩ := put_new (o := .lst [.ref a4, .ref a5, .ref a6, .ref a7]) nr
    rw [eG]
    have uB := u7.trans sB
    refine ⟨p, r, _, _, rfl, rfl, uB _ _ hp6, hB, by show 4 + 4 ≤ sizeLine; decide, fun z nz => ?_⟩
    obtain ⟨HC, eG, sC, hC⟩ := put_new (o := .lst [.ref a0, .ref a1, .ref a2, .ref a3, .ref a4, .ref a5, .ref a6, .ref a7]) nz
    show Q (.ref z) (upd HB z (.lst [.ref a0, .ref a1, .ref a2, .ref a3, .ref a4, .ref a5, .ref a6, .ref a7]))
    rw [eG]
    have uC := uB.trans sC
    have S : Same H HC := S6.trans uC
    have v8 := ((s8.trans s9).trans sA).trans (sB.trans sC)
    have v9 := (s9.trans sA).trans (sB.trans sC)
    have vA := sA.trans (sB.trans sC)
    have vB := sB.trans sC
    refine k z (fun i => [a0, a1, a2, a3, a4, a5, a6, a7].getD i 0) HC ((S6.trans uB).free nz) S ⟨f0.same uC, ⟨t1, f1.same uC, ex_t uC f1t⟩, ⟨t2, f2.same uC, ex_t uC f2t⟩, ⟨t3, f3.same uC, ex_t uC f3t⟩, ⟨t4, f4.same v8, ex_t v8 f4t⟩, f5.same v9, f6.same vA, ⟨l7, f7.same vB, f7n, vB _ _ f7t⟩⟩ hC
theorem ToldAt.put {ws : Addr} {H : Hp} {pl : Int} {x y : Str} {a : Nat → Addr} {xs : List V} {o : HO} (h : ToldAt K C ws H pl x y a) (hp : H ws = some (.lst xs)) : ToldAt K C ws (upd H ws o) pl x y a :=
  ⟨err_put hp h.e0, h.e1.imp fun _ z => ⟨err_put hp z.1, sqt_put hp z.2⟩, h.e2.imp fun _ z => ⟨err_put hp z.1, sqt_put hp z.2⟩, h.e3.imp fun _ z => ⟨err_put hp z.1, sqt_put hp z.2⟩, h.e4.imp fun _ z => ⟨err_put hp z.1, sqt_put hp z.2⟩, err_put hp h.e5, err_put hp h.e6,
    h.e7.imp fun _ z => ⟨err_put hp z.1, z.2.1, by rw [upd_ne z.2.1.symm]; exact z.2.2⟩⟩
/-! ### the lost ones -/
def nmOf (x y : Str) (i : Nat) : Str := if i % 2 = 1 then x else y
structure LostAt (C : Nat → Addr) (H : Hp) (x y : Str) (a : Nat → Addr) : Prop where
  e : ∀ i, 19 ≤ i → i < 24 → ErrAt H (a i) (C i) [("name", .str (nmOf x y i))]
def spLost (C : Nat → Addr) : Sp := fun vs H Q _ => ∃ (ws : Addr) (x y : Str), vs = [.ref ws] ∧ Wee x ∧ Wee y ∧ H ws = some (.lst [.str x, .str y]) ∧
  ∀ (p : Addr) (a : Nat → Addr) (H' : Hp), H p = none → Same H H' → LostAt C H' x y a → H' p = some (.lst [.ref (a 19), .ref (a 20), .ref (a 21), .ref (a 22), .ref (a 23)]) → Q (.ref p) H'
abbrev s__law_lost : Stmt := top 34
abbrev N__law_lost : List Str := ["words", "found"]
theorem sc__law_lost : FnScope N__law_lost ["words"] (defScope s__law_lost) := ⟨rfl, rfl, rfl, by decide +kernel, rfl, by decide +kernel, by decide +kernel⟩
set_option maxHeartbeats 16000000 in
theorem ok_lost {g : Addr} {gd : FuncData} (F : Fun K "_law_lost" "_law_lost" s__law_lost g gd) (U : T91 P K mg C f cc c fd ce cm) : FnOk P w K mg base CX0 4 g gd ["words"] (spLost C) := by
  have T := U.bl
  have F19 : FnOk P w K mg base (L2.CX P w) 1 (f 19) (fd 19) ["self", "name"] (spNm (C 19)) := init_UnknownMember U.x19 (U.nf 19 (by decide) "name" (by decide +kernel))
  have F20 : FnOk P w K mg base (L2.CX P w) 1 (f 20) (fd 20) ["self", "name"] (spNm (C 20)) := init_UnknownSign U.x20 (U.nf 20 (by decide) "name" (by decide +kernel))
  have F21 : FnOk P w K mg base (L2.CX P w) 1 (f 21) (fd 21) ["self", "name"] (spNm (C 21)) := init_UnknownName U.x21 (U.nf 21 (by decide) "name" (by decide +kernel))
  have F22 : FnOk P w K mg base (L2.CX P w) 1 (f 22) (fd 22) ["self", "name"] (spNm (C 22)) := init_NoValue U.x22 (U.nf 22 (by decide) "name" (by decide +kernel))
  have F23 : FnOk P w K mg base (L2.CX P w) 1 (f 23) (fd 23) ["self", "name"] (spNm (C 23)) := init_NotTold U.x23 (U.nf 23 (by decide) "name" (by decide +kernel))
  refine F.ok sc__law_lost (fun vs H Q E h => ?_) (fun cdv A outer s H vs Q E hr h => ?_)
  · obtain ⟨ws, x, y, rfl, _⟩ := h
    rfl
  · obtain ⟨ws, x, y, rfl, hx, hy, hw, k⟩ := h
    refine ⟨_, (pss_cons (ps_set (i := 1) sc__law_lost.nd rfl (Or.inl rfl) (pe_lst (pa_cons (U.x19.pe F19 (hr.mono (by decide)) (by rfl) (pa_cons (pe_ix (ix_listK K) (pv 0) (pe_int) (fun _ _ => rfl)) pa_nil)) (pa_cons (U.x20.pe F20 (hr.mono (by decide)) (by rfl) (pa_cons (pe_ix (ix_listK K) (pv 0) (pe_int) (fun _ _ => rfl)) pa_nil)) (pa_cons (U.x21.pe F21 (hr.mono (by decide)) (by rfl) (pa_cons (pe_ix (ix_listK K) (pv 0) (pe_int) (fun _ _ => rfl)) pa_nil)) (pa_cons (U.x22.pe F22 (hr.mono (by decide)) (by rfl) (pa_cons (pe_ix (ix_listK K) (pv 0) (pe_int) (fun _ _ => rfl)) pa_nil)) pa_nil))))))
      (pss_one (ps_ret (pe_op op_cat (pv 1) (pe_lst (pa_cons (U.x23.pe F23 (hr.mono (by decide)) (by rfl) (pa_cons (pe_ix (ix_listK K) (pv 0) (pe_int) (fun _ _ => rfl)) pa_nil)) pa_nil)))))), ?_⟩
    refine ⟨_, rfl, ws, _, 0, .str x, rfl, rfl, SqL.of hw, rfl, (by show 1 ≤ 1000; decide), fun a0 n0 => ⟨a0, x, rfl, hx, upd_same, fun dx0 hd0 ne0 => ⟨rfl, ?_⟩⟩⟩
    obtain ⟨H1, eG, s1, f0⟩ := one_new (fs := [("name", .str x)]) n0 hd0 ne0
    rw [eG]
    refine ⟨_, rfl, ws, _, 1, .str y, rfl, rfl, SqL.of (s1 _ _ hw), rfl, (by show 1 ≤ 1000; decide), fun a1 n1 => ⟨a1, y, rfl, hy, upd_same, fun dx1 hd1 ne1 => ⟨rfl, ?_⟩⟩⟩
    obtain ⟨H2, eG, s2, f1⟩ := one_new (fs := [("name", .str y)]) n1 hd1 ne1
    rw [eG]
    have S2 := s1.trans s2
    refine ⟨_, rfl, ws, _, 0, .str x, rfl, rfl, SqL.of (S2 _ _ hw), rfl, (by show 1 ≤ 1000; decide), fun a2 n2 => ⟨a2, x, rfl, hx, upd_same, fun dx2 hd2 ne2 => ⟨rfl, ?_⟩⟩⟩
    obtain ⟨H3, eG, s3, f2⟩ := one_new (fs := [("name", .str x)]) n2 hd2 ne2
    rw [eG]
    have S3 := S2.trans s3
    refine ⟨_, rfl, ws, _, 1, .str y, rfl, rfl, SqL.of (S3 _ _ hw), rfl, (by show 1 ≤ 1000; decide), fun a3 n3 => ⟨a3, y, rfl, hy, upd_same, fun dx3 hd3 ne3 => ⟨rfl, ?_⟩⟩⟩
    obtain ⟨H4, eG, s4, f3⟩ := one_new (fs := [("name", .str y)]) n3 hd3 ne3
    rw [eG]
    have S4 := S3.trans s4
    refine ⟨by show 4 ≤ sizeLine; decide, fun p np => ?_⟩
    obtain ⟨H5, eG, s5, hp⟩ := put_new (o := .lst [.ref a0, .ref a1, .ref a2, .ref a3]) np
    unfold gName
    dsimp only
    rw [eG]
    have S5 := S4.trans s5
    refine ⟨_, rfl, _, rfl, ws, _, 0, .str x, rfl, rfl, SqL.of (S5 _ _ hw), rfl, (by show 1 ≤ 1000; decide), fun a4 n4 => ⟨a4, x, rfl, hx, upd_same, fun dx4 hd4 ne4 => ⟨rfl, ?_⟩⟩⟩
    obtain ⟨H6, eG, s6, f4⟩ := one_new (fs := [("name", .str x)]) n4 hd4 ne4
    rw [eG]
    refine ⟨by show 1 ≤ sizeLine; decide, fun r nr => ?_⟩
    obtain ⟨H7, eG, s7, hr7⟩ := put_new (o := .lst [.ref a4]) nr
    rw [eG]
    refine ⟨p, r, _, _, rfl, rfl, s7 _ _ (s6 _ _ hp), hr7, by show 4 + 1 ≤ sizeLine; decide, fun z nz => ?_⟩
    obtain ⟨H8, eG, s8, hz⟩ := put_new (o := .lst [.ref a0, .ref a1, .ref a2, .ref a3, .ref a4]) nz
    show Q (.ref z) (upd H7 z (.lst [.ref a0, .ref a1, .ref a2, .ref a3, .ref a4]))
    rw [eG]
    have u6 := s7.trans s8
    have u5 := s6.trans u6
    have u4 := s5.trans u5
    have u3 := s4.trans u4
    have u2 := s3.trans u3
    have u1 := s2.trans u2
    refine k z (fun i => [a0, a1, a2, a3, a4].getD (i - 19) 0) H8 (((S5.trans s6).trans s7).free nz) (s1.trans u1) ⟨fun i h1 h2 => ?_⟩ hz
    have hh : i = 19 ∨ i = 20 ∨ i = 21 ∨ i = 22 ∨ i = 23 := by omega
    rcases hh with rfl | rfl | rfl | rfl | rfl
    · exact f0.same u1
    · exact f1.same u2
    · exact f2.same u3
    · exact f3.same u4
    · exact f4.same u6
end
end K91


set_option Elab.async false
set_option linter.all false
set_option maxRecDepth 100000
set_option maxHeartbeats 4000000
namespace K91
open PySem PySem.Spec PyProof.Rows L2 Evl NdefX
section
variable {P : Program} {w : World} {K : PySem.W.Frag} {mg : Str → Option Value} {base : Heap} {C f cc c : Nat → Addr} {fd : Nat → FuncData} {ce cm : Addr}
/-- every error, in its order -/
structure Every (C : Nat → Addr) (H : Hp) (e : Nat → Addr) : Prop where
  at_ : ∀ i, i < 24 → ∃ fs, ErrAt H (e i) (C i) fs
theorem Every.same {H H' : Hp} {e : Nat → Addr} (h : Every C H e) (s : Same H H') : Every C H' e := ⟨fun i hi => (h.at_ i hi).imp fun _ z => z.same s⟩
theorem every_of {H : Hp} {as : List Addr} {pl : Int} {x y : Str} {ws : Addr} {a b : Nat → Addr} (h1 : Errs H as ((List.range 11).map C)) (h2 : ToldAt K C ws H pl x y a) (h3 : LostAt C H x y b) :
    Every C H (fun i => if i < 11 then as.getD i 0 else if i < 19 then a (i - 11) else b i) := ⟨fun i hi => by
  by_cases c1 : i < 11
  · have l := errs_len h1
    rw [List.length_map, List.length_range] at l
    obtain ⟨D, hD, he⟩ := errs_get (i := i) (a := as.getD i 0) h1 (by rw [List.getD_eq_getElem?_getD, List.getElem?_eq_getElem (by omega)]; rfl)
    rw [List.getElem?_map, List.getElem?_range (by omega)] at hD
    obtain rfl : C i = D := Option.some.inj hD
    rw [if_pos c1]
    exact ⟨[], he⟩
  · rw [if_neg c1]
    by_cases c2 : i < 19
    · rw [if_pos c2]
      have hh : i = 11 ∨ i = 12 ∨ i = 13 ∨ i = 14 ∨ i = 15 ∨ i = 16 ∨ i = 17 ∨ i = 18 := by omega
      rcases hh with rfl | rfl | rfl | rfl | rfl | rfl | rfl | rfl
      · exact ⟨_, h2.e0⟩
      · exact h2.e1.elim fun _ z => ⟨_, z.1⟩
      · exact h2.e2.elim fun _ z => ⟨_, z.1⟩
      · exact h2.e3.elim fun _ z => ⟨_, z.1⟩
      · exact h2.e4.elim fun _ z => ⟨_, z.1⟩
      · exact ⟨_, h2.e5⟩
      · exact ⟨_, h2.e6⟩
      · exact h2.e7.elim fun _ z => ⟨_, z.1⟩
    · rw [if_neg c2]
      exact ⟨_, h3.e i (by omega) hi⟩⟩
theorem list11 {as : List Addr} (h : as.length = 11) : as = (List.range 11).map fun i => as.getD i 0 := by
  apply List.ext_getElem?
  intro i
  rw [List.getElem?_map]
  by_cases c : i < 11
  · rw [List.getElem?_range c, List.getElem?_eq_getElem (by omega)]
    simp [List.getD_eq_getElem?_getD, List.getElem?_eq_getElem (show i < as.length by omega)]
  · rw [List.getElem?_eq_none (by omega), List.getElem?_eq_none (by rw [List.length_range]; omega)]
    rfl
theorem every_list {as : List Addr} (a b : Nat → Addr) (h : as.length = 11) : as.map V.ref ++ ((List.range 8).map fun i => V.ref (a i)) ++ [.ref (b 19), .ref (b 20), .ref (b 21), .ref (b 22), .ref (b 23)] =
    (List.range 24).map fun i => V.ref (if i < 11 then as.getD i 0 else if i < 19 then a (i - 11) else b i) := by
  rw [list11 h]
  generalize as.getD = g
  rfl
theorem front_list {as : List Addr} (a b : Nat → Addr) (h : as.length = 11) : as.map V.ref ++ ((List.range 8).map fun i => V.ref (a i)) =
    (List.range 19).map fun i => V.ref (if i < 11 then as.getD i 0 else if i < 19 then a (i - 11) else b i) := by
  rw [list11 h]
  generalize as.getD = g
  rfl
/-- what stands once words, place, row, kept, told, lost are there -/
structure Mid (K : PySem.W.Frag) (C : Nat → Addr) (H : Hp) (ws row kp td ls : Addr) (r : Int) (x y : Str) (a b : Nat → Addr) : Prop where
  hk : H kp = some (.lst [.str x, .str y])
  hr : SqT K H row [.str y, .str x]
  ht : H td = some (.lst ((List.range 8).map fun i => .ref (a i)))
  hl : H ls = some (.lst [.ref (b 19), .ref (b 20), .ref (b 21), .ref (b 22), .ref (b 23)])
  nk : ws ≠ kp
  ntd : ws ≠ td
  nls : ws ≠ ls
  ta : ToldAt K C ws H r x y a
  la : LostAt C H x y b
theorem Mid.same {H H' : Hp} {ws row kp td ls : Addr} {r : Int} {x y : Str} {a b : Nat → Addr} (M : Mid K C H ws row kp td ls r x y a b) (s : Same H H') : Mid K C H' ws row kp td ls r x y a b :=
  ⟨s _ _ M.hk, ex_t s M.hr, s _ _ M.ht, s _ _ M.hl, M.nk, M.ntd, M.nls, M.ta.same s, ⟨fun i h1 h2 => (M.la.e i h1 h2).same s⟩⟩
theorem Mid.put {H : Hp} {ws row kp td ls : Addr} {r : Int} {x y : Str} {a b : Nat → Addr} {xs : List V} {o : HO} (M : Mid K C H ws row kp td ls r x y a b) (hp : H ws = some (.lst xs)) : Mid K C (upd H ws o) ws row kp td ls r x y a b :=
  ⟨by rw [upd_ne M.nk.symm]; exact M.hk, sqt_put hp M.hr, by rw [upd_ne M.ntd.symm]; exact M.ht, by rw [upd_ne M.nls.symm]; exact M.hl, M.nk, M.ntd, M.nls, M.ta.put hp, ⟨fun i h1 h2 => err_put hp (M.la.e i h1 h2)⟩⟩
theorem dp_five {H : Hp} {p : Addr} {a b c d e : Str} (h : SqL K H p [.str a, .str b, .str c, .str d, .str e]) : Dp K H (.ref p) (.list [.str a, .str b, .str c, .str d, .str e]) := .lst h (.cons (.str a) (.cons (.str b) (.cons (.str c) (.cons (.str d) (.cons (.str e) .nil)))))
theorem sh_five {a b : Str} (ha : Wee a) (hb : Wee b) : SeqAt.shaped (.list [.str a, .str b, .str a, .str b, .str a]) = true := by
  simp [SeqAt.shaped, PyData.canLay0, PyData.canLayAll0, PyData.depth, PyData.depthAll, ha.ok, hb.ok]
theorem dp_twoT {H : Hp} {p : Addr} {a b : Str} (h : SqT K H p [.str a, .str b]) : Dp K H (.ref p) (.tuple [.str a, .str b]) := .tup h (.cons (.str a) (.cons (.str b) .nil))
theorem sh_twoT {a b : Str} (ha : Wee a) (hb : Wee b) : SeqAt.shaped (.tuple [.str a, .str b]) = true := by
  simp [SeqAt.shaped, PyData.canLay0, PyData.canLayAll0, PyData.depth, PyData.depthAll, ha.ok, hb.ok]
theorem sh_str {a : Str} (ha : Wee a) : SeqAt.shaped (.str a) = true := by
  simp [SeqAt.shaped, PyData.canLay0, PyData.canLayAll0, PyData.depth, PyData.depthAll, ha.ok]
theorem sh_row {a b c : Str} {r : Int} (ha : Wee a) (hb : Wee b) (hc : Wee c) (h0 : 0 ≤ r) (h1 : r < 10 ^ 10) : SeqAt.shaped (.list [.int r, .str a, .str b, .str c]) = true := by
  simp [SeqAt.shaped, PyData.canLay0, PyData.canLayAll0, PyData.depth, PyData.depthAll, ha.ok, hb.ok, hc.ok]
theorem sh_pair {a b c : Str} (ha : Wee a) (hb : Wee b) (hc : Wee c) : SeqAt.shaped (.list [.str a, .tuple [.str b, .str c]]) = true := by
  simp [SeqAt.shaped, PyData.canLay0, PyData.canLayAll0, PyData.depth, PyData.depthAll, ha.ok, hb.ok, hc.ok]
theorem dp_row {H : Hp} {p : Addr} {r : Int} {a b c : Str} (h : SqL K H p [.int r, .str a, .str b, .str c]) : Dp K H (.ref p) (.list [.int r, .str a, .str b, .str c]) := .lst h (.cons (.int r) (.cons (.str a) (.cons (.str b) (.cons (.str c) .nil))))
theorem dp_pair {H : Hp} {p t : Addr} {a b c : Str} (h : SqL K H p [.str a, .ref t]) (ht : SqT K H t [.str b, .str c]) : Dp K H (.ref p) (.list [.str a, .tuple [.str b, .str c]]) := .lst h (.cons (.str a) (.cons (dp_twoT ht) .nil))
end
end K91


set_option Elab.async false
set_option linter.all false
set_option maxRecDepth 100000
set_option maxHeartbeats 4000000
namespace K91
open PySem PySem.Spec PyProof.Rows L2 Evl NdefX
section
variable {P : Program} {w : World} {K : PySem.W.Frag} {mg : Str → Option Value} {base : Heap} {C f cc c : Nat → Addr} {fd : Nat → FuncData} {ce cm : Addr}
/-- law's: at most 63 ints are handed in, True comes out -/
def spLaw (K : PySem.W.Frag) : Sp := fun vs H Q _ => ∃ (a : Addr) (ns : List Int), vs = [.ref a] ∧ SqL K H a (ns.map V.int) ∧ ns.length ≤ 63 ∧ ∀ H', Q (.bl true) H'
abbrev s_law : Stmt := top 35
abbrev N_law : List Str := ["script", "source", "words", "place", "row", "kept", "told", "lost", "every", "e", "k", "spare", "clash"]
theorem sc_law : FnScope N_law ["script"] (defScope s_law) := ⟨rfl, rfl, rfl, by decide +kernel, rfl, by decide +kernel, by decide +kernel⟩
set_option maxHeartbeats 16000000 in
theorem ok_law {g : Addr} {gd : FuncData} (F : Fun K "law" "law" s_law g gd) (U : T91 P K mg C f cc c fd ce cm) (c__law_source : Cal P w K mg base 1 "_law_source" ["script"] (spSource K)) (c__law_pick : Cal P w K mg base 1 "_law_pick" ["source", "many"] spPick)
    (c__law_word : Cal P w K mg base 2 "_law_word" ["source"] spWord) (c__law_told : Cal P w K mg base 4 "_law_told" ["place", "words", "row"] (spTold K C)) (c__law_lost : Cal P w K mg base 4 "_law_lost" ["words"] (spLost C)) (c__law_plain : Cal P w K mg base 1 "_law_plain" [] (spPlain C))
    (c__law_classes : Cal P w K mg base 1 "_law_classes" ["e"] (spClasses C)) : FnOk P w K mg base CX0 5 g gd ["script"] (spLaw K) := by
  have T := U.bl
  have F18 : FnOk P w K mg base (L2.CX P w) 1 (f 18) (fd 18) ["self", "labels"] (spLb K (C 18)) := init_Clash U.x18 U.bl.list (U.nf 18 (by decide) "labels" (by decide +kernel))
  refine F.ok sc_law (fun vs H Q E h => ?_) (fun cdv A outer s H vs Q E hr h => ?_)
  · obtain ⟨a, ns, rfl, _⟩ := h
    rfl
  · obtain ⟨sa, ns, rfl, hS, hlen, k⟩ := h
    have hu := hu_of hr
    have hu64 := hu64_of hr
    refine ⟨_, (pss_cons (ps_set (i := 1) sc_law.nd rfl (Or.inl rfl) (pe_cal c__law_source (hr.mono (by decide)) (by rfl) (pa_cons (pv 0) pa_nil)))
      (pss_cons (ps_set (i := 2) sc_law.nd rfl (Or.inl rfl) (pe_lst (pa_cons (pe_cal c__law_word (hr.mono (by decide)) (by rfl) (pa_cons (pv 1) pa_nil)) (pa_cons (pe_cal c__law_word (hr.mono (by decide)) (by rfl) (pa_cons (pv 1) pa_nil)) pa_nil))))
      (pss_cons (ps_set (i := 3) sc_law.nd rfl (Or.inl rfl) (pe_cal c__law_pick (hr.mono (by decide)) (by rfl) (pa_cons (pv 1) (pa_cons (pe_int) pa_nil))))
      (pss_cons (ps_set (i := 4) sc_law.nd rfl (Or.inl rfl) (pe_tup (pa_cons (pe_ix (ix_listK K) (pv 2) (pe_int) (fun _ _ => rfl)) (pa_cons (pe_ix (ix_listK K) (pv 2) (pe_int) (fun _ _ => rfl)) pa_nil))))
      (pss_cons (ps_set (i := 5) sc_law.nd rfl (Or.inl rfl) (pe_callTy (call_listK K) (by rfl) T.list (by decide +kernel) (pa_cons (pv 2) pa_nil)))
      (pss_cons (ps_set (i := 6) sc_law.nd rfl (Or.inl rfl) (pe_cal c__law_told (hr.mono (by decide)) (by rfl) (pa_cons (pv 3) (pa_cons (pv 2) (pa_cons (pv 4) pa_nil)))))
      (pss_cons (ps_set (i := 7) sc_law.nd rfl (Or.inl rfl) (pe_cal c__law_lost (hr.mono (by decide)) (by rfl) (pa_cons (pv 2) pa_nil)))
      (pss_cons (ps_set (i := 8) sc_law.nd rfl (Or.inl rfl) (pe_op op_cat (pe_op op_cat (pe_cal0 c__law_plain (hr.mono (by decide)) (by rfl)) (pv 6)) (pv 7)))
      (pss_cons (ps_if (PW.pt (pw_or (pt_cmpR (op_neDK K hu64) (pv 2) (pv 5) (nomark _)) (pw_or1 (pt_cmpR (op_neDK K hu64) (pe_lc (own := [("e", 9)]) (g := gName 9) (by rfl) sc_law.nd (pi_list (pv 8)) (blkOk_by (own := [("e", 9)]) (N := N_law) (sc := defScope s_law) (by decide +kernel)) (fun _ _ _ _ _ => pg_name (i := 9) sc_law.nd rfl (Or.inl rfl)) (fun _ _ _ _ _ => pts_nil) (fun _ _ _ _ _ => pe_cal c__law_classes (hr.mono (by decide)) (by rfl) (pa_cons (pv 9) pa_nil))) (pe_lc (own := [("k", 10)]) (g := gName 10) (by rfl) sc_law.nd (pi_range1 (by rfl) T.range (pa_cons (pe_int) pa_nil)) (blkOk_by (own := [("k", 10)]) (N := N_law) (sc := defScope s_law) (by decide +kernel)) (fun _ _ _ _ _ => pg_name (i := 10) sc_law.nd rfl (Or.inl rfl)) (fun _ _ _ _ _ => pts_nil) (fun _ _ _ _ _ => pe_lst (pa_cons (pv 10) pa_nil))) (nomark _))))) (pss_one (ps_ret (pe_bl))) pss_nil)
      (pss_cons (ps_expr (pe_bm PySem.F.plainAttrs_list PySem.F.slot_list_append PySem.F.type_list_append mt_append (pv 2) (pa_cons (pe_str) pa_nil)))
      (pss_cons (ps_for PassesOwn.never rfl (pi_list (pe_op op_cat (pe_cal0 c__law_plain (hr.mono (by decide)) (by rfl)) (pv 6))) (pg_name (i := 9) sc_law.nd rfl (Or.inl rfl)) (pss_cons (ps_if (PW.pt (pw_or (pt_not (pt_val (pe_callB (call_isX K) (by rfl) T.isinstance (by decide +kernel) (pa_cons (pv 9) (pa_cons (pe_bty (n := "ValueError") (by rfl) T.vError (by decide +kernel)) pa_nil))))) (pw_or (pt_not (pt_val (pe_callB (call_isX K) (by rfl) T.isinstance (by decide +kernel) (pa_cons (pv 9) (pa_cons (pe_gref rfl U.ge) pa_nil))))) (pw_or1 (pt_val (pe_callB (call_isX K) (by rfl) T.isinstance (by decide +kernel) (pa_cons (pv 9) (pa_cons (pe_gref rfl U.gm) pa_nil)))))))) (pss_one (ps_ret (pe_bl))) pss_nil)
      (pss_one (ps_if (pt_val (pe_callB (call_isX K) (by rfl) T.isinstance (by decide +kernel) (pa_cons (pv 9) (pa_cons (pe_bty (n := "LookupError") (by rfl) T.lError (by decide +kernel)) pa_nil)))) (pss_one (ps_ret (pe_bl))) pss_nil))))
      (pss_cons (ps_for PassesOwn.never rfl (pi_list (pv 7)) (pg_name (i := 9) sc_law.nd rfl (Or.inl rfl)) (pss_cons (ps_if (PW.pt (pw_or (pt_not (pt_val (pe_callB (call_isX K) (by rfl) T.isinstance (by decide +kernel) (pa_cons (pv 9) (pa_cons (pe_bty (n := "LookupError") (by rfl) T.lError (by decide +kernel)) pa_nil))))) (pw_or (pt_not (pt_val (pe_callB (call_isX K) (by rfl) T.isinstance (by decide +kernel) (pa_cons (pv 9) (pa_cons (pe_gref rfl U.gm) pa_nil))))) (pw_or1 (pt_val (pe_callB (call_isX K) (by rfl) T.isinstance (by decide +kernel) (pa_cons (pv 9) (pa_cons (pe_gref rfl U.ge) pa_nil)))))))) (pss_one (ps_ret (pe_bl))) pss_nil)
      (pss_one (ps_if (PW.pt (pw_or (pt_val (pe_callB (call_isX K) (by rfl) T.isinstance (by decide +kernel) (pa_cons (pv 9) (pa_cons (pe_bty (n := "KeyError") (by rfl) T.kError (by decide +kernel)) pa_nil)))) (pw_or1 (pt_val (pe_callB (call_isX K) (by rfl) T.isinstance (by decide +kernel) (pa_cons (pv 9) (pa_cons (pe_bty (n := "IndexError") (by rfl) T.iError (by decide +kernel)) pa_nil))))))) (pss_one (ps_ret (pe_bl))) pss_nil))))
      (pss_cons (ps_if (PW.pt (pw_or (pt_cmpR (op_neDK K hu64) (pe_lc (own := [("e", 9)]) (g := gName 9) (by rfl) sc_law.nd (pi_list (pv 7)) (blkOk_by (own := [("e", 9)]) (N := N_law) (sc := defScope s_law) (by decide +kernel)) (fun _ _ _ _ _ => pg_name (i := 9) sc_law.nd rfl (Or.inl rfl)) (fun _ _ _ _ _ => pts_nil) (fun _ _ _ _ _ => pe_xval K (pv 9))) (pe_op op_cat (pe_op op_cat (pv 5) (pv 5)) (pe_slice (sl_listK K) (pv 5) po_none (po_some (pe_int)))) (nomark _)) (pw_or1 (pt_cmpR op_ne (pe_xval K (pe_ix (ix_listK K) (pv 6) (pe_int) (fun _ _ => rfl))) (pv 3) (nomark _))))) (pss_one (ps_ret (pe_bl))) pss_nil)
      (pss_cons (ps_for PassesOwn.never rfl (pi_list (pe_lst (pa_cons (pe_int) (pa_cons (pe_int) (pa_cons (pe_int) pa_nil))))) (pg_name (i := 10) sc_law.nd rfl (Or.inl rfl)) (pss_one (ps_if (PW.pt (pw_or (pt_cmpR (op_neDK K hu64) (pe_xval K (pe_ix (ix_listK K) (pv 6) (pv 10) (fun _ _ => rfl))) (pe_ix (ix_listK K) (pv 5) (pe_ix (ix_listK K) (pe_lst (pa_cons (pe_int) (pa_cons (pe_int) (pa_cons (pe_int) (pa_cons (pe_int) pa_nil))))) (pv 10) (fun _ _ => rfl)) (fun _ _ => rfl)) (nomark _)) (pw_or1 (pt_cmpR (op_neDK K hu64) (pe_xval K (pe_ix (ix_listK K) (pv 6) (pv 10) (fun _ _ => rfl))) (pv 4) (nomark _))))) (pss_one (ps_ret (pe_bl))) pss_nil)))
      (pss_cons (ps_if (pt_cmpR (op_neDK K hu64) (pe_lst (pa_cons (pe_xval K (pe_ix (ix_listK K) (pv 6) (pe_int) (fun _ _ => rfl))) (pa_cons (pe_xval K (pe_ix (ix_listK K) (pv 6) (pe_int) (fun _ _ => rfl))) (pa_cons (pe_xval K (pe_ix (ix_listK K) (pv 6) (pe_int) (fun _ _ => rfl))) (pa_cons (pe_xval K (pe_ix (ix_listK K) (pv 6) (pe_int) (fun _ _ => rfl))) pa_nil))))) (pe_lst (pa_cons (pv 3) (pa_cons (pe_ix (ix_listK K) (pv 5) (pe_int) (fun _ _ => rfl)) (pa_cons (pe_ix (ix_listK K) (pv 5) (pe_int) (fun _ _ => rfl)) (pa_cons (pe_ix (ix_listK K) (pv 5) (pe_int) (fun _ _ => rfl)) pa_nil))))) (nomark _)) (pss_one (ps_ret (pe_bl))) pss_nil)
      (pss_cons (ps_if (pt_cmpR (op_neDK K hu64) (pe_lst (pa_cons (pe_xval K (pe_ix (ix_listK K) (pv 6) (pe_int) (fun _ _ => rfl))) (pa_cons (pe_xval K (pe_ix (ix_listK K) (pv 6) (pe_int) (fun _ _ => rfl))) pa_nil))) (pe_lst (pa_cons (pe_ix (ix_listK K) (pv 5) (pe_int) (fun _ _ => rfl)) (pa_cons (pe_tup (pa_cons (pe_str) (pa_cons (pe_ix (ix_listK K) (pv 5) (pe_int) (fun _ _ => rfl)) pa_nil))) pa_nil))) (nomark _)) (pss_one (ps_ret (pe_bl))) pss_nil)
      (pss_cons (ps_set (i := 11) sc_law.nd rfl (Or.inl rfl) (pe_callTy (call_listK K) (by rfl) T.list (by decide +kernel) (pa_cons (pv 5) pa_nil)))
      (pss_cons (ps_set (i := 12) sc_law.nd rfl (Or.inl rfl) (U.x18.pe F18 (hr.mono (by decide)) (by rfl) (pa_cons (pv 11) pa_nil)))
      (pss_cons (ps_expr (pe_bm PySem.F.plainAttrs_list PySem.F.slot_list_append PySem.F.type_list_append mt_append (pv 11) (pa_cons (pe_str) pa_nil)))
      (pss_one (ps_ret (pe_and (pe_cmpR (op_eqDK K hu64) (pe_xval K (pe_ix (ix_listK K) (pv 6) (pe_int) (fun _ _ => rfl))) (pv 5) (nomark _)) (pe_one (pe_cmpR (op_eqDK K hu64) (pe_xval K (pv 12)) (pv 5) (nomark _))))))))))))))))))))))))), ?_⟩
    -- source
    refine ⟨_, rfl, sa, ns, rfl, hS, hlen, fun d L H1 hd hL S1 s1 => ?_⟩
    -- words
    refine ⟨_, rfl, d, L, rfl, S1, fun x H2 hx S2 b2 => ⟨_, rfl, d, L, rfl, S2, fun y H3 hy S3 b3 => ⟨by show 2 ≤ sizeLine; decide, fun ws nws => ?_⟩⟩⟩
    obtain ⟨H4, eG, s4, hw4⟩ := put_new (o := .lst [.str x, .str y]) nws
    refine gN ?_
    rw [eG]
    have nd := S3.d_ne nws
    -- place
    refine ⟨_, rfl, d, L, 100, rfl, S3.same s4, by decide, fun r H5 r0 r1 S5 b5 => ?_⟩
    have hw5 := b5 _ _ hw4 nd.1.symm nd.2.symm
    have r1' : r < 10 ^ 10 := by omega
    -- row
    refine ⟨_, rfl, ws, _, 1, .str y, rfl, rfl, SqL.of hw5, rfl, _, rfl, ws, _, 0, .str x, rfl, rfl, SqL.of hw5, rfl, by show 2 ≤ sizeLine; decide, fun row nrow => ?_⟩
    obtain ⟨H6, eG, s6, hrow6⟩ := put_new (o := .tup [.str y, .str x]) nrow
    refine gN ?_
    rw [eG]
    -- kept
    refine ⟨_, rfl, ws, _, rfl, .inl (SqL.of (s6 _ _ hw5)), fun kp nkp => ?_⟩
    obtain ⟨H7, eG, s7, hk7⟩ := put_new (o := .lst [.str x, .str y]) nkp
    refine gN ?_
    rw [eG]
    have hw7 := s7 _ _ (s6 _ _ hw5)
    -- told, lost
    refine ⟨_, rfl, _, rfl, _, rfl, r, ws, row, x, y, rfl, r0, r1', hx, hy, hw7, SqT.of (s7 _ _ hrow6), fun td a H8 ntd s8 ta8 htd8 => ?_⟩
    refine ⟨_, rfl, ws, x, y, rfl, hx, hy, s8 _ _ hw7, fun ls b H9 nls s9 la9 hls9 => ?_⟩
    have nwk : ws ≠ kp := ne_of_none (s6 _ _ hw5) nkp
    have M9 : Mid K C H9 ws row kp td ls r x y a b := ⟨s9 _ _ (s8 _ _ hk7), ex_t s9 (ex_t s8 (SqT.of (s7 _ _ hrow6))), s9 _ _ htd8, hls9, nwk, ne_of_none hw7 ntd, ne_of_none (s8 _ _ hw7) nls, ta8.same s9, la9⟩
    have hw9 := s9 _ _ (s8 _ _ hw7)
    -- every
    refine ⟨rfl, fun pp as HA npp sA er hpp => ⟨_, rfl, ?_⟩⟩
    have lA : as.length = 11 := by rw [errs_len er, List.length_map, List.length_range]
    refine ⟨pp, td, _, _, rfl, rfl, hpp, sA _ _ M9.ht, ?_, fun q1 nq1 => ⟨_, rfl, ?_⟩⟩
    · rw [List.length_map, List.length_map, List.length_range, lA]
      show 11 + 8 ≤ sizeLine
      decide
    obtain ⟨HB, eG, sB, hq1⟩ := put_new (o := .lst (as.map V.ref ++ (List.range 8).map fun i => V.ref (a i))) nq1
    rw [eG]
    refine ⟨q1, ls, _, _, rfl, rfl, hq1, sB _ _ (sA _ _ M9.hl), ?_, fun ev nev => ?_⟩
    · rw [List.length_append, List.length_map, List.length_map, List.length_range, lA]
      show 11 + 8 + 5 ≤ sizeLine
      decide
    rw [every_list a b lA]
    obtain ⟨HC, eG, sC, hev⟩ := put_new (o := .lst ((List.range 24).map fun i => V.ref (if i < 11 then as.getD i 0 else if i < 19 then a (i - 11) else b i))) nev
    refine gN ?_
    rw [eG]
    have MC : Mid K C HC ws row kp td ls r x y a b := ((M9.same sA).same sB).same sC
    have EC : Every C HC (fun i => if i < 11 then as.getD i 0 else if i < 19 then a (i - 11) else b i) := every_of (((er.same sB).same sC)) MC.ta MC.la
    have hwC := sC _ _ (sB _ _ (sA _ _ hw9))
    obtain ⟨e, ee⟩ : ∃ e : Nat → Addr, e = fun i => if i < 11 then as.getD i 0 else if i < 19 then a (i - 11) else b i := ⟨_, rfl⟩
    rw [← ee] at EC
    replace hev : HC ev = some (.lst ((List.range 24).map fun i => V.ref (e i))) := by rw [ee]; exact hev
    clear ee
    clear eG hq1 hpp er M9
    -- the classes
    refine ⟨_, rfl, _, rfl, neD_same (dp_two (SqL.of hwC)) (dp_two (SqL.of MC.hk)) (sh_two hx hy) ⟨false, rfl, iteF ?_⟩⟩
    unfold tTest tOp
    refine lc_newl (cs := fun i => [.int (i : Int)]) (xs := (List.range 24).map fun i => V.ref (e i)) (SqL.of hev) (by rw [List.length_map, List.length_range]; decide) (fun _ => rfl) (fun i v H' hv sH Q' q' => ?_) (fun D ps HD nD sD lps hD hps => ?_) fun Q' q' => ⟨_, rfl, q'⟩
    · rw [List.getElem?_map] at hv
      have hi : i < 24 := by
        by_cases c : i < 24
        · exact c
        · rw [List.getElem?_eq_none (by rw [List.length_range]; omega)] at hv
          cases hv
      rw [List.getElem?_range hi] at hv
      obtain rfl : V.ref (e i) = v := Option.some.inj hv
      obtain ⟨fs, he⟩ := EC.at_ i hi
      exact ⟨_, rfl, e i, i, fs, rfl, hi, he.same sH, fun p H2 np e2 h2 => q' p H2 np e2 h2⟩
    rw [List.length_map, List.length_range] at lps
    refine lc_newr (cs := fun i => [.int (i : Int)]) (n := 24) (by decide) (fun _ => rfl) (fun i H' hi sH Q' q' => ?_) (fun E0 qs HE nE sE lqs hE hqs => ?_) fun Q' q' => q'
    · refine ⟨_, rfl, by show 1 ≤ sizeLine; decide, fun p np => ?_⟩
      exact q' p _ np (same_upd np) upd_same
    have d1 : Dp K HE (.ref D) _ := dp_ones (SqL.of (sE _ _ hD)) fun j p h => sE _ _ (hps j p h)
    have d2 : Dp K HE (.ref E0) _ := dp_ones (SqL.of hE) hqs
    rw [lps] at d1
    rw [show qs.length = 24 from lqs] at d2
    refine neD_same d1 d2 (by decide +kernel) ⟨false, rfl, iteF ?_⟩
    have sCE := sD.trans sE
    have ME := MC.same sCE
    have EE := EC.same sCE
    have hwE := sCE _ _ hwC
    -- words.append("zz")
    refine ⟨_, rfl, .inl ⟨rfl, _, SqL.of hwE⟩, ws, _, _, rfl, rfl, hwE, by show 2 < sizeLine; decide, ?_⟩
    have MF := ME.put (o := .lst [.str x, .str y, .str "zz"]) hwE
    dsimp only [List.cons_append, List.nil_append]
    generalize upd HE ws (.lst [.str x, .str y, .str "zz"]) = HF at MF
    -- those of the one kind
    refine ⟨rfl, fun p2 as2 HG np2 sG er2 hp2 => ⟨_, rfl, p2, td, _, _, rfl, rfl, hp2, sG _ _ MF.ht, ?_, fun q2 nq2 => ?_⟩⟩
    · rw [List.length_map, List.length_map, List.length_range, errs_len er2, List.length_map, List.length_range]
      show 11 + 8 ≤ sizeLine
      decide
    have l2 : as2.length = 11 := by rw [errs_len er2, List.length_map, List.length_range]
    rw [front_list a b l2]
    obtain ⟨HH, eG, sH, hq2⟩ := put_new (o := .lst ((List.range 19).map fun i => V.ref (if i < 11 then as2.getD i 0 else if i < 19 then a (i - 11) else b i))) nq2
    rw [eG]
    clear eG
    have MH := (MF.same sG).same sH
    have EH : Every C HH (fun i => if i < 11 then as2.getD i 0 else if i < 19 then a (i - 11) else b i) := every_of (er2.same sH) MH.ta MH.la
    obtain ⟨e2, ee⟩ : ∃ e2 : Nat → Addr, e2 = fun i => if i < 11 then as2.getD i 0 else if i < 19 then a (i - 11) else b i := ⟨_, rfl⟩
    rw [← ee] at EH
    replace hq2 : HH q2 = some (.lst ((List.range 19).map fun i => V.ref (e2 i))) := by rw [ee]; exact hq2
    clear ee
    refine ⟨q2, rfl, ⟨_, SqL.of hq2⟩, for_list (K := K) (a := q2) (xs := (List.range 19).map fun i => V.ref (e2 i)) (fun _ σ' H' => H' = HH ∧ ∃ v, σ' = [some (.ref sa), some (.ref d), some (.ref ws), some (.int r), some (.ref row), some (.ref kp), some (.ref td), some (.ref ls), some (.ref ev), v, none, none, none])
      ⟨rfl, none, rfl⟩ (fun i σ' H' hi ⟨eH, _⟩ => by subst H'; exact SqL.of hq2) (fun i v σ' H' hi ⟨eH, z, eσ⟩ => ?_) (fun σ' H' ⟨eH, z, eσ⟩ => ?_)⟩
    · subst H' σ'
      rw [List.getElem?_map] at hi
      have h19 : i < 19 := by
        by_cases c : i < 19
        · exact c
        · rw [List.getElem?_eq_none (by rw [List.length_range]; omega)] at hi
          cases hi
      rw [List.getElem?_range h19] at hi
      obtain rfl : V.ref (e2 i) = v := Option.some.inj hi
      have h24 : i < 24 := by omega
      obtain ⟨fs, he⟩ := EH.at_ i h24
      have kv := U.kv i h24
      have ke := U.ke i h24
      have km := U.km i h24
      have kl := U.kl i h24
      rw [decide_eq_true h19] at kv ke km kl
      refine gN ?_
      exact ⟨_, rfl, e2 i, C i, fs, _, _, true, rfl, he, U.ec i h24, ClsV.ty _, kv, true, rfl, iteF ⟨_, rfl, e2 i, C i, fs, _, _, true, rfl, he, U.ec i h24, ClsV.own _, ke, true, rfl, iteF ⟨_, rfl, e2 i, C i, fs, _, _, false, rfl, he, U.ec i h24, ClsV.own _, km, false, rfl, iteF
        ⟨_, rfl, e2 i, C i, fs, _, _, false, rfl, he, U.ec i h24, ClsV.ty _, kl, false, rfl, iteF ⟨rfl, _, rfl⟩⟩⟩⟩⟩
    subst H' σ'
    -- those of the other kind
    refine ⟨_, rfl, ls, rfl, ⟨_, SqL.of MH.hl⟩, for_list (K := K) (a := ls) (xs := [.ref (b 19), .ref (b 20), .ref (b 21), .ref (b 22), .ref (b 23)]) (fun _ σ' H' => H' = HH ∧ ∃ v, σ' = [some (.ref sa), some (.ref d), some (.ref ws), some (.int r), some (.ref row), some (.ref kp), some (.ref td), some (.ref ls), some (.ref ev), v, none, none, none])
      ⟨rfl, _, rfl⟩ (fun i σ' H' hi ⟨eH, _⟩ => by subst H'; exact SqL.of MH.hl) (fun i v σ' H' hi ⟨eH, z, eσ⟩ => ?_) (fun σ' H' ⟨eH, z2, eσ⟩ => ?_)⟩
    · subst H' σ'
      have hh : ∃ j, 19 ≤ j ∧ j < 24 ∧ v = .ref (b j) := by
        match i, hi with
        | 0, hi => exact ⟨19, by decide, by decide, (Option.some.inj hi).symm⟩
        | 1, hi => exact ⟨20, by decide, by decide, (Option.some.inj hi).symm⟩
        | 2, hi => exact ⟨21, by decide, by decide, (Option.some.inj hi).symm⟩
        | 3, hi => exact ⟨22, by decide, by decide, (Option.some.inj hi).symm⟩
        | 4, hi => exact ⟨23, by decide, by decide, (Option.some.inj hi).symm⟩
        | i + 5, hi => simp at hi
      obtain ⟨j, j1, j2, rfl⟩ := hh
      have he := MH.la.e j j1 j2
      have j3 : ¬ j < 19 := by omega
      have ke := U.ke j j2
      have km := U.km j j2
      have kl := U.kl j j2
      have kk := U.kk j j2
      have kx := U.kx j j2
      rw [decide_eq_false j3] at ke km kl
      refine gN ?_
      exact ⟨_, rfl, b j, C j, _, _, _, true, rfl, he, U.ec j j2, ClsV.ty _, kl, true, rfl, iteF ⟨_, rfl, b j, C j, _, _, _, true, rfl, he, U.ec j j2, ClsV.own _, km, true, rfl, iteF ⟨_, rfl, b j, C j, _, _, _, false, rfl, he, U.ec j j2, ClsV.own _, ke, false, rfl, iteF
        ⟨_, rfl, b j, C j, _, _, _, false, rfl, he, U.ec j j2, ClsV.ty _, kk, false, rfl, iteF ⟨_, rfl, b j, C j, _, _, _, false, rfl, he, U.ec j j2, ClsV.ty _, kx, false, rfl, iteF ⟨rfl, _, rfl⟩⟩⟩⟩⟩⟩
    subst H' σ'
    -- the names
    have kwh : ∀ {H' : Hp}, Same HH H' → Mid K C H' ws row kp td ls r x y a b := fun e => MH.same e
    dsimp only [tSeq, tIfS, tOr]
    refine use_lc (xs := [.str x, .str y, .str x, .str y, .str x]) ?_ fun qa HI nqa eI hqa => ?_
    · have z := el_lcL (K := K) (tl := tVar 7) (j := 9) (vs := [9]) (t := tYes) (te := tXval K "name" (tVar 9)) (σ := [some (.ref sa), some (.ref d), some (.ref ws), some (.int r), some (.ref row), some (.ref kp), some (.ref td), some (.ref ls), some (.ref ev), z2, none, none, none]) (fun _ => true) (fun i => .str (nmOf x y (i + 19)))
        (ev_var rfl) (SqL.of MH.hl) (by show 5 ≤ 40000; decide) (fun _ => rfl) (fun i v H1 e1 hi => et_yes) (fun i v H1 e1 hi _ => fun H5 e5 Q5 q5 => by
          have M5 := kwh (e1.trans e5)
          match i, hi with
          | 0, hi => obtain rfl := Option.some.inj hi; exact ⟨_, rfl, b 19, C 19, _, _, rfl, M5.la.e 19 (by decide) (by decide), U.ec 19 (by decide), U.nf 19 (by decide) "name" (by decide +kernel), rfl, q5 _ (Ex.refl _)⟩
          | 1, hi => obtain rfl := Option.some.inj hi; exact ⟨_, rfl, b 20, C 20, _, _, rfl, M5.la.e 20 (by decide) (by decide), U.ec 20 (by decide), U.nf 20 (by decide) "name" (by decide +kernel), rfl, q5 _ (Ex.refl _)⟩
          | 2, hi => obtain rfl := Option.some.inj hi; exact ⟨_, rfl, b 21, C 21, _, _, rfl, M5.la.e 21 (by decide) (by decide), U.ec 21 (by decide), U.nf 21 (by decide) "name" (by decide +kernel), rfl, q5 _ (Ex.refl _)⟩
          | 3, hi => obtain rfl := Option.some.inj hi; exact ⟨_, rfl, b 22, C 22, _, _, rfl, M5.la.e 22 (by decide) (by decide), U.ec 22 (by decide), U.nf 22 (by decide) "name" (by decide +kernel), rfl, q5 _ (Ex.refl _)⟩
          | 4, hi => obtain rfl := Option.some.inj hi; exact ⟨_, rfl, b 23, C 23, _, _, rfl, M5.la.e 23 (by decide) (by decide), U.ec 23 (by decide), U.nf 23 (by decide) "name" (by decide +kernel), rfl, q5 _ (Ex.refl _)⟩
          | i + 5, hi => simp at hi)
      rw [show ([V.ref (b 19), .ref (b 20), .ref (b 21), .ref (b 22), .ref (b 23)]).length = 5 from rfl, given_all] at z
      exact z
    have MI := kwh eI
    refine ⟨_, rfl, _, rfl, kp, kp, _, _, rfl, rfl, MI.hk, MI.hk, by show 2 + 2 ≤ sizeLine; decide, fun qb nqb => ?_⟩
    obtain ⟨HJ, eG, sJ, hqb⟩ := put_new (o := .lst [.str x, .str y, .str x, .str y]) nqb
    dsimp only [List.cons_append, List.nil_append]
    rw [eG]
    clear eG
    refine ⟨_, rfl, 1, rfl, kp, _, rfl, SqL.of (sJ _ _ MI.hk), fun qc nqc => ?_⟩
    rw [show cutV [V.str x, .str y] none (some 1) = [.str x] from rfl]
    obtain ⟨HL, eG, sL, hqc⟩ := put_new (o := .lst [.str x]) nqc
    rw [eG]
    clear eG
    refine ⟨qb, qc, _, _, rfl, rfl, sL _ _ hqb, hqc, by show 4 + 1 ≤ sizeLine; decide, fun qd nqd => ?_⟩
    obtain ⟨HM, eG, sM, hqd⟩ := put_new (o := .lst [.str x, .str y, .str x, .str y, .str x]) nqd
    dsimp only [List.cons_append, List.nil_append]
    rw [eG]
    clear eG
    have sIM := (sJ.trans sL).trans sM
    refine neD_same (dp_five (SqL.of (sIM _ _ hqa))) (dp_five (SqL.of hqd)) (sh_five hx hy) ⟨false, rfl, iteF ?_⟩
    have sHM : Same HH HM := Same.trans eI sIM
    have MM := kwh sHM
    -- told[0].place
    refine ⟨_, rfl, td, _, 0, .ref (a 0), rfl, rfl, SqL.of MM.ht, rfl, a 0, C 11, _, .int r, rfl, MM.ta.e0, U.ec 11 (by decide), U.nf 11 (by decide) "place" (by decide +kernel), rfl, _, rfl, rfl, false, by simp, iteF ?_⟩
    -- signs, arguments
    refine ⟨by show 3 ≤ sizeLine; decide, fun qe nqe => ?_⟩
    obtain ⟨HN, eG, sN, hqe⟩ := put_new (o := .lst [.int 1, .int 2, .int 3]) nqe
    rw [eG]
    clear eG
    have kwn : ∀ {H' : Hp}, Same HN H' → Mid K C H' ws row kp td ls r x y a b := fun e => kwh ((sHM.trans sN).trans e)
    refine ⟨qe, rfl, ⟨_, SqL.of hqe⟩, for_list (K := K) (a := qe) (xs := [.int 1, .int 2, .int 3]) (fun _ σ' H' => Same HN H' ∧ ∃ v, σ' = [some (.ref sa), some (.ref d), some (.ref ws), some (.int r), some (.ref row), some (.ref kp), some (.ref td), some (.ref ls), some (.ref ev), z2, v, none, none])
      ⟨Same.refl _, _, rfl⟩ (fun i σ' H' hi ⟨eH, _⟩ => SqL.of (eH _ _ hqe)) (fun i v σ' H' hi ⟨eH, z, eσ⟩ => ?_) (fun σ' H' ⟨eH, z3, eσ⟩ => ?_)⟩
    · subst σ'
      have M := kwn eH
      have hh : ∃ (kk m : Int) (j : Nat) (ak t : Addr) (sg : Str) (fs : List (Str × V)), v = .int kk ∧ j < 24 ∧ atI ((List.range 8).map fun i => V.ref (a i)) kk = some (.ref ak) ∧ ErrAt H' ak (C j) fs ∧ fs.lookup ("sign" : Str) = some (.str sg) ∧ fs.lookup ("arguments" : Str) = some (.ref t) ∧ SqT K H' t [.str y, .str x] ∧
          atI [V.int 0, .int 0, .int 1, .int 0] kk = some (.int m) ∧ atI [V.str x, .str y] m = some (.str sg) ∧ Wee sg := by
        match i, hi with
        | 0, hi => obtain ⟨t, h1, h2⟩ := M.ta.e1; exact ⟨1, 0, 12, a 1, t, x, _, (Option.some.inj hi).symm, by decide, rfl, h1, rfl, rfl, h2, rfl, rfl, hx⟩
        | 1, hi => obtain ⟨t, h1, h2⟩ := M.ta.e2; exact ⟨2, 1, 13, a 2, t, y, _, (Option.some.inj hi).symm, by decide, rfl, h1, rfl, rfl, h2, rfl, rfl, hy⟩
        | 2, hi => obtain ⟨t, h1, h2⟩ := M.ta.e3; exact ⟨3, 0, 14, a 3, t, x, _, (Option.some.inj hi).symm, by decide, rfl, h1, rfl, rfl, h2, rfl, rfl, hx⟩
        | i + 3, hi => simp at hi
      obtain ⟨kk, m, j, ak, t, sg, fs, rfl, jl, i1, i2, i3, i4, i5, i6, i7, i8⟩ := hh
      refine gN ?_
      refine ⟨_, rfl, _, rfl, td, _, kk, .ref ak, rfl, rfl, SqL.of M.ht, i1, ak, C j, fs, .str sg, rfl, i2, U.ec j jl, U.nf j jl "sign" (by decide +kernel), i3, _, rfl, by show 4 ≤ sizeLine; decide, fun qf nqf => ?_⟩
      obtain ⟨HO, eG, sO, hqf⟩ := put_new (o := .lst [.int 0, .int 0, .int 1, .int 0]) nqf
      rw [eG]
      clear eG
      have M2 := M.same sO
      refine ⟨_, rfl, qf, _, kk, .int m, rfl, rfl, SqL.of hqf, i6, kp, _, m, .str sg, rfl, rfl, SqL.of M2.hk, i7, neD_same (.str sg) (.str sg) (sh_str i8) ⟨false, rfl, iteF ?_⟩⟩
      exact ⟨_, rfl, _, rfl, td, _, kk, .ref ak, rfl, rfl, SqL.of M2.ht, i1, ak, C j, fs, .ref t, rfl, i2.same sO, U.ec j jl, U.nf j jl "arguments" (by decide +kernel), i4, _, rfl, neD_same (dp_twoT (ex_t sO i5)) (dp_twoT M2.hr) (sh_twoT hy hx) ⟨false, rfl, iteF ⟨eH.trans sO, _, rfl⟩⟩⟩
    subst σ'
    have M := kwn eH
    -- places, others, names
    obtain ⟨t3, h3, _⟩ := M.ta.e3
    refine ⟨_, rfl, td, _, 3, .ref (a 3), rfl, rfl, SqL.of M.ht, rfl, a 3, C 14, _, .int r, rfl, h3, U.ec 14 (by decide), U.nf 14 (by decide) "place" (by decide +kernel), rfl,
      _, rfl, td, _, 3, .ref (a 3), rfl, rfl, SqL.of M.ht, rfl, a 3, C 14, _, .str y, rfl, h3, U.ec 14 (by decide), U.nf 14 (by decide) "other" (by decide +kernel), rfl,
      _, rfl, td, _, 5, .ref (a 5), rfl, rfl, SqL.of M.ht, rfl, a 5, C 16, _, .str x, rfl, M.ta.e5, U.ec 16 (by decide), U.nf 16 (by decide) "name" (by decide +kernel), rfl,
      _, rfl, td, _, 6, .ref (a 6), rfl, rfl, SqL.of M.ht, rfl, a 6, C 17, _, .str y, rfl, M.ta.e6, U.ec 17 (by decide), U.nf 17 (by decide) "name" (by decide +kernel), rfl, by show 4 ≤ sizeLine; decide, fun qg nqg => ?_⟩
    obtain ⟨HP, eG, sP, hqg⟩ := put_new (o := .lst [.int r, .str y, .str x, .str y]) nqg
    rw [eG]
    clear eG
    have M := M.same sP
    refine ⟨_, rfl, _, rfl, kp, _, 1, .str y, rfl, rfl, SqL.of M.hk, rfl, _, rfl, kp, _, 0, .str x, rfl, rfl, SqL.of M.hk, rfl, _, rfl, kp, _, 1, .str y, rfl, rfl, SqL.of M.hk, rfl, by show 4 ≤ sizeLine; decide, fun qh nqh => ?_⟩
    obtain ⟨HQ, eG, sQ, hqh⟩ := put_new (o := .lst [.int r, .str y, .str x, .str y]) nqh
    rw [eG]
    clear eG
    have M := M.same sQ
    refine neD_same (dp_row (SqL.of (sQ _ _ hqg))) (dp_row (SqL.of hqh)) (sh_row hy hx hy r0 r1') ⟨false, rfl, iteF ?_⟩
    -- left, right
    obtain ⟨t4, h4, h4t⟩ := M.ta.e4
    refine ⟨_, rfl, td, _, 4, .ref (a 4), rfl, rfl, SqL.of M.ht, rfl, a 4, C 15, _, .str x, rfl, h4, U.ec 15 (by decide), U.nf 15 (by decide) "left" (by decide +kernel), rfl,
      _, rfl, td, _, 4, .ref (a 4), rfl, rfl, SqL.of M.ht, rfl, a 4, C 15, _, .ref t4, rfl, h4, U.ec 15 (by decide), U.nf 15 (by decide) "right" (by decide +kernel), rfl, by show 2 ≤ sizeLine; decide, fun qi nqi => ?_⟩
    obtain ⟨HR, eG, sR, hqi⟩ := put_new (o := .lst [.str x, .ref t4]) nqi
    rw [eG]
    clear eG
    have M := M.same sR
    have h4t := ex_t sR h4t
    refine ⟨_, rfl, kp, _, 0, .str x, rfl, rfl, SqL.of M.hk, rfl, _, rfl, kp, _, 1, .str y, rfl, rfl, SqL.of M.hk, rfl, by show 2 ≤ sizeLine; decide, fun qj nqj => ?_⟩
    obtain ⟨HS, eG, sS, hqj⟩ := put_new (o := .tup [.str "f", .str y]) nqj
    rw [eG]
    clear eG
    refine ⟨by show 2 ≤ sizeLine; decide, fun qk nqk => ?_⟩
    obtain ⟨HT, eG, sT, hqk⟩ := put_new (o := .lst [.str x, .ref qj]) nqk
    rw [eG]
    clear eG
    have M := (M.same sS).same sT
    have sST := sS.trans sT
    refine neD_same (dp_pair (SqL.of (sST _ _ hqi)) (ex_t sST h4t)) (dp_pair (SqL.of hqk) (SqT.of (sT _ _ hqj))) (sh_pair hx (wee_of "f" (by decide)) hy) ⟨false, rfl, iteF ?_⟩
    -- spare, clash
    have hkT := M.hk
    have htT := M.ht
    obtain ⟨t7, h7, _, h7t⟩ := M.ta.e7
    refine ⟨_, rfl, kp, _, rfl, .inl (SqL.of M.hk), fun sp nsp => ?_⟩
    obtain ⟨HU, eG, sU, hsp⟩ := put_new (o := .lst [.str x, .str y]) nsp
    refine gN ?_
    rw [eG]
    clear eG
    have M := M.same sU
    refine ⟨_, rfl, by show 1 ≤ 1000; decide, fun ca nca => ⟨ca, sp, _, rfl, or_seq (same_upd nca) (.inl (SqL.of hsp)), upd_same, fun lb dx HV hd ne q1 q2 q3 q4 => ⟨rfl, ?_⟩⟩⟩
    refine gN ?_
    have sV := but_same nca q4
    have hcl : ErrAt HV ca (C 18) _ := .inr ⟨dx, q1, q2⟩
    have hlb : HV lb = some (.lst [.str x, .str y]) := q3.2
    have hsl : sp ≠ lb := ne_of_none (same_upd nca _ _ hsp) q3.1
    have M := M.same sV
    have hsV := sV _ _ hsp
    have uV := sU.trans sV
    refine ⟨_, rfl, .inl ⟨rfl, _, SqL.of hsV⟩, sp, _, _, rfl, rfl, hsV, by show 2 < sizeLine; decide, ?_⟩
    have hkW : (upd HV sp (.lst [.str x, .str y, .str "zz"])) kp = some (.lst [.str x, .str y]) := by rw [upd_ne (ne_of_none hkT nsp)]; exact uV _ _ hkT
    have htW : (upd HV sp (.lst [.str x, .str y, .str "zz"])) td = some (.lst ((List.range 8).map fun i => .ref (a i))) := by rw [upd_ne (ne_of_none htT nsp)]; exact uV _ _ htT
    have h7W : (upd HV sp (.lst [.str x, .str y, .str "zz"])) t7 = some (.lst [.str x, .str y]) := by rw [upd_ne (ne_of_none h7t nsp)]; exact uV _ _ h7t
    have hlW : (upd HV sp (.lst [.str x, .str y, .str "zz"])) lb = some (.lst [.str x, .str y]) := by rw [upd_ne hsl.symm]; exact hlb
    have g7 : ErrAt (upd HV sp (.lst [.str x, .str y, .str "zz"])) (a 7) (C 18) _ := err_put hsV (h7.same uV)
    have gc : ErrAt (upd HV sp (.lst [.str x, .str y, .str "zz"])) ca (C 18) _ := err_put hsV hcl
    exact ⟨_, rfl, td, _, 7, .ref (a 7), rfl, rfl, SqL.of htW, rfl, a 7, C 18, _, .ref t7, rfl, g7, U.ec 18 (by decide), U.nf 18 (by decide) "labels" (by decide +kernel), rfl, _, rfl, eqD_same (dp_two (SqL.of h7W)) (dp_two (SqL.of hkW)) (sh_two hx hy) ⟨true, rfl, iteT
      ⟨_, rfl, ca, C 18, _, .ref lb, rfl, gc, U.ec 18 (by decide), U.nf 18 (by decide) "labels" (by decide +kernel), rfl, _, rfl, eqD_same (dp_two (SqL.of hlW)) (dp_two (SqL.of hkW)) (sh_two hx hy) (k _)⟩⟩⟩
end
end K91


set_option Elab.async false
set_option linter.all false
set_option maxRecDepth 100000
set_option maxHeartbeats 4000000
namespace K91
open PySem PySem.Spec PyProof.Rows L2 Evl NdefX
/-! ### what the top has written -/
def pick : List Addr → Nat → Addr
  | [], _ => 0
  | a :: _, 0 => a
  | _ :: r, i + 1 => pick r i
def pickD (d : FuncData) : List FuncData → Nat → FuncData
  | [], _ => d
  | a :: _, 0 => a
  | _ :: r, i + 1 => pickD d r i
theorem at_rep {α : Type} {n : Nat} {f : Nat → α} {c : α} (h : (List.range n).map f = List.replicate n c) (i : Nat) (hi : i < n) : f i = c := by
  have e := congrArg (fun l : List α => l[i]?) h
  simp only [List.getElem?_map, List.getElem?_range hi, List.getElem?_replicate, if_pos hi] at e
  exact Option.some.inj e
theorem at_map {α : Type} {n : Nat} {f g : Nat → α} (h : (List.range n).map f = (List.range n).map g) (i : Nat) (hi : i < n) : f i = g i := by
  have e := congrArg (fun l : List α => l[i]?) h
  simp only [List.getElem?_map, List.getElem?_range hi] at e
  exact Option.some.inj e
def bases (i : Nat) : List Value := if i < 19 then [.type "ValueError", .type "Exception", .type "BaseException", .type "object"] else [.type "LookupError", .type "Exception", .type "BaseException", .type "object"]
def news (i : Nat) : String := if i < 19 then "ValueError.__new__" else "LookupError.__new__"
/-- what is so of all twenty-four -/
structure Tab (K : PySem.W.Frag) (C : Nat → Addr) (ce cm : Addr) : Prop where
  ci : (List.range 24).map (fun i => PySem.W.excInitIn K (C i) (bases i) (news i)) = List.replicate 24 true
  ov : (List.range 24).map (fun i => PySem.W.excOver K (C i) (bases i)) = List.replicate 24 true
  sa : (List.range 24).map (fun i => PySem.W.findIn K (.ref (C i)) "__setattr__") = List.replicate 24 (some (some (.builtin "object.__setattr__")))
  hd : (List.range 24).map (fun i => PySem.W.hasDictIn K (C i)) = List.replicate 24 true
  eb : (List.range 24).map (fun i => PySem.W.subIn K (.ref (C i)) (.type "BaseException")) = List.replicate 24 (some true)
  ty : (List.range 24).map (fun i => PySem.W.typeIn K (.ref (C i))) = List.replicate 24 (some (.type "type"))
  kp : (List.range 24).map (fun i => PySem.W.keepIn K (.ref (C i))) = List.replicate 24 true
  hg : (List.range 24).map (fun i => PySem.W.findIn K (.ref (C i)) "__getattribute__") = List.replicate 24 (some (some (.builtin "BaseException.__getattribute__")))
  hk : (List.range 24).map (fun i => PySem.W.findIn K (.ref (C i)) "__getattr__") = List.replicate 24 (some none)
  ha : (List.range 24).map (fun i => PySem.W.findIn K (.ref (C i)) "__class__") = List.replicate 24 (some (some (.builtin "object.__class__")))
  hm : (List.range 24).map (fun i => PySem.W.mroIn K (C i) (.type "object")) = List.replicate 24 (some true)
  hn : PySem.W.specialIn K (.builtin "object.__class__") "__get__" = some (some (.builtin "getset_descriptor.__get__"))
  ht : PySem.W.takesIn K (.builtin "object.__class__") = some true
  hi : (List.range 11).map (fun i => PySem.W.findIn K (.ref (C i)) "__init__") = List.replicate 11 (some (some (.builtin "ValueError.__init__")))
  n_name : (List.range 24).map (fun i => PySem.W.findIn K (.ref (C i)) "name") = List.replicate 24 (some none)
  n_place : (List.range 24).map (fun i => PySem.W.findIn K (.ref (C i)) "place") = List.replicate 24 (some none)
  n_sign : (List.range 24).map (fun i => PySem.W.findIn K (.ref (C i)) "sign") = List.replicate 24 (some none)
  n_arguments : (List.range 24).map (fun i => PySem.W.findIn K (.ref (C i)) "arguments") = List.replicate 24 (some none)
  n_other : (List.range 24).map (fun i => PySem.W.findIn K (.ref (C i)) "other") = List.replicate 24 (some none)
  n_left : (List.range 24).map (fun i => PySem.W.findIn K (.ref (C i)) "left") = List.replicate 24 (some none)
  n_right : (List.range 24).map (fun i => PySem.W.findIn K (.ref (C i)) "right") = List.replicate 24 (some none)
  n_labels : (List.range 24).map (fun i => PySem.W.findIn K (.ref (C i)) "labels") = List.replicate 24 (some none)
  kt : (List.range 24).map (fun i => (List.range 24).map fun j => PySem.W.kitOne K (.ref (C i)) (.ref (C j))) = (List.range 24).map fun i => (List.range 24).map fun j => some (decide (i = j))
  kv : (List.range 24).map (fun i => PySem.W.kitOne K (.ref (C i)) (.type "ValueError")) = (List.range 24).map fun i => some (decide (i < 19))
  ke : (List.range 24).map (fun i => PySem.W.kitOne K (.ref (C i)) (.ref ce)) = (List.range 24).map fun i => some (decide (i < 19))
  kl : (List.range 24).map (fun i => PySem.W.kitOne K (.ref (C i)) (.type "LookupError")) = (List.range 24).map fun i => some (!decide (i < 19))
  km : (List.range 24).map (fun i => PySem.W.kitOne K (.ref (C i)) (.ref cm)) = (List.range 24).map fun i => some (!decide (i < 19))
  kk : (List.range 24).map (fun i => PySem.W.kitOne K (.ref (C i)) (.type "KeyError")) = List.replicate 24 (some false)
  kx : (List.range 24).map (fun i => PySem.W.kitOne K (.ref (C i)) (.type "IndexError")) = List.replicate 24 (some false)
section
variable {P : Program} {w : World} {K : PySem.W.Frag} {mg : Str → Option Value} {h : Heap} {C : Nat → Addr} {ce cm : Addr}
theorem Tab.exc (t : Tab K C ce cm) (i : Nat) (hi : i < 24) : ExcC K (C i) := ⟨at_rep t.hg i hi, at_rep t.hk i hi, at_rep t.eb i hi, at_rep t.hd i hi, at_rep t.ha i hi, t.hn, t.ht, at_rep t.hm i hi⟩
theorem Tab.cls (t : Tab K C ce cm) (i : Nat) (hi : i < 24) : XCls K (C i) (news i) (bases i) := ⟨at_rep t.ci i hi, at_rep t.ov i hi, at_rep t.sa i hi, at_rep t.hd i hi, at_rep t.eb i hi, at_rep t.ty i hi, at_rep t.kp i hi⟩
theorem Tab.nf (t : Tab K C ce cm) (i : Nat) (hi : i < 24) (n : Str) (hn : n ∈ (["name", "place", "sign", "arguments", "other", "left", "right", "labels"] : List Str)) : PySem.W.findIn K (.ref (C i)) n = some none := by
  simp only [List.mem_cons, List.not_mem_nil, or_false] at hn
  rcases hn with rfl | rfl | rfl | rfl | rfl | rfl | rfl | rfl
  · exact at_rep t.n_name i hi
  · exact at_rep t.n_place i hi
  · exact at_rep t.n_sign i hi
  · exact at_rep t.n_arguments i hi
  · exact at_rep t.n_other i hi
  · exact at_rep t.n_left i hi
  · exact at_rep t.n_right i hi
  · exact at_rep t.n_labels i hi
theorem xi_mk (KX : K.In h) (G : h.Ns mainGlobals mg) {x q : Str} {st : Stmt} {ps : List Str} {D f cc c : Addr} {B nI iI : String} {bB : List Value} {oc kV doc pm ct o1 o2 : Value} {od an d1 d2 : Option Addr} {osl s1 s2 : Array (Option Value)} {vs : Array Value} {file : Str} {tf : Tok} {cd : ClassData}
    (xb : XBase B nI iI bB) (xc : XCls K D nI bB) (g : PySem.W.nsIn K mainGlobals x = some (some (.ref D))) (iC : PySem.W.findIn K (.ref D) "__init__" = some (some (.ref f))) (tI : PySem.W.typeIn K (.ref f) = some (.type "function"))
    (l : K.lookup f = some ⟨oc, od, .func (PySem.W.fnX "__init__" q (defArgs st) (defBody st) (defScope st) [(("__class__" : Str), cc)] .none kV doc pm an (.ref c) ct), osl⟩)
    (lc : K.lookup cc = some ⟨o1, d1, .cell (some (.ref D)), s1⟩) (lo : K.lookup c = some ⟨o2, d2, .fields vs, s2⟩) (lv : vs[2]? = some (.str file tf)) (lf : ((P.main.file : Str) == file) = true)
    (cl : PySem.W.clsIn K D = some cd) (sb : PySem.W.mroIn K D (.ref D) = some true) (up : PySem.W.ks_superIn K D D "__init__" = some (some (.builtin iI))) (isB : PySem.W.subIn K (.ref D) (.type B) = some true)
    (opq : PySem.W.nsIn K cStatics "thirdparty.any" = some none) (noS : mg "super" = none) (tp : (P.main.scope.names.lookup ("super" : Str)).isSome = false)
    (sf : ∃ ar, ((defArgs st).posonlyargs ++ (defArgs st).args).head? = some ar ∧ ar.arg = "self") (kS : (defScope st).names.lookup ("super" : Str) = some .globalImplicit) (kC : (defScope st).names.lookup ("__class__" : Str) = some .free) (kA : (defScope st).names.lookup ("self" : Str) = some .local)
    (hc : PySem.W.codeIn K (.ref c) q = true) (bd : ∀ us : List Value, us.length = ps.length → bindArgs (PySem.W.fnX "__init__" q (defArgs st) (defBody st) (defScope st) [(("__class__" : Str), cc)] .none kV doc pm an (.ref c) ct) ⟨us, []⟩ = pure (ps.zip us)) :
    XI P K mg x q st ps D f cc c B nI iI bB (PySem.W.fnX "__init__" q (defArgs st) (defBody st) (defScope st) [(("__class__" : Str), cc)] .none kV doc pm an (.ref c) ct) where
  xb := xb
  g := PySem.W.mg_of KX G g
  xc := xc
  iC := iC
  tI := tI
  xs := { cl := rfl, cell := ⟨_, _, _, lc⟩, code := ⟨_, _, _, _, _, _, lo, lv, lf⟩, cls := ⟨_, cl⟩, sub := sb, up := up, isB := isB, opq := opq, noS := noS, top := tp, self := sf, kS := kS, kC := kC, kA := kA }
  lk := ⟨_, _, _, _, _, _, _, _, rfl, l⟩
  cd := hc
  bd := .all bd
end
section
variable {P : Program} {w : World} {K : PySem.W.Frag} {mg : Str → Option Value} {h : Heap}
set_option maxHeartbeats 16000000 in
theorem all_mk {fa ce cm : Addr} (X : K.In h) (G : h.Ns mainGlobals mg) (hfa : mg "law" = some (.ref fa)) (lf : ((P.main.file : Str) == "/claim/cut.py") = true) (tp : (P.main.scope.names.lookup ("super" : Str)).isSome = false)
    {C0 C1 C2 C3 C4 C5 C6 C7 C8 C9 C10 C11 C12 C13 C14 C15 C16 C17 C18 C19 C20 C21 C22 C23 : Addr}
    {f11 f12 f13 f14 f15 f16 f17 f18 f19 f20 f21 f22 f23 : Addr}
    {q11 q12 q13 q14 q15 q16 q17 q18 q19 q20 q21 q22 q23 : Addr}
    {c11 c12 c13 c14 c15 c16 c17 c18 c19 c20 c21 c22 c23 : Addr}
    {oc11 oc12 oc13 oc14 oc15 oc16 oc17 oc18 oc19 oc20 oc21 oc22 oc23 : Value}
    {kV11 kV12 kV13 kV14 kV15 kV16 kV17 kV18 kV19 kV20 kV21 kV22 kV23 : Value}
    {dc11 dc12 dc13 dc14 dc15 dc16 dc17 dc18 dc19 dc20 dc21 dc22 dc23 : Value}
    {pm11 pm12 pm13 pm14 pm15 pm16 pm17 pm18 pm19 pm20 pm21 pm22 pm23 : Value}
    {ct11 ct12 ct13 ct14 ct15 ct16 ct17 ct18 ct19 ct20 ct21 ct22 ct23 : Value}
    {oo11 oo12 oo13 oo14 oo15 oo16 oo17 oo18 oo19 oo20 oo21 oo22 oo23 : Value}
    {pp11 pp12 pp13 pp14 pp15 pp16 pp17 pp18 pp19 pp20 pp21 pp22 pp23 : Value}
    {od11 od12 od13 od14 od15 od16 od17 od18 od19 od20 od21 od22 od23 : Option Addr}
    {an11 an12 an13 an14 an15 an16 an17 an18 an19 an20 an21 an22 an23 : Option Addr}
    {dd11 dd12 dd13 dd14 dd15 dd16 dd17 dd18 dd19 dd20 dd21 dd22 dd23 : Option Addr}
    {ee11 ee12 ee13 ee14 ee15 ee16 ee17 ee18 ee19 ee20 ee21 ee22 ee23 : Option Addr}
    {sl11 sl12 sl13 sl14 sl15 sl16 sl17 sl18 sl19 sl20 sl21 sl22 sl23 : Array (Option Value)}
    {sm11 sm12 sm13 sm14 sm15 sm16 sm17 sm18 sm19 sm20 sm21 sm22 sm23 : Array (Option Value)}
    {sn11 sn12 sn13 sn14 sn15 sn16 sn17 sn18 sn19 sn20 sn21 sn22 sn23 : Array (Option Value)}
    {vs11 vs12 vs13 vs14 vs15 vs16 vs17 vs18 vs19 vs20 vs21 vs22 vs23 : Array Value}
    {tf11 tf12 tf13 tf14 tf15 tf16 tf17 tf18 tf19 tf20 tf21 tf22 tf23 : Tok}
    {cd11 cd12 cd13 cd14 cd15 cd16 cd17 cd18 cd19 cd20 cd21 cd22 cd23 : ClassData}
    {g0 g1 g2 g3 g4 g5 g6 g7 : Addr}
    {Oc0 Oc1 Oc2 Oc3 Oc4 Oc5 Oc6 Oc7 : Value}
    {Kv0 Kv1 Kv2 Kv3 Kv4 Kv5 Kv6 Kv7 : Value}
    {Dc0 Dc1 Dc2 Dc3 Dc4 Dc5 Dc6 Dc7 : Value}
    {Pm0 Pm1 Pm2 Pm3 Pm4 Pm5 Pm6 Pm7 : Value}
    {Cd0 Cd1 Cd2 Cd3 Cd4 Cd5 Cd6 Cd7 : Value}
    {Ct0 Ct1 Ct2 Ct3 Ct4 Ct5 Ct6 Ct7 : Value}
    {Od0 Od1 Od2 Od3 Od4 Od5 Od6 Od7 : Option Addr}
    {An0 An1 An2 An3 An4 An5 An6 An7 : Option Addr}
    {Sl0 Sl1 Sl2 Sl3 Sl4 Sl5 Sl6 Sl7 : Array (Option Value)}
    (a0 : PySem.W.nsIn K mainGlobals "BadAlgebra" = some (some (.ref C0)))
    (a1 : PySem.W.nsIn K mainGlobals "BadCount" = some (some (.ref C1)))
    (a2 : PySem.W.nsIn K mainGlobals "BadTerm" = some (some (.ref C2)))
    (a3 : PySem.W.nsIn K mainGlobals "TooMany" = some (some (.ref C3)))
    (a4 : PySem.W.nsIn K mainGlobals "NoMembers" = some (some (.ref C4)))
    (a5 : PySem.W.nsIn K mainGlobals "MixedSigns" = some (some (.ref C5)))
    (a6 : PySem.W.nsIn K mainGlobals "MixedMembers" = some (some (.ref C6)))
    (a7 : PySem.W.nsIn K mainGlobals "MixedAlgebras" = some (some (.ref C7)))
    (a8 : PySem.W.nsIn K mainGlobals "BadImages" = some (some (.ref C8)))
    (a9 : PySem.W.nsIn K mainGlobals "BadBlocks" = some (some (.ref C9)))
    (a10 : PySem.W.nsIn K mainGlobals "NothingDone" = some (some (.ref C10)))
    (a11 : PySem.W.nsIn K mainGlobals "BadText" = some (some (.ref C11)))
    (a12 : PySem.W.nsIn K mainGlobals "NotClosed" = some (some (.ref C12)))
    (a13 : PySem.W.nsIn K mainGlobals "NotKept" = some (some (.ref C13)))
    (a14 : PySem.W.nsIn K mainGlobals "NotLinked" = some (some (.ref C14)))
    (a15 : PySem.W.nsIn K mainGlobals "NotKin" = some (some (.ref C15)))
    (a16 : PySem.W.nsIn K mainGlobals "BadName" = some (some (.ref C16)))
    (a17 : PySem.W.nsIn K mainGlobals "TwiceTold" = some (some (.ref C17)))
    (a18 : PySem.W.nsIn K mainGlobals "Clash" = some (some (.ref C18)))
    (a19 : PySem.W.nsIn K mainGlobals "UnknownMember" = some (some (.ref C19)))
    (a20 : PySem.W.nsIn K mainGlobals "UnknownSign" = some (some (.ref C20)))
    (a21 : PySem.W.nsIn K mainGlobals "UnknownName" = some (some (.ref C21)))
    (a22 : PySem.W.nsIn K mainGlobals "NoValue" = some (some (.ref C22)))
    (a23 : PySem.W.nsIn K mainGlobals "NotTold" = some (some (.ref C23)))
    (aE : PySem.W.nsIn K mainGlobals "EqualkinError" = some (some (.ref ce)))
    (aM : PySem.W.nsIn K mainGlobals "NameMissing" = some (some (.ref cm)))
    (i11 : PySem.W.findIn K (.ref C11) "__init__" = some (some (.ref f11)))
    (l11 : K.lookup f11 = some ⟨oc11, od11, .func (PySem.W.fnX "__init__" "BadText.__init__" (defArgs (inClass (top 5) 0)) (defBody (inClass (top 5) 0)) (defScope (inClass (top 5) 0)) [(("__class__" : Str), q11)] .none kV11 dc11 pm11 an11 (.ref c11) ct11), sl11⟩)
    (m11 : K.lookup q11 = some ⟨oo11, dd11, .cell (some (.ref C11)), sm11⟩)
    (n11 : K.lookup c11 = some ⟨pp11, ee11, .fields vs11, sn11⟩)
    (v11 : vs11[2]? = some (.str "/claim/cut.py" tf11))
    (d11 : PySem.W.clsIn K C11 = some cd11)
    (t11 : PySem.W.typeIn K (.ref f11) = some (.type "function"))
    (s11 : PySem.W.mroIn K C11 (.ref C11) = some true)
    (u11 : PySem.W.ks_superIn K C11 C11 "__init__" = some (some (.builtin "ValueError.__init__")))
    (b11 : PySem.W.subIn K (.ref C11) (.type "ValueError") = some true)
    (h11 : PySem.W.codeIn K (.ref c11) "BadText.__init__" = true)
    (i12 : PySem.W.findIn K (.ref C12) "__init__" = some (some (.ref f12)))
    (l12 : K.lookup f12 = some ⟨oc12, od12, .func (PySem.W.fnX "__init__" "NotClosed.__init__" (defArgs (inClass (top 8) 0)) (defBody (inClass (top 8) 0)) (defScope (inClass (top 8) 0)) [(("__class__" : Str), q12)] .none kV12 dc12 pm12 an12 (.ref c12) ct12), sl12⟩)
    (m12 : K.lookup q12 = some ⟨oo12, dd12, .cell (some (.ref C12)), sm12⟩)
    (n12 : K.lookup c12 = some ⟨pp12, ee12, .fields vs12, sn12⟩)
    (v12 : vs12[2]? = some (.str "/claim/cut.py" tf12))
    (d12 : PySem.W.clsIn K C12 = some cd12)
    (t12 : PySem.W.typeIn K (.ref f12) = some (.type "function"))
    (s12 : PySem.W.mroIn K C12 (.ref C12) = some true)
    (u12 : PySem.W.ks_superIn K C12 C12 "__init__" = some (some (.builtin "ValueError.__init__")))
    (b12 : PySem.W.subIn K (.ref C12) (.type "ValueError") = some true)
    (h12 : PySem.W.codeIn K (.ref c12) "NotClosed.__init__" = true)
    (i13 : PySem.W.findIn K (.ref C13) "__init__" = some (some (.ref f13)))
    (l13 : K.lookup f13 = some ⟨oc13, od13, .func (PySem.W.fnX "__init__" "NotKept.__init__" (defArgs (inClass (top 13) 0)) (defBody (inClass (top 13) 0)) (defScope (inClass (top 13) 0)) [(("__class__" : Str), q13)] .none kV13 dc13 pm13 an13 (.ref c13) ct13), sl13⟩)
    (m13 : K.lookup q13 = some ⟨oo13, dd13, .cell (some (.ref C13)), sm13⟩)
    (n13 : K.lookup c13 = some ⟨pp13, ee13, .fields vs13, sn13⟩)
    (v13 : vs13[2]? = some (.str "/claim/cut.py" tf13))
    (d13 : PySem.W.clsIn K C13 = some cd13)
    (t13 : PySem.W.typeIn K (.ref f13) = some (.type "function"))
    (s13 : PySem.W.mroIn K C13 (.ref C13) = some true)
    (u13 : PySem.W.ks_superIn K C13 C13 "__init__" = some (some (.builtin "ValueError.__init__")))
    (b13 : PySem.W.subIn K (.ref C13) (.type "ValueError") = some true)
    (h13 : PySem.W.codeIn K (.ref c13) "NotKept.__init__" = true)
    (i14 : PySem.W.findIn K (.ref C14) "__init__" = some (some (.ref f14)))
    (l14 : K.lookup f14 = some ⟨oc14, od14, .func (PySem.W.fnX "__init__" "NotLinked.__init__" (defArgs (inClass (top 15) 0)) (defBody (inClass (top 15) 0)) (defScope (inClass (top 15) 0)) [(("__class__" : Str), q14)] .none kV14 dc14 pm14 an14 (.ref c14) ct14), sl14⟩)
    (m14 : K.lookup q14 = some ⟨oo14, dd14, .cell (some (.ref C14)), sm14⟩)
    (n14 : K.lookup c14 = some ⟨pp14, ee14, .fields vs14, sn14⟩)
    (v14 : vs14[2]? = some (.str "/claim/cut.py" tf14))
    (d14 : PySem.W.clsIn K C14 = some cd14)
    (t14 : PySem.W.typeIn K (.ref f14) = some (.type "function"))
    (s14 : PySem.W.mroIn K C14 (.ref C14) = some true)
    (u14 : PySem.W.ks_superIn K C14 C14 "__init__" = some (some (.builtin "ValueError.__init__")))
    (b14 : PySem.W.subIn K (.ref C14) (.type "ValueError") = some true)
    (h14 : PySem.W.codeIn K (.ref c14) "NotLinked.__init__" = true)
    (i15 : PySem.W.findIn K (.ref C15) "__init__" = some (some (.ref f15)))
    (l15 : K.lookup f15 = some ⟨oc15, od15, .func (PySem.W.fnX "__init__" "NotKin.__init__" (defArgs (inClass (top 16) 0)) (defBody (inClass (top 16) 0)) (defScope (inClass (top 16) 0)) [(("__class__" : Str), q15)] .none kV15 dc15 pm15 an15 (.ref c15) ct15), sl15⟩)
    (m15 : K.lookup q15 = some ⟨oo15, dd15, .cell (some (.ref C15)), sm15⟩)
    (n15 : K.lookup c15 = some ⟨pp15, ee15, .fields vs15, sn15⟩)
    (v15 : vs15[2]? = some (.str "/claim/cut.py" tf15))
    (d15 : PySem.W.clsIn K C15 = some cd15)
    (t15 : PySem.W.typeIn K (.ref f15) = some (.type "function"))
    (s15 : PySem.W.mroIn K C15 (.ref C15) = some true)
    (u15 : PySem.W.ks_superIn K C15 C15 "__init__" = some (some (.builtin "ValueError.__init__")))
    (b15 : PySem.W.subIn K (.ref C15) (.type "ValueError") = some true)
    (h15 : PySem.W.codeIn K (.ref c15) "NotKin.__init__" = true)
    (i16 : PySem.W.findIn K (.ref C16) "__init__" = some (some (.ref f16)))
    (l16 : K.lookup f16 = some ⟨oc16, od16, .func (PySem.W.fnX "__init__" "BadName.__init__" (defArgs (inClass (top 17) 0)) (defBody (inClass (top 17) 0)) (defScope (inClass (top 17) 0)) [(("__class__" : Str), q16)] .none kV16 dc16 pm16 an16 (.ref c16) ct16), sl16⟩)
    (m16 : K.lookup q16 = some ⟨oo16, dd16, .cell (some (.ref C16)), sm16⟩)
    (n16 : K.lookup c16 = some ⟨pp16, ee16, .fields vs16, sn16⟩)
    (v16 : vs16[2]? = some (.str "/claim/cut.py" tf16))
    (d16 : PySem.W.clsIn K C16 = some cd16)
    (t16 : PySem.W.typeIn K (.ref f16) = some (.type "function"))
    (s16 : PySem.W.mroIn K C16 (.ref C16) = some true)
    (u16 : PySem.W.ks_superIn K C16 C16 "__init__" = some (some (.builtin "ValueError.__init__")))
    (b16 : PySem.W.subIn K (.ref C16) (.type "ValueError") = some true)
    (h16 : PySem.W.codeIn K (.ref c16) "BadName.__init__" = true)
    (i17 : PySem.W.findIn K (.ref C17) "__init__" = some (some (.ref f17)))
    (l17 : K.lookup f17 = some ⟨oc17, od17, .func (PySem.W.fnX "__init__" "TwiceTold.__init__" (defArgs (inClass (top 18) 0)) (defBody (inClass (top 18) 0)) (defScope (inClass (top 18) 0)) [(("__class__" : Str), q17)] .none kV17 dc17 pm17 an17 (.ref c17) ct17), sl17⟩)
    (m17 : K.lookup q17 = some ⟨oo17, dd17, .cell (some (.ref C17)), sm17⟩)
    (n17 : K.lookup c17 = some ⟨pp17, ee17, .fields vs17, sn17⟩)
    (v17 : vs17[2]? = some (.str "/claim/cut.py" tf17))
    (d17 : PySem.W.clsIn K C17 = some cd17)
    (t17 : PySem.W.typeIn K (.ref f17) = some (.type "function"))
    (s17 : PySem.W.mroIn K C17 (.ref C17) = some true)
    (u17 : PySem.W.ks_superIn K C17 C17 "__init__" = some (some (.builtin "ValueError.__init__")))
    (b17 : PySem.W.subIn K (.ref C17) (.type "ValueError") = some true)
    (h17 : PySem.W.codeIn K (.ref c17) "TwiceTold.__init__" = true)
    (i18 : PySem.W.findIn K (.ref C18) "__init__" = some (some (.ref f18)))
    (l18 : K.lookup f18 = some ⟨oc18, od18, .func (PySem.W.fnX "__init__" "Clash.__init__" (defArgs (inClass (top 19) 0)) (defBody (inClass (top 19) 0)) (defScope (inClass (top 19) 0)) [(("__class__" : Str), q18)] .none kV18 dc18 pm18 an18 (.ref c18) ct18), sl18⟩)
    (m18 : K.lookup q18 = some ⟨oo18, dd18, .cell (some (.ref C18)), sm18⟩)
    (n18 : K.lookup c18 = some ⟨pp18, ee18, .fields vs18, sn18⟩)
    (v18 : vs18[2]? = some (.str "/claim/cut.py" tf18))
    (d18 : PySem.W.clsIn K C18 = some cd18)
    (t18 : PySem.W.typeIn K (.ref f18) = some (.type "function"))
    (s18 : PySem.W.mroIn K C18 (.ref C18) = some true)
    (u18 : PySem.W.ks_superIn K C18 C18 "__init__" = some (some (.builtin "ValueError.__init__")))
    (b18 : PySem.W.subIn K (.ref C18) (.type "ValueError") = some true)
    (h18 : PySem.W.codeIn K (.ref c18) "Clash.__init__" = true)
    (i19 : PySem.W.findIn K (.ref C19) "__init__" = some (some (.ref f19)))
    (l19 : K.lookup f19 = some ⟨oc19, od19, .func (PySem.W.fnX "__init__" "UnknownMember.__init__" (defArgs (inClass (top 22) 0)) (defBody (inClass (top 22) 0)) (defScope (inClass (top 22) 0)) [(("__class__" : Str), q19)] .none kV19 dc19 pm19 an19 (.ref c19) ct19), sl19⟩)
    (m19 : K.lookup q19 = some ⟨oo19, dd19, .cell (some (.ref C19)), sm19⟩)
    (n19 : K.lookup c19 = some ⟨pp19, ee19, .fields vs19, sn19⟩)
    (v19 : vs19[2]? = some (.str "/claim/cut.py" tf19))
    (d19 : PySem.W.clsIn K C19 = some cd19)
    (t19 : PySem.W.typeIn K (.ref f19) = some (.type "function"))
    (s19 : PySem.W.mroIn K C19 (.ref C19) = some true)
    (u19 : PySem.W.ks_superIn K C19 C19 "__init__" = some (some (.builtin "LookupError.__init__")))
    (b19 : PySem.W.subIn K (.ref C19) (.type "LookupError") = some true)
    (h19 : PySem.W.codeIn K (.ref c19) "UnknownMember.__init__" = true)
    (i20 : PySem.W.findIn K (.ref C20) "__init__" = some (some (.ref f20)))
    (l20 : K.lookup f20 = some ⟨oc20, od20, .func (PySem.W.fnX "__init__" "UnknownSign.__init__" (defArgs (inClass (top 23) 0)) (defBody (inClass (top 23) 0)) (defScope (inClass (top 23) 0)) [(("__class__" : Str), q20)] .none kV20 dc20 pm20 an20 (.ref c20) ct20), sl20⟩)
    (m20 : K.lookup q20 = some ⟨oo20, dd20, .cell (some (.ref C20)), sm20⟩)
    (n20 : K.lookup c20 = some ⟨pp20, ee20, .fields vs20, sn20⟩)
    (v20 : vs20[2]? = some (.str "/claim/cut.py" tf20))
    (d20 : PySem.W.clsIn K C20 = some cd20)
    (t20 : PySem.W.typeIn K (.ref f20) = some (.type "function"))
    (s20 : PySem.W.mroIn K C20 (.ref C20) = some true)
    (u20 : PySem.W.ks_superIn K C20 C20 "__init__" = some (some (.builtin "LookupError.__init__")))
    (b20 : PySem.W.subIn K (.ref C20) (.type "LookupError") = some true)
    (h20 : PySem.W.codeIn K (.ref c20) "UnknownSign.__init__" = true)
    (i21 : PySem.W.findIn K (.ref C21) "__init__" = some (some (.ref f21)))
    (l21 : K.lookup f21 = some ⟨oc21, od21, .func (PySem.W.fnX "__init__" "UnknownName.__init__" (defArgs (inClass (top 24) 0)) (defBody (inClass (top 24) 0)) (defScope (inClass (top 24) 0)) [(("__class__" : Str), q21)] .none kV21 dc21 pm21 an21 (.ref c21) ct21), sl21⟩)
    (m21 : K.lookup q21 = some ⟨oo21, dd21, .cell (some (.ref C21)), sm21⟩)
    (n21 : K.lookup c21 = some ⟨pp21, ee21, .fields vs21, sn21⟩)
    (v21 : vs21[2]? = some (.str "/claim/cut.py" tf21))
    (d21 : PySem.W.clsIn K C21 = some cd21)
    (t21 : PySem.W.typeIn K (.ref f21) = some (.type "function"))
    (s21 : PySem.W.mroIn K C21 (.ref C21) = some true)
    (u21 : PySem.W.ks_superIn K C21 C21 "__init__" = some (some (.builtin "LookupError.__init__")))
    (b21 : PySem.W.subIn K (.ref C21) (.type "LookupError") = some true)
    (h21 : PySem.W.codeIn K (.ref c21) "UnknownName.__init__" = true)
    (i22 : PySem.W.findIn K (.ref C22) "__init__" = some (some (.ref f22)))
    (l22 : K.lookup f22 = some ⟨oc22, od22, .func (PySem.W.fnX "__init__" "NoValue.__init__" (defArgs (inClass (top 25) 0)) (defBody (inClass (top 25) 0)) (defScope (inClass (top 25) 0)) [(("__class__" : Str), q22)] .none kV22 dc22 pm22 an22 (.ref c22) ct22), sl22⟩)
    (m22 : K.lookup q22 = some ⟨oo22, dd22, .cell (some (.ref C22)), sm22⟩)
    (n22 : K.lookup c22 = some ⟨pp22, ee22, .fields vs22, sn22⟩)
    (v22 : vs22[2]? = some (.str "/claim/cut.py" tf22))
    (d22 : PySem.W.clsIn K C22 = some cd22)
    (t22 : PySem.W.typeIn K (.ref f22) = some (.type "function"))
    (s22 : PySem.W.mroIn K C22 (.ref C22) = some true)
    (u22 : PySem.W.ks_superIn K C22 C22 "__init__" = some (some (.builtin "LookupError.__init__")))
    (b22 : PySem.W.subIn K (.ref C22) (.type "LookupError") = some true)
    (h22 : PySem.W.codeIn K (.ref c22) "NoValue.__init__" = true)
    (i23 : PySem.W.findIn K (.ref C23) "__init__" = some (some (.ref f23)))
    (l23 : K.lookup f23 = some ⟨oc23, od23, .func (PySem.W.fnX "__init__" "NotTold.__init__" (defArgs (inClass (top 26) 0)) (defBody (inClass (top 26) 0)) (defScope (inClass (top 26) 0)) [(("__class__" : Str), q23)] .none kV23 dc23 pm23 an23 (.ref c23) ct23), sl23⟩)
    (m23 : K.lookup q23 = some ⟨oo23, dd23, .cell (some (.ref C23)), sm23⟩)
    (n23 : K.lookup c23 = some ⟨pp23, ee23, .fields vs23, sn23⟩)
    (v23 : vs23[2]? = some (.str "/claim/cut.py" tf23))
    (d23 : PySem.W.clsIn K C23 = some cd23)
    (t23 : PySem.W.typeIn K (.ref f23) = some (.type "function"))
    (s23 : PySem.W.mroIn K C23 (.ref C23) = some true)
    (u23 : PySem.W.ks_superIn K C23 C23 "__init__" = some (some (.builtin "LookupError.__init__")))
    (b23 : PySem.W.subIn K (.ref C23) (.type "LookupError") = some true)
    (h23 : PySem.W.codeIn K (.ref c23) "NotTold.__init__" = true)
    (A0 : PySem.W.nsIn K mainGlobals "_law_source" = some (some (.ref g0)))
    (L0 : K.lookup g0 = some ⟨Oc0, Od0, .func (PySem.W.fnOf "_law_source" "_law_source" (defArgs s__law_source) (defBody s__law_source) (defScope s__law_source) .none Kv0 Dc0 Pm0 An0 Cd0 Ct0), Sl0⟩)
    (H0 : PySem.W.codeIn K Cd0 "_law_source" = true)
    (K0 : PySem.W.keepIn K (.ref g0) = true)
    (A1 : PySem.W.nsIn K mainGlobals "_law_pick" = some (some (.ref g1)))
    (L1 : K.lookup g1 = some ⟨Oc1, Od1, .func (PySem.W.fnOf "_law_pick" "_law_pick" (defArgs sPick) (defBody sPick) (defScope sPick) .none Kv1 Dc1 Pm1 An1 Cd1 Ct1), Sl1⟩)
    (H1 : PySem.W.codeIn K Cd1 "_law_pick" = true)
    (K1 : PySem.W.keepIn K (.ref g1) = true)
    (A2 : PySem.W.nsIn K mainGlobals "_law_word" = some (some (.ref g2)))
    (L2 : K.lookup g2 = some ⟨Oc2, Od2, .func (PySem.W.fnOf "_law_word" "_law_word" (defArgs s__law_word) (defBody s__law_word) (defScope s__law_word) .none Kv2 Dc2 Pm2 An2 Cd2 Ct2), Sl2⟩)
    (H2 : PySem.W.codeIn K Cd2 "_law_word" = true)
    (K2 : PySem.W.keepIn K (.ref g2) = true)
    (A3 : PySem.W.nsIn K mainGlobals "_law_classes" = some (some (.ref g3)))
    (L3 : K.lookup g3 = some ⟨Oc3, Od3, .func (PySem.W.fnOf "_law_classes" "_law_classes" (defArgs s__law_classes) (defBody s__law_classes) (defScope s__law_classes) .none Kv3 Dc3 Pm3 An3 Cd3 Ct3), Sl3⟩)
    (H3 : PySem.W.codeIn K Cd3 "_law_classes" = true)
    (K3 : PySem.W.keepIn K (.ref g3) = true)
    (A4 : PySem.W.nsIn K mainGlobals "_law_plain" = some (some (.ref g4)))
    (L4 : K.lookup g4 = some ⟨Oc4, Od4, .func (PySem.W.fnOf "_law_plain" "_law_plain" (defArgs s__law_plain) (defBody s__law_plain) (defScope s__law_plain) .none Kv4 Dc4 Pm4 An4 Cd4 Ct4), Sl4⟩)
    (H4 : PySem.W.codeIn K Cd4 "_law_plain" = true)
    (K4 : PySem.W.keepIn K (.ref g4) = true)
    (A5 : PySem.W.nsIn K mainGlobals "_law_told" = some (some (.ref g5)))
    (L5 : K.lookup g5 = some ⟨Oc5, Od5, .func (PySem.W.fnOf "_law_told" "_law_told" (defArgs s__law_told) (defBody s__law_told) (defScope s__law_told) .none Kv5 Dc5 Pm5 An5 Cd5 Ct5), Sl5⟩)
    (H5 : PySem.W.codeIn K Cd5 "_law_told" = true)
    (K5 : PySem.W.keepIn K (.ref g5) = true)
    (A6 : PySem.W.nsIn K mainGlobals "_law_lost" = some (some (.ref g6)))
    (L6 : K.lookup g6 = some ⟨Oc6, Od6, .func (PySem.W.fnOf "_law_lost" "_law_lost" (defArgs s__law_lost) (defBody s__law_lost) (defScope s__law_lost) .none Kv6 Dc6 Pm6 An6 Cd6 Ct6), Sl6⟩)
    (H6 : PySem.W.codeIn K Cd6 "_law_lost" = true)
    (K6 : PySem.W.keepIn K (.ref g6) = true)
    (A7 : PySem.W.nsIn K mainGlobals "law" = some (some (.ref g7)))
    (L7 : K.lookup g7 = some ⟨Oc7, Od7, .func (PySem.W.fnOf "law" "law" (defArgs s_law) (defBody s_law) (defScope s_law) .none Kv7 Dc7 Pm7 An7 Cd7 Ct7), Sl7⟩)
    (H7 : PySem.W.codeIn K Cd7 "law" = true)
    (K7 : PySem.W.keepIn K (.ref g7) = true)
    (z_len : PySem.W.nsIn K mainGlobals "len" = some none)
    (z_int : PySem.W.nsIn K mainGlobals "int" = some none)
    (z_abs : PySem.W.nsIn K mainGlobals "abs" = some none)
    (z_range : PySem.W.nsIn K mainGlobals "range" = some none)
    (z_str : PySem.W.nsIn K mainGlobals "str" = some none)
    (z_list : PySem.W.nsIn K mainGlobals "list" = some none)
    (z_tuple : PySem.W.nsIn K mainGlobals "tuple" = some none)
    (z_isinstance : PySem.W.nsIn K mainGlobals "isinstance" = some none)
    (z_ValueError : PySem.W.nsIn K mainGlobals "ValueError" = some none)
    (z_LookupError : PySem.W.nsIn K mainGlobals "LookupError" = some none)
    (z_KeyError : PySem.W.nsIn K mainGlobals "KeyError" = some none)
    (z_IndexError : PySem.W.nsIn K mainGlobals "IndexError" = some none)
    (z_super : PySem.W.nsIn K mainGlobals "super" = some none)
    (opq : PySem.W.nsIn K cStatics "thirdparty.any" = some none)
    (tb : Tab K (pick [C0, C1, C2, C3, C4, C5, C6, C7, C8, C9, C10, C11, C12, C13, C14, C15, C16, C17, C18, C19, C20, C21, C22, C23]) ce cm)
    : ∃ fd : FuncData, (∀ (s : Shared) (v : Value), BindsTo s fd ⟨[v], []⟩ [("script", v)]) ∧ ∀ base : Heap, K.In base → base.Ns mainGlobals mg → FnOk P w K mg base CX0 5 fa fd ["script"] (spLaw K) := by
  have e := hfa.symm.trans (PySem.W.mg_of X G A7)
  cases e
  have noS : mg "super" = none := PySem.W.mg_none_of X G z_super
  have BL : Blt mg := ⟨PySem.W.mg_none_of X G z_len, PySem.W.mg_none_of X G z_int, PySem.W.mg_none_of X G z_abs, PySem.W.mg_none_of X G z_range, PySem.W.mg_none_of X G z_str, PySem.W.mg_none_of X G z_list, PySem.W.mg_none_of X G z_tuple, PySem.W.mg_none_of X G z_isinstance, PySem.W.mg_none_of X G z_ValueError, PySem.W.mg_none_of X G z_LookupError, PySem.W.mg_none_of X G z_KeyError, PySem.W.mg_none_of X G z_IndexError⟩
  have x11 : XI P K mg "BadText" "BadText.__init__" (inClass (top 5) 0) ["self", "place"] C11 f11 q11 c11 "ValueError" "ValueError.__new__" "ValueError.__init__" [.type "ValueError", .type "Exception", .type "BaseException", .type "object"] (PySem.W.fnX "__init__" "BadText.__init__" (defArgs (inClass (top 5) 0)) (defBody (inClass (top 5) 0)) (defScope (inClass (top 5) 0)) [(("__class__" : Str), q11)] .none kV11 dc11 pm11 an11 (.ref c11) ct11) := xi_mk X G xbV (tb.cls 11 (by decide)) a11 i11 t11 l11 m11 n11 v11 lf d11 s11 u11 b11 opq noS tp ⟨_, rfl, rfl⟩ (by decide +kernel) (by decide +kernel) (by decide +kernel) h11 fun us hl => match us, hl with | [_, _], _ => rfl
  have x12 : XI P K mg "NotClosed" "NotClosed.__init__" (inClass (top 8) 0) ["self", "sign", "arguments"] C12 f12 q12 c12 "ValueError" "ValueError.__new__" "ValueError.__init__" [.type "ValueError", .type "Exception", .type "BaseException", .type "object"] (PySem.W.fnX "__init__" "NotClosed.__init__" (defArgs (inClass (top 8) 0)) (defBody (inClass (top 8) 0)) (defScope (inClass (top 8) 0)) [(("__class__" : Str), q12)] .none kV12 dc12 pm12 an12 (.ref c12) ct12) := xi_mk X G xbV (tb.cls 12 (by decide)) a12 i12 t12 l12 m12 n12 v12 lf d12 s12 u12 b12 opq noS tp ⟨_, rfl, rfl⟩ (by decide +kernel) (by decide +kernel) (by decide +kernel) h12 fun us hl => match us, hl with | [_, _, _], _ => rfl
  have x13 : XI P K mg "NotKept" "NotKept.__init__" (inClass (top 13) 0) ["self", "sign", "arguments"] C13 f13 q13 c13 "ValueError" "ValueError.__new__" "ValueError.__init__" [.type "ValueError", .type "Exception", .type "BaseException", .type "object"] (PySem.W.fnX "__init__" "NotKept.__init__" (defArgs (inClass (top 13) 0)) (defBody (inClass (top 13) 0)) (defScope (inClass (top 13) 0)) [(("__class__" : Str), q13)] .none kV13 dc13 pm13 an13 (.ref c13) ct13) := xi_mk X G xbV (tb.cls 13 (by decide)) a13 i13 t13 l13 m13 n13 v13 lf d13 s13 u13 b13 opq noS tp ⟨_, rfl, rfl⟩ (by decide +kernel) (by decide +kernel) (by decide +kernel) h13 fun us hl => match us, hl with | [_, _, _], _ => rfl
  have x14 : XI P K mg "NotLinked" "NotLinked.__init__" (inClass (top 15) 0) ["self", "sign", "arguments", "place", "other"] C14 f14 q14 c14 "ValueError" "ValueError.__new__" "ValueError.__init__" [.type "ValueError", .type "Exception", .type "BaseException", .type "object"] (PySem.W.fnX "__init__" "NotLinked.__init__" (defArgs (inClass (top 15) 0)) (defBody (inClass (top 15) 0)) (defScope (inClass (top 15) 0)) [(("__class__" : Str), q14)] .none kV14 dc14 pm14 an14 (.ref c14) ct14) := xi_mk X G xbV (tb.cls 14 (by decide)) a14 i14 t14 l14 m14 n14 v14 lf d14 s14 u14 b14 opq noS tp ⟨_, rfl, rfl⟩ (by decide +kernel) (by decide +kernel) (by decide +kernel) h14 fun us hl => match us, hl with | [_, _, _, _, _], _ => rfl
  have x15 : XI P K mg "NotKin" "NotKin.__init__" (inClass (top 16) 0) ["self", "left", "right"] C15 f15 q15 c15 "ValueError" "ValueError.__new__" "ValueError.__init__" [.type "ValueError", .type "Exception", .type "BaseException", .type "object"] (PySem.W.fnX "__init__" "NotKin.__init__" (defArgs (inClass (top 16) 0)) (defBody (inClass (top 16) 0)) (defScope (inClass (top 16) 0)) [(("__class__" : Str), q15)] .none kV15 dc15 pm15 an15 (.ref c15) ct15) := xi_mk X G xbV (tb.cls 15 (by decide)) a15 i15 t15 l15 m15 n15 v15 lf d15 s15 u15 b15 opq noS tp ⟨_, rfl, rfl⟩ (by decide +kernel) (by decide +kernel) (by decide +kernel) h15 fun us hl => match us, hl with | [_, _, _], _ => rfl
  have x16 : XI P K mg "BadName" "BadName.__init__" (inClass (top 17) 0) ["self", "name"] C16 f16 q16 c16 "ValueError" "ValueError.__new__" "ValueError.__init__" [.type "ValueError", .type "Exception", .type "BaseException", .type "object"] (PySem.W.fnX "__init__" "BadName.__init__" (defArgs (inClass (top 17) 0)) (defBody (inClass (top 17) 0)) (defScope (inClass (top 17) 0)) [(("__class__" : Str), q16)] .none kV16 dc16 pm16 an16 (.ref c16) ct16) := xi_mk X G xbV (tb.cls 16 (by decide)) a16 i16 t16 l16 m16 n16 v16 lf d16 s16 u16 b16 opq noS tp ⟨_, rfl, rfl⟩ (by decide +kernel) (by decide +kernel) (by decide +kernel) h16 fun us hl => match us, hl with | [_, _], _ => rfl
  have x17 : XI P K mg "TwiceTold" "TwiceTold.__init__" (inClass (top 18) 0) ["self", "name"] C17 f17 q17 c17 "ValueError" "ValueError.__new__" "ValueError.__init__" [.type "ValueError", .type "Exception", .type "BaseException", .type "object"] (PySem.W.fnX "__init__" "TwiceTold.__init__" (defArgs (inClass (top 18) 0)) (defBody (inClass (top 18) 0)) (defScope (inClass (top 18) 0)) [(("__class__" : Str), q17)] .none kV17 dc17 pm17 an17 (.ref c17) ct17) := xi_mk X G xbV (tb.cls 17 (by decide)) a17 i17 t17 l17 m17 n17 v17 lf d17 s17 u17 b17 opq noS tp ⟨_, rfl, rfl⟩ (by decide +kernel) (by decide +kernel) (by decide +kernel) h17 fun us hl => match us, hl with | [_, _], _ => rfl
  have x18 : XI P K mg "Clash" "Clash.__init__" (inClass (top 19) 0) ["self", "labels"] C18 f18 q18 c18 "ValueError" "ValueError.__new__" "ValueError.__init__" [.type "ValueError", .type "Exception", .type "BaseException", .type "object"] (PySem.W.fnX "__init__" "Clash.__init__" (defArgs (inClass (top 19) 0)) (defBody (inClass (top 19) 0)) (defScope (inClass (top 19) 0)) [(("__class__" : Str), q18)] .none kV18 dc18 pm18 an18 (.ref c18) ct18) := xi_mk X G xbV (tb.cls 18 (by decide)) a18 i18 t18 l18 m18 n18 v18 lf d18 s18 u18 b18 opq noS tp ⟨_, rfl, rfl⟩ (by decide +kernel) (by decide +kernel) (by decide +kernel) h18 fun us hl => match us, hl with | [_, _], _ => rfl
  have x19 : XI P K mg "UnknownMember" "UnknownMember.__init__" (inClass (top 22) 0) ["self", "name"] C19 f19 q19 c19 "LookupError" "LookupError.__new__" "LookupError.__init__" [.type "LookupError", .type "Exception", .type "BaseException", .type "object"] (PySem.W.fnX "__init__" "UnknownMember.__init__" (defArgs (inClass (top 22) 0)) (defBody (inClass (top 22) 0)) (defScope (inClass (top 22) 0)) [(("__class__" : Str), q19)] .none kV19 dc19 pm19 an19 (.ref c19) ct19) := xi_mk X G xbL (tb.cls 19 (by decide)) a19 i19 t19 l19 m19 n19 v19 lf d19 s19 u19 b19 opq noS tp ⟨_, rfl, rfl⟩ (by decide +kernel) (by decide +kernel) (by decide +kernel) h19 fun us hl => match us, hl with | [_, _], _ => rfl
  have x20 : XI P K mg "UnknownSign" "UnknownSign.__init__" (inClass (top 23) 0) ["self", "name"] C20 f20 q20 c20 "LookupError" "LookupError.__new__" "LookupError.__init__" [.type "LookupError", .type "Exception", .type "BaseException", .type "object"] (PySem.W.fnX "__init__" "UnknownSign.__init__" (defArgs (inClass (top 23) 0)) (defBody (inClass (top 23) 0)) (defScope (inClass (top 23) 0)) [(("__class__" : Str), q20)] .none kV20 dc20 pm20 an20 (.ref c20) ct20) := xi_mk X G xbL (tb.cls 20 (by decide)) a20 i20 t20 l20 m20 n20 v20 lf d20 s20 u20 b20 opq noS tp ⟨_, rfl, rfl⟩ (by decide +kernel) (by decide +kernel) (by decide +kernel) h20 fun us hl => match us, hl with | [_, _], _ => rfl
  have x21 : XI P K mg "UnknownName" "UnknownName.__init__" (inClass (top 24) 0) ["self", "name"] C21 f21 q21 c21 "LookupError" "LookupError.__new__" "LookupError.__init__" [.type "LookupError", .type "Exception", .type "BaseException", .type "object"] (PySem.W.fnX "__init__" "UnknownName.__init__" (defArgs (inClass (top 24) 0)) (defBody (inClass (top 24) 0)) (defScope (inClass (top 24) 0)) [(("__class__" : Str), q21)] .none kV21 dc21 pm21 an21 (.ref c21) ct21) := xi_mk X G xbL (tb.cls 21 (by decide)) a21 i21 t21 l21 m21 n21 v21 lf d21 s21 u21 b21 opq noS tp ⟨_, rfl, rfl⟩ (by decide +kernel) (by decide +kernel) (by decide +kernel) h21 fun us hl => match us, hl with | [_, _], _ => rfl
  have x22 : XI P K mg "NoValue" "NoValue.__init__" (inClass (top 25) 0) ["self", "name"] C22 f22 q22 c22 "LookupError" "LookupError.__new__" "LookupError.__init__" [.type "LookupError", .type "Exception", .type "BaseException", .type "object"] (PySem.W.fnX "__init__" "NoValue.__init__" (defArgs (inClass (top 25) 0)) (defBody (inClass (top 25) 0)) (defScope (inClass (top 25) 0)) [(("__class__" : Str), q22)] .none kV22 dc22 pm22 an22 (.ref c22) ct22) := xi_mk X G xbL (tb.cls 22 (by decide)) a22 i22 t22 l22 m22 n22 v22 lf d22 s22 u22 b22 opq noS tp ⟨_, rfl, rfl⟩ (by decide +kernel) (by decide +kernel) (by decide +kernel) h22 fun us hl => match us, hl with | [_, _], _ => rfl
  have x23 : XI P K mg "NotTold" "NotTold.__init__" (inClass (top 26) 0) ["self", "name"] C23 f23 q23 c23 "LookupError" "LookupError.__new__" "LookupError.__init__" [.type "LookupError", .type "Exception", .type "BaseException", .type "object"] (PySem.W.fnX "__init__" "NotTold.__init__" (defArgs (inClass (top 26) 0)) (defBody (inClass (top 26) 0)) (defScope (inClass (top 26) 0)) [(("__class__" : Str), q23)] .none kV23 dc23 pm23 an23 (.ref c23) ct23) := xi_mk X G xbL (tb.cls 23 (by decide)) a23 i23 t23 l23 m23 n23 v23 lf d23 s23 u23 b23 opq noS tp ⟨_, rfl, rfl⟩ (by decide +kernel) (by decide +kernel) (by decide +kernel) h23 fun us hl => match us, hl with | [_, _], _ => rfl
  have U : T91 P K mg (pick [C0, C1, C2, C3, C4, C5, C6, C7, C8, C9, C10, C11, C12, C13, C14, C15, C16, C17, C18, C19, C20, C21, C22, C23]) (pick [0, 0, 0, 0, 0, 0, 0, 0, 0, 0, 0, f11, f12, f13, f14, f15, f16, f17, f18, f19, f20, f21, f22, f23]) (pick [0, 0, 0, 0, 0, 0, 0, 0, 0, 0, 0, q11, q12, q13, q14, q15, q16, q17, q18, q19, q20, q21, q22, q23]) (pick [0, 0, 0, 0, 0, 0, 0, 0, 0, 0, 0, c11, c12, c13, c14, c15, c16, c17, c18, c19, c20, c21, c22, c23]) (pickD (PySem.W.fnX "__init__" "BadText.__init__" (defArgs (inClass (top 5) 0)) (defBody (inClass (top 5) 0)) (defScope (inClass (top 5) 0)) [(("__class__" : Str), q11)] .none kV11 dc11 pm11 an11 (.ref c11) ct11) [(PySem.W.fnX "__init__" "BadText.__init__" (defArgs (inClass (top 5) 0)) (defBody (inClass (top 5) 0)) (defScope (inClass (top 5) 0)) [(("__class__" : Str), q11)] .none kV11 dc11 pm11 an11 (.ref c11) ct11), (PySem.W.fnX "__init__" "BadText.__init__" (defArgs (inClass (top 5) 0)) (defBody (inClass (top 5) 0)) (defScope (inClass (top 5) 0)) [(("__class__" : Str), q11)] .none kV11 dc11 pm11 an11 (.ref c11) ct11), (PySem.W.fnX "__init__" "BadText.__init__" (defArgs (inClass (top 5) 0)) (defBody (inClass (top 5) 0)) (defScope (inClass (top 5) 0)) [(("__class__" : Str), q11)] .none kV11 dc11 pm11 an11 (.ref c11) ct11), (PySem.W.fnX "__init__" "BadText.__init__" (defArgs (inClass (top 5) 0)) (defBody (inClass (top 5) 0)) (defScope (inClass (top 5) 0)) [(("__class__" : Str), q11)] .none kV11 dc11 pm11 an11 (.ref c11) ct11), (PySem.W.fnX "__init__" "BadText.__init__" (defArgs (inClass (top 5) 0)) (defBody (inClass (top 5) 0)) (defScope (inClass (top 5) 0)) [(("__class__" : Str), q11)] .none kV11 dc11 pm11 an11 (.ref c11) ct11), (PySem.W.fnX "__init__" "BadText.__init__" (defArgs (inClass (top 5) 0)) (defBody (inClass (top 5) 0)) (defScope (inClass (top 5) 0)) [(("__class__" : Str), q11)] .none kV11 dc11 pm11 an11 (.ref c11) ct11), (PySem.W.fnX "__init__" "BadText.__init__" (defArgs (inClass (top 5) 0)) (defBody (inClass (top 5) 0)) (defScope (inClass (top 5) 0)) [(("__class__" : Str), q11)] .none kV11 dc11 pm11 an11 (.ref c11) ct11), (PySem.W.fnX "__init__" "BadText.__init__" (defArgs (inClass (top 5) 0)) (defBody (inClass (top 5) 0)) (defScope (inClass (top 5) 0)) [(("__class__" : Str), q11)] .none kV11 dc11 pm11 an11 (.ref c11) ct11), (PySem.W.fnX "__init__" "BadText.__init__" (defArgs (inClass (top 5) 0)) (defBody (inClass (top 5) 0)) (defScope (inClass (top 5) 0)) [(("__class__" : Str), q11)] .none kV11 dc11 pm11 an11 (.ref c11) ct11), (PySem.W.fnX "__init__" "BadText.__init__" (defArgs (inClass (top 5) 0)) (defBody (inClass (top 5) 0)) (defScope (inClass (top 5) 0)) [(("__class__" : Str), q11)] .none kV11 dc11 pm11 an11 (.ref c11) ct11), (PySem.W.fnX "__init__" "BadText.__init__" (defArgs (inClass (top 5) 0)) (defBody (inClass (top 5) 0)) (defScope (inClass (top 5) 0)) [(("__class__" : Str), q11)] .none kV11 dc11 pm11 an11 (.ref c11) ct11), (PySem.W.fnX "__init__" "BadText.__init__" (defArgs (inClass (top 5) 0)) (defBody (inClass (top 5) 0)) (defScope (inClass (top 5) 0)) [(("__class__" : Str), q11)] .none kV11 dc11 pm11 an11 (.ref c11) ct11), (PySem.W.fnX "__init__" "NotClosed.__init__" (defArgs (inClass (top 8) 0)) (defBody (inClass (top 8) 0)) (defScope (inClass (top 8) 0)) [(("__class__" : Str), q12)] .none kV12 dc12 pm12 an12 (.ref c12) ct12), (PySem.W.fnX "__init__" "NotKept.__init__" (defArgs (inClass (top 13) 0)) (defBody (inClass (top 13) 0)) (defScope (inClass (top 13) 0)) [(("__class__" : Str), q13)] .none kV13 dc13 pm13 an13 (.ref c13) ct13), (PySem.W.fnX "__init__" "NotLinked.__init__" (defArgs (inClass (top 15) 0)) (defBody (inClass (top 15) 0)) (defScope (inClass (top 15) 0)) [(("__class__" : Str), q14)] .none kV14 dc14 pm14 an14 (.ref c14) ct14), (PySem.W.fnX "__init__" "NotKin.__init__" (defArgs (inClass (top 16) 0)) (defBody (inClass (top 16) 0)) (defScope (inClass (top 16) 0)) [(("__class__" : Str), q15)] .none kV15 dc15 pm15 an15 (.ref c15) ct15), (PySem.W.fnX "__init__" "BadName.__init__" (defArgs (inClass (top 17) 0)) (defBody (inClass (top 17) 0)) (defScope (inClass (top 17) 0)) [(("__class__" : Str), q16)] .none kV16 dc16 pm16 an16 (.ref c16) ct16), (PySem.W.fnX "__init__" "TwiceTold.__init__" (defArgs (inClass (top 18) 0)) (defBody (inClass (top 18) 0)) (defScope (inClass (top 18) 0)) [(("__class__" : Str), q17)] .none kV17 dc17 pm17 an17 (.ref c17) ct17), (PySem.W.fnX "__init__" "Clash.__init__" (defArgs (inClass (top 19) 0)) (defBody (inClass (top 19) 0)) (defScope (inClass (top 19) 0)) [(("__class__" : Str), q18)] .none kV18 dc18 pm18 an18 (.ref c18) ct18), (PySem.W.fnX "__init__" "UnknownMember.__init__" (defArgs (inClass (top 22) 0)) (defBody (inClass (top 22) 0)) (defScope (inClass (top 22) 0)) [(("__class__" : Str), q19)] .none kV19 dc19 pm19 an19 (.ref c19) ct19), (PySem.W.fnX "__init__" "UnknownSign.__init__" (defArgs (inClass (top 23) 0)) (defBody (inClass (top 23) 0)) (defScope (inClass (top 23) 0)) [(("__class__" : Str), q20)] .none kV20 dc20 pm20 an20 (.ref c20) ct20), (PySem.W.fnX "__init__" "UnknownName.__init__" (defArgs (inClass (top 24) 0)) (defBody (inClass (top 24) 0)) (defScope (inClass (top 24) 0)) [(("__class__" : Str), q21)] .none kV21 dc21 pm21 an21 (.ref c21) ct21), (PySem.W.fnX "__init__" "NoValue.__init__" (defArgs (inClass (top 25) 0)) (defBody (inClass (top 25) 0)) (defScope (inClass (top 25) 0)) [(("__class__" : Str), q22)] .none kV22 dc22 pm22 an22 (.ref c22) ct22), (PySem.W.fnX "__init__" "NotTold.__init__" (defArgs (inClass (top 26) 0)) (defBody (inClass (top 26) 0)) (defScope (inClass (top 26) 0)) [(("__class__" : Str), q23)] .none kV23 dc23 pm23 an23 (.ref c23) ct23)]) ce cm := {
    bl := BL
    x0 := ⟨xbV, PySem.W.mg_of X G a0, tb.cls 0 (by decide), at_rep tb.hi 0 (by decide)⟩
    x1 := ⟨xbV, PySem.W.mg_of X G a1, tb.cls 1 (by decide), at_rep tb.hi 1 (by decide)⟩
    x2 := ⟨xbV, PySem.W.mg_of X G a2, tb.cls 2 (by decide), at_rep tb.hi 2 (by decide)⟩
    x3 := ⟨xbV, PySem.W.mg_of X G a3, tb.cls 3 (by decide), at_rep tb.hi 3 (by decide)⟩
    x4 := ⟨xbV, PySem.W.mg_of X G a4, tb.cls 4 (by decide), at_rep tb.hi 4 (by decide)⟩
    x5 := ⟨xbV, PySem.W.mg_of X G a5, tb.cls 5 (by decide), at_rep tb.hi 5 (by decide)⟩
    x6 := ⟨xbV, PySem.W.mg_of X G a6, tb.cls 6 (by decide), at_rep tb.hi 6 (by decide)⟩
    x7 := ⟨xbV, PySem.W.mg_of X G a7, tb.cls 7 (by decide), at_rep tb.hi 7 (by decide)⟩
    x8 := ⟨xbV, PySem.W.mg_of X G a8, tb.cls 8 (by decide), at_rep tb.hi 8 (by decide)⟩
    x9 := ⟨xbV, PySem.W.mg_of X G a9, tb.cls 9 (by decide), at_rep tb.hi 9 (by decide)⟩
    x10 := ⟨xbV, PySem.W.mg_of X G a10, tb.cls 10 (by decide), at_rep tb.hi 10 (by decide)⟩
    x11 := x11
    x12 := x12
    x13 := x13
    x14 := x14
    x15 := x15
    x16 := x16
    x17 := x17
    x18 := x18
    x19 := x19
    x20 := x20
    x21 := x21
    x22 := x22
    x23 := x23
    ge := PySem.W.mg_of X G aE
    gm := PySem.W.mg_of X G aM
    ec := tb.exc
    nf := tb.nf
    kt := fun i j hi hj => at_map (at_map tb.kt i hi) j hj
    kv := fun i hi => at_map tb.kv i hi
    ke := fun i hi => at_map tb.ke i hi
    kl := fun i hi => at_map tb.kl i hi
    km := fun i hi => at_map tb.km i hi
    kk := fun i hi => at_rep tb.kk i hi
    kx := fun i hi => at_rep tb.kx i hi }
  have F0 := fun_mk (st := s__law_source) L0 H0 K0
  have B0 := F0.binds (ps := ["script"]) fun _ _ _ _ _ _ us hl => match us, hl with | [_], _ => rfl
  have F1 := fun_mk (st := sPick) L1 H1 K1
  have B1 := F1.binds (ps := ["source", "many"]) fun _ _ _ _ _ _ us hl => match us, hl with | [_, _], _ => rfl
  have F2 := fun_mk (st := s__law_word) L2 H2 K2
  have B2 := F2.binds (ps := ["source"]) fun _ _ _ _ _ _ us hl => match us, hl with | [_], _ => rfl
  have F3 := fun_mk (st := s__law_classes) L3 H3 K3
  have B3 := F3.binds (ps := ["e"]) fun _ _ _ _ _ _ us hl => match us, hl with | [_], _ => rfl
  have F4 := fun_mk (st := s__law_plain) L4 H4 K4
  have B4 := F4.binds (ps := []) fun _ _ _ _ _ _ us hl => match us, hl with | [], _ => rfl
  have F5 := fun_mk (st := s__law_told) L5 H5 K5
  have B5 := F5.binds (ps := ["place", "words", "row"]) fun _ _ _ _ _ _ us hl => match us, hl with | [_, _, _], _ => rfl
  have F6 := fun_mk (st := s__law_lost) L6 H6 K6
  have B6 := F6.binds (ps := ["words"]) fun _ _ _ _ _ _ us hl => match us, hl with | [_], _ => rfl
  have F7 := fun_mk (st := s_law) L7 H7 K7
  refine ⟨PySem.W.fnOf "law" "law" (defArgs s_law) (defBody s_law) (defScope s_law) .none Kv7 Dc7 Pm7 An7 Cd7 Ct7, fun s v => .of_eq rfl, fun base _ _ => ?_⟩
  have Cp : Cal P w K mg base 1 "_law_pick" ["source", "many"] spPick := ⟨_, _, PySem.W.mg_of X G A1, K1, B1, (ok_pick F1 BL).toX⟩
  exact ok_law F7 U ⟨_, _, PySem.W.mg_of X G A0, K0, B0, (ok_source F0 BL).toX⟩ Cp ⟨_, _, PySem.W.mg_of X G A2, K2, B2, (ok_word F2 BL Cp).toX⟩ ⟨_, _, PySem.W.mg_of X G A5, K5, B5, (ok_told F5 U).toX⟩ ⟨_, _, PySem.W.mg_of X G A6, K6, B6, (ok_lost F6 U).toX⟩
    ⟨_, _, PySem.W.mg_of X G A4, K4, B4, (ok_plain F4 U).toX⟩ ⟨_, _, PySem.W.mg_of X G A3, K3, B3, (ok_classes F3 U).toX⟩
end
theorem walk {l : PySem.W.OpenLaw} {q : Program} {loose : List Str} {XP : (Str → Option Value) → Heap → Prop} {YP : World → Heap → Prop} {d : DefRec} {K : Params → PySem.W.Frag} (hn : l.most = some 63) (hdf : d.params.defaults = [])
    (hY : ∀ (w : World) (h : Heap), YP w h → (K w.params).In h)
    (F : ∀ (w : World) (mg : Str → Option Value) (fa : Addr) (h : Heap), (K w.params).In h → h.Ns mainGlobals mg → mg d.name = some (.ref fa) →
      ∃ fd : FuncData, (∀ (s : Shared) (u : Value), BindsTo s fd ⟨[u], []⟩ [("script", u)]) ∧ ∀ base : Heap, (K w.params).In base → base.Ns mainGlobals mg → FnOk l.prog w (K w.params) mg base CX0 5 fa fd ["script"] (spLaw (K w.params))) :
    PySem.W.WalkO q loose XP YP l.row.toRowW d [] (fun f vs => PySem.call f vs) :=
  L2.walk_of (n := 63) (k := 5) (x := "script") (CX := fun _ => CX0) (sp := fun w => spLaw (K w.params)) hn (by decide) hdf ⟨rfl, by decide, by decide⟩ hY F (fun _ _ a ns hl _ hS => ⟨a, ns, rfl, hS, hl, fun _ => rfl⟩) fun _ _ _ _ _ z => z
end K91


set_option Elab.async false
set_option linter.all false
open PySem PySem.W PyProof.Rows
set_option maxRecDepth 100000 in
set_option maxHeartbeats 0 in
theorem PySem.Challenge.cw_equalkin_k91_errors_holds : PySem.Challenge.rw_equalkin_k91_errors.Holds := by
  w_on; o_law; k_head; (case hw => w_witness2)
  k_fill
  refine K91.walk (l := PySem.Challenge.rw_equalkin_k91_errors) rfl rfl (fun w h Y => PySem.W.kIn_of Y) ?F
  case F =>
    intro w mg fa h KX G hmg
    refine' K91.all_mk KX G hmg ?lf ?tp ?a0 ?a1 ?a2 ?a3 ?a4 ?a5 ?a6 ?a7 ?a8 ?a9 ?a10 ?a11 ?a12 ?a13 ?a14 ?a15 ?a16 ?a17 ?a18 ?a19 ?a20 ?a21 ?a22 ?a23 ?aE ?aM ?i11 ?l11 ?m11 ?n11 ?v11 ?d11 ?t11 ?s11 ?u11 ?b11 ?h11 ?i12 ?l12 ?m12 ?n12 ?v12 ?d12 ?t12 ?s12 ?u12 ?b12 ?h12 ?i13 ?l13 ?m13 ?n13 ?v13 ?d13 ?t13 ?s13 ?u13 ?b13 ?h13 ?i14 ?l14 ?m14 ?n14 ?v14 ?d14 ?t14 ?s14 ?u14 ?b14 ?h14 ?i15 ?l15 ?m15 ?n15 ?v15 ?d15 ?t15 ?s15 ?u15 ?b15 ?h15 ?i16 ?l16 ?m16 ?n16 ?v16 ?d16 ?t16 ?s16 ?u16 ?b16 ?h16 ?i17 ?l17 ?m17 ?n17 ?v17 ?d17 ?t17 ?s17 ?u17 ?b17 ?h17 ?i18 ?l18 ?m18 ?n18 ?v18 ?d18 ?t18 ?s18 ?u18 ?b18 ?h18 ?i19 ?l19 ?m19 ?n19 ?v19 ?d19 ?t19 ?s19 ?u19 ?b19 ?h19 ?i20 ?l20 ?m20 ?n20 ?v20 ?d20 ?t20 ?s20 ?u20 ?b20 ?h20 ?i21 ?l21 ?m21 ?n21 ?v21 ?d21 ?t21 ?s21 ?u21 ?b21 ?h21 ?i22 ?l22 ?m22 ?n22 ?v22 ?d22 ?t22 ?s22 ?u22 ?b22 ?h22 ?i23 ?l23 ?m23 ?n23 ?v23 ?d23 ?t23 ?s23 ?u23 ?b23 ?h23 ?A0 ?L0 ?H0 ?K0 ?A1 ?L1 ?H1 ?K1 ?A2 ?L2 ?H2 ?K2 ?A3 ?L3 ?H3 ?K3 ?A4 ?L4 ?H4 ?K4 ?A5 ?L5 ?H5 ?K5 ?A6 ?L6 ?H6 ?K6 ?A7 ?L7 ?H7 ?K7 ?z_len ?z_int ?z_abs ?z_range ?z_str ?z_list ?z_tuple ?z_isinstance ?z_ValueError ?z_LookupError ?z_KeyError ?z_IndexError ?z_super ?opq ?tb
    (case lf => kernel_rfl); (case tp => kernel_rfl)
    (case a0 => k_is); (case a1 => k_is); (case a2 => k_is); (case a3 => k_is); (case a4 => k_is); (case a5 => k_is)
    (case a6 => k_is); (case a7 => k_is); (case a8 => k_is); (case a9 => k_is); (case a10 => k_is); (case a11 => k_is)
    (case a12 => k_is); (case a13 => k_is); (case a14 => k_is); (case a15 => k_is); (case a16 => k_is); (case a17 => k_is)
    (case a18 => k_is); (case a19 => k_is); (case a20 => k_is); (case a21 => k_is); (case a22 => k_is); (case a23 => k_is)
    (case aE => k_is); (case aM => k_is); (case i11 => k_is); (case l11 => k_is); (case m11 => k_is); (case n11 => k_is)
    (case v11 => rfl); (case d11 => k_is); (case t11 => k_is); (case s11 => k_is); (case u11 => ks_is); (case b11 => k_is)
    (case h11 => k_is); (case i12 => k_is); (case l12 => k_is); (case m12 => k_is); (case n12 => k_is); (case v12 => rfl)
    (case d12 => k_is); (case t12 => k_is); (case s12 => k_is); (case u12 => ks_is); (case b12 => k_is); (case h12 => k_is)
    (case i13 => k_is); (case l13 => k_is); (case m13 => k_is); (case n13 => k_is); (case v13 => rfl); (case d13 => k_is)
    (case t13 => k_is); (case s13 => k_is); (case u13 => ks_is); (case b13 => k_is); (case h13 => k_is); (case i14 => k_is)
    (case l14 => k_is); (case m14 => k_is); (case n14 => k_is); (case v14 => rfl); (case d14 => k_is); (case t14 => k_is)
    (case s14 => k_is); (case u14 => ks_is); (case b14 => k_is); (case h14 => k_is); (case i15 => k_is); (case l15 => k_is)
    (case m15 => k_is); (case n15 => k_is); (case v15 => rfl); (case d15 => k_is); (case t15 => k_is); (case s15 => k_is)
    (case u15 => ks_is); (case b15 => k_is); (case h15 => k_is); (case i16 => k_is); (case l16 => k_is); (case m16 => k_is)
    (case n16 => k_is); (case v16 => rfl); (case d16 => k_is); (case t16 => k_is); (case s16 => k_is); (case u16 => ks_is)
    (case b16 => k_is); (case h16 => k_is); (case i17 => k_is); (case l17 => k_is); (case m17 => k_is); (case n17 => k_is)
    (case v17 => rfl); (case d17 => k_is); (case t17 => k_is); (case s17 => k_is); (case u17 => ks_is); (case b17 => k_is)
    (case h17 => k_is); (case i18 => k_is); (case l18 => k_is); (case m18 => k_is); (case n18 => k_is); (case v18 => rfl)
    (case d18 => k_is); (case t18 => k_is); (case s18 => k_is); (case u18 => ks_is); (case b18 => k_is); (case h18 => k_is)
    (case i19 => k_is); (case l19 => k_is); (case m19 => k_is); (case n19 => k_is); (case v19 => rfl); (case d19 => k_is)
    (case t19 => k_is); (case s19 => k_is); (case u19 => ks_is); (case b19 => k_is); (case h19 => k_is); (case i20 => k_is)
    (case l20 => k_is); (case m20 => k_is); (case n20 => k_is); (case v20 => rfl); (case d20 => k_is); (case t20 => k_is)
    (case s20 => k_is); (case u20 => ks_is); (case b20 => k_is); (case h20 => k_is); (case i21 => k_is); (case l21 => k_is)
    (case m21 => k_is); (case n21 => k_is); (case v21 => rfl); (case d21 => k_is); (case t21 => k_is); (case s21 => k_is)
    (case u21 => ks_is); (case b21 => k_is); (case h21 => k_is); (case i22 => k_is); (case l22 => k_is); (case m22 => k_is)
    (case n22 => k_is); (case v22 => rfl); (case d22 => k_is); (case t22 => k_is); (case s22 => k_is); (case u22 => ks_is)
    (case b22 => k_is); (case h22 => k_is); (case i23 => k_is); (case l23 => k_is); (case m23 => k_is); (case n23 => k_is)
    (case v23 => rfl); (case d23 => k_is); (case t23 => k_is); (case s23 => k_is); (case u23 => ks_is); (case b23 => k_is)
    (case h23 => k_is); (case A0 => k_is); (case L0 => k_is); (case H0 => k_is); (case K0 => k_is); (case A1 => k_is)
    (case L1 => k_is); (case H1 => k_is); (case K1 => k_is); (case A2 => k_is); (case L2 => k_is); (case H2 => k_is)
    (case K2 => k_is); (case A3 => k_is); (case L3 => k_is); (case H3 => k_is); (case K3 => k_is); (case A4 => k_is)
    (case L4 => k_is); (case H4 => k_is); (case K4 => k_is); (case A5 => k_is); (case L5 => k_is); (case H5 => k_is)
    (case K5 => k_is); (case A6 => k_is); (case L6 => k_is); (case H6 => k_is); (case K6 => k_is); (case A7 => k_is)
    (case L7 => k_is); (case H7 => k_is); (case K7 => k_is); (case z_len => k_is); (case z_int => k_is); (case z_abs => k_is)
    (case z_range => k_is); (case z_str => k_is); (case z_list => k_is); (case z_tuple => k_is); (case z_isinstance => k_is); (case z_ValueError => k_is)
    (case z_LookupError => k_is); (case z_KeyError => k_is); (case z_IndexError => k_is); (case z_super => k_is); (case opq => k_is)
    case tb =>
      refine' ⟨?_, ?_, ?_, ?_, ?_, ?_, ?_, ?_, ?_, ?_, ?_, ?_, ?_, ?_, ?_, ?_, ?_, ?_, ?_, ?_, ?_, ?_, ?_, ?_, ?_, ?_, ?_, ?_, ?_⟩ <;> kernel_rfl

