import PyProof.Rows.All
import Wide.All
import OpenK.AllK
import Wide.FinOn
import KE.KExcTry
import KE.KExcStr
import HandS.ForMost
import HandS.Exc
import HandS.ExcOwn
import HandS.ExcInit
import HandS.Nested
import HandS.Flow
import HandS.FStr
import HandS.More
import HandS.TryMany
import HandS.ExcField
import HandS.IsInst
import HandS.RaiseMore
import HandS.WordsExc
import HandS.Evl
import HandS.Conv
import HandS.Deep
import HandS.Style
import HandS.NoneIn
import HandS.ExcValue
import HandS.ExcIs
import KE.KExcIs
import PyProof.InstEq
import HandS.ClsMeth
import HandS.Walk
import HandS.DictComp
import HandS.Strs
import HandS.SetKeys
import HandS.Sort
import PyProof.WalkInts
import HandS.Comp
import PySem.Challenge.RW_equalkin_k43_chains_judged
import HandS.Codes
import HandS.SortKw
import KE.DatumOrd
import KE.KEqDict
import HandS.Star
import PyProof.StrOps2
import HandS.DeepEq
import KE.KDictZip
import KE.GoesMore
import KE.GoesZip
import KE.GoesEnum
import HandS.Zip
import HandS.Finally
import HandS.TupAny
import KE.DataEq
set_option Elab.async false
set_option linter.all false
set_option maxRecDepth 100000
set_option maxHeartbeats 4000000
/-! Own errors over any base whose __init__ begins with super().__init__(text): the classes' facts, stores, the def's rule, the making. -/
namespace L2
open PySem PySem.Spec PyProof.Rows NdefX

/-- the built-in base of an own error: its name, maker, initializer, chain -/
structure XBase (B nI iI : String) (bB : List Value) : Prop where
  fb : ExcBaseFacts B nI iI bB
  sf : StoreFacts B bB "object.__setattr__" "object"
  kf : PySem.W.KxsFacts B iI

theorem xbV : XBase "ValueError" "ValueError.__new__" "ValueError.__init__" [.type "ValueError", .type "Exception", .type "BaseException", .type "object"] :=
  ⟨F.excBase_ValueError, F.store_ValueError, PySem.W.kxs_ValueError⟩
theorem xbL : XBase "LookupError" "LookupError.__new__" "LookupError.__init__" [.type "LookupError", .type "Exception", .type "BaseException", .type "object"] :=
  ⟨F.excBase_LookupError, F.store_LookupError, PySem.W.kxs_LookupError⟩

/-- what the written part says of such a class -/
structure XCls (K : PySem.W.Frag) (C : Addr) (nI : String) (bB : List Value) : Prop where
  ci : PySem.W.excInitIn K C bB nI = true
  ov : PySem.W.excOver K C bB = true
  sa : PySem.W.findIn K (.ref C) "__setattr__" = some (some (.builtin "object.__setattr__"))
  hd : PySem.W.hasDictIn K C = true
  eb : PySem.W.subIn K (.ref C) (.type "BaseException") = some true
  ty : PySem.W.typeIn K (.ref C) = some (.type "type")
  kp : PySem.W.keepIn K (.ref C) = true

/-- the method-wrapper at u, bound to the error at a, called -/
theorem mw_call {prog : Program} {w : World} {A : Around} {E : Value → Shared → Prop} {s : Shared} {K : PySem.W.Frag} {C a u t0 : Addr} {B nI iI : String} {bB rest : List Value} {Q : Value → Shared → Prop}
    (XB : XBase B nI iI bB) (KX : K.In s.heap) (ci : PySem.W.excInitIn K C bB nI = true) (hu : s.heap.get? u = some (PySem.W.kxs_mw iI a)) (ha : s.heap.get? a = some (PySem.W.excObj C t0 none .none)) (hz : rest.length ≤ sizeLine)
    (fin : ∀ h2 t2, (∀ b o, b ≠ a → s.heap.get? b = some o → h2.get? b = some o) → h2.get? a = some (PySem.W.excObj C t2 none .none) → Q .none { s with heap := h2 }) :
    wpAny (model prog w) A (call (.ref u) rest) Q E s := by
  obtain ⟨nm, N1, qn, bs, bm, hdct, sn, sub, ab, col, dd, k0, k1, k2, k3, k5, hC, hT⟩ := PySem.W.excInit_of KX ci
  have FB := XB.fb
  obtain ⟨hh, gg, dr, tk, os⟩ := s
  refine wpAny_call (codeAny_of_tree ?_)
  show wpAny (model prog w) A.in1 (callAny (.ref u) ⟨rest, []⟩) _ _ _
  simp only [callAny]
  refine wpAny_bind (wpAny_load hu ?_)
  have c1 : (Value.type "method-wrapper" == Value.type "method" || Value.type "method-wrapper" == Value.type "builtin_function_or_method" || Value.type "method-wrapper" == Value.type "method-wrapper") = true := by decide
  simp only [PySem.W.kxs_mw, c1, if_true]
  refine PySem.W.KFB.if_so (by decide) (wpAny_bind (PySem.W.check_bound_init FB.toExcCallFacts hC ha rfl (wpAny_bind (wpAny_pure (wpAny_pure ?_)))))
  refine ⟨plainId_quiet FB.init.plain _, codeAny_builtin FB.initEntry (PySem.W.exc_init_tree (cls := .ref C) (t0 := t0) (dv := none) (c2 := .none) (c3 := .none) (b4 := .bool false) ha hz fun h2 k2 e2 _ => fin h2 _ k2 e2)⟩

/-- what the written part says of an __init__ (at f) of the class at C that begins with super().__init__ -/
structure XSup (P : Program) (K : PySem.W.Frag) (mg : Str → Option Value) (C f cc : Addr) (B iI : String) (F : NF) : Prop where
  cl : F.cl = [(("__class__" : Str), cc)]
  cell : ∃ o d sl, K.lookup cc = some ⟨o, d, .cell (some (.ref C)), sl⟩
  code : ∃ o d vs sl file tf, K.lookup F.c = some ⟨o, d, .fields vs, sl⟩ ∧ vs[2]? = some (.str file tf) ∧ ((P.main.file : Str) == file) = true
  cls : ∃ cd, PySem.W.clsIn K C = some cd
  sub : PySem.W.mroIn K C (.ref C) = some true
  up : PySem.W.ks_superIn K C C "__init__" = some (some (.builtin iI))
  isB : PySem.W.subIn K (.ref C) (.type B) = some true
  opq : PySem.W.nsIn K cStatics "thirdparty.any" = some none
  noS : mg "super" = none
  top : (P.main.scope.names.lookup ("super" : Str)).isSome = false
  self : ∃ ar, (F.params.posonlyargs ++ F.params.args).head? = some ar ∧ ar.arg = "self"
  kS : F.scope.names.lookup ("super" : Str) = some .globalImplicit
  kC : F.scope.names.lookup ("__class__" : Str) = some .free
  kA : F.scope.names.lookup ("self" : Str) = some .local
end L2


set_option Elab.async false
set_option linter.all false
set_option maxRecDepth 100000
set_option maxHeartbeats 4000000
namespace L2
open PySem PySem.Spec PyProof.Rows NdefX

section
variable {P : Program} {w : World} {K : PySem.W.Frag} {mg : Str → Option Value} {base : Heap}
theorem boot_super : bootBuiltins "super" = some (.type "super") := by decide +kernel
theorem startF_at {N : List Str} {vs : List V} {ws : List (Option V)} {v : V} (h : vs[0]? = some v) : (startF N vs ws)[0]? = some (some v) := by
  unfold startF
  cases vs with
  | nil => cases h
  | cons x r =>
    obtain rfl : x = v := Option.some.inj h
    rfl
/-- nothing but a is another's: the same map -/
theorem upd_self {H : Hp} {a : Addr} {o : HO} (h : H a = some o) : upd H a o = H := by
  funext b
  by_cases e : b = a
  · subst e
    rw [upd_same, h]
  · exact upd_ne e

/-- the call super().__init__(msg) in the def's own words -/
def SupCall (F : NF) (f : Addr) (p0 p1 p2 p3 : Pos) (msg : Expr) : Prop := ∃ pl : Addr → Sem Bool, ∀ L : Addr, eval (.Call (.Attribute (.Call (.Name "super" p0) [] [] p1) "__init__" p2) [msg] [] p3) (envF F f L) = (do
  let ov ← attributeBase (.Call (.Name "super" p0) [] [] p1) "__init__" (envF F f L) (eval (.Call (.Name "super" p0) [] [] p1) (envF F f L))
  standAt p2.atName
  let (g, first) ← holding [ov] (getMethod ov "__init__" (pl L))
  callWith p3 g first (backTo p3 (starEach [msg] (envF F f L))) [])
/-- THE RULE: an __init__ whose first statement is super().__init__(text) -/
theorem fn_super {CX : CXT} {N ps : List Str} {F : NF} {f C cc : Addr} {k : Nat} {sp : Sp} {B nI iI : String} {bB : List Value} {oc : Value} {od an : Option Addr} {osl : Array (Option Value)} {kV doc pm ct : Value}
    {msg : Expr} {p0 p1 p2 p3 p4 : Pos} {body : List Stmt} (XB : XBase B nI iI bB) (XC : XCls K C nI bB) (XS : XSup P K mg C f cc B iI F)
    (lk : K.lookup f = some ⟨oc, od, .func (PySem.W.fnX F.name F.qual F.params F.body F.scope F.cl .none kV doc pm an (.ref F.c) ct), osl⟩) (hcd : PySem.W.codeIn K (.ref F.c) F.qual = true)
    (hbd : F.body = .Expr (.Call (.Attribute (.Call (.Name "super" p0) [] [] p1) "__init__" p2) [msg] [] p3) p4 :: body)
    (hms : ∀ L : Addr, starEach [msg] (envF F f L) = [(false, eval msg (envF F f L))]) (hia : ∀ L : Addr, interactive (envF F f L) = false)
    (hcl : SupCall F f p0 p1 p2 p3 msg)
    (hsw : ∀ L : Addr, swapsWith (.Call (.Attribute (.Call (.Name "super" p0) [] [] p1) "__init__" p2) [msg] [] p3) none p4.line (envF F f L) = pure false)
    (S : NScope N ps ["__class__"] F.scope) (hN0 : N[0]? = some ("self" : Str)) (len : ∀ vs H Q E, sp vs H Q E → vs.length = ps.length)
    (hbody : ∀ (A : Around) (outer : List Env) (s : Shared) (H : Hp) (vs : List V) (Q : VK) (E : XK), Room k (A.deeper (envF F f s.heap.objs.size)) → sp vs H Q E →
      ∃ (te : TE) (t : TS) (a : Addr), PE (ncx CX P w K mg base N F f A outer s H E) msg te ∧ PSs (ncx CX P w K mg base N F f A outer s H E) body t ∧ vs[0]? = some (.ref a) ∧ H a = some (exo a C none) ∧
        te (startF N vs [some (.ref C)]) H fun _ H1 => H1 a = some (exo a C none) ∧ t { nx := fun _ H2 => Q .non H2, rt := Q } (startF N vs [some (.ref C)]) H1) :
    FnOk P w K mg base CX (k + 1) f (PySem.W.fnX F.name F.qual F.params F.body F.scope F.cl .none kV doc pm an (.ref F.c) ct) ps sp := by
  refine ⟨len, fun A outer s H args us vs Q E hr e0 hb r hsp => ?_⟩
  have hl := len _ _ _ _ hsp
  obtain ⟨pl, hcl⟩ := hcl
  have inS : ∀ {b : Addr} {o : Obj}, K.lookup b = some o → s.heap.get? b = some o ∧ H b = none := fun {b o} q => e0.bs b o (e0.mod.kin _ _ q)
  have KX : K.In s.heap := fun b o q => (inS q).1
  have lim : s.heap.NoLimit := e0.mod.nolimit.keeps fun b o e => (e0.bs b o e).1
  obtain ⟨o1, d1, sl1, hcell⟩ := XS.cell
  obtain ⟨o2, d2, cvs, sl2, file, tf, hcode, hvs, hfile⟩ := XS.code
  obtain ⟨cd, hcls⟩ := XS.cls
  obtain ⟨ar, hp, har⟩ := XS.self
  obtain ⟨mb, hb1, hb2⟩ := e0.mod.blt
  have CA : CellsAt F.cl ["__class__"] [some (V.ref C)] s.heap H := by
    rw [XS.cl]
    have one : ∀ {y : Str} {c : Addr}, List.lookup y [(("__class__" : Str), cc)] = some c → y = "__class__" ∧ c = cc := fun {y c} q => by
      have q' := PySem.mem_of_lookup q
      rw [List.mem_singleton] at q'
      exact ⟨(Prod.mk.inj q').1, (Prod.mk.inj q').2⟩
    have ic : s.heap.IsCell cc (some (.ref C)) := ⟨_, (inS hcell).1, rfl⟩
    refine ⟨rfl, fun y c hy => ?_, fun x y c hx hy => ?_, fun i y hy => ?_⟩
    · rw [(one hy).2]
      exact ⟨(inS hcell).2, _, ic⟩
    · rw [(one hx).1, (one hy).1]
    · have hi : i = 0 := by
        cases i with
        | zero => rfl
        | succ i => simp at hy
      subst hi
      obtain rfl : ("__class__" : Str) = y := Option.some.inj hy
      refine ⟨cc, by simp [List.lookup], fun v hv => ⟨.ref C, ?_, ic⟩⟩
      obtain rfl : V.ref C = v := Option.some.inj (Option.some.inj hv)
      rfl
  refine PySem.ks_codeAny_call_defAt (fd := PySem.W.fnX F.name F.qual F.params F.body F.scope F.cl .none kV doc pm an (.ref F.c) ct) (body := F.body) (binds := ps.zip us) hr.depth (KX _ _ lk) rfl lim (PySem.W.codeRec_of KX hcd) rfl hb S.nocell
    (fun ⟨n, _⟩ hy => S.par n (List.of_mem_zip hy).1) (fun h1 hns kp => ?_) S.co S.gen S.kind
  obtain ⟨te, t, a, hte, ht, h0, ha, hq⟩ := hbody A outer s H vs Q E (hr.deeper _) hsp
  have I0 : Inv (ncx CX P w K mg base N F f A outer s H E) [] (startF N vs [some (.ref C)]) H { s with heap := h1, toks := s.toks + (ps.zip us).length } := inv_startN S hr.hd e0 hl r CA hns kp
  have KX1 : K.In h1 := fun b o q => kp _ _ (KX _ _ q)
  rw [hbd]
  refine PySem.ks_wpAt_execs_cons (PySem.ks_wpAt_Expr_any (PySem.ks_wpAt_MethodCall ?_ (hcl _)) (hia _) (hsw _))
  refine PySem.ks_wpAt_super_base (env := envF F f s.heap.objs.size) XS.kS XS.kC (by decide) rfl (KX1 _ _ lk) rfl hp rfl (KX1 _ _ hcode) rfl hvs hfile XS.top ?_
  refine PySem.W.ks_loadName_global S.kind XS.kS (Calls.loadGlobal_builtin (I0.mod.glob.keeps I0.bk) XS.noS (hb1.keeps I0.bk) ((hb2 "super" (by decide)).trans boot_super) ⟨rfl, ?_⟩)
  refine PySem.wpAny_loadName_free S.kind XS.kC (by show F.cl.lookup _ = _; rw [XS.cl]; simp [List.lookup]) ⟨_, KX1 _ _ hcell, rfl⟩ ?_
  rw [har]
  obtain ⟨m0, hm0, hl0⟩ := I0.loc
  obtain ⟨ua, rua, lka⟩ := hl0 0 "self" (.ref a) hN0 (startF_at h0) (.inl XS.kA)
  have hself : m0 "self" = some (.ref a) := by
    rcases lka with ⟨_, z⟩ | ⟨z, _⟩
    · rw [z]
      exact congrArg some rua
    · have z' : F.scope.names.lookup ("self" : Str) = some .cell ∨ F.scope.names.lookup ("self" : Str) = some .free := z
      rw [XS.kA] at z'
      rcases z' with z' | z' <;> cases z'
  refine wpAny_loadName_local S.kind XS.kA hm0 hself ?_
  obtain ⟨oD, hD1, hD2⟩ : ∃ oD, h1.get? C = some oD ∧ oD.data = .cls cd := by
    have q := hcls
    unfold PySem.W.clsIn at q
    split at q
    · rename_i ho
      cases q
      exact ⟨_, KX1 _ _ ho, rfl⟩
    · cases q
  obtain ⟨t1, hx⟩ := exo_at I0.hok ha
  refine PySem.ks_wpAny_isType_cls hD1 hD2 ⟨rfl, ?_⟩
  refine PySem.ks_wpAny_call_super hD1 hD2 hx rfl (fun c e => by cases e) (PySem.W.looks_mroIn KX1 XS.sub) (fun h2 hso k2 => ?_)
  -- the super object at L2
  have I1 : Inv (ncx CX P w K mg base N F f A outer s H E) [] (startF N vs [some (.ref C)]) H { s with heap := h2, toks := s.toks + (ps.zip us).length } := I0.kept (h' := h2) (t' := s.toks + (ps.zip us).length) k2
  have KX2 : K.In h2 := fun b o q => k2 _ _ (KX1 _ _ q)
  have IA : PySem.W.InstAt h2 a (PySem.W.excObj C t1 none .none) C none := ⟨k2 _ _ hx, rfl, rfl, trivial⟩
  have hmro : PySem.W.Looks (model P w) h2 (mroOf (.ref C)) cd.mro := (PySem.W.looks_clsIn KX2 hcls).andThen .now
  have hup : PySem.W.alongIn K "__init__" ((cd.mro.dropWhile (· != .ref C)).drop 1) = some (some (.builtin iI)) := by
    have q := XS.up
    unfold PySem.W.ks_superIn at q
    rw [hcls] at q
    exact q
  refine PySem.W.kxs_getMethod XB.kf hso (PySem.W.looks_opaque KX2 XS.opq) hmro rfl KX2 hup (IA.type.andThen (PySem.W.looks_subIn KX2 XS.isB)) (PySem.W.ks_ne KX2 IA hcls) (by decide) ?_
  -- the method-wrapper at u
  have ku : ∀ b o, h2.get? b = some o → (h2.push (PySem.W.kxs_mw iI a)).get? b = some o := fun b o e => Heap.get?_push_of_some _ e
  have hu : (h2.push (PySem.W.kxs_mw iI a)).get? h2.objs.size = some (PySem.W.kxs_mw iI a) := Heap.get?_push_at rfl rfl
  have I2 : Inv (ncx CX P w K mg base N F f A outer s H E) [] (startF N vs [some (.ref C)]) H { s with heap := h2.push (PySem.W.kxs_mw iI a), toks := s.toks + (ps.zip us).length + 1 } := I1.kept (h' := h2.push (PySem.W.kxs_mw iI a)) (t' := s.toks + (ps.zip us).length + 1) ku
  have I3 : Inv (ncx CX P w K mg base N F f A outer s H E) [(h2.objs.size, PySem.W.kxs_mw iI a)] (startF N vs [some (.ref C)]) H { s with heap := h2.push (PySem.W.kxs_mw iI a), toks := s.toks + (ps.zip us).length + 1 } :=
    I2.pins_of fun q hq' => by
      have q1 : q = (h2.objs.size, PySem.W.kxs_mw iI a) := by simpa using hq'
      subst q1
      refine ⟨hu, I1.hok.fresh (Nat.le_refl _), Nat.ne_of_gt I1.lt, I1.nofs (Nat.le_refl _), fun v z => by cases z⟩
  show wpAny (model P w) (ncx CX P w K mg base N F f A outer s H E).A (callWith p3 (.ref h2.objs.size) [] (backTo p3 (starEach [msg] (envF F f s.heap.objs.size))) []) _ _ _
  rw [hms]
  refine PySem.W.kxs_callWith (i := iI) (x := a) (u := h2.objs.size) rfl (Calls.evalArgs_plain ?_)
  show wpAny _ _ (spliced ((false, eval msg (envF F f s.heap.objs.size)) :: backTo p3 [])) _ _ _
  refine Calls.spliced_cons (thn (hte.run _ _ _ _ _ I3 hq) fun uv s3 ⟨v, H1, I4, rv, ea, q4⟩ => Calls.spliced_nil ?_)
  have hu3 : s3.heap.get? h2.objs.size = some (PySem.W.kxs_mw iI a) := (I4.pin (h2.objs.size, PySem.W.kxs_mw iI a) (List.mem_append_right _ List.mem_cons_self)).1
  obtain ⟨t3, hx3⟩ := exo_at I4.hok ea
  refine ⟨hu3, mw_call XB I4.kIn XC.ci hu3 hx3 (by rw [sizeLine_eq]; show 1 ≤ 16777216; decide) fun h4 t4 k4 hx4 => ?_⟩
  -- behind super().__init__
  have J := (I4.pins_of (pins' := []) fun q hq' => by cases hq').write (h' := h4) (t' := s3.toks) (x := a) (e := a) (o := exo a C none) (by rw [ea]; exact True.intro) (.inl rfl) k4 ⟨_, hx4⟩ (exo_ok hx4)
  rw [upd_self ea] at J
  refine PySem.wpAt_of_wpAny (wpAny_mono (ht.run [] _ _ H1 _ J q4) (fun fl s5 hs => ?_) fun e s5 hs => hs)
  have done : ∀ {σ5 : St} {H5 : Hp} {v5 : V} {u5 : Value}, Inv (ncx CX P w K mg base N F f A outer s H E) [] σ5 H5 s5 → RelV v5 u5 → Q v5 H5 → CE outer P w H s Q u5 s5 := fun {σ5 H5 v5 u5} J5 r5 q5 => ⟨v5, H5, J5.os, J5.bare, J5.base, J5.hok, r5, q5⟩
  cases fl with
  | ret u5 =>
    obtain ⟨v5, σ5, H5, J5, r5, q5⟩ := hs
    exact done J5 r5 q5
  | next =>
    obtain ⟨σ5, H5, J5, q5⟩ := hs
    exact done (v5 := V.non) (u5 := Value.none) J5 rfl q5
  | brk =>
    obtain ⟨_, _, _, q5⟩ := hs
    exact False.elim q5
  | cont =>
    obtain ⟨_, _, _, q5⟩ := hs
    exact False.elim q5
end
end L2


set_option Elab.async false
set_option linter.all false
set_option maxRecDepth 100000
set_option maxHeartbeats 4000000
namespace L2
open PySem PySem.Spec PyProof.Rows NdefX

/-! ### self.f = y on an error that is being made, whatever its base -/
section
open Builtin Builtin.ObjectAttr
variable {prog : Program} {w : World} {A : Around} {R : Result → Shared → Prop} {hp : Heap} {g : Array GenState} {dr : Drawn} {t : Nat} {os : OsState} {K : PySem.W.Frag} {B nI iI : String} {bB : List Value} {x C : Addr} {name : Str} {tk : Tok} {y : Value} {fv : Array Value}
theorem x_taker (hno : PySem.W.findIn K (.ref C) name = some none) : PySem.W.takerIn K C name = some none := by
  unfold PySem.W.takerIn
  rw [hno]
  rfl
theorem x_osa_new (XB : XBase B nI iI bB) (XC : XCls K C nI bB) (KX : K.In hp) (hx : hp.get? x = some { cls := .ref C, data := .fields fv }) (hno : PySem.W.findIn K (.ref C) name = some none)
    (fin : ∀ h2 t2 dx, (∀ b o, b ≠ x → hp.get? b = some o → h2.get? b = some o) → hp.objs.size ≤ dx → dx ≠ x → h2.get? x = some { cls := .ref C, dict := some dx, data := .fields fv } → h2.Ns1 dx (fun z => if z = name then some y else none) → R (.ok (.ret .none)) ⟨h2, g, dr, t2, os⟩) :
    codeAny (model prog w) A (.call (.builtin "object.__setattr__") ⟨[.ref x, .str name tk, y], []⟩) R ⟨hp, g, dr, t, os⟩ := by
  obtain ⟨cd, hc, hh⟩ := PySem.W.any_some XC.hd
  have xs : x ≠ hp.objs.size := Nat.ne_of_lt (Heap.lt_size hx)
  have look : PySem.W.Looks (model prog w) hp (classData C) cd := PySem.W.looks_clsIn KX hc
  refine PySem.W.osa_openX (od := none) XB.sf KX ⟨hx, rfl, rfl, trivial⟩ XC.ov (x_taker hno) fun b => ?_
  obtain ⟨n1, n2, n3, n4, n5, n6, n7, n8, n9, n10, n11⟩ := cd
  dsimp only at hh
  subst hh
  unfold storeInOwnDict ownDictForStores
  repeat (first | with_reducible refine HandSPX.store_in_new ?_ ?_ | with_reducible refine wpAny_loadPart_at hx ?_ | with_reducible refine look.at ?_ | wp_step)
  · exact ⟨_, #[], _, (Heap.get?_update_ne _ _ _ _ xs.symm).trans (Heap.get?_push_at rfl rfl), rfl, fun e he => absurd he (by simp), fun _ => rfl⟩
  · intro h2 t2 hn2 hs2
    have hx2 : (hp.push { cls := .type "dict", data := .dict #[] }).get? x = some { cls := .ref C, data := .fields fv } := Heap.get?_push_of_some _ hx
    refine fin h2 t2 hp.objs.size (fun b o hb ho => ?_) (Nat.le_refl _) xs.symm ?_ hn2
    · have e1 := Heap.get?_push_of_some { cls := .type "dict", data := .dict #[] } ho
      exact (hs2.2 b (Nat.ne_of_lt (Heap.lt_size ho))).trans ((Heap.get?_update_ne _ _ _ _ hb).trans e1)
    · have e2 := Heap.get?_update_self (fun o : Obj => { o with dict := some hp.objs.size }) hx2 rfl
      exact (hs2.2 x xs).trans e2
theorem x_osa_old {dx : Addr} {m0 : Str → Option Value} {nl : List Str} (XB : XBase B nI iI bB) (XC : XCls K C nI bB) (KX : K.In hp) (hx : hp.get? x = some { cls := .ref C, dict := some dx, data := .fields fv }) (hns : hp.Ns1 dx m0) (hw : Within m0 nl) (hz : nl.length ≤ 1000)
    (hno : PySem.W.findIn K (.ref C) name = some none)
    (fin : ∀ h2 t2, (∀ b o, b ≠ dx → hp.get? b = some o → h2.get? b = some o) → h2.Ns1 dx (fun z => if z = name then some y else m0 z) → R (.ok (.ret .none)) ⟨h2, g, dr, t2, os⟩) :
    codeAny (model prog w) A (.call (.builtin "object.__setattr__") ⟨[.ref x, .str name tk, y], []⟩) R ⟨hp, g, dr, t, os⟩ := by
  obtain ⟨oD, es1, ep1, hoD, hdD, _⟩ := hns.count hw
  obtain ⟨cd, hc, hh⟩ := PySem.W.any_some XC.hd
  have look : PySem.W.Looks (model prog w) hp (classData C) cd := PySem.W.looks_clsIn KX hc
  refine PySem.W.osa_openX (od := some oD) XB.sf KX ⟨hx, rfl, rfl, hoD⟩ XC.ov (x_taker hno) fun b => ?_
  obtain ⟨n1, n2, n3, n4, n5, n6, n7, n8, n9, n10, n11⟩ := cd
  dsimp only at hh
  subst hh
  unfold storeInOwnDict ownDictForStores
  repeat (first | with_reducible refine OEX.store_in_old hns hw hz ?_ | with_reducible refine wpAny_loadPart_at hx ?_ | with_reducible refine look.at ?_ | wp_step)
  intro h2 t2 hn2 hs2
  exact fin h2 t2 (fun b o hb ho => (hs2.2 b hb).trans ho) hn2
end

section
variable {X : Cx} {pins : List (Addr × Obj)} {σ : St} {H : Hp} {s : Shared} {a C dx : Addr} {f : Str} {y : V} {u : Value} {fs : List (Str × V)} {Q : Unit → Shared → Prop} {E : Value → Shared → Prop} {A : Around} {B nI iI : String} {bB : List Value}
theorem xst_new (XB : XBase B nI iI bB) (XC : XCls X.K C nI bB) (I : Inv X pins σ H s) (ea : H a = some (exo a C none)) (hno : PySem.W.findIn X.K (.ref C) f = some none) (ry : RelV y u)
    (next : ∀ dx s2, H dx = none → dx ≠ a → Inv X pins σ (upd (upd H dx (exd dx [(f, y)])) a (exo a C (some dx))) s2 → Q () s2) : wpAny (model X.prog X.w) A (setAttr (.ref a) f u) Q E s := by
  obtain ⟨t1, ho⟩ := exo_at I.hok ea
  obtain ⟨hp, g, d, t, os⟩ := s
  refine PySem.W.set_plain I.kIn (od := none) ⟨ho, rfl, rfl, trivial⟩ XC.sa (x_osa_new XB XC I.kIn ho hno fun h2 t2 dx kp dn dne hx hn => ?_)
  have fr : H dx = none := I.hok.fresh dn
  have nd : ∀ {b : Addr} {o : Obj}, hp.get? b = some o → b ≠ dx := fun {b o} q z => Nat.lt_irrefl _ (Nat.lt_of_lt_of_le (z ▸ Heap.lt_size q) dn)
  have na : ∀ {b : Addr}, H b = none → b ≠ a := fun {b} n z => by
    rw [z, ea] at n
    cases n
  have low : ∀ {b : Addr} {o : HO}, H b = some o → b ≠ dx := fun {b o} q => ne_of_none q fr
  have U : Un X.fs [] H (upd (upd H dx (exd dx [(f, y)])) a (exo a C (some dx))) hp h2 :=
    ⟨fun b o q n _ _ => kp b o (na n) q, fun b o q n _ _ => ⟨o.slots, kp b o (na n) q⟩, fun b o q n _ => by rw [upd_ne (na n), upd_ne (nd q), n],
      fun b o q _ => (Classical.em (b = a)).elim (fun e => by subst e; exact ⟨_, hx⟩) fun e => ⟨o, kp b o e q⟩, fun b xs q => by rw [upd_ne (at_ne ea q exo_tup), upd_ne (low q), q],
      fun b o v q => by rw [upd_ne (at_ne ea q exo_frz), upd_ne (low q), q], fun b ps q => ⟨#[], by rw [upd_ne (at_ne ea q exo_tbl), upd_ne (low q), q, Array.append_empty]⟩⟩
  refine next dx _ fr dne (I.un (t' := t2) U fun b o q => ?_)
  by_cases hb : b = a
  · subst hb
    rw [upd_same] at q
    obtain rfl := Option.some.inj q
    exact exo_ok hx
  rw [upd_ne hb] at q
  by_cases hd : b = dx
  · subst hd
    rw [upd_same] at q
    obtain rfl := Option.some.inj q
    exact exd_ok hn (relO_put (fs := []) ry fun _ => True.intro)
  rw [upd_ne hd] at q
  refine (I.hok b o q).stay (fun c v hc z => kp c v ?_ z) (fun c hc => ?_) fun c xs hc => ?_
  · rcases hc with hc | hc
    · rw [hc]
      exact hb
    · exact at_ne ea hc exo_own
  · rw [upd_ne (at_ne ea hc exo_own), upd_ne (low hc), hc]
  · rw [upd_ne (at_ne ea hc exo_tup), upd_ne (low hc), hc]
theorem xst_old (XB : XBase B nI iI bB) (XC : XCls X.K C nI bB) (I : Inv X pins σ H s) (ea : H a = some (exo a C (some dx))) (ed : H dx = some (exd dx fs)) (hl : fs.length ≤ 900) (hno : PySem.W.findIn X.K (.ref C) f = some none) (ry : RelV y u)
    (next : ∀ s2, Inv X pins σ (upd H dx (exd dx ((f, y) :: fs))) s2 → Q () s2) : wpAny (model X.prog X.w) A (setAttr (.ref a) f u) Q E s := by
  obtain ⟨t1, ho⟩ := exo_at I.hok ea
  obtain ⟨mA, hns, rel⟩ := exd_at I.hok ed
  have hw := within_of rel
  obtain ⟨hp, g, d, t, os⟩ := s
  obtain ⟨oD, _, _, hoD, _, _⟩ := hns.count hw
  refine PySem.W.set_plain I.kIn (od := some oD) ⟨ho, rfl, rfl, hoD⟩ XC.sa (x_osa_old XB XC I.kIn ho hns hw (by rw [List.length_map]; omega) hno fun h2 t2 kp hn => ?_)
  have there : ∃ o, h2.get? dx = some o := by
    obtain ⟨o, _, _, e2, _⟩ := hn
    exact ⟨o, e2⟩
  exact next _ (I.write (t' := t2) (x := dx) (e := dx) (o := exd dx ((f, y) :: fs)) (by rw [ed]; exact True.intro) (.inl rfl) kp there (exd_ok hn (relO_put ry rel)))
end

/-- self.f = e -/
def tXst (K : PySem.W.Frag) (C : Addr) (f : Str) (to te : TE) : TS := fun D σ H => te σ H fun y H1 => to σ H1 fun x H2 => ∃ a : Addr, x = .ref a ∧ PySem.W.findIn K (.ref C) f = some none ∧
  ((H2 a = some (exo a C none) ∧ ∀ dx, H2 dx = none → dx ≠ a → D.nx σ (upd (upd H2 dx (exd dx [(f, y)])) a (exo a C (some dx)))) ∨
    ∃ (dx : Addr) (fs : List (Str × V)), H2 a = some (exo a C (some dx)) ∧ H2 dx = some (exd dx fs) ∧ fs.length ≤ 900 ∧ D.nx σ (upd H2 dx (exd dx ((f, y) :: fs))))
theorem ps_xst {X : Cx} {o e : Expr} {to te : TE} {f : Str} {p' pos : Pos} {C : Addr} {B nI iI : String} {bB : List Value} (XB : XBase B nI iI bB) (XC : XCls X.K C nI bB) (ho : PE X o to) (he : PE X e te)
    (hs : swapsWith e (some (.Attribute o f p')) pos.line X.env = pure false := by rfl) : PS X (.Assign [.Attribute o f p'] e pos) (tXst X.K C f to te) := by
  refine ⟨fun pins s σ H D I h => plainObj_wpAny_Assign_Attribute (thn (he.run pins s σ H _ I h) fun v s1 ⟨y, H1, I1, r1, q1⟩ => thn (ho.run pins s1 σ H1 _ I1 q1) fun u s2 ⟨x, H2, I2, r2, a, ex, hno, q⟩ => ?_) hs⟩
  subst ex
  obtain rfl : u = Value.ref a := r2
  rcases q with ⟨ea, q⟩ | ⟨dx, fs, ea, ed, hl, q⟩
  · exact xst_new XB XC I2 ea hno r1 fun dx s3 n ne J => ⟨σ, _, J, q dx n ne⟩
  · exact xst_old XB XC I2 ea ed hl hno r1 fun s3 J => ⟨σ, _, J, q⟩
end L2


set_option Elab.async false
set_option linter.all false
set_option maxRecDepth 100000
set_option maxHeartbeats 4000000
namespace L2
open PySem PySem.Spec PyProof.Rows NdefX

/-! ### errors made: as values, to be raised -/
section
variable {X : Cx} {x : Str} {C fI : Addr} {p pos : Pos} {e : Expr} {es : List Expr} {ta : TA} {B nI iI : String} {bB : List Value} {CX : CXT} {k : Nat} {fd : FuncData} {ps : List Str} {sp : Sp} {ds : List Value} {dvs : List V}
/-- the call of a class without own __init__, with nothing -/
theorem x_call0 {pins : List (Addr × Obj)} {σ : St} {H : Hp} {s : Shared} {Q : Value → Shared → Prop} {E : Value → Shared → Prop} {A : Around} (XB : XBase B nI iI bB) (XC : XCls X.K C nI bB) (hi : PySem.W.findIn X.K (.ref C) "__init__" = some (some (.builtin iI))) (I : Inv X pins σ H s)
    (next : ∀ a h2, (∀ b o, s.heap.get? b = some o → h2.get? b = some o) → s.heap.objs.size ≤ a → h2.get? a = some (PySem.W.excObj C (a + 1) none .none) → Q (.ref a) { s with heap := h2 }) : wpAny (model X.prog X.w) A (call (.ref C) []) Q E s := by
  obtain ⟨nm, N1, qn, bs, bm, hdct, sn, sub, ab, col, dd, k0, k1, k2, k3, k5, hC, hT⟩ := PySem.W.excInit_of I.kIn XC.ci
  have look := PySem.W.looks_findIn (M := model X.prog X.w) I.kIn hi
  obtain ⟨hp, g, dr, tk, os⟩ := s
  exact PySem.W.call_B XB.fb hT hC look (Nat.zero_le _) fun h2 kp e1 _ => next _ h2 kp (Nat.le_succ _) e1
/-- C() -/
def tX0 (C : Addr) : TE := fun _ H Q => ∀ a, H a = none → Q (.ref a) (upd H a (exo a C none))
theorem pe_x0 (XB : XBase B nI iI bB) (XC : XCls X.K C nI bB) (hi : PySem.W.findIn X.K (.ref C) "__init__" = some (some (.builtin iI))) (hg : Gl X x) (hm : X.mg x = some (.ref C)) (hdb : (x == ("__debug__" : Str)) = false := by decide) :
    PE X (.Call (.Name x p) [] [] pos) (tX0 C) := by
  refine ⟨fun pins s σ H Q I h => wpAny_Call_Name_kw (ld_glob I hg hm ?_ hdb)⟩
  refine PySem.W.callWith_K0 I.kIn XC.kp (x_call0 XB XC hi I fun a h2 kp na e2 => ?_)
  exact ⟨.ref a, upd H a (exo a C none), I.laid (t' := s.toks) (a := a) (o := exo a C none) kp na (exo_ok e2), rfl, h a (I.hok.fresh na)⟩
/-- raise C() -/
theorem pmk_x0 (XB : XBase B nI iI bB) (XC : XCls X.K C nI bB) (hi : PySem.W.findIn X.K (.ref C) "__init__" = some (some (.builtin iI))) (hg : Gl X x) (hm : X.mg x = some (.ref C)) (hdb : (x == ("__debug__" : Str)) = false := by decide) :
    PMk X (.Call (.Name x p) [] [] pos) (fun _ H Q => Q (.ref C) none H) := by
  intro pins s σ H Q I h
  refine wpAny_Call_Name_kw (ld_glob I hg hm ?_ hdb)
  refine PySem.W.callWith_K0 I.kIn XC.kp (x_call0 XB XC hi I fun a h2 kp na e2 => ?_)
  exact ⟨a, _, _, s, H, .ref C, none, rfl, I, kp, Heap.get?_none_of_le na, e2, ⟨rfl, rfl⟩, rfl, rfl, I.hok.fresh na, rfl, I.bare, raises_own XC.eb XC.ty, h⟩

/-- the call of a class with an __init__ of its own -/
theorem x_call {pins : List (Addr × Obj)} {σ : St} {H1 : Hp} {s : Shared} {us : List Value} {vs : List V} {Q : Value → Shared → Prop} (XB : XBase B nI iI bB) (XC : XCls X.K C nI bB) (iC : PySem.W.findIn X.K (.ref C) "__init__" = some (some (.ref fI))) (tI : PySem.W.typeIn X.K (.ref fI) = some (.type "function"))
    (F1 : FnOk X.prog X.w X.K X.mg X.base CX k fI fd ps sp) (hr : Room (k + 1) X.A) (hb : Binds X.K fd ps ds) (hd : Vals dvs ds) (hx : Passes CX X (fun _ _ _ => False)) (I : Inv X pins σ H1 s) (r : Vals vs us) (hz : vs.length ≤ 1000) {R : V → Hp → Prop} {a : Addr} (ea : a = s.heap.objs.size + 1)
    (q : sp (.ref a :: (vs ++ dvs)) (upd H1 a (exo a C none)) R (fun _ _ _ => False))
    (next : ∀ s1 s2 H2 v, (∀ b o, s.heap.get? b = some o → s1.heap.get? b = some o) → s1.os = s.os → s1.gens = s.gens → Inv X pins σ (upd H1 a (exo a C none)) s1 → Un (frs X.stack) [] (upd H1 a (exo a C none)) H2 s1.heap s2.heap → HOk X.prog X.w H2 s2.heap → s2.os = s1.os → AllBare s2.gens → R v H2 → v = .non → Q (.ref a) s2)
    (hnon : ∀ v H2, R v H2 → v = .non) : wpAny (model X.prog X.w) X.A (call (.ref C) us) Q X.xe s := by
  obtain ⟨nm, N1, qn, bs, bm, hdct, sn, sub, ab, col, dd, k0, k1, k2, k3, k5, hC, hT⟩ := PySem.W.excInit_of I.kIn XC.ci
  obtain ⟨hp, g, dr, tk, os⟩ := s
  subst ea
  have up : hp.objs.size ≤ hp.objs.size + 1 := Nat.le_succ _
  have kk : ∀ b o, hp.get? b = some o → ((hp.push (PySem.W.kdv_tup us)).push (HandSPX.excO C hp.objs.size)).get? b = some o := fun b o e => Heap.get?_push_of_some _ (Heap.get?_push_of_some _ e)
  have hget : ((hp.push (PySem.W.kdv_tup us)).push (HandSPX.excO C hp.objs.size)).get? (hp.objs.size + 1) = some (HandSPX.excO C hp.objs.size) := by heap_get
  have J : Inv X pins σ (upd H1 (hp.objs.size + 1) (exo (hp.objs.size + 1) C none)) ⟨(hp.push (PySem.W.kdv_tup us)).push (HandSPX.excO C hp.objs.size), g, dr, tk, os⟩ := I.laid (t' := tk) kk up (exo_ok hget)
  have rr : Vals (V.ref (hp.objs.size + 1) :: (vs ++ dvs)) (Value.ref (hp.objs.size + 1) :: (us ++ ds)) := .cons rfl (r.append hd)
  have len : (Value.ref (hp.objs.size + 1) :: us ++ ds).length = ps.length := (rr.length.symm.trans (F1.len _ _ _ _ q))
  have lus : us.length ≤ sizeLine := by
    have z := r.length
    rw [sizeLine_eq]
    omega
  refine wpAny_call (HandSPX.call_own XB.fb hT hC (PySem.W.looks_findIn I.kIn iC) (fun self => PySem.W.bind_fn I.kIn self tI) lus
    (codeAny_mono (F1.run _ X.stack _ _ ⟨Value.ref (hp.objs.size + 1) :: us, []⟩ (Value.ref (hp.objs.size + 1) :: (us ++ ds)) _ _ (fun _ _ _ => False) (hr.make C us []) (J.env0.make C us []) (hb _ (Value.ref (hp.objs.size + 1) :: us) J.kIn len) rr q) fun res s2 z => ?_))
  cases res with
  | error er => exact hx pins σ _ _ er s2 J z
  | ok fl =>
    cases fl with
    | ret u =>
      obtain ⟨v, H2, os2, bare2, un2, hok2, rv, qv⟩ := z
      have ev := hnon v H2 qv
      have eu : u = Value.none := by
        rw [ev] at rv
        exact rv
      exact ⟨eu, next ⟨(hp.push (PySem.W.kdv_tup us)).push (HandSPX.excO C hp.objs.size), g, dr, tk, os⟩ s2 H2 v kk rfl rfl J un2 hok2 os2 bare2 qv ev⟩
    | next => exact False.elim z
    | brk => exact False.elim z
    | cont => exact False.elim z
/-- C(e, ..) as a value -/
def tXv (C : Addr) (sp : Sp) (dvs : List V) (ta : TA) : TE := fun σ H Q => ta σ H fun vs H1 => vs.length ≤ 1000 ∧ ∀ a, H1 a = none → sp (.ref a :: (vs ++ dvs)) (upd H1 a (exo a C none)) (fun v H2 => v = .non ∧ Q (.ref a) H2) (fun _ _ _ => False)
theorem pe_xv (XB : XBase B nI iI bB) (XC : XCls X.K C nI bB) (iC : PySem.W.findIn X.K (.ref C) "__init__" = some (some (.ref fI))) (tI : PySem.W.typeIn X.K (.ref fI) = some (.type "function")) (F1 : FnOk X.prog X.w X.K X.mg X.base CX k fI fd ps sp) (hr : Room (k + 1) X.A) (hb : Binds X.K fd ps ds) (hd : Vals dvs ds)
    (hx : Passes CX X (fun _ _ _ => False)) (hg : Gl X x) (hm : X.mg x = some (.ref C)) (ha : PA X (e :: es) ta) (hdb : (x == ("__debug__" : Str)) = false := by decide) (he : starEach (e :: es) X.env = (false, eval e X.env) :: starEach es X.env := by rfl)
    (hpl : (backTo pos (starEach es X.env)).any (·.1) = false := by rfl) : PE X (.Call (.Name x p) (e :: es) [] pos) (tXv C sp dvs ta) := by
  refine ⟨fun pins s σ H Q I h => wpAny_Call_Name_kw (ld_glob I hg hm ?_ hdb)⟩
  refine PySem.W.callWith_K (h₀ := X.base) I.ok.mod.kin XC.kp (thn (ha.run pos pins s σ H _ I h) fun us s1 ⟨vs, H1, I1, r1, hz, q1⟩ => ⟨I1.kIn, ?_⟩) he hpl
  exact x_call XB XC iC tI F1 hr hb hd hx I1 r1 hz rfl (q1 _ (I1.hok.fresh (Nat.le_succ _))) (fun s2 s3 H2 v kk os2 g2 J un hok ho ag qv ev => ⟨.ref _, H2, J.call' (ch := []) ho un hok ag (fun b z => absurd z (by simp)), rfl, qv.2⟩) fun v H2 z => z.1
/-- raise C(e, ..) -/
theorem pmk_x (XB : XBase B nI iI bB) (XC : XCls X.K C nI bB) (iC : PySem.W.findIn X.K (.ref C) "__init__" = some (some (.ref fI))) (tI : PySem.W.typeIn X.K (.ref fI) = some (.type "function")) (F1 : FnOk X.prog X.w X.K X.mg X.base CX k fI fd ps sp) (hr : Room (k + 1) X.A) (hb : Binds X.K fd ps ds) (hd : Vals dvs ds)
    (hx : Passes CX X (fun _ _ _ => False)) (hg : Gl X x) (hm : X.mg x = some (.ref C)) (ha : PA X (e :: es) ta) (hdb : (x == ("__debug__" : Str)) = false := by decide) (he : starEach (e :: es) X.env = (false, eval e X.env) :: starEach es X.env := by rfl)
    (hpl : (backTo pos (starEach es X.env)).any (·.1) = false := by rfl) : PMk X (.Call (.Name x p) (e :: es) [] pos) (tMkO C sp dvs ta) := by
  intro pins s σ H Q I h
  refine wpAny_Call_Name_kw (ld_glob I hg hm ?_ hdb)
  refine PySem.W.callWith_K (h₀ := X.base) I.ok.mod.kin XC.kp (thn (ha.run pos pins s σ H _ I h) fun us s1 ⟨vs, H1, I1, r1, hz, q1⟩ => ⟨I1.kIn, ?_⟩) he hpl
  obtain ⟨hp, g, dr, tk, os⟩ := s1
  refine x_call XB XC iC tI F1 hr hb hd hx I1 r1 hz rfl (q1 _ (I1.hok.fresh (Nat.le_succ _))) (fun s2 s3 H2 v kk os2 g2 J un hok ho ag qv ev => ?_) fun v H2 z => z.1
  obtain ⟨_, d, fs, ea, ed, hd1, q2⟩ := qv
  obtain ⟨h2, ga, da, tka, osa⟩ := s2
  obtain ⟨h3, gb, db, tkb, osb⟩ := s3
  exact mk_end (raises_own XC.eb XC.ty) I1 (Nat.le_succ _) kk un hok (ho.trans os2) ag ea ed hd1 q2
end
end L2


set_option Elab.async false
set_option linter.all false
set_option maxRecDepth 100000
set_option maxHeartbeats 4000000
/-! words for all laws: a def's promise in one hand, the draws' source -/
namespace L2
open PySem PySem.Spec PyProof.Rows

/-- the module's name x is a def that keeps sp -/
structure Cal (P : Program) (w : World) (K : PySem.W.Frag) (mg : Str → Option Value) (base : Heap) (k : Nat) (x : Str) (ps : List Str) (sp : Sp) : Prop where
  ex : ∃ f fd, mg x = some (.ref f) ∧ PySem.W.keepIn K (.ref f) = true ∧ Binds K fd ps [] ∧ FnOk P w K mg base (L2.CX P w) k f fd ps sp
theorem FnOk.toX {P : Program} {w : World} {K : PySem.W.Frag} {mg : Str → Option Value} {base : Heap} {CX : CXT} {k : Nat} {f : Addr} {fd : FuncData} {ps : List Str} {sp : Sp} (o : FnOk P w K mg base CX0 k f fd ps sp) : FnOk P w K mg base CX k f fd ps sp :=
  ⟨o.len, fun A outer s H args us vs Q E hr e0 hb hv hs => codeAny_mono (o.run A outer s H args us vs Q E hr e0 hb hv hs) fun r s2 z => by
    cases r with
    | error e => exact False.elim z
    | ok fl => cases fl <;> exact z⟩
section
variable {X : Cx} {k : Nat} {x : Str} {ps : List Str} {sp : Sp} {E : XK} {e : Expr} {es : List Expr} {t : TA} {p pos : Pos}
/-- f(e, ..), nothing raised -/
theorem pe_cal (c : Cal X.prog X.w X.K X.mg X.base k x ps sp) (hr : Room k X.A) (hg : Gl X x) (ha : PA X (e :: es) t) (hdb : (x == ("__debug__" : Str)) = false := by decide)
    (he : starEach (e :: es) X.env = (false, eval e X.env) :: starEach es X.env := by rfl) (hpl : (backTo pos (starEach es X.env)).any (·.1) = false := by rfl) : PE X (.Call (.Name x p) (e :: es) [] pos) (tCall sp [] E0 t) := by
  obtain ⟨f, fd, hm, hk, hb, G⟩ := c.ex
  exact pe_call G hr hg hm hk hb .nil passL ha hdb he hpl
theorem pe_cal0 (c : Cal X.prog X.w X.K X.mg X.base k x ps sp) (hr : Room k X.A) (hg : Gl X x) (hdb : (x == ("__debug__" : Str)) = false := by decide) : PE X (.Call (.Name x p) [] [] pos) (tCall sp [] E0 tNil) := by
  obtain ⟨f, fd, hm, hk, hb, G⟩ := c.ex
  exact pe_call0 G hr hg hm hk hb .nil passL hdb
/-- .. what it raises goes on -/
theorem pe_calE (c : Cal X.prog X.w X.K X.mg X.base k x ps sp) (hr : Room k X.A) (hg : Gl X x) (hx : Passes (L2.CX X.prog X.w) X E) (ha : PA X (e :: es) t) (hdb : (x == ("__debug__" : Str)) = false := by decide)
    (he : starEach (e :: es) X.env = (false, eval e X.env) :: starEach es X.env := by rfl) (hpl : (backTo pos (starEach es X.env)).any (·.1) = false := by rfl) : PE X (.Call (.Name x p) (e :: es) [] pos) (tCall sp [] E t) := by
  obtain ⟨f, fd, hm, hk, hb, G⟩ := c.ex
  exact pe_call G hr hg hm hk hb .nil hx ha hdb he hpl
/-- .. in a try -/
theorem pe_calT {W : WX} (c : Cal X.prog X.w X.K X.mg X.base k x ps sp) (hr : Room k X.A) (hg : Gl X x) (tk : Takes X W) (ha : PA X (e :: es) t) (hdb : (x == ("__debug__" : Str)) = false := by decide)
    (he : starEach (e :: es) X.env = (false, eval e X.env) :: starEach es X.env := by rfl) (hpl : (backTo pos (starEach es X.env)).any (·.1) = false := by rfl) : PE X (.Call (.Name x p) (e :: es) [] pos) (tCallS sp (WE W) t) := by
  obtain ⟨f, fd, hm, hk, hb, G⟩ := c.ex
  exact pe_callS G hr hg hm hk hb (fun σ => passAt tk σ) ha hdb he hpl
end

/-! ### rules whose K is told (within a comprehension) -/
theorem call_lenK {X : Cx} (K : PySem.W.Frag) (h : X.K = K := by rfl) : CallR X (.builtin "len") (Evl.rLenS K) := by
  subst h
  exact call_len_seq
theorem call_listK {X : Cx} (K : PySem.W.Frag) (h : X.K = K := by rfl) : CallR X (.type "list") (Evl.rListS K) := by
  subst h
  exact call_list_of

theorem call_tupK {X : Cx} (K : PySem.W.Frag) (h : X.K = K := by rfl) : CallR X (.type "tuple") (fun xs H Q => ∃ p ys, xs = [.ref p] ∧ ((SqL K H p ys ∧ ∀ l, H l = none → Q (.ref l) (upd H l (.tup ys))) ∨ (SqT K H p ys ∧ Q (.ref p) H))) := by
  subst h
  exact call_tuple_of
section
variable {X : Cx} (K : PySem.W.Frag)
theorem ix_listK (h : X.K = K := by rfl) : IxR X (rIxL K) := by
  subst h
  exact ix_list
theorem ix_tupK (h : X.K = K := by rfl) : IxR X (rIxT K) := by
  subst h
  exact ix_tup
theorem sl_listK (h : X.K = K := by rfl) : SlR X (rSlL K) := by
  subst h
  exact sl_list
theorem sl_tupK (h : X.K = K := by rfl) : SlR X (rSlT K) := by
  subst h
  exact sl_tup
theorem op_catTK (h : X.K = K := by rfl) : OpR X (binaryOp .Add) (rCatT K) := by
  subst h
  exact op_catT
theorem op_inK (h : X.K = K := by rfl) : OpR X (compareOp .In) (rIn K false) := by
  subst h
  exact op_in_seq
theorem op_notInK (h : X.K = K := by rfl) : OpR X (compareOp .NotIn) (rIn K true) := by
  subst h
  exact op_notIn_seq
theorem op_inDK (hu : X.A.units + 65 < cLine) (h : X.K = K := by rfl) : OpR X (compareOp .In) (rInD K) := by
  subst h
  exact op_inD hu
theorem op_notInDK (hu : X.A.units + 65 < cLine) (h : X.K = K := by rfl) : OpR X (compareOp .NotIn) (rNotInD K) := by
  subst h
  exact op_notInD hu
theorem op_eqDK (hu : X.A.units + 64 < cLine) (h : X.K = K := by rfl) : OpR X (compareOp .Eq) (rEqD K) := by
  subst h
  exact op_eqD hu
theorem op_neDK (hu : X.A.units + 64 < cLine) (h : X.K = K := by rfl) : OpR X (compareOp .NotEq) (rNeD K) := by
  subst h
  exact op_neD hu
theorem cr_sumK (hc : X.calm = true) (h : X.K = K := by rfl) : CallR X (.builtin "sum") (rSum K) := by
  subst h
  exact cr_sum hc
theorem cr_maxK (hc : X.calm = true) (h : X.K = K := by rfl) : CallR X (.builtin "max") (rMax K) := by
  subst h
  exact cr_max hc
theorem cr_minK (hc : X.calm = true) (h : X.K = K := by rfl) : CallR X (.builtin "min") (rMin K) := by
  subst h
  exact cr_min hc
theorem cr_anyK (hc : X.calm = true) (h : X.K = K := by rfl) : CallR X (.builtin "any") (rAny K) := by
  subst h
  exact cr_any hc
theorem cr_allK (hc : X.calm = true) (h : X.K = K := by rfl) : CallR X (.builtin "all") (rAll K) := by
  subst h
  exact cr_all hc
theorem mt_indexK (h : X.K = K := by rfl) : MtR X "list.index" (rIndex K) := by
  subst h
  exact mt_index
theorem call_isiK' (h : X.K = K := by rfl) : CallR X (.builtin "isinstance") (rIsi K) := by
  subst h
  exact call_isi
end
theorem hu64_of {A : Around} {k : Nat} (hr : Room k A) : A.units + 64 < cLine := by
  have := hr.un
  omega
theorem hu65_of {A : Around} {k : Nat} (hr : Room k A) : A.units + 65 < cLine := by
  have := hr.un
  omega

theorem use_lc {wi : TI} {g : TG} {tt : TT} {te : TE} {vs : List Nat} {σ : St} {H : Hp} {xs : List V} {Q : VK} (h : Evl.EvL (tLc wi g tt te vs) σ H xs) (k : ∀ p H2, H p = none → Evl.Ex H H2 → H2 p = some (.lst xs) → Q (.ref p) H2) : tLc wi g tt te vs σ H Q := h H (Evl.Ex.refl H) Q k
theorem ex_same {H H1 : Hp} (h : Evl.Ex H H1) : Same H H1 := h
theorem et_yes {σ : St} {H : Hp} : Evl.EvT tYes σ H true := fun H3 _ _ q3 => q3 H3 (Evl.Ex.refl H3)
/-- all of a range -/
theorem given_all (n : Nat) (v : Nat → V) : Evl.given n (fun _ => true) v = (List.range n).map v := by
  unfold Evl.given
  rw [List.filter_eq_self.mpr (fun _ _ => rfl)]

/-! ### what stays -/
/-- all that was tracked stands, but at d and L -/
def But (d L : Addr) (H H' : Hp) : Prop := ∀ b o, H b = some o → b ≠ d → b ≠ L → H' b = some o
theorem But.refl {d L : Addr} {H : Hp} : But d L H H := fun _ _ h _ _ => h
theorem But.trans {d L : Addr} {H H1 H2 : Hp} (a : But d L H H1) (b : But d L H1 H2) : But d L H H2 := fun c o h h1 h2 => b c o (a c o h h1 h2) h1 h2
theorem But.of_same {d L : Addr} {H H1 : Hp} (a : Same H H1) : But d L H H1 := fun c o h _ _ => a c o h
theorem But.upd_d {d L : Addr} {H H1 : Hp} {o : HO} (a : But d L H H1) : But d L H (upd H1 d o) := fun c u h h1 h2 => by rw [upd_ne h1]; exact a c u h h1 h2
theorem But.upd_L {d L : Addr} {H H1 : Hp} {o : HO} (a : But d L H H1) : But d L H (upd H1 L o) := fun c u h h1 h2 => by rw [upd_ne h2]; exact a c u h h1 h2
theorem But.new {d L p : Addr} {H H1 : Hp} {o : HO} (a : But d L H H1) (hp : H p = none) : But d L H (upd H1 p o) := fun c u h h1 h2 => by rw [upd_ne (ne_of_none h hp)]; exact a c u h h1 h2
theorem Same.new {H : Hp} {p : Addr} {o : HO} (hp : H p = none) : Same H (upd H p o) := fun c u h => by rw [upd_ne (ne_of_none h hp)]; exact h

/-! ### the draws' source -/
/-- its pairs -/
def srcD (L : Addr) (l m t : Int) : List (Key × V) := [(Sum.inr "cells", .ref L), (Sum.inr "left", .int l), (Sum.inr "mixed", .int m), (Sum.inr "turn", .int t)]
theorem kne {a b : Str} (h : (a == b) = false) : ¬ (Sum.inr a : Key) = Sum.inr b := fun z => by
  have e : a = b := Sum.inr.inj z
  subst e
  simp at h
section
variable {L : Addr} {l m t x : Int}
theorem src_cells : valV (srcD L l m t) (Sum.inr "cells" : Key) = some (.ref L) := valV_pos rfl
theorem src_left : valV (srcD L l m t) (Sum.inr "left" : Key) = some (.int l) := (valV_neg (kne (by decide +kernel))).trans (valV_pos rfl)
theorem src_mixed : valV (srcD L l m t) (Sum.inr "mixed" : Key) = some (.int m) := (valV_neg (kne (by decide +kernel))).trans ((valV_neg (kne (by decide +kernel))).trans (valV_pos rfl))
theorem src_turn : valV (srcD L l m t) (Sum.inr "turn" : Key) = some (.int t) := (valV_neg (kne (by decide +kernel))).trans ((valV_neg (kne (by decide +kernel))).trans ((valV_neg (kne (by decide +kernel))).trans (valV_pos rfl)))
theorem put_left : putK (srcD L l m t) (Sum.inr "left" : Key) (.int x) = srcD L x m t := by
  unfold putK srcD
  rw [if_pos (by simp)]
  simp only [List.map_cons, List.map_nil]
  rw [if_neg (kne (by decide +kernel)), if_pos True.intro, if_neg (kne (by decide +kernel)), if_neg (kne (by decide +kernel))]
theorem put_turn : putK (srcD L l m t) (Sum.inr "turn" : Key) (.int x) = srcD L l m x := by
  unfold putK srcD
  rw [if_pos (by simp)]
  simp only [List.map_cons, List.map_nil]
  rw [if_neg (kne (by decide +kernel)), if_neg (kne (by decide +kernel)), if_neg (kne (by decide +kernel)), if_pos True.intro]
end
theorem merge_src {L : Addr} {l m t : Int} : mergeK [] (srcD L l m t) = srcD L l m t := by
  unfold mergeK srcD
  simp only [List.foldl_cons, List.foldl_nil]
  rw [putK_new (kvs := []) _ rfl, List.nil_append, putK_new _ ((valV_neg (kne (by decide +kernel))).trans rfl)]
  simp only [List.nil_append, List.cons_append]
  rw [putK_new _ ((valV_neg (kne (by decide +kernel))).trans ((valV_neg (kne (by decide +kernel))).trans rfl))]
  simp only [List.nil_append, List.cons_append]
  rw [putK_new _ ((valV_neg (kne (by decide +kernel))).trans ((valV_neg (kne (by decide +kernel))).trans ((valV_neg (kne (by decide +kernel))).trans rfl)))]
  rfl
section
variable {H : Hp} {d L : Addr} {l m t x : Int} (h : H d = some (.dK (srcD L l m t)))
include h
theorem dg_cells : DGet H d (.str "cells") (some (.ref L)) := by rw [← src_cells (L := L) (l := l) (m := m) (t := t)]; exact DGet.k (k := Sum.inr "cells") h
theorem dg_left : DGet H d (.str "left") (some (.int l)) := by rw [← src_left (L := L) (l := l) (m := m) (t := t)]; exact DGet.k (k := Sum.inr "left") h
theorem dg_mixed : DGet H d (.str "mixed") (some (.int m)) := by rw [← src_mixed (L := L) (l := l) (m := m) (t := t)]; exact DGet.k (k := Sum.inr "mixed") h
theorem dg_turn : DGet H d (.str "turn") (some (.int t)) := by rw [← src_turn (L := L) (l := l) (m := m) (t := t)]; exact DGet.k (k := Sum.inr "turn") h
theorem dp_left : DPut H d (.str "left") (.int x) (upd H d (.dK (srcD L x m t))) := by rw [← put_left (L := L) (l := l) (m := m) (t := t)]; exact DPut.k (k := Sum.inr "left") h (by show 4 < sizeLine; decide)
theorem dp_turn : DPut H d (.str "turn") (.int x) (upd H d (.dK (srcD L l m x))) := by rw [← put_turn (L := L) (l := l) (m := m) (t := t)]; exact DPut.k (k := Sum.inr "turn") h (by show 4 < sizeLine; decide)
end
theorem tT {b : Bool} {A B : Prop} (hb : b = true) (h : A) : if b = true then A else B := by rw [if_pos hb]; exact h
theorem tF {b : Bool} {A B : Prop} (hb : b = false) (h : B) : if b = true then A else B := by rw [hb, if_neg Bool.false_ne_true]; exact h
/-- the source at d, its cells at L -/
structure Src (d L : Addr) (H : Hp) : Prop where
  ex : ∃ (cs : List Int) (l m t : Int), H d = some (.dK (srcD L l m t)) ∧ H L = some (.lst (cs.map V.int)) ∧ cs.length ≤ 63
theorem Src.same {d L : Addr} {H H1 : Hp} (S : Src d L H) (h : Same H H1) : Src d L H1 := by
  obtain ⟨cs, l, m, t, h1, h2, h3⟩ := S.ex
  exact ⟨cs, l, m, t, h _ _ h1, h _ _ h2, h3⟩
theorem Src.ne {d L : Addr} {H : Hp} (S : Src d L H) : d ≠ L := by
  obtain ⟨cs, l, m, t, h1, h2, _⟩ := S.ex
  exact ne_of h1 h2 (by intro z; cases z)
theorem Src.d_ne {d L p : Addr} {H : Hp} (S : Src d L H) (hp : H p = none) : d ≠ p ∧ L ≠ p := by
  obtain ⟨cs, l, m, t, h1, h2, _⟩ := S.ex
  exact ⟨ne_of_none h1 hp, ne_of_none h2 hp⟩
/-- _law_pick(source, many): a number below many -/
def spPick : Sp := fun vs H Q _ => ∃ (d L : Addr) (n : Int), vs = [.ref d, .int n] ∧ Src d L H ∧ n ≤ 10000000 ∧ ∀ (r : Int) (H' : Hp), 0 ≤ r → (r < n ∨ r = 0) → Src d L H' → But d L H H' → Q (.int r) H'
/-- _law_source(script) -/
def spSource (K : PySem.W.Frag) : Sp := fun vs H Q _ => ∃ (a : Addr) (ns : List Int), vs = [.ref a] ∧ SqL K H a (ns.map V.int) ∧ ns.length ≤ 63 ∧ ∀ (d L : Addr) (H' : Hp), H d = none → H L = none → Src d L H' → Same H H' → Q (.ref d) H'
end L2


set_option Elab.async false
set_option linter.all false
set_option maxRecDepth 100000
set_option maxHeartbeats 4000000
/-! the errors' own __init__, shape by shape -/
namespace L2
open PySem PySem.Spec PyProof.Rows NdefX

/-- a text of ordinary size and signs -/
def Wee (x : Str) : Prop := x.length ≤ 1000 ∧ ∀ c ∈ x.cps.toList, c < 0x110000
theorem wee_of (s : String) (h : s.length ≤ 1000) : Wee (Str.ofString s) := by
  refine ⟨by rw [PySem.ofString_length]; exact h, fun c hc => ?_⟩
  rw [Str.ofString_eq_toList] at hc
  simp only [List.mem_map] at hc
  obtain ⟨ch, _, rfl⟩ := hc
  have v := ch.valid
  have e : ch.toNat = ch.val.toNat := rfl
  rw [e]
  rcases v with v | ⟨_, v⟩
  · have : ch.val.toNat < 0xd800 := v
    omega
  · have : ch.val.toNat < 0x110000 := v
    omega
theorem Wee.repr {x : Str} (h : Wee x) : (reprText x).length ≤ 10002 := by
  have := PySem.StrLaws.reprText_len x fun c hc => Nat.lt_trans (h.2 c hc) (by decide)
  have := h.1
  omega
theorem wee_app {x y : Str} (hx : Wee x) (hy : Wee y) (hl : x.length + y.length ≤ 1000) : Wee (x ++ y) := by
  refine ⟨by rw [Str.length_append]; exact hl, fun c hc => ?_⟩
  have e : (x ++ y).cps.toList = x.cps.toList ++ y.cps.toList := by
    show (x.cps ++ y.cps).toList = _
    simp
  rw [e] at hc
  rcases List.mem_append.mp hc with hc | hc
  · exact hx.2 c hc
  · exact hy.2 c hc

/-- the parts of a text between braces -/
theorem js_two {t2 : TE} {a : Str} {σ : St} {H : Hp} {Q : Str → Hp → Prop} (ha : a.length ≤ 1000) (h : t2 σ H fun x H1 => ∃ y : Str, x = .str y ∧ y.length ≤ 100000 ∧ Q (Str.empty ++ a ++ y) H1)
    (mono : ∀ (Q Q' : VK), (∀ v H1, Q v H1 → Q' v H1) → t2 σ H Q → t2 σ H Q') : tJs [tC (.str a), t2] Str.empty σ H Q := by
  have e0 : (Str.empty ++ a).length = a.length := by rw [Str.length_append]; exact Nat.zero_add _
  refine ⟨a, rfl, by rw [e0, sizeLine_eq]; omega, mono _ _ (fun v H1 ⟨y, e, hy, q⟩ => ⟨y, e, by rw [Str.length_append, e0, sizeLine_eq]; omega, q⟩) h⟩

section
variable {P : Program} {w : World} {K : PySem.W.Frag} {mg : Str → Option Value} {base : Heap} {C f cc c : Addr} {k : Nat} {B nI iI : String} {bB : List Value} {oc : Value} {od an : Option Addr} {osl : Array (Option Value)} {kV doc pm ct : Value} {qual txt : Str} {pr : Arguments} {p0 p1 p2 p3 p4 p5 p6 p7 p8 q1 q2 q3 q4 : Pos} {j : Nat}

/-! ### self.name = name -/
abbrev scNm : Scope := { kind := .function, names := [(("self" : Str), .local), (("name" : Str), .local), (("__class__" : Str), .free), (("super" : Str), .globalImplicit)], isGenerator := false, isCoroutine := false, more := [] }
abbrev supOf (p0 p1 p2 p3 p4 : Pos) (msg : Expr) : Stmt := .Expr (.Call (.Attribute (.Call (.Name "super" p0) [] [] p1) "__init__" p2) [msg] [] p3) p4
abbrev nfNm (qual : Str) (pr : Arguments) (cc c : Addr) (txt : Str) (j : Nat) (p0 p1 p2 p3 p4 p5 p6 p7 p8 q1 q2 q3 q4 : Pos) : NF :=
  ⟨"__init__", qual, pr, [supOf p0 p1 p2 p3 p4 (.JoinedStr [.Constant (.str txt) j p5, .FormattedValue (.Name "name" p6) 114 none p7] p8), .Assign [.Attribute (.Name "self" q1) "name" q2] (.Name "name" q3) q4], scNm, [(("__class__" : Str), cc)], c⟩
/-- a name that is kept -/
def spNm (C : Addr) : Sp := fun vs H Q _ => ∃ (a : Addr) (x : Str), vs = [.ref a, .str x] ∧ Wee x ∧ H a = some (exo a C none) ∧ ∀ dx, H dx = none → dx ≠ a → Q .non (upd (upd H dx (exd dx [("name", .str x)])) a (exo a C (some dx)))
theorem ok_nm (XB : XBase B nI iI bB) (XC : XCls K C nI bB) (XS : XSup P K mg C f cc B iI (nfNm qual pr cc c txt j p0 p1 p2 p3 p4 p5 p6 p7 p8 q1 q2 q3 q4)) (ht : txt.length ≤ 1000) (hno : PySem.W.findIn K (.ref C) "name" = some none)
    (hcl : SupCall (nfNm qual pr cc c txt j p0 p1 p2 p3 p4 p5 p6 p7 p8 q1 q2 q3 q4) f p0 p1 p2 p3 (.JoinedStr [.Constant (.str txt) j p5, .FormattedValue (.Name "name" p6) 114 none p7] p8))
    (lk : K.lookup f = some ⟨oc, od, .func (PySem.W.fnX "__init__" qual pr (nfNm qual pr cc c txt j p0 p1 p2 p3 p4 p5 p6 p7 p8 q1 q2 q3 q4).body scNm [(("__class__" : Str), cc)] .none kV doc pm an (.ref c) ct), osl⟩) (hcd : PySem.W.codeIn K (.ref c) qual = true) :
    FnOk P w K mg base (L2.CX P w) 1 f (PySem.W.fnX "__init__" qual pr (nfNm qual pr cc c txt j p0 p1 p2 p3 p4 p5 p6 p7 p8 q1 q2 q3 q4).body scNm [(("__class__" : Str), cc)] .none kV doc pm an (.ref c) ct) ["self", "name"] (spNm C) := by
  refine fn_super (N := ["self", "name", "__class__"]) (F := nfNm qual pr cc c txt j p0 p1 p2 p3 p4 p5 p6 p7 p8 q1 q2 q3 q4) (k := 0) XB XC XS lk hcd rfl (fun _ => rfl) (fun _ => rfl) hcl (fun _ => rfl) (by exact nscope_by (by show nscB _ _ _ scNm = true; decide +kernel)) rfl (fun vs H Q E h => ?_) (fun A outer s H vs Q E hr h => ?_)
  · obtain ⟨a, x, rfl, _⟩ := h
    rfl
  obtain ⟨a, x, rfl, hx, ha, q⟩ := h
  refine ⟨_, _, a, pe_joined (PJ.cons pe_str (PJ.cons (pe_fmtR (pv 1)) PJ.nil)), pss_one (ps_xst XB XC (pv 0) (pv 1)), rfl, ha, ?_⟩
  have e0 : (Str.empty ++ txt).length = txt.length := by rw [Str.length_append]; exact Nat.zero_add _
  have r0 := hx.repr
  refine ⟨txt, rfl, by rw [e0, sizeLine_eq]; omega, _, rfl, .inl ⟨x, rfl, by rw [sizeLine_eq]; omega, _, rfl, by rw [Str.length_append, e0, sizeLine_eq]; omega, ha, ?_⟩⟩
  exact ⟨_, rfl, _, rfl, a, rfl, hno, .inl ⟨ha, q⟩⟩
theorem nil_len {x : Str} : (Str.empty ++ x).length = x.length := by rw [Str.length_append]; exact Nat.zero_add _
theorem int_wee {i : Int} (h0 : 0 ≤ i) (h : i < 10 ^ 10) : (Str.ofString (toString i)).length ≤ 10 := toString_length_le h0 (by decide) h
theorem int_log {i : Int} (h0 : 0 ≤ i) (h : i < 10 ^ 10) : i.natAbs.log2 < 1920 := by
  have h1 : i.natAbs < 2 ^ 1920 := by
    have : i.natAbs < 10 ^ 10 := by omega
    have e : (10 : Nat) ^ 10 ≤ 2 ^ 1920 := by decide +kernel
    omega
  by_cases z : i.natAbs = 0
  · rw [z]; decide
  · exact (Nat.log2_lt z).mpr h1
/-! ### self.place = place -/
abbrev scPl : Scope := { kind := .function, names := [(("self" : Str), .local), (("place" : Str), .local), (("__class__" : Str), .free), (("super" : Str), .globalImplicit)], isGenerator := false, isCoroutine := false, more := [] }
abbrev msgPl (txt : Str) (j : Nat) (p5 p6 p7 p8 : Pos) : Expr := .JoinedStr [.Constant (.str txt) j p5, .FormattedValue (.Name "place" p6) (-1) none p7] p8
abbrev nfPl (qual : Str) (pr : Arguments) (cc c : Addr) (txt : Str) (j : Nat) (p0 p1 p2 p3 p4 p5 p6 p7 p8 q1 q2 q3 q4 : Pos) : NF :=
  ⟨"__init__", qual, pr, [supOf p0 p1 p2 p3 p4 (msgPl txt j p5 p6 p7 p8), .Assign [.Attribute (.Name "self" q1) "place" q2] (.Name "place" q3) q4], scPl, [(("__class__" : Str), cc)], c⟩
/-- a place that is kept -/
def spPl (C : Addr) : Sp := fun vs H Q _ => ∃ (a : Addr) (i : Int), vs = [.ref a, .int i] ∧ 0 ≤ i ∧ i < 10 ^ 10 ∧ H a = some (exo a C none) ∧ ∀ dx, H dx = none → dx ≠ a → Q .non (upd (upd H dx (exd dx [("place", .int i)])) a (exo a C (some dx)))
theorem ok_pl (XB : XBase B nI iI bB) (XC : XCls K C nI bB) (XS : XSup P K mg C f cc B iI (nfPl qual pr cc c txt j p0 p1 p2 p3 p4 p5 p6 p7 p8 q1 q2 q3 q4)) (ht : txt.length ≤ 1000) (hno : PySem.W.findIn K (.ref C) "place" = some none) (hcl : SupCall (nfPl qual pr cc c txt j p0 p1 p2 p3 p4 p5 p6 p7 p8 q1 q2 q3 q4) f p0 p1 p2 p3 (msgPl txt j p5 p6 p7 p8))
    (lk : K.lookup f = some ⟨oc, od, .func (PySem.W.fnX "__init__" qual pr (nfPl qual pr cc c txt j p0 p1 p2 p3 p4 p5 p6 p7 p8 q1 q2 q3 q4).body scPl [(("__class__" : Str), cc)] .none kV doc pm an (.ref c) ct), osl⟩) (hcd : PySem.W.codeIn K (.ref c) qual = true) :
    FnOk P w K mg base (L2.CX P w) 1 f (PySem.W.fnX "__init__" qual pr (nfPl qual pr cc c txt j p0 p1 p2 p3 p4 p5 p6 p7 p8 q1 q2 q3 q4).body scPl [(("__class__" : Str), cc)] .none kV doc pm an (.ref c) ct) ["self", "place"] (spPl C) := by
  refine fn_super (N := ["self", "place", "__class__"]) (F := nfPl qual pr cc c txt j p0 p1 p2 p3 p4 p5 p6 p7 p8 q1 q2 q3 q4) (k := 0) XB XC XS lk hcd rfl (fun _ => rfl) (fun _ => rfl) hcl (fun _ => rfl) (by exact nscope_by (by show nscB _ _ _ scPl = true; decide +kernel)) rfl (fun vs H Q E h => ?_) (fun A outer s H vs Q E hr h => ?_)
  · obtain ⟨a, x, rfl, _⟩ := h
    rfl
  obtain ⟨a, i, rfl, h0, h1, ha, q⟩ := h
  refine ⟨_, _, a, pe_joined (PJ.cons pe_str (PJ.cons (pe_fmt (pv 1)) PJ.nil)), pss_one (ps_xst XB XC (pv 0) (pv 1)), rfl, ha, ?_⟩
  have r0 := int_wee h0 h1
  refine ⟨txt, rfl, by rw [nil_len, sizeLine_eq]; omega, _, rfl, .inr ⟨i, rfl, int_log h0 h1, _, rfl, by rw [Str.length_append, nil_len, sizeLine_eq]; omega, ha, ?_⟩⟩
  exact ⟨_, rfl, _, rfl, a, rfl, hno, .inl ⟨ha, q⟩⟩

end

/-! ### a class of errors with its __init__, as the top has made it -/
abbrev nfS (st : Stmt) (q : Str) (cc c : Addr) : NF := ⟨"__init__", q, defArgs st, defBody st, defScope st, [(("__class__" : Str), cc)], c⟩
structure XI (P : Program) (K : PySem.W.Frag) (mg : Str → Option Value) (x q : Str) (st : Stmt) (ps : List Str) (C f cc c : Addr) (B nI iI : String) (bB : List Value) (fd : FuncData) : Prop where
  xb : XBase B nI iI bB
  g : mg x = some (.ref C)
  xc : XCls K C nI bB
  iC : PySem.W.findIn K (.ref C) "__init__" = some (some (.ref f))
  tI : PySem.W.typeIn K (.ref f) = some (.type "function")
  xs : XSup P K mg C f cc B iI (nfS st q cc c)
  lk : ∃ (oc : Value) (od : Option Addr) (osl : Array (Option Value)) (kV doc pm : Value) (an : Option Addr) (ct : Value), fd = PySem.W.fnX "__init__" q (defArgs st) (defBody st) (defScope st) [(("__class__" : Str), cc)] .none kV doc pm an (.ref c) ct ∧ K.lookup f = some ⟨oc, od, .func fd, osl⟩
  cd : PySem.W.codeIn K (.ref c) q = true
  bd : Binds K fd ps []
/-- the end of an __init__: the error at a has the fields fs, what stood stands -/
def Init (C a : Addr) (fs : List (Str × V)) (H : Hp) (Q : VK) : Prop := ∀ (dx : Addr) (H' : Hp), H dx = none → dx ≠ a → H' a = some (exo a C (some dx)) → H' dx = some (exd dx fs) → (∀ b o, H b = some o → b ≠ a → H' b = some o) → Q .non H'
/-- .. with a new sequence as one of its fields -/
def InitS (K : PySem.W.Frag) (tup : Bool) (C a : Addr) (fs : Addr → List (Str × V)) (ys : List V) (H : Hp) (Q : VK) : Prop := ∀ (t dx : Addr) (H' : Hp), H dx = none → dx ≠ a → H' a = some (exo a C (some dx)) → H' dx = some (exd dx (fs t)) →
  (if tup then SqT K H' t ys else H t = none ∧ H' t = some (.lst ys)) → (∀ b o, H b = some o → b ≠ a → H' b = some o) → Q .non H'
/-- a field more -/
theorem xst_go {H : Hp} {a C dx : Addr} {fs : List (Str × V)} {f : Str} {y : V} {G : Hp → Prop} (ea : H a = some (exo a C (some dx))) (ed : H dx = some (exd dx fs)) (hl : fs.length ≤ 900) (g : G (upd H dx (exd dx ((f, y) :: fs)))) :
    ∃ (dx : Addr) (fs : List (Str × V)), H a = some (exo a C (some dx)) ∧ H dx = some (exd dx fs) ∧ fs.length ≤ 900 ∧ G (upd H dx (exd dx ((f, y) :: fs))) := ⟨dx, fs, ea, ed, hl, g⟩
/-- sign and arguments -/
def spSA (K : PySem.W.Frag) (C : Addr) : Sp := fun vs H Q _ => ∃ (a : Addr) (x : Str) (l : Addr) (ys : List V), vs = [.ref a, .str x, .ref l] ∧ Wee x ∧ (SqL K H l ys ∨ SqT K H l ys) ∧ H a = some (exo a C none) ∧ InitS K true C a (fun t => [("arguments", .ref t), ("sign", .str x)]) ys H Q
def spNL (K : PySem.W.Frag) (C : Addr) : Sp := fun vs H Q _ => ∃ (a : Addr) (x : Str) (l : Addr) (ys : List V) (i : Int) (z : Str), vs = [.ref a, .str x, .ref l, .int i, .str z] ∧ Wee x ∧ Wee z ∧ 0 ≤ i ∧ i < 10 ^ 10 ∧ (SqL K H l ys ∨ SqT K H l ys) ∧ H a = some (exo a C none) ∧
  InitS K true C a (fun t => [("other", .str z), ("place", .int i), ("arguments", .ref t), ("sign", .str x)]) ys H Q
def spLR (C : Addr) : Sp := fun vs H Q _ => ∃ (a : Addr) (x y : V), vs = [.ref a, x, y] ∧ H a = some (exo a C none) ∧ Init C a [("right", y), ("left", x)] H Q
def spLb (K : PySem.W.Frag) (C : Addr) : Sp := fun vs H Q _ => ∃ (a : Addr) (l : Addr) (ys : List V), vs = [.ref a, .ref l] ∧ (SqL K H l ys ∨ SqT K H l ys) ∧ H a = some (exo a C none) ∧ InitS K false C a (fun t => [("labels", .ref t)]) ys H Q
theorem app_le {x y : Str} {m n : Nat} (h1 : x.length ≤ m) (h2 : y.length ≤ n) : (x ++ y).length ≤ m + n := by
  rw [Str.length_append]
  omega
theorem emp_le {y : Str} {n : Nat} (h2 : y.length ≤ n) : (Str.empty ++ y).length ≤ n := by
  rw [nil_len]
  exact h2
theorem le_line {n m : Nat} (h : n ≤ m) (hm : m ≤ 1000000) : n ≤ sizeLine := by
  rw [sizeLine_eq]
  omega
theorem or_seq {K : PySem.W.Frag} {H H' : Hp} {l : Addr} {ys : List V} (e : Same H H') (h : SqL K H l ys ∨ SqT K H l ys) : SqL K H' l ys ∨ SqT K H' l ys := h.imp (fun q => e.seq q) fun q => Evl.ex_t e q
theorem rd_but {H H' : Hp} {l a C : Addr} {d : Option Addr} {u : HO} (hu : ∀ b, u ≠ exo b C d) (e : ∀ b o, H b = some o → b ≠ a → H' b = some o) (ha : H a = some (exo a C d)) (h : Rd H l u) : Rd H' l u := by
  rcases h with h | ⟨o, h⟩
  · exact .inl (e l _ h (ne_of h ha (hu a)))
  · exact .inr ⟨o, e l _ h (ne_of h ha (fun z => exo_frz z.symm))⟩
theorem seq_but {K : PySem.W.Frag} {H H' : Hp} {l a C : Addr} {d : Option Addr} {ys : List V} (e : ∀ b o, H b = some o → b ≠ a → H' b = some o) (ha : H a = some (exo a C d)) (h : SqL K H l ys ∨ SqT K H l ys) : SqL K H' l ys ∨ SqT K H' l ys := by
  rcases h with (h | h) | (h | h)
  · exact .inl (.inl (rd_but (fun b z => by cases z) e ha h))
  · exact .inl (.inr h)
  · exact .inr (.inl (rd_but (fun b z => exo_tup z.symm) e ha h))
  · exact .inr (.inr h)
/-- the first field's heap -/
theorem one_but {H : Hp} {a dx C : Addr} {fs : List (Str × V)} (hd : H dx = none) : ∀ b o, H b = some o → b ≠ a → (upd (upd H dx (exd dx fs)) a (exo a C (some dx))) b = some o := fun b o h hb => by
  rw [upd_ne hb, upd_ne (ne_of_none h hd)]
  exact h
end L2


set_option Elab.async false
set_option linter.all false
set_option maxRecDepth 100000
set_option maxHeartbeats 4000000
/-! errors held as values: isinstance, their fields -/
namespace L2
open PySem PySem.Spec PyProof.Rows

/-- an error stands at a, its own dict (if any) holds fs -/
def ErrAt (H : Hp) (a C : Addr) (fs : List (Str × V)) : Prop := (H a = some (exo a C none) ∧ fs = []) ∨ ∃ dx, H a = some (exo a C (some dx)) ∧ H dx = some (exd dx fs)
theorem ErrAt.same {H H' : Hp} {a C : Addr} {fs : List (Str × V)} (h : ErrAt H a C fs) (e : Same H H') : ErrAt H' a C fs := by
  rcases h with ⟨h, f⟩ | ⟨dx, h1, h2⟩
  · exact .inl ⟨e _ _ h, f⟩
  · exact .inr ⟨dx, e _ _ h1, e _ _ h2⟩
theorem ErrAt.inst {X : Cx} {pins : List (Addr × Obj)} {σ : St} {H : Hp} {s : Shared} {a C : Addr} {fs : List (Str × V)} (I : Inv X pins σ H s) (h : ErrAt H a C fs) :
    ∃ (ox : Obj) (od : Option Obj), PySem.W.InstAt s.heap a ox C od ∧ (∀ (n : Str) (v : V), fs.lookup n = some v → ∃ (o : Obj) (u : Value), od = some o ∧ PySem.W.lookIn n o = some (some u) ∧ RelV v u) := by
  rcases h with ⟨h, rfl⟩ | ⟨dx, h1, h2⟩
  · obtain ⟨t1, ho⟩ := exo_at I.hok h
    exact ⟨_, none, ⟨ho, rfl, rfl, trivial⟩, fun n v z => by cases z⟩
  · obtain ⟨t1, ho⟩ := exo_at I.hok h1
    obtain ⟨mA, hns, rel⟩ := exd_at I.hok h2
    obtain ⟨od, hod, hl⟩ := lookIn_ns hns
    refine ⟨_, some od, ⟨ho, rfl, rfl, hod⟩, fun n v z => ?_⟩
    obtain ⟨u, hu, ru⟩ := RelO.some_of (v := v) (o := mA n) (by rw [← z]; exact rel n)
    exact ⟨od, u, rfl, by rw [hl, hu], ru⟩
/-- isinstance(e, c), e an error held as a value -/
def rIsX (K : PySem.W.Frag) : List V → Hp → VK → Prop := fun xs H Q => ∃ (a C : Addr) (fs : List (Str × V)) (c : V) (u : Value) (b : Bool), xs = [.ref a, c] ∧ ErrAt H a C fs ∧ ExcC K C ∧ ClsV c u ∧ PySem.W.kitOne K (.ref C) u = some b ∧ Q (.bl b) H
theorem call_isX {X : Cx} (K : PySem.W.Frag) (hK : X.K = K := by rfl) : CallR X (.builtin "isinstance") (rIsX K) := by
  subst hK
  intro pins s σ H xs us Q I r h
  obtain ⟨a, C, fs, c, u, b, rfl, ea, E, k, e, q⟩ := h
  obtain ⟨u1, u2, rfl, r1, r2⟩ := vals2 r
  have e2 := k.eq r2
  subst e2
  obtain rfl : u1 = Value.ref a := r1
  obtain ⟨ox, od, J, _⟩ := ea.inst I
  obtain ⟨cd, hcd, _⟩ := PySem.W.any_some E.hd
  exact PySem.W.kia_one (PySem.W.kitx_exc (by rw [hcd]; rfl) E.hg E.hk E.hs E.ha E.hn E.ht E.hm) I.kIn J e (fun z => nomatch z) fun tk => ⟨.bl b, H, I.tok tk, rfl, q⟩
/-- e.f, e an error held as a value -/
def tXval (K : PySem.W.Frag) (n : Str) (te : TE) : TE := fun σ H Q => te σ H fun x H1 => ∃ (a C : Addr) (fs : List (Str × V)) (v : V), x = .ref a ∧ ErrAt H1 a C fs ∧ ExcC K C ∧ PySem.W.findIn K (.ref C) n = some none ∧ fs.lookup n = some v ∧ Q v H1
theorem pe_xval {X : Cx} (K : PySem.W.Frag) {e : Expr} {te : TE} {n : Str} {pos : Pos} (he : PE X e te) (hb : attributeBase e n X.env (eval e X.env) = eval e X.env := by rfl) (hK : X.K = K := by rfl) : PE X (.Attribute e n pos) (tXval K n te) := by
  subst hK
  refine ⟨fun pins s σ H Q I h => attr_of hb (thn (he.run pins s σ H _ I h) fun u s1 hh => ?_)⟩
  obtain ⟨x, H1, I1, rx, a, C, fs, v, ex, ea, E, hno, hl, q⟩ := hh
  subst ex
  obtain rfl : u = Value.ref a := rx
  obtain ⟨ox, od, J, look⟩ := ea.inst I1
  obtain ⟨o, w, rfl, hw, rw'⟩ := look n v hl
  exact HandSPX.exc_get I1.kIn J E.hg E.hk E.hs (PySem.W.findObj_own E.hd hno rfl hw) (handed_of rw') ⟨v, H1, I1.tok _, rw', q⟩

/-! ### made as values -/
structure X0 (K : PySem.W.Frag) (mg : Str → Option Value) (x : Str) (C : Addr) (B nI iI : String) (bB : List Value) : Prop where
  xb : XBase B nI iI bB
  g : mg x = some (.ref C)
  xc : XCls K C nI bB
  hi : PySem.W.findIn K (.ref C) "__init__" = some (some (.builtin iI))
section
variable {X : Cx} {x q : Str} {C f cc c : Addr} {p pos : Pos} {e : Expr} {es : List Expr} {ta : TA} {B nI iI : String} {bB : List Value} {fd : FuncData} {ps : List Str} {sp : Sp} {st : Stmt}
theorem X0.pe (t : X0 X.K X.mg x C B nI iI bB) (hg : Gl X x) (hdb : (x == ("__debug__" : Str)) = false := by decide) : PE X (.Call (.Name x p) [] [] pos) (tX0 C) := pe_x0 t.xb t.xc t.hi hg t.g hdb
theorem X0.pmk (t : X0 X.K X.mg x C B nI iI bB) (hg : Gl X x) (hdb : (x == ("__debug__" : Str)) = false := by decide) : PMk X (.Call (.Name x p) [] [] pos) (fun _ H Q => Q (.ref C) none H) := pmk_x0 t.xb t.xc t.hi hg t.g hdb
theorem XI.pe (t : XI X.prog X.K X.mg x q st ps C f cc c B nI iI bB fd) (F : FnOk X.prog X.w X.K X.mg X.base (L2.CX X.prog X.w) 1 f fd ps sp) (hr : Room 2 X.A) (hg : Gl X x) (ha : PA X (e :: es) ta) (hdb : (x == ("__debug__" : Str)) = false := by decide)
    (he : starEach (e :: es) X.env = (false, eval e X.env) :: starEach es X.env := by rfl) (hpl : (backTo pos (starEach es X.env)).any (·.1) = false := by rfl) : PE X (.Call (.Name x p) (e :: es) [] pos) (tXv C sp [] ta) :=
  pe_xv t.xb t.xc t.iC t.tI F hr t.bd .nil passL hg t.g ha hdb he hpl
theorem XI.pmk (t : XI X.prog X.K X.mg x q st ps C f cc c B nI iI bB fd) (F : FnOk X.prog X.w X.K X.mg X.base (L2.CX X.prog X.w) 1 f fd ps sp) (hr : Room 2 X.A) (hg : Gl X x) (ha : PA X (e :: es) ta) (hdb : (x == ("__debug__" : Str)) = false := by decide)
    (he : starEach (e :: es) X.env = (false, eval e X.env) :: starEach es X.env := by rfl) (hpl : (backTo pos (starEach es X.env)).any (·.1) = false := by rfl) : PMk X (.Call (.Name x p) (e :: es) [] pos) (tMkO C sp [] ta) :=
  pmk_x t.xb t.xc t.iC t.tI F hr t.bd .nil passL hg t.g ha hdb he hpl
end
section
variable {K : PySem.W.Frag} {H : Hp} {C : Addr} {Q : VK} {ys : List V}
/-- an error is made: a new one at a -/
def New (C : Addr) (fs : List (Str × V)) (H : Hp) (Q : VK) : Prop := ∀ a H', H a = none → Same H H' → ErrAt H' a C fs → Q (.ref a) H'
theorem same_upd {H : Hp} {a : Addr} {o : HO} (h : H a = none) : Same H (upd H a o) := fun b u q => by rw [upd_ne (ne_of_none q h)]; exact q
theorem go_x0 (k : New C [] H Q) : ∀ a, H a = none → Q (.ref a) (upd H a (exo a C none)) := fun a n => k a _ n (same_upd n) (.inl ⟨upd_same, rfl⟩)
theorem go_nm {x : Str} (hx : Wee x) (k : New C [("name", .str x)] H Q) : ∀ a, H a = none → spNm C (.ref a :: ([.str x] ++ [])) (upd H a (exo a C none)) (fun v H2 => v = .non ∧ Q (.ref a) H2) (fun _ _ _ => False) := fun a n =>
  ⟨a, x, rfl, hx, upd_same, fun dx hd ne => ⟨rfl, k a _ n (fun b u q => by
    rw [upd_ne (ne_of_none q n), upd_ne (ne_of_none (same_upd n _ _ q) hd), upd_ne (ne_of_none q n)]
    exact q) (.inr ⟨dx, upd_same, by rw [upd_ne ne, upd_same]⟩)⟩⟩
theorem go_pl {i : Int} (h0 : 0 ≤ i) (h1 : i < 10 ^ 10) (k : New C [("place", .int i)] H Q) : ∀ a, H a = none → spPl C (.ref a :: ([.int i] ++ [])) (upd H a (exo a C none)) (fun v H2 => v = .non ∧ Q (.ref a) H2) (fun _ _ _ => False) := fun a n =>
  ⟨a, i, rfl, h0, h1, upd_same, fun dx hd ne => ⟨rfl, k a _ n (fun b u q => by
    rw [upd_ne (ne_of_none q n), upd_ne (ne_of_none (same_upd n _ _ q) hd), upd_ne (ne_of_none q n)]
    exact q) (.inr ⟨dx, upd_same, by rw [upd_ne ne, upd_same]⟩)⟩⟩
theorem but_same {H H' : Hp} {a : Addr} {o : HO} (n : H a = none) (e : ∀ b u, (upd H a o) b = some u → b ≠ a → H' b = some u) : Same H H' := fun b u q => e b u (same_upd n _ _ q) (ne_of_none q n)
theorem go_sa {x : Str} {l : Addr} (hx : Wee x) (hl : SqL K H l ys ∨ SqT K H l ys) (k : ∀ a t H', H a = none → Same H H' → ErrAt H' a C [("arguments", .ref t), ("sign", .str x)] → SqT K H' t ys → Q (.ref a) H') :
    ∀ a, H a = none → spSA K C (.ref a :: ([.str x, .ref l] ++ [])) (upd H a (exo a C none)) (fun v H2 => v = .non ∧ Q (.ref a) H2) (fun _ _ _ => False) := fun a n =>
  ⟨a, x, l, ys, rfl, hx, or_seq (same_upd n) hl, upd_same, fun t dx H' hd ne e1 e2 e3 e4 => ⟨rfl, k a t H' n (but_same n e4) (.inr ⟨dx, e1, e2⟩) e3⟩⟩
theorem go_nl {x z : Str} {l : Addr} {i : Int} (hx : Wee x) (hz : Wee z) (h0 : 0 ≤ i) (h1 : i < 10 ^ 10) (hl : SqL K H l ys ∨ SqT K H l ys)
    (k : ∀ a t H', H a = none → Same H H' → ErrAt H' a C [("other", .str z), ("place", .int i), ("arguments", .ref t), ("sign", .str x)] → SqT K H' t ys → Q (.ref a) H') :
    ∀ a, H a = none → spNL K C (.ref a :: ([.str x, .ref l, .int i, .str z] ++ [])) (upd H a (exo a C none)) (fun v H2 => v = .non ∧ Q (.ref a) H2) (fun _ _ _ => False) := fun a n =>
  ⟨a, x, l, ys, i, z, rfl, hx, hz, h0, h1, or_seq (same_upd n) hl, upd_same, fun t dx H' hd ne e1 e2 e3 e4 => ⟨rfl, k a t H' n (but_same n e4) (.inr ⟨dx, e1, e2⟩) e3⟩⟩
theorem go_lr {x y : V} (k : New C [("right", y), ("left", x)] H Q) : ∀ a, H a = none → spLR C (.ref a :: ([x, y] ++ [])) (upd H a (exo a C none)) (fun v H2 => v = .non ∧ Q (.ref a) H2) (fun _ _ _ => False) := fun a n =>
  ⟨a, x, y, rfl, upd_same, fun dx H' hd ne e1 e2 e3 => ⟨rfl, k a H' n (but_same n e3) (.inr ⟨dx, e1, e2⟩)⟩⟩
theorem go_lb {l : Addr} (hl : SqL K H l ys ∨ SqT K H l ys) (k : ∀ a t H', H a = none → Same H H' → ErrAt H' a C [("labels", .ref t)] → H t = none → H' t = some (.lst ys) → Q (.ref a) H') :
    ∀ a, H a = none → spLb K C (.ref a :: ([.ref l] ++ [])) (upd H a (exo a C none)) (fun v H2 => v = .non ∧ Q (.ref a) H2) (fun _ _ _ => False) := fun a n =>
  ⟨a, l, ys, rfl, or_seq (same_upd n) hl, upd_same, fun t dx H' hd ne e1 e2 e3 e4 => ⟨rfl, k a t H' n (but_same n e4) (.inr ⟨dx, e1, e2⟩) ((same_upd n).free e3.1) e3.2⟩⟩
/-- many of the plain ones -/
def tX0s : List Addr → TA
  | [] => tNil
  | C :: r => tCons (tX0 C) (tX0s r)
def Errs (H : Hp) (as Cs : List Addr) : Prop := Paired (fun a C => ErrAt H a C []) as Cs
theorem Errs.same {H H' : Hp} {as Cs : List Addr} (h : Errs H as Cs) (e : Same H H') : Errs H' as Cs := Paired.mapP h fun _ _ z => z.same e
theorem x0s_go : ∀ (Cs : List Addr) (σ : St) (H : Hp) (Q : List V → Hp → Prop), (∀ as H', Same H H' → Errs H' as Cs → Q (as.map V.ref) H') → tX0s Cs σ H Q
  | [], σ, H, Q, k => k [] H (Same.refl H) .nil
  | C :: r, σ, H, Q, k => fun a n => x0s_go r σ _ _ fun as H' e he => k (a :: as) H' ((same_upd n).trans e) (.cons (ErrAt.same (.inl ⟨upd_same, rfl⟩) e) he)
end

/-- an own class, a built-in class, as a value -/
theorem pe_gref {X : Cx} {x : Str} {a : Addr} {pos : Pos} (hg : Gl X x) (hm : X.mg x = some (.ref a)) (hd : (x == ("__debug__" : Str)) = false := by decide) : PE X (.Name x pos) (tC (.ref a)) := pe_glob hg hm rfl hd
theorem pe_bty {X : Cx} {x : Str} {n : String} {pos : Pos} (hg : Gl X x) (hm : X.mg x = none) (hv : bootBuiltins x = some (.type n)) (hn : x ≠ "__name__" := by decide) (hd : (x == ("__debug__" : Str)) = false := by decide) : PE X (.Name x pos) (tC (.ty n)) := pe_bltn hg hm hv rfl hn hd

def tTruK (K : PySem.W.Frag) (ta : TE) : TT := fun σ H Q => ta σ H fun x H' => ∃ k, TruV K x H' k ∧ Q k H'
theorem pt_truthK {X : Cx} (K : PySem.W.Frag) {a : Expr} {ta : TE} (ha : PE X a ta) (he : ∀ whole, isTrue a X.env whole = (do let v ← whole; standAt a.pos; holding [v] (truthy v)) := by intro _; rfl) (hK : X.K = K := by rfl) : PT X a (tTruK K ta) := by
  subst hK
  exact pt_truth ha he

theorem x0s_lst (Cs : List Addr) {σ : St} {H : Hp} {Q : VK} (hz : Cs.length ≤ 1000) (k : ∀ as H', Same H H' → Errs H' as Cs → ∀ p, H' p = none → Q (.ref p) (upd H' p (.lst (as.map V.ref)))) : tLst (tX0s Cs) σ H Q :=
  x0s_go Cs σ H _ fun as H1 e1 h1 => ⟨by rw [List.length_map, Paired.length h1]; exact Nat.le_of_lt (small1000 hz), fun p hp => k as H1 e1 h1 p hp⟩

/-- an error with one field is new -/
theorem one_new {H : Hp} {a dx C : Addr} {fs : List (Str × V)} (n : H a = none) (hd : (upd H a (exo a C none)) dx = none) (ne : dx ≠ a) :
    ∃ H', upd (upd (upd H a (exo a C none)) dx (exd dx fs)) a (exo a C (some dx)) = H' ∧ Same H H' ∧ ErrAt H' a C fs :=
  ⟨_, rfl, fun b u q => by
    rw [upd_ne (ne_of_none q n), upd_ne (ne_of_none (same_upd n _ _ q) hd), upd_ne (ne_of_none q n)]
    exact q, .inr ⟨dx, upd_same, by rw [upd_ne ne, upd_same]⟩⟩
theorem put_new {H : Hp} {a : Addr} {o : HO} (n : H a = none) : ∃ H', upd H a o = H' ∧ Same H H' ∧ H' a = some o := ⟨_, rfl, same_upd n, upd_same⟩

/-! ### == of data -/
theorem Wee.ok {x : Str} (h : Wee x) : PyData.strOk x = true := by
  unfold PyData.strOk
  rw [← Array.all_toList, List.all_eq_true]
  exact fun c hc => decide_eq_true (h.2 c hc)
section
variable {K : PySem.W.Frag} {H : Hp} {x y : V} {d : PyData} {Q : VK}
theorem neD_same (hx : Dp K H x d) (hy : Dp K H y d) (hs : SeqAt.shaped d = true) (q : Q (.bl false) H) : rNeD K x y H Q := ⟨d, d, hx, hy, hs, hs, by rw [SeqAt.eqv_refl d (SeqAt.canLay_of_shaped hs)]; exact q⟩
theorem eqD_same (hx : Dp K H x d) (hy : Dp K H y d) (hs : SeqAt.shaped d = true) (q : Q (.bl true) H) : rEqD K x y H Q := ⟨d, d, hx, hy, hs, hs, by rw [SeqAt.eqv_refl d (SeqAt.canLay_of_shaped hs)]; exact q⟩
theorem dp_two {p : Addr} {a b : Str} (h : SqL K H p [.str a, .str b]) : Dp K H (.ref p) (.list [.str a, .str b]) := .lst h (.cons (.str a) (.cons (.str b) .nil))
theorem sh_two {a b : Str} (ha : Wee a) (hb : Wee b) : SeqAt.shaped (.list [.str a, .str b]) = true := by
  simp [SeqAt.shaped, PyData.canLay0, PyData.canLayAll0, PyData.depth, PyData.depthAll, ha.ok, hb.ok]
theorem tst {k : Bool} {G : Bool → Prop} (q : G k) : ∃ b, V.bl k = V.bl b ∧ G b := ⟨k, rfl, q⟩
/-- lists of one int each -/
theorem dp_ones {D : Addr} {ps : List Addr} (hD : SqL K H D (ps.map V.ref)) (h : ∀ (j : Nat) p, ps[j]? = some p → H p = some (.lst [.int (j : Int)])) : Dp K H (.ref D) (.list ((List.range ps.length).map fun (j : Nat) => .list [.int (j : Int)])) := by
  refine .lst hD ?_
  have key : ∀ (qs : List Addr) (n : Nat), (∀ (j : Nat) p, qs[j]? = some p → H p = some (.lst [.int ((n + j : Nat) : Int)])) → DpAll K H (qs.map V.ref) ((List.range qs.length).map fun (j : Nat) => .list [.int ((n + j : Nat) : Int)]) := by
    intro qs
    induction qs with
    | nil => intro n _; exact .nil
    | cons q r ih =>
      intro n hq
      have h0 := hq 0 q rfl
      have h1 := ih (n + 1) fun j p e => by
        have z := hq (j + 1) p (by simpa using e)
        rw [z, show n + (j + 1) = n + 1 + j by omega]
      rw [List.length_cons, List.range_succ_eq_map, List.map_cons, List.map_cons, List.map_map]
      refine .cons (.lst (SqL.of h0) (.cons (.int _) .nil)) ?_
      have e : (fun j : Nat => PyData.list [PyData.int ((n + j : Nat) : Int)]) ∘ Nat.succ = fun (j : Nat) => PyData.list [PyData.int ((n + 1 + j : Nat) : Int)] := by
        funext j
        show PyData.list [PyData.int ((n + (j + 1) : Nat) : Int)] = _
        rw [show n + (j + 1) = n + 1 + j by omega]
      rw [e]
      exact h1
  have z := key ps 0 fun j p e => by rw [Nat.zero_add]; exact h j p e
  simpa using z
end
theorem gN {i : Nat} {v : V} {σ : St} {H : Hp} {N : St → Hp → Prop} (h : N (σ.set i (some v)) H) : gName i v σ H N := h

/-! ### comprehensions whose items are new lists -/
/-- D holds the lists made so far -/
def Made (H1 : Hp) (D : Addr) (cs : Nat → List V) (i : Nat) (H' : Hp) : Prop := ∃ ps : List Addr, ps.length = i ∧ H' D = some (.lst (ps.map V.ref)) ∧ (∀ (j : Nat) p, ps[j]? = some p → p ≠ D ∧ H' p = some (.lst (cs j))) ∧ Same H1 H'
theorem made_more {H1 H' H2 : Hp} {D p : Addr} {cs : Nat → List V} {i : Nat} (hD : H1 D = none) (m : Made H1 D cs i H') (hi : i < 100000) (n : H' p = none) (e : Same H' H2) (h : H2 p = some (.lst (cs i))) :
    ∃ acc, H2 D = some (.lst acc) ∧ acc.length < sizeLine ∧ Made H1 D cs (i + 1) (upd H2 D (.lst (acc ++ [.ref p]))) := by
  obtain ⟨ps, l, d, all, s⟩ := m
  have npD : p ≠ D := fun z => by rw [z, d] at n; cases n
  refine ⟨_, e _ _ d, by rw [List.length_map, l, sizeLine_eq]; omega, ps ++ [p], by rw [List.length_append, l]; rfl, by rw [List.map_append]; exact upd_same, fun j q hq => ?_, fun b o hb => ?_⟩
  · by_cases c : j < ps.length
    · rw [List.getElem?_append_left c] at hq
      obtain ⟨z1, z2⟩ := all j q hq
      exact ⟨z1, by rw [upd_ne z1]; exact e _ _ z2⟩
    · rw [List.getElem?_append_right (by omega)] at hq
      have j0 : j = i := by
        by_cases c2 : j - ps.length = 0
        · omega
        · have : ([p] : List Addr)[j - ps.length]? = none := List.getElem?_eq_none (by show 1 ≤ _; omega)
          rw [this] at hq
          cases hq
      subst j0
      rw [l, Nat.sub_self] at hq
      obtain rfl : p = q := Option.some.inj hq
      exact ⟨npD, by rw [upd_ne npD]; exact h⟩
  · rw [upd_ne (ne_of_none hb hD)]
    exact e _ _ (s _ _ hb)
theorem lc_newl {K : PySem.W.Frag} {tl : TE} {a : Addr} {xs : List V} {jx : Nat} {te : TE} {vs : List Nat} {σ : St} {H1 : Hp} {Q : VK} (cs : Nat → List V) (hx : SqL K H1 a xs) (hz : xs.length ≤ 50000) (hw : ∀ x, wipe ((wipe σ vs).set jx (some x)) vs = wipe σ vs)
    (he : ∀ (i : Nat) x H', xs[i]? = some x → Same H1 H' → ∀ Q' : VK, (∀ p H2, H' p = none → Same H' H2 → H2 p = some (.lst (cs i)) → Q' (.ref p) H2) → te ((wipe σ vs).set jx (some x)) H' Q')
    (q : ∀ D (ps : List Addr) H', H1 D = none → Same H1 H' → ps.length = xs.length → H' D = some (.lst (ps.map V.ref)) → (∀ (j : Nat) p, ps[j]? = some p → H' p = some (.lst (cs j))) → Q (.ref D) H') (hl : ∀ Q' : VK, Q' (.ref a) H1 → tl σ H1 Q') : tLc (iList K tl) (gName jx) tYes te vs σ H1 Q := by
  refine hl _ ⟨a, rfl, ⟨_, hx⟩, fun D hD => lc_list (K := K) (a := a) (xs := xs) (Made H1 D cs) ⟨[], rfl, upd_same, fun j p h => by simp at h, same_upd hD⟩ (fun i H' _ m => ?_) (fun i x H' hi m => ?_) (fun H' m => ?_)⟩
  · obtain ⟨_, _, _, _, s⟩ := m
    exact s.seq hx
  · have hi2 := (List.getElem?_eq_some_iff.mp hi).1
    have s : Same H1 H' := m.elim fun _ z => z.2.2.2
    refine ⟨hw x, iteT (B := Made H1 D cs (i + 1) H') ?_⟩
    exact he i x H' hi s _ fun p H2 n e h => made_more hD m (by omega) n e h
  · obtain ⟨ps, l, d, all, s⟩ := m
    exact q D ps H' hD s l d fun j p h => (all j p h).2
theorem lc_newr {n : Int} {ta : TA} {jx : Nat} {te : TE} {vs : List Nat} {σ : St} {H1 : Hp} {Q : VK} (cs : Nat → List V) (hn : 0 ≤ n ∧ n ≤ 50000) (hw : ∀ x, wipe ((wipe σ vs).set jx (some x)) vs = wipe σ vs)
    (he : ∀ (i : Nat) H', (i : Int) < n → Same H1 H' → ∀ Q' : VK, (∀ p H2, H' p = none → Same H' H2 → H2 p = some (.lst (cs i)) → Q' (.ref p) H2) → te ((wipe σ vs).set jx (some (.int (i : Int)))) H' Q')
    (q : ∀ D (ps : List Addr) H', H1 D = none → Same H1 H' → ps.length = n.toNat → H' D = some (.lst (ps.map V.ref)) → (∀ (j : Nat) p, ps[j]? = some p → H' p = some (.lst (cs j))) → Q (.ref D) H') (hl : ∀ Q' : List V → Hp → Prop, Q' [.int n] H1 → ta σ H1 Q') : tLc (iRng1 ta) (gName jx) tYes te vs σ H1 Q := by
  refine hl _ ⟨n, rfl, by omega, by omega, fun D hD => lc_range (lo := 0) (n := n.toNat) (Made H1 D cs) ⟨[], rfl, upd_same, fun j p h => by simp at h, same_upd hD⟩ (fun i H' hi m => ?_) (fun H' m => ?_)⟩
  · rw [Int.zero_add]
    have s : Same H1 H' := m.elim fun _ z => z.2.2.2
    refine ⟨hw _, iteT (B := Made H1 D cs (i + 1) H') ?_⟩
    exact he i H' (by omega) s _ fun p H2 n e h => made_more hD m (by omega) n e h
  · obtain ⟨ps, l, d, all, s⟩ := m
    exact q D ps H' hD s l d fun j p h => (all j p h).2
end L2


set_option Elab.async false
set_option linter.all false
set_option maxRecDepth 100000
set_option maxHeartbeats 4000000
/-! the program's own in, not in, len, ==, != of instances with a dict -/
namespace OwnOp
open PySem PySem.W PySem.Calls PyProof.Rows Builtin
section
variable {prog : Program} {w : World} {A : Around} {E : Value → Shared → Prop} {s : Shared} {K : Frag} {x C f : Addr} {ox : Obj} {od : Option Obj}
/-- x.name(b) asked as a comparison, its def at f -/
theorem ask_own {name : Str} {b : Value} {Q : Option Value → Shared → Prop} (KX : K.In s.heap) (I : InstAt s.heap x ox C od) (hs : findIn K (.ref C) name = some (some (.ref f))) (hf : isFn K (.ref f) = true)
    (h : wpAny (model prog w) A (call (.ref f) [.ref x, b]) (fun v s' => ∃ k, v = .bool k ∧ Q (some (.bool k)) s') E s) : wpAny (model prog w) A (tryCompare (.ref x) name b) Q E s := by
  unfold tryCompare
  refine wpAny_bind (ifBound_K KX I hs hf (wpAny_mono h (fun v s' hv => ?_) fun _ _ e => e))
  obtain ⟨k, rfl, hq⟩ := hv
  exact wpAny_pure hq
/-- a slot of object's, asked for on an instance -/
theorem ask_slot {name : Str} {id B : String} {args : List Value} {Q : Option Value → Shared → Prop} (KX : K.In s.heap) (I : InstAt s.heap x ox C od) (hs : findIn K (.ref C) name = some (some (.builtin id))) (S : Slot B name id)
    (h : wpAny (model prog w) A (call (.builtin id) (.ref x :: args)) (fun v => Q (some v)) E s) : wpAny (model prog w) A (callSpecialIfBound? (.ref x) name args) Q E s := by
  simp only [callSpecialIfBound?, bindSpecialIfBound?]
  refine wpAny_holding (wpAny_bind (wpAny_bind (wpAny_bind (I.type.here ((looks_findIn KX hs).here ?_)))))
  simp only [S.bind]
  refine wpAny_bind (wpAny_askSetting (wpAny_ite ?_))
  have last : wpAny (model prog w) A (call (.builtin id) ([.ref x] ++ args) >>= fun v => pure (some v)) Q E s := wpAny_bind (wpAny_mono h (fun v s' g => wpAny_pure g) fun _ _ g => g)
  split
  · exact wpAny_bind (wpAny_pure (wpAny_pure (by exact last)))
  · exact wpAny_tryCatch (wpAny_bind (wpAny_pure (wpAny_pure (by exact last))))
/-- x.__ne__(b), object's, where __eq__ is a def at f -/
theorem ask_ne {b : Value} {Q : Option Value → Shared → Prop} (hu : A.units + 1 < cLine) (KX : K.In s.heap) (I : InstAt s.heap x ox C od) (hn : findIn K (.ref C) "__ne__" = some (some (.builtin "object.__ne__")))
    (he : findIn K (.ref C) "__eq__" = some (some (.ref f))) (hf : isFn K (.ref f) = true) (ho : mroIn K C (.type "object") = some true)
    (h : wpAny (model prog w) A.in1 (call (.ref f) [.ref x, b]) (fun v s' => ∃ k, v = .bool k ∧ Q (some (.bool (!k))) s') E s) : wpAny (model prog w) A (tryCompare (.ref x) "__ne__" b) Q E s := by
  have hi : Looks (model prog w) s.heap (isInstance (.ref x) (.type "object")) true := I.type.andThen (looks_mroIn KX ho)
  unfold tryCompare
  refine wpAny_bind (ask_slot KX I hn F.cmp_object.ne (wpAny_call (codeAny_call_builtin F.cmp_object.ne.plain F.cmpEntry_ne (check_slot F.cmpKind_ne F.cmpSplit_ne hi (F.cmpArgs_ne _ _) ?_))))
  unfold Builtin.«object.__ne__»
  refine wpAny_bind (m := slotArgs "__ne__" 1 _) (wpAny_pure ?_)
  refine wpAny_bind (wpAny_cRoomFor hu ?_)
  refine wpAny_bind (m := callSpecialIfBound? (.ref x) (Str.ofString "__eq__") [b]) (ifBound_K KX I he hf (wpAny_mono h (fun v s' hv => ?_) fun _ _ e => e))
  obtain ⟨k, rfl, hq⟩ := hv
  refine wpAny_bind (m := truthy (.bool k)) (wpAny_truthy_bool ?_)
  exact wpAny_pure (wpAny_pure hq)
/-- x op y where x is asked first -/
theorem rich_own {op : CmpOp} {b tb : Value} {Q : Value → Shared → Prop} (hu : A.units < cLine) (KX : K.In s.heap) (I : InstAt s.heap x ox C od) (hb : Looks (model prog w) s.heap (typeOf b) tb) (hn : notFirst K C tb = true)
    (one : wpAny (model prog w) A (tryCompare (.ref x) (cmpInfo op).2.1 b) (fun r s' => ∃ v, r = some v ∧ Q v s') E s) : wpAny (model prog w) A (richCompare op (.ref x) b) Q E s := by
  have fin : ∀ (r : Option Value) (s' : Shared), (∃ v, r = some v ∧ Q v s') → ∃ v, r = some v ∧ Q v s' := fun _ _ z => z
  unfold richCompare
  simp only [oneThing_ref]
  refine wpAny_holding (wpAny_bind (wpAny_cRoomFor hu (wpAny_bind (I.type.here (wpAny_bind (hb.here ?_))))))
  split
  · rename_i q
    have e : subIn K tb (.ref C) = some false := by
      cases Bool.or_eq_true_iff.mp hn with
      | inl e => rw [beq_iff_eq.mp e] at q; simp at q
      | inr e => exact beq_iff_eq.mp e
    refine wpAny_bind ((looks_subIn KX e).here ?_)
    simp only [Bool.false_eq_true, if_false]
    refine wpAny_bind (wpAny_mono one (fun r s' z => ?_) fun _ _ e => e)
    obtain ⟨v, rfl, hq⟩ := fin r s' z
    exact wpAny_pure hq
  · refine wpAny_bind (wpAny_pure ?_)
    simp only [Bool.false_eq_true, if_false]
    refine wpAny_bind (wpAny_mono one (fun r s' z => ?_) fun _ _ e => e)
    obtain ⟨v, rfl, hq⟩ := fin r s' z
    exact wpAny_pure hq
/-- x op y where y is of a class below x's: y is asked first -/
theorem rich_back {op : CmpOp} {y C' : Addr} {oy : Obj} {dy : Option Obj} {Q : Value → Shared → Prop} (hu : A.units < cLine) (KX : K.In s.heap) (I : InstAt s.heap x ox C od) (J : InstAt s.heap y oy C' dy) (hne : C' ≠ C) (hs : subIn K (.ref C') (.ref C) = some true)
    (one : wpAny (model prog w) A (tryCompare (.ref y) (cmpInfo op).2.2 (.ref x)) (fun r s' => ∃ v, r = some v ∧ Q v s') E s) : wpAny (model prog w) A (richCompare op (.ref x) (.ref y)) Q E s := by
  have fin : ∀ (r : Option Value) (s' : Shared), (∃ v, r = some v ∧ Q v s') → ∃ v, r = some v ∧ Q v s' := fun _ _ z => z
  unfold richCompare
  simp only [oneThing_ref]
  refine wpAny_holding (wpAny_bind (wpAny_cRoomFor hu (wpAny_bind (I.type.here (wpAny_bind (J.type.here ?_))))))
  have ne : (Value.ref C != Value.ref C') = true := by simp; exact fun z => hne z.symm
  rw [if_pos ne]
  refine wpAny_bind ((looks_subIn KX hs).here ?_)
  simp only [if_true]
  refine wpAny_bind (wpAny_mono one (fun r s' z => ?_) fun _ _ e => e)
  obtain ⟨v, rfl, hq⟩ := fin r s' z
  exact wpAny_bind (wpAny_rule (wpAny_pure hq))
end
end OwnOp
namespace L2
open PySem PySem.Spec PyProof.Rows
section
variable {X : Cx} {CX : CXT} {k : Nat} {f C : Addr} {fd : FuncData} {ps : List Str} {sp : Sp} {E : XK}
/-- the callee runs one step of C deeper -/
theorem run_in {pins : List (Addr × Obj)} {σ : St} {H : Hp} {s : Shared} {Q : VK} {us : List Value} {vs : List V} (F : FnOk X.prog X.w X.K X.mg X.base CX k f fd ps sp) (hr : Room (k + 1) X.A) (hb : Binds X.K fd ps []) (hx : Passes CX X E)
    (I : Inv X pins σ H s) (r : Vals vs us) (h : sp vs H Q E) : wpAny (model X.prog X.w) X.A.in1 (call (.ref f) us) (EP X pins σ Q) X.xe s := by
  have nl : us.length = ps.length := by rw [← r.length]; exact F.len _ _ _ _ h
  have bb := hb s us I.kIn (by rw [List.append_nil]; exact nl)
  rw [List.append_nil] at bb
  refine wpAny_call (codeAny_mono (F.run X.A.in1 X.stack s H ⟨us, []⟩ us vs Q E hr.in1 I.env0.in1 bb r h) fun r s' hq => ?_)
  match r with
  | .error e => exact hx pins σ H s e s' I hq
  | .ok (.ret u) => exact I.after hq
  | .ok .next => exact hq.elim
  | .ok .brk => exact hq.elim
  | .ok .cont => exact hq.elim
/-- what a truth told by a callee becomes -/
abbrev BlK (Q : VK) (g : Bool → Bool) : VK := fun z H' => ∃ b, z = .bl b ∧ Q (.bl (g b)) H'
theorem blk_is {pins : List (Addr × Obj)} {σ : St} {Q : VK} {g : Bool → Bool} {u : Value} {s : Shared} (h : EP X pins σ (BlK Q g) u s) : ∃ b, u = .bool b ∧ EP X pins σ Q (.bool (g b)) s := by
  obtain ⟨z, H', I', rz, b, rfl, q⟩ := h
  exact ⟨b, rz, .bl (g b), H', I', rfl, q⟩
/-- x in y, x not in y: y an instance, its class's __contains__ at f -/
def rHas (K : PySem.W.Frag) (f : Addr) (sp : Sp) (E : XK) (g : Bool → Bool) : R2 := fun x y H Q => ∃ a C dx fs, y = .ref a ∧ H a = some (.ins C dx fs) ∧ Meth K C "__contains__" f ∧ sp [y, x] H (BlK Q g) E
theorem op_has (F : FnOk X.prog X.w X.K X.mg X.base CX k f fd ps sp) (hr : Room k X.A) (hb : Binds X.K fd ps []) (hx : Passes CX X E) : OpR X (compareOp .In) (rHas X.K f sp E id) := by
  intro pins s σ H x y v u Q I rx ry h
  obtain ⟨a, C, dx, fs, rfl, ha, M, q⟩ := h
  cases (show u = Value.ref a from ry)
  obtain ⟨mA, O, _⟩ := ins_get I.hok ha
  obtain ⟨od, J, _⟩ := O.look
  obtain ⟨m, hF⟩ := I.fr
  refine PySem.W.in_K hF I.ok.mod.kin J M.at_ M.fn (wpAny_mono (run_fn (us := [.ref a, v]) (vs := [.ref a, x]) F hr hb (ds := []) (dvs := []) .nil hx I (.cons rfl (.cons rx .nil)) q) (fun w s' z => ?_) fun _ _ e => e)
  obtain ⟨b, rfl, z2⟩ := blk_is z
  exact wpAny_truthy_bool z2
theorem op_hasNot (F : FnOk X.prog X.w X.K X.mg X.base CX k f fd ps sp) (hr : Room k X.A) (hb : Binds X.K fd ps []) (hx : Passes CX X E) : OpR X (compareOp .NotIn) (rHas X.K f sp E not) := by
  intro pins s σ H x y v u Q I rx ry h
  obtain ⟨a, C, dx, fs, rfl, ha, M, q⟩ := h
  cases (show u = Value.ref a from ry)
  obtain ⟨mA, O, _⟩ := ins_get I.hok ha
  obtain ⟨od, J, _⟩ := O.look
  obtain ⟨m, hF⟩ := I.fr
  refine PySem.W.notIn_K hF I.ok.mod.kin J M.at_ M.fn (wpAny_mono (run_fn (us := [.ref a, v]) (vs := [.ref a, x]) F hr hb (ds := []) (dvs := []) .nil hx I (.cons rfl (.cons rx .nil)) q) (fun w s' z => ?_) fun _ _ e => e)
  obtain ⟨b, rfl, z2⟩ := blk_is z
  exact wpAny_truthy_bool z2
/-- len(x) of an instance -/
def rLenI (K : PySem.W.Frag) (f : Addr) (sp : Sp) (E : XK) : List V → Hp → VK → Prop := fun xs H Q => ∃ a C dx fs, xs = [.ref a] ∧ H a = some (.ins C dx fs) ∧ Meth K C "__len__" f ∧ sp xs H (fun z H' => ∃ n : Nat, z = .int n ∧ n < 2 ^ 63 ∧ Q (.int n) H') E
theorem call_lenI (F : FnOk X.prog X.w X.K X.mg X.base CX k f fd ps sp) (hr : Room (k + 1) X.A) (hb : Binds X.K fd ps []) (hx : Passes CX X E) : CallR X (.builtin "len") (rLenI X.K f sp E) := by
  intro pins s σ H xs us Q I r h
  obtain ⟨a, C, dx, fs, rfl, ha, M, q⟩ := h
  obtain ⟨u, rfl, ru⟩ := r.one
  cases (show u = Value.ref a from ru)
  obtain ⟨mA, O, _⟩ := ins_get I.hok ha
  obtain ⟨od, J, _⟩ := O.look
  obtain ⟨m, hF⟩ := I.fr
  refine PySem.W.len_K hF I.ok.mod.kin J M.at_ M.fn (wpAny_mono (run_in (us := [.ref a]) (vs := [.ref a]) F hr hb hx I (.cons rfl .nil) q) (fun w s' z => ?_) fun _ _ e => e)
  obtain ⟨z', H', I', rz, n, rfl, hn, qz⟩ := z
  obtain ⟨t, e⟩ := (show ∃ t, w = Value.int n t from rz)
  subst e
  exact ⟨⟨by omega, by exact_mod_cast hn⟩, .int n, H', I'.tok _, ⟨_, rfl⟩, qz⟩
/-- a class whose == is a def at f, its != object's -/
structure CmpC (K : PySem.W.Frag) (C f : Addr) : Prop where
  eq : Meth K C "__eq__" f
  ne : PySem.W.findIn K (.ref C) "__ne__" = some (some (.builtin "object.__ne__"))
  ob : PySem.W.mroIn K C (.type "object") = some true
/-- x == y, x != y of instances -/
def rCmpI (K : PySem.W.Frag) (f : Addr) (sp : Sp) (E : XK) (g : Bool → Bool) : R2 := fun x y H Q => ∃ a C dx fs b C' dy gs, x = .ref a ∧ y = .ref b ∧ H a = some (.ins C dx fs) ∧ H b = some (.ins C' dy gs) ∧
  ((CmpC K C f ∧ PySem.W.notFirst K C (.ref C') = true ∧ sp [x, y] H (BlK Q g) E) ∨ (CmpC K C' f ∧ C' ≠ C ∧ PySem.W.subIn K (.ref C') (.ref C) = some true ∧ sp [y, x] H (BlK Q g) E))
theorem op_eqI (F : FnOk X.prog X.w X.K X.mg X.base CX k f fd ps sp) (hr : Room k X.A) (hb : Binds X.K fd ps []) (hx : Passes CX X E) : OpR X (compareOp .Eq) (rCmpI X.K f sp E id) := by
  intro pins s σ H x y v u Q I rx ry h
  obtain ⟨a, C, dx, fs, b, C', dy, gs, rfl, rfl, ha, hb', q⟩ := h
  cases (show v = Value.ref a from rx)
  cases (show u = Value.ref b from ry)
  obtain ⟨mA, O, _⟩ := ins_get I.hok ha
  obtain ⟨od, J, _⟩ := O.look
  obtain ⟨mB, O', _⟩ := ins_get I.hok hb'
  obtain ⟨od', J', _⟩ := O'.look
  show wpAny _ _ (richCompare .Eq _ _) _ _ _
  rcases q with ⟨c, hn, q⟩ | ⟨c, hne, hs, q⟩
  · refine OwnOp.rich_own (op := .Eq) hr.units0 I.kIn J J'.type hn (OwnOp.ask_own I.kIn J c.eq.at_ c.eq.fn (wpAny_mono (run_fn (us := [.ref a, .ref b]) (vs := [.ref a, .ref b]) F hr hb (ds := []) (dvs := []) .nil hx I (.cons rfl (.cons rfl .nil)) q) (fun w s' z => ?_) fun _ _ e => e))
    obtain ⟨t, rfl, z2⟩ := blk_is z
    exact ⟨t, rfl, _, rfl, z2⟩
  · refine OwnOp.rich_back (op := .Eq) hr.units0 I.kIn J J' hne hs (OwnOp.ask_own I.kIn J' c.eq.at_ c.eq.fn (wpAny_mono (run_fn (us := [.ref b, .ref a]) (vs := [.ref b, .ref a]) F hr hb (ds := []) (dvs := []) .nil hx I (.cons rfl (.cons rfl .nil)) q) (fun w s' z => ?_) fun _ _ e => e))
    obtain ⟨t, rfl, z2⟩ := blk_is z
    exact ⟨t, rfl, _, rfl, z2⟩
theorem op_neI (F : FnOk X.prog X.w X.K X.mg X.base CX k f fd ps sp) (hr : Room (k + 1) X.A) (hb : Binds X.K fd ps []) (hx : Passes CX X E) : OpR X (compareOp .NotEq) (rCmpI X.K f sp E not) := by
  intro pins s σ H x y v u Q I rx ry h
  obtain ⟨a, C, dx, fs, b, C', dy, gs, rfl, rfl, ha, hb', q⟩ := h
  cases (show v = Value.ref a from rx)
  cases (show u = Value.ref b from ry)
  obtain ⟨mA, O, _⟩ := ins_get I.hok ha
  obtain ⟨od, J, _⟩ := O.look
  obtain ⟨mB, O', _⟩ := ins_get I.hok hb'
  obtain ⟨od', J', _⟩ := O'.look
  have hu : X.A.units + 1 < cLine := hu_of hr
  show wpAny _ _ (richCompare .NotEq _ _) _ _ _
  rcases q with ⟨c, hn, q⟩ | ⟨c, hne, hs, q⟩
  · refine OwnOp.rich_own (op := .NotEq) hr.units0 I.kIn J J'.type hn (OwnOp.ask_ne hu I.kIn J c.ne c.eq.at_ c.eq.fn c.ob (wpAny_mono (run_in (us := [.ref a, .ref b]) (vs := [.ref a, .ref b]) F hr hb hx I (.cons rfl (.cons rfl .nil)) q) (fun w s' z => ?_) fun _ _ e => e))
    obtain ⟨t, rfl, z2⟩ := blk_is z
    exact ⟨t, rfl, _, rfl, z2⟩
  · refine OwnOp.rich_back (op := .NotEq) hr.units0 I.kIn J J' hne hs (OwnOp.ask_ne hu I.kIn J' c.ne c.eq.at_ c.eq.fn c.ob (wpAny_mono (run_in (us := [.ref b, .ref a]) (vs := [.ref b, .ref a]) F hr hb hx I (.cons rfl (.cons rfl .nil)) q) (fun w s' z => ?_) fun _ _ e => e))
    obtain ⟨t, rfl, z2⟩ := blk_is z
    exact ⟨t, rfl, _, rfl, z2⟩
end
end L2


set_option Elab.async false
set_option linter.all false
set_option maxRecDepth 100000
set_option maxHeartbeats 4000000
/-! C.m(self, ..): a def read off its class -/
namespace L2
open PySem PySem.Spec PyProof.Rows ClX
/-- C.m is the def at f -/
structure CFn (K : PySem.W.Frag) (C : Addr) (mc : Value) (m : Str) (f : Addr) : Prop where
  rd : CRead K C mc
  at_ : PySem.W.findCls K (.ref C) mc m = some (.val (.ref f))
  kp : PySem.W.keepIn K (.ref f) = true
def tCFn (C : Addr) (sp : Sp) (E : XK) (ta : TE) (t : TA) : TE := fun σ H Q => ta σ H fun x H1 => x = .ref C ∧ t σ H1 fun vs H2 => sp vs H2 Q E
section
variable {X : Cx} {CX : CXT} {k : Nat} {f C : Addr} {mc : Value} {fd : FuncData} {ps : List Str} {sp : Sp} {E : XK} {m : Str} {pos apos : Pos} {e o : Expr} {es : List Expr} {ta : TE} {t : TA}
theorem pe_clsfn {pl : Sem Bool} (he : PE X o ta) (c : CFn X.K C mc m f) (F : FnOk X.prog X.w X.K X.mg X.base CX k f fd ps sp) (hr : Room k X.A) (hb : Binds X.K fd ps []) (hx : Passes CX X E) (ha : PA X (e :: es) t)
    (hst : starEach (e :: es) X.env = (false, eval e X.env) :: starEach es X.env := by rfl) (hpl : (backTo pos (starEach es X.env)).any (·.1) = false := by rfl)
    (ht : eval (.Call (.Attribute o m apos) (e :: es) [] pos) X.env = (do
      let ov ← eval o X.env
      standAt apos.atName
      let (g, first) ← holding [ov] (getMethod ov m pl)
      callWith pos g first (backTo pos (starEach (e :: es) X.env)) (backToKw pos (keywordEach [] X.env))) := by rfl) :
    PE X (.Call (.Attribute o m apos) (e :: es) [] pos) (tCFn C sp E ta t) := by
  refine ⟨fun pins s σ H Q I h => PySem.W.methodCall_KW (pl := pl) (thn (he.run pins s σ H _ I h) fun u s1 hh => ?_) ht⟩
  obtain ⟨x, H1, I1, rx, ex, q⟩ := hh
  subst ex
  obtain rfl : u = Value.ref C := rx
  refine PySem.W.method_cls I1.kIn c.rd.ga (PySem.W.cls_value I1.kIn c.rd.rd c.at_ (handed_of (v := .ref f) (u := .ref f) rfl) ?_)
  refine PySem.W.callWith_K (first := []) (h₀ := X.base) I1.ok.mod.kin c.kp (thn (ha.run pos pins _ σ H1 _ (I1.tok _) q) fun us s2 hz => ?_) hst hpl
  obtain ⟨vs, H2, I2, r, q2⟩ := hz
  exact ⟨I2.kIn, run_fn F hr hb (ds := []) (dvs := []) .nil hx I2 r (by rw [List.append_nil]; exact q2)⟩
end
end L2


set_option Elab.async false
set_option linter.all false
set_option maxRecDepth 100000
set_option maxHeartbeats 4000000
/-! comprehensions over any walk -/
namespace L2
open PySem PySem.Spec PyProof.Rows
section
variable {J : It} {n : Nat} {G : Hp → Prop} {Y : Nat → Hp → V → Hp → Prop} {g : TG} {te tk tv : TE} {vs : List Nat} {σ : St} {H1 : Hp} {Q : VK}
theorem map_more {α : Type} (v : Nat → α) (i : Nat) : (List.range (i + 1)).map v = (List.range i).map v ++ [v i] := by rw [List.range_succ, List.map_append]; rfl
theorem same_mut {H H' : Hp} {D : Addr} {o : HO} (e : Same H H') (h : H D = none) : Same H (upd H' D o) := fun b u q => by rw [upd_ne (ne_of_none q h)]; exact e b u q
/-- [e for .. in ..] whose turns tell v i and leave what stands -/
theorem lc_walk (w : Walk J n G Y) (v : Nat → V) (hn : n ≤ 50000) (hG : ∀ H', Same H1 H' → G H') (hy : ∀ i H' x H2, Same H1 H' → Y i H' x H2 → Same H' H2)
    (hs : ∀ i x H' H2, i < n → Same H1 H' → Y i H' x H2 → ∀ R : VK, (∀ H4, Same H2 H4 → R (v i) H4) → g x (wipe σ vs) H2 fun σ2 H3 => wipe σ2 vs = wipe σ vs ∧ te σ2 H3 R)
    (hg : ∀ x H2 (N M : St → Hp → Prop), (∀ σ2 H3, N σ2 H3 → M σ2 H3) → g x (wipe σ vs) H2 N → g x (wipe σ vs) H2 M)
    (q : ∀ D H', H1 D = none → Same H1 H' → H' D = some (.lst ((List.range n).map v)) → Q (.ref D) H') :
    ∀ D, H1 D = none → ∃ W : Nat → Nat → Hp → Prop, (∃ m, W 0 m (upd H1 D (.lst []))) ∧ ∀ i m H, W i m H →
      ((J.stop i H ∧ Q (.ref D) H) ∨ (J.go i H ∧ ∃ Nx : Hp → Prop, (∀ H', Nx H' → ∃ m', m' < m ∧ W (i + 1) m' H') ∧ ∀ x H', J.yld i H x H' → g x (wipe σ vs) H' fun σ2 H2 => wipe σ2 vs = wipe σ vs ∧ tYes σ2 H2 fun b H3 =>
        if b = true then te σ2 H3 fun y H4 => ∃ acc, H4 D = some (.lst acc) ∧ acc.length < sizeLine ∧ Nx (upd H4 D (.lst (acc ++ [y]))) else Nx H3)) := fun D hD => by
  refine lc_it w (tt := tYes) (Pv := fun i H' => Same H1 H' ∧ H' D = some (.lst ((List.range i).map v))) ⟨same_upd hD, upd_same⟩ (fun i H' _ p => hG H' p.1) (fun i x H' H2 hi p y => ?_) (fun H' p => q D H' hD p.1 p.2)
  refine hg x H2 _ _ ?_ (hs i x H' H2 hi p.1 y (fun y' H4 => ∃ acc, H4 D = some (.lst acc) ∧ acc.length < sizeLine ∧ Same H1 (upd H4 D (.lst (acc ++ [y']))) ∧ (upd H4 D (.lst (acc ++ [y']))) D = some (.lst ((List.range (i + 1)).map v))) fun H4 e4 => ?_)
  · exact fun σ2 H3 z => ⟨z.1, by unfold tYes; dsimp only; rw [if_pos rfl]; exact z.2⟩
  refine ⟨_, e4 _ _ (hy i H' x H2 p.1 y _ _ p.2), by rw [List.length_map, List.length_range, sizeLine_eq]; omega, same_mut ((p.1.trans (hy i H' x H2 p.1 y)).trans e4) hD, ?_⟩
  rw [map_more]
  exact upd_same
/-- the same, of the whole comprehension -/
theorem lc_use {wi : TI} {H : Hp} (v : Nat → V) (hl : ∀ R : It → Hp → Prop, R J H1 → wi σ H R) (w : Walk J n G Y) (hn : n ≤ 50000) (hG : ∀ H', Same H1 H' → G H') (hy : ∀ i H' x H2, Same H1 H' → Y i H' x H2 → Same H' H2)
    (hs : ∀ i x H' H2, i < n → Same H1 H' → Y i H' x H2 → ∀ R : VK, (∀ H4, Same H2 H4 → R (v i) H4) → g x (wipe σ vs) H2 fun σ2 H3 => wipe σ2 vs = wipe σ vs ∧ te σ2 H3 R)
    (hg : ∀ x H2 (N M : St → Hp → Prop), (∀ σ2 H3, N σ2 H3 → M σ2 H3) → g x (wipe σ vs) H2 N → g x (wipe σ vs) H2 M)
    (q : ∀ D H', H1 D = none → Same H1 H' → H' D = some (.lst ((List.range n).map v)) → Q (.ref D) H') : tLc wi g tYes te vs σ H Q := hl _ (lc_walk w v hn hG hy hs hg q)
/-- {k: v for ..} whose turns tell k i and v i, the keys all unlike -/
theorem dc_walk (w : Walk J n G Y) (k : Nat → Key) (v : Nat → V) (hn : n ≤ 50000) (hk : ∀ i j, i < n → j < n → k i = k j → i = j) (hG : ∀ H', Same H1 H' → G H') (hy : ∀ i H' x H2, Same H1 H' → Y i H' x H2 → Same H' H2)
    (hs : ∀ i x H' H2, i < n → Same H1 H' → Y i H' x H2 → ∀ R : V → V → Hp → Prop, (∀ H4, Same H2 H4 → R (kV (k i)) (v i) H4) → g x (wipe σ vs) H2 fun σ2 H3 => wipe σ2 vs = wipe σ vs ∧ tk σ2 H3 fun y H4 => tv σ2 H4 fun z H5 => R y z H5)
    (hg : ∀ x H2 (N M : St → Hp → Prop), (∀ σ2 H3, N σ2 H3 → M σ2 H3) → g x (wipe σ vs) H2 N → g x (wipe σ vs) H2 M)
    (q : ∀ D H', H1 D = none → Same H1 H' → H' D = some (.dK ((List.range n).map fun i => (k i, v i))) → Q (.ref D) H') :
    ∀ D, H1 D = none → ∃ W : Nat → Nat → Hp → Prop, (∃ m, W 0 m (upd H1 D (.dK []))) ∧ ∀ i m H, W i m H →
      ((J.stop i H ∧ Q (.ref D) H) ∨ (J.go i H ∧ ∃ Nx : Hp → Prop, (∀ H', Nx H' → ∃ m', m' < m ∧ W (i + 1) m' H') ∧ ∀ x H', J.yld i H x H' → g x (wipe σ vs) H' fun σ2 H2 => wipe σ2 vs = wipe σ vs ∧ tYes σ2 H2 fun b H3 =>
        if b = true then tk σ2 H3 fun y H4 => tv σ2 H4 fun z H5 => ∃ kvs k, y = kV k ∧ H5 D = some (.dK kvs) ∧ kvs.length < sizeLine ∧ Nx (upd H5 D (.dK (putK kvs k z))) else Nx H3)) := fun D hD => by
  refine ⟨fun i m H' => m = n - i ∧ i ≤ n ∧ Same H1 H' ∧ H' D = some (.dK ((List.range i).map fun i => (k i, v i))), ⟨n, by simp, Nat.zero_le _, same_upd hD, upd_same⟩, ?_⟩
  rintro i m H' ⟨rfl, hi, s, d⟩
  by_cases hlt : i < n
  · refine .inr ⟨w.goes i H' hlt (hG H' s), fun H2 => Same H1 H2 ∧ H2 D = some (.dK ((List.range (i + 1)).map fun i => (k i, v i))), fun H2 p => ⟨n - (i + 1), by omega, rfl, hlt, p⟩, fun x H2 y => ?_⟩
    have y' := w.yields i H' x H2 hlt (hG H' s) y
    refine hg x H2 _ _ ?_ (hs i x H' H2 hlt s y' (fun y z H5 => ∃ kvs k', y = kV k' ∧ H5 D = some (.dK kvs) ∧ kvs.length < sizeLine ∧ Same H1 (upd H5 D (.dK (putK kvs k' z))) ∧ (upd H5 D (.dK (putK kvs k' z))) D = some (.dK ((List.range (i + 1)).map fun i => (k i, v i)))) fun H4 e4 => ?_)
    · exact fun σ2 H3 z => ⟨z.1, by unfold tYes; dsimp only; rw [if_pos rfl]; exact z.2⟩
    refine ⟨_, k i, rfl, e4 _ _ (hy i H' x H2 s y' _ _ d), by rw [List.length_map, List.length_range, sizeLine_eq]; omega, same_mut ((s.trans (hy i H' x H2 s y')).trans e4) hD, ?_⟩
    rw [upd_same, putK_new, map_more]
    unfold valV
    rw [List.find?_eq_none.mpr]
    · rfl
    · intro p hp
      obtain ⟨j, hj, rfl⟩ := List.mem_map.mp hp
      rw [List.mem_range] at hj
      simp only [decide_eq_true_eq]
      intro e
      have := hk j i (by omega) hlt e
      omega
  · have e : i = n := by omega
    subst e
    exact .inl ⟨w.stops H' (hG H' s), q D H' hD s d⟩
theorem dc_use {wi : TI} {H : Hp} (k : Nat → Key) (v : Nat → V) (hl : ∀ R : It → Hp → Prop, R J H1 → wi σ H R) (w : Walk J n G Y) (hn : n ≤ 50000) (hk : ∀ i j, i < n → j < n → k i = k j → i = j) (hG : ∀ H', Same H1 H' → G H') (hy : ∀ i H' x H2, Same H1 H' → Y i H' x H2 → Same H' H2)
    (hs : ∀ i x H' H2, i < n → Same H1 H' → Y i H' x H2 → ∀ R : V → V → Hp → Prop, (∀ H4, Same H2 H4 → R (kV (k i)) (v i) H4) → g x (wipe σ vs) H2 fun σ2 H3 => wipe σ2 vs = wipe σ vs ∧ tk σ2 H3 fun y H4 => tv σ2 H4 fun z H5 => R y z H5)
    (hg : ∀ x H2 (N M : St → Hp → Prop), (∀ σ2 H3, N σ2 H3 → M σ2 H3) → g x (wipe σ vs) H2 N → g x (wipe σ vs) H2 M)
    (q : ∀ D H', H1 D = none → Same H1 H' → H' D = some (.dK ((List.range n).map fun i => (k i, v i))) → Q (.ref D) H') : tDc wi g tYes tk tv vs σ H Q := hl _ (dc_walk w k v hn hk hG hy hs hg q)
end
theorem gn_mono {j : Nat} {x : V} {σ : St} {H2 : Hp} {N M : St → Hp → Prop} (h : ∀ σ2 H3, N σ2 H3 → M σ2 H3) (z : gName j x σ H2 N) : gName j x σ H2 M := h _ _ z
end L2


set_option Elab.async false
set_option linter.all false
set_option maxRecDepth 100000
set_option maxHeartbeats 4000000
/-! comprehensions over any walk whose items, or values, are new objects -/
namespace L2
open PySem PySem.Spec PyProof.Rows
section
variable {J : It} {n : Nat} {G : Hp → Prop} {Y : Nat → Hp → V → Hp → Prop} {g : TG} {te tk tv : TE} {vs : List Nat} {σ : St} {H1 : Hp} {Q : VK} {D : Addr}
/-- the new objects so far, all but D -/
structure News (H1 : Hp) (D : Addr) (ob : Nat → HO) (i : Nat) (ps : List Addr) (H' : Hp) : Prop where
  len : ps.length = i
  at_ : ∀ (j : Nat) p, ps[j]? = some p → p ≠ D ∧ H1 p = none ∧ H' p = some (ob j)
  same : Same H1 H'
theorem News.more {ob : Nat → HO} {i : Nat} {ps : List Addr} {H' H2 : Hp} {p : Addr} {o o' : HO} (m : News H1 D ob i ps H') (hD : H1 D = none) (d : H' D = some o') (e : Same H' H2) (np : H' p = none) (hp : H2 p = some (ob i)) : News H1 D ob (i + 1) (ps ++ [p]) (upd H2 D o) := by
  have npD : p ≠ D := fun z => by rw [z, d] at np; cases np
  have n1 : H1 p = none := m.same.free np
  refine ⟨by rw [List.length_append, m.len]; rfl, fun j q hq => ?_, same_mut (m.same.trans e) hD⟩
  by_cases c : j < ps.length
  · rw [List.getElem?_append_left c] at hq
    obtain ⟨z1, z2, z3⟩ := m.at_ j q hq
    exact ⟨z1, z2, by rw [upd_ne z1]; exact e _ _ z3⟩
  · rw [List.getElem?_append_right (by omega)] at hq
    have j0 : j = i := by
      by_cases c2 : j - ps.length = 0
      · have := m.len
        omega
      · have : ([p] : List Addr)[j - ps.length]? = none := List.getElem?_eq_none (by show 1 ≤ _; omega)
        rw [this] at hq
        cases hq
    subst j0
    rw [m.len, Nat.sub_self] at hq
    obtain rfl : p = q := Option.some.inj hq
    exact ⟨npD, n1, by rw [upd_ne npD]; exact hp⟩
theorem lc_new {wi : TI} {H : Hp} (ob : Nat → HO) (hl : ∀ R : It → Hp → Prop, R J H1 → wi σ H R) (w : Walk J n G Y) (hn : n ≤ 50000) (hG : ∀ H', Same H1 H' → G H') (hy : ∀ i H' x H2, Same H1 H' → Y i H' x H2 → Same H' H2)
    (hs : ∀ i x H' H2, i < n → Same H1 H' → Y i H' x H2 → ∀ R : VK, (∀ p H5, H2 p = none → Same H2 H5 → H5 p = some (ob i) → R (.ref p) H5) → g x (wipe σ vs) H2 fun σ2 H3 => wipe σ2 vs = wipe σ vs ∧ te σ2 H3 R)
    (hg : ∀ x H2 (N M : St → Hp → Prop), (∀ σ2 H3, N σ2 H3 → M σ2 H3) → g x (wipe σ vs) H2 N → g x (wipe σ vs) H2 M)
    (q : ∀ D H' (ps : List Addr), H1 D = none → Same H1 H' → ps.length = n → H' D = some (.lst (ps.map V.ref)) → (∀ (j : Nat) p, ps[j]? = some p → H1 p = none ∧ H' p = some (ob j)) → Q (.ref D) H') : tLc wi g tYes te vs σ H Q := hl _ fun D hD => by
  refine lc_it w (tt := tYes) (Pv := fun i H' => ∃ ps, News H1 D ob i ps H' ∧ H' D = some (.lst (ps.map V.ref))) ⟨[], ⟨rfl, fun j p h => by simp at h, same_upd hD⟩, upd_same⟩ (fun i H' _ p => p.elim fun _ z => hG H' z.1.same) (fun i x H' H2 hi p y => ?_) (fun H' p => ?_)
  · obtain ⟨ps, m, d⟩ := p
    have e2 := hy i H' x H2 m.same y
    refine hg x H2 _ _ ?_ (hs i x H' H2 hi m.same y (fun y' H4 => ∃ acc, H4 D = some (.lst acc) ∧ acc.length < sizeLine ∧ ∃ ps, News H1 D ob (i + 1) ps (upd H4 D (.lst (acc ++ [y']))) ∧ (upd H4 D (.lst (acc ++ [y']))) D = some (.lst (ps.map V.ref))) fun p H5 np e5 hp => ?_)
    · exact fun σ2 H3 z => ⟨z.1, by unfold tYes; dsimp only; rw [if_pos rfl]; exact z.2⟩
    have np' : H' p = none := e2.free np
    refine ⟨_, e5 _ _ (e2 _ _ d), by rw [List.length_map, m.len, sizeLine_eq]; omega, ps ++ [p], m.more hD d (e2.trans e5) np' hp, ?_⟩
    rw [List.map_append]
    exact upd_same
  · obtain ⟨ps, m, d⟩ := p
    exact q D H' ps hD m.same m.len d fun j p h => (m.at_ j p h).2
theorem dc_new {wi : TI} {H : Hp} (k : Nat → Key) (ob : Nat → HO) (hl : ∀ R : It → Hp → Prop, R J H1 → wi σ H R) (w : Walk J n G Y) (hn : n ≤ 50000) (hk : ∀ i j, i < n → j < n → k i = k j → i = j) (hG : ∀ H', Same H1 H' → G H') (hy : ∀ i H' x H2, Same H1 H' → Y i H' x H2 → Same H' H2)
    (hs : ∀ i x H' H2, i < n → Same H1 H' → Y i H' x H2 → ∀ R : V → V → Hp → Prop, (∀ p H5, H2 p = none → Same H2 H5 → H5 p = some (ob i) → R (kV (k i)) (.ref p) H5) → g x (wipe σ vs) H2 fun σ2 H3 => wipe σ2 vs = wipe σ vs ∧ tk σ2 H3 fun y H4 => tv σ2 H4 fun z H5 => R y z H5)
    (hg : ∀ x H2 (N M : St → Hp → Prop), (∀ σ2 H3, N σ2 H3 → M σ2 H3) → g x (wipe σ vs) H2 N → g x (wipe σ vs) H2 M)
    (q : ∀ D H' (ps : List Addr), H1 D = none → Same H1 H' → ps.length = n → H' D = some (.dK ((List.range n).map fun i => (k i, V.ref (ps.getD i 0)))) → (∀ (j : Nat) p, ps[j]? = some p → H1 p = none ∧ H' p = some (ob j)) → Q (.ref D) H') : tDc wi g tYes tk tv vs σ H Q := hl _ fun D hD => by
  refine ⟨fun i m H' => m = n - i ∧ i ≤ n ∧ ∃ ps, News H1 D ob i ps H' ∧ H' D = some (.dK ((List.range i).map fun i => (k i, V.ref (ps.getD i 0)))), ⟨n, by simp, Nat.zero_le _, [], ⟨rfl, fun j p h => by simp at h, same_upd hD⟩, upd_same⟩, ?_⟩
  rintro i m H' ⟨rfl, hi, ps, m, d⟩
  by_cases hlt : i < n
  · refine .inr ⟨w.goes i H' hlt (hG H' m.same), fun H2 => ∃ ps, News H1 D ob (i + 1) ps H2 ∧ H2 D = some (.dK ((List.range (i + 1)).map fun i => (k i, V.ref (ps.getD i 0)))), fun H2 p => ⟨n - (i + 1), by omega, rfl, hlt, p⟩, fun x H2 y => ?_⟩
    have y' := w.yields i H' x H2 hlt (hG H' m.same) y
    have e2 := hy i H' x H2 m.same y'
    refine hg x H2 _ _ ?_ (hs i x H' H2 hlt m.same y' (fun y z H5 => ∃ kvs k', y = kV k' ∧ H5 D = some (.dK kvs) ∧ kvs.length < sizeLine ∧ ∃ ps, News H1 D ob (i + 1) ps (upd H5 D (.dK (putK kvs k' z))) ∧ (upd H5 D (.dK (putK kvs k' z))) D = some (.dK ((List.range (i + 1)).map fun i => (k i, V.ref (ps.getD i 0))))) fun p H5 np e5 hp => ?_)
    · exact fun σ2 H3 z => ⟨z.1, by unfold tYes; dsimp only; rw [if_pos rfl]; exact z.2⟩
    have np' : H' p = none := e2.free np
    refine ⟨_, k i, rfl, e5 _ _ (e2 _ _ d), by rw [List.length_map, List.length_range, sizeLine_eq]; omega, ps ++ [p], m.more hD d (e2.trans e5) np' hp, ?_⟩
    rw [upd_same, putK_new, map_more]
    · have old : ((List.range i).map fun j => (k j, V.ref ((ps ++ [p]).getD j 0))) = (List.range i).map fun j => (k j, V.ref (ps.getD j 0)) := by
        refine List.map_congr_left fun j hj => ?_
        rw [List.mem_range] at hj
        rw [List.getD_eq_getElem?_getD, List.getD_eq_getElem?_getD, List.getElem?_append_left (by rw [m.len]; exact hj)]
      have new : (ps ++ [p]).getD i 0 = p := by
        rw [List.getD_eq_getElem?_getD, List.getElem?_append_right (by rw [m.len]; exact Nat.le_refl _), m.len, Nat.sub_self]
        rfl
      rw [old, new]
    · unfold valV
      rw [List.find?_eq_none.mpr]
      · rfl
      · intro z hz
        obtain ⟨j, hj, rfl⟩ := List.mem_map.mp hz
        rw [List.mem_range] at hj
        simp only [decide_eq_true_eq]
        intro e
        have := hk j i (by omega) hlt e
        omega
  · have e : i = n := by omega
    subst e
    exact .inl ⟨w.stops H' (hG H' m.same), q D H' ps hD m.same m.len d fun j p h => (m.at_ j p h).2⟩
end
end L2


set_option Elab.async false
set_option linter.all false
set_option maxRecDepth 100000
set_option maxHeartbeats 4000000
/-! set(xs), xs a list or tuple of unlike keys -/
namespace OwnSet
open PySem PySem.Spec PyProof.Rows
section
variable {Kt : Type} [DecidableEq Kt] {prog : Program} {w : World} {A : Around} {R : Result → Shared → Prop} {I : Addr} {fp wr : List Addr} {G : Array GenState → Array GenState → Prop} {n : Nat} {P : Nat → Value → Prop} {St : Nat → Shared → Prop}
theorem setOf_of {knd : KeyKind prog w Kt} {h h2 : Heap} {S : Addr} {f : Kt → Bool} {m : Nat} (hS : h.SetOf knd S f m) (k : ∀ o, h.get? S = some o → h2.get? S = some o) : h2.SetOf knd S f m := hS.elim fun o q => q.elim fun es q => q.elim fun ep q => q.elim fun t q => ⟨o, es, ep, t, k o q.1, q.2⟩
/-- what is still to come is put in, one by one -/
theorem fill (knd : KeyKind prog w Kt) (W : WalksS prog w A.in1 I fp wr G n P St) (S : Addr) (hSf : S ∉ fp) (ks : List Kt) (hl : ks.length = n) (nd : ks.Nodup) (hb : n + 1 < scanBound)
    (hv : ∀ i v, P i v → ∃ k, ks[i]? = some k ∧ knd.is k v = true ∧ v.scannable = true) :
    ∀ (j i : Nat) (sh : Shared), i + j = n → St i sh → sh.heap.SetOf knd S (fun k => decide (k ∈ ks.take i)) i →
      (∀ sh', Moved (S :: wr) G sh sh' → sh'.heap.SetOf knd S (fun k => decide (k ∈ ks)) n → R (.ok (.ret .none)) sh') → codeAny (model prog w) A (.builtin "set.update.loop" ⟨[.ref S, .ref I], []⟩) R sh
  | 0, i, sh, hij, hst, hS, last => by
    obtain rfl : i = n := hij
    have away : S ∉ wr := fun z => hSf (W.sub S z)
    rw [← hl, List.take_length] at hS
    refine codeAny_builtin F.entry_set_update_loop ?_
    rw [Around.under_plainId F.plain_set_update_loop _]
    refine wpAny_bind (m := pyNext (.ref I)) (W.done sh _ _ hst fun sh' mv => ?_)
    refine wpAny_pure (last sh' (mv.mono fun b z => .tail S z) ?_)
    rw [← hl]
    exact setOf_of hS fun o e => mv.heap S o away e
  | j + 1, i, sh, hij, hst, hS, last => by
    have away : S ∉ wr := fun z => hSf (W.sub S z)
    refine codeAny_builtin F.entry_set_update_loop ?_
    rw [Around.under_plainId F.plain_set_update_loop _]
    refine wpAny_bind (m := pyNext (.ref I)) (W.item i sh _ _ (by omega) hst fun v sh' hP hst' mv => ?_)
    obtain ⟨k, hk, is, sc⟩ := hv i v hP
    have hS' := setOf_of hS fun o e => mv.heap S o away e
    show wpAny _ A.in1 (holding [v] (setAdd S v) >>= _) _ _ sh'
    refine wpAny_bind (wpAny_holding ?_)
    unfold setAdd
    refine wpAny_holding (wpAny_bind (knd.pyHash is (wpAny_setAddHashed_of (knd := knd) (s := { sh' with toks := sh'.toks + 1 }) is sc hS' (by omega) fun h2 sb hS2 => ?_)))
    have fresh : decide (k ∈ ks.take i) = false := by
      refine decide_eq_false fun z => ?_
      obtain ⟨m, hm, em⟩ := List.mem_iff_getElem.mp z
      rw [List.length_take] at hm
      rw [List.getElem_take] at em
      have hi : i < ks.length := by omega
      have e2 : ks[i] = k := by rw [List.getElem?_eq_getElem hi] at hk; exact Option.some.inj hk
      exact List.pairwise_iff_getElem.mp nd m i (by omega) hi (by omega) (em.trans e2.symm)
    rw [fresh] at hS2
    have next : h2.SetOf knd S (fun k => decide (k ∈ ks.take (i + 1))) (i + 1) := by
      refine SetOf_congr hS2 (fun k' => ?_) (by simp)
      have hi : i < ks.length := by omega
      have e2 : ks[i] = k := by rw [List.getElem?_eq_getElem hi] at hk; exact Option.some.inj hk
      rw [List.take_add_one, List.getElem?_eq_getElem hi, e2]
      simp
    refine wpAny_pure ⟨plainId_quiet F.plain_set_update_loop _, fill knd W S hSf ks hl nd hb hv j (i + 1) _ (by omega) (W.frame _ sh' _ _ hst' (Nat.le_succ _) fun b z o e => ?_) next fun sh2 mv2 hS3 => ?_⟩
    · rw [sb.2 b fun q => hSf (q ▸ z)]
      exact e
    · refine last sh2 (Moved.trans W.gtrans ((mv.mono fun b z => .tail S z).then_heap (Nat.le_succ _) fun b o z e => ?_) mv2) hS3
      rw [sb.2 b fun q => z (q ▸ List.mem_cons_self)]
      exact e
end
/-- a set as set.__new__ lays it -/
abbrev bare (led : Bool) : Obj := { cls := .type "set", dict := none, data := .set #[] 0 (.fresh 0 0 led) }
section
variable {Kt : Type} [DecidableEq Kt] {prog : Program} {w : World} {A : Around} {E : Value → Shared → Prop} {s : Shared}
/-- set.__init__ of a bare set at S with a list at l -/
theorem init_list (knd : KeyKind prog w Kt) {led : Bool} {S l : Addr} {its : Array Value} {ks : List Kt} {T : Fin → Shared → Prop} (hh : A.handled = none) (hS : s.heap.get? S = some (bare led)) (hl : s.heap.IsList l its) (hne : S ≠ l) (hz : ks.length = its.size) (nd : ks.Nodup)
    (hb : ks.length + 1 < scanBound) (hv : ∀ (i : Nat) (v : Value), its[i]? = some v → ∃ k, ks[i]? = some k ∧ knd.is k v = true ∧ v.scannable = true)
    (h : ∀ h' tk, h'.SetOf knd S (fun k => decide (k ∈ ks)) ks.length → (∀ b o, b ≠ S → s.heap.get? b = some o → h'.get? b = some o) → T (.done (.ret .none)) { s with heap := h', toks := tk }) :
    wpAny (model prog w) A (Builtin.«set.__init__» ⟨[.ref S, .ref l], []⟩) T E s := by
  obtain ⟨ol, hol, hcl, nl, hdl⟩ := id hl
  obtain ⟨hp, g, d, tk, os⟩ := s
  obtain ⟨oc, od, odat, osl⟩ := ol
  dsimp only at hcl hdl
  subst hcl hdl
  have notSet := PySem.F.sub_list_set
  have notFrozen := PySem.F.sub_list_frozenset
  have notDict : (Value.type "list" == Value.type "dict") = false := by decide
  unfold Builtin.«set.__init__» noKeywords Builtin.Frozenset.updateFrom
  generalize hPI : pyIter = PI
  wp_walk
  subst hPI
  have hlt : l < hp.objs.size := Heap.lt_size hol
  have hSt : S < hp.objs.size := Heap.lt_size hS
  have h1 : A.in1.handled = none := by simp [hh]
  refine wpAny_pyIter_list hl (wpAny_bind (wpAny_runValue ?_))
  refine fill knd ((Walks.list h1 _ l (Nat.ne_of_lt hlt) its).toS) S ?_ ks hz nd (by rw [← hz]; exact hb) hv its.size 0 _ (Nat.zero_add _) ⟨⟨_, Heap.get?_push_size _ rfl, rfl, rfl⟩, hl.push _⟩ ?_ fun s2 mv hS2 => ?_
  · simp only [List.mem_cons, List.not_mem_nil, or_false, not_or]
    exact ⟨Nat.ne_of_lt hSt, hne⟩
  · exact SetOf_congr ((setObjOf_fresh (knd := knd) led).setOf (Heap.get?_push_of_some _ hS) (by omega)) (fun _ => by simp) rfl
  · obtain ⟨h2, g2, d2, tk2, os2⟩ := s2
    obtain rfl : g2 = g := mv.gens
    obtain rfl : d2 = d := mv.drawn
    obtain rfl : os2 = os := mv.os
    refine wpAny_pure (wpAny_pure (h h2 tk2 (by rw [hz]; exact hS2) fun b o nb e => mv.heap b o ?_ (Heap.get?_push_of_some _ e)))
    simp only [List.mem_cons, List.not_mem_nil, or_false, not_or]
    exact ⟨nb, Nat.ne_of_lt (Heap.lt_size e)⟩
/-- set(xs) of a list -/
theorem of_list (knd : KeyKind prog w Kt) {l : Addr} {its : Array Value} {ks : List Kt} {Q : Value → Shared → Prop} (hh : A.handled = none) (hl : s.heap.IsList l its) (hz : ks.length = its.size) (nd : ks.Nodup) (hb : ks.length + 1 < scanBound)
    (hv : ∀ (i : Nat) (v : Value), its[i]? = some v → ∃ k, ks[i]? = some k ∧ knd.is k v = true ∧ v.scannable = true)
    (h : ∀ h' tk, h'.SetOf knd s.heap.objs.size (fun k => decide (k ∈ ks)) ks.length → (∀ b o, s.heap.get? b = some o → h'.get? b = some o) → Q (.ref s.heap.objs.size) { s with heap := h', toks := tk }) :
    wpAny (model prog w) A (call (.type "set") [.ref l]) Q E s := by
  obtain ⟨c0, rest, line⟩ := PySem.F.called_set.mro
  have maker := PySem.F.called_set.made
  have under := PySem.F.called_set.sub
  refine wpAny_call (codeAny_of_tree (show wpAny _ _ (callAny (.type "set") _) _ _ _ from wpAny_pure ⟨Code.quiet_builtin _ (by decide +kernel), codeAny_builtin PySem.F.entry_type_call ?_⟩))
  rw [Around.under_plain (weight_type_call_type "set" [Value.ref l] []) rfl]
  have plain1 := PySem.F.called_set.notType
  have plain2 := PySem.F.called_set.canCreate
  have checked := PySem.F.typeCall_set_1 (.ref l)
  repeat (any_goals (first | assumption | wp_step))
  refine codeAny_mono (code_set_new_1 (prog := prog) (w := w) (s := s) (.ref l) (E := E) (Q₁ := fun ob s1 => ∃ led, ob = .ref s.heap.objs.size ∧ s1 = { s with heap := s.heap.push (bare led) }) fun led => ⟨led, rfl, rfl⟩) fun r s1 out => ?_
  match r with
  | .error e => exact out
  | .ok .next => exact out.elim
  | .ok .brk => exact out.elim
  | .ok .cont => exact out.elim
  | .ok (.ret ob) =>
    obtain ⟨led, rfl, rfl⟩ := out
    have at0 : (s.heap.push (bare led)).get? s.heap.objs.size = some (bare led) := Heap.get?_push_size _ rfl
    have ty0 : Shared.TypeIs { s with heap := s.heap.push (bare led) } (.ref s.heap.objs.size) "set" := ⟨_, at0, rfl⟩
    have find := PySem.F.called_set.init.lookup
    have bound := PySem.F.called_set.init.bind (.ref s.heap.objs.size)
    repeat (any_goals (first | assumption | wp_step))
    refine codeAny_mono (codeAny_call_builtin (R := wants (fun r s2 => r = .none ∧ Q (.ref s.heap.objs.size) s2) E) PySem.F.called_set.init.plain PySem.F.entry_set_init (check_set_init_1 ty0 ?_)) fun r2 s2 out2 => ?_
    · refine init_list knd (by simp [hh]) at0 (hl.push _) (Nat.ne_of_gt (hl.elim fun o q => Heap.lt_size q.1)) hz nd hb hv fun h2 tk2 hS keep => ⟨rfl, h h2 tk2 hS fun b o e => keep b o (Nat.ne_of_lt (Heap.lt_size e)) (Heap.get?_push_of_some _ e)⟩
    · match r2 with
      | .error e => exact out2
      | .ok .next => exact out2.elim
      | .ok .brk => exact out2.elim
      | .ok .cont => exact out2.elim
      | .ok (.ret r) =>
        obtain ⟨rfl, q⟩ := out2
        repeat (any_goals (first | assumption | wp_step))
end
end OwnSet


set_option Elab.async false
set_option linter.all false
set_option maxRecDepth 100000
set_option maxHeartbeats 4000000
/-! len(set(texts)) -/
namespace L2
open PySem PySem.Spec PyProof.Rows
def tLenKeys (K : PySem.W.Frag) (ta : TE) : TE := fun σ H Q => ta σ H fun x H1 => ∃ (l : Addr) (xs : List Str), x = .ref l ∧ SqL K H1 l (xs.map V.str) ∧ xs.Nodup ∧ xs.length ≤ 1000 ∧ Q (.int (xs.length : Nat)) H1
theorem nodup_inr {xs : List Str} (h : xs.Nodup) : (xs.map (Sum.inr : Str → Key)).Nodup := by
  unfold List.Nodup at h ⊢
  rw [List.pairwise_map]
  exact h.imp fun {a b} z e => z (Sum.inr.inj e)
theorem pe_lenKeys {X : Cx} {a : Expr} {ta : TE} {p p2 q pos : Pos} (hg : Gl X "len") (hm : X.mg "len" = none) (hg2 : Gl X "set") (hm2 : X.mg "set" = none) (ha : PE X a ta) (hc : X.calm = true := by rfl)
    (na : starEach [a] X.env = (false, eval a X.env) :: starEach [] X.env := by rfl) : PE X (.Call (.Name "len" p) [.Call (.Name "set" p2) [a] [] q] [] pos) (tLenKeys X.K ta) := by
  refine ⟨fun pins s σ H Q I h => Call_ (ld_blt I hg hm boot_len (callWith_builtin1 (args_cons (Call_ (ld_blt I hg2 hm2 boot_set (callWith_type1 (args_cons (thn (ha.run pins s σ H _ I h) fun v s1 hh => args_nil ?_) na) na rfl))) rfl) rfl rfl))⟩
  obtain ⟨x, H1, I1, r1, l, xs, rfl, hq, nd, hl, q1⟩ := hh
  obtain rfl : v = Value.ref l := r1
  obtain ⟨its, r, pl, hz⟩ := I1.list hq
  have hlen : its.length = xs.length := by rw [← r.length, List.length_map]
  refine OwnSet.of_list (mixKind X.prog X.w) (ks := xs.map Sum.inr) (I1.ok.hd hc) pl.isList (by rw [List.length_map, List.size_toArray, hlen]) (nodup_inr nd) (by rw [List.length_map]; unfold scanBound; omega) (fun i v hv => ?_) fun h2 tk2 hS keep => args_nil ?_
  · rw [List.getElem?_toArray] at hv
    have hi : i < xs.length := by rw [← hlen]; exact (List.getElem?_eq_some_iff.mp hv).1
    obtain ⟨u, hu, ru⟩ := r.get (i := i) (x := V.str xs[i]) (by rw [List.getElem?_map, List.getElem?_eq_getElem hi]; rfl)
    rw [hv] at hu
    obtain rfl : v = u := Option.some.inj hu
    obtain ⟨t, rfl⟩ := (show ∃ t, v = Value.str xs[i] t from ru)
    exact ⟨Sum.inr xs[i], by rw [List.getElem?_map, List.getElem?_eq_getElem hi]; rfl, mixKind_str _ _ _ _, rfl⟩
  · rw [List.length_map] at hS
    obtain ⟨o, es, ep, t, ho, hx, hd, _, _, _, hf, hn⟩ := hS
    have I2 : Inv X pins σ H1 { s1 with heap := h2, toks := tk2 } := I1.kept keep
    exact call_len_set ho hx hd hf (by rw [hn]; omega) ⟨.int (xs.length : Nat), H1, I2.tok _, ⟨_, by rw [hn]⟩, q1⟩
end L2


set_option Elab.async false
set_option linter.all false
set_option maxRecDepth 100000
set_option maxHeartbeats 4000000
/-! methods in one hand -/
namespace L2
open PySem PySem.Spec PyProof.Rows
/-- the class at C has the method m, which keeps sp -/
structure Mtd (P : Program) (w : World) (K : PySem.W.Frag) (mg : Str → Option Value) (base : Heap) (k : Nat) (C : Addr) (m : Str) (ps : List Str) (sp : Sp) : Prop where
  cl : Cls K C
  ex : ∃ f fd, Meth K C m f ∧ Binds K fd ps [] ∧ FnOk P w K mg base (L2.CX P w) k f fd ps sp
section
variable {X : Cx} {k : Nat} {C : Addr} {m : Str} {ps : List Str} {sp : Sp} {E : XK} {o e : Expr} {es : List Expr} {ta : TE} {t : TA} {apos pos : Pos} {pl : Sem Bool}
theorem pe_mtd (c : Mtd X.prog X.w X.K X.mg X.base k C m ps sp) (hr : Room k X.A) (he : PE X o ta) (ha : PA X (e :: es) t)
    (hst : starEach (e :: es) X.env = (false, eval e X.env) :: starEach es X.env := by rfl) (hpl : (backTo pos (starEach es X.env)).any (·.1) = false := by rfl)
    (ht : eval (.Call (.Attribute o m apos) (e :: es) [] pos) X.env = (do
      let ov ← eval o X.env
      standAt apos.atName
      let (g, first) ← holding [ov] (getMethod ov m pl)
      callWith pos g first (backTo pos (starEach (e :: es) X.env)) (backToKw pos (keywordEach [] X.env))) := by rfl) :
    PE X (.Call (.Attribute o m apos) (e :: es) [] pos) (tMeth C m sp [] E0 ta t) := by
  obtain ⟨f, fd, hm, hb, G⟩ := c.ex
  exact pe_meth he c.cl hm G hr hb .nil passL ha hst hpl ht
theorem pe_mtd0 (c : Mtd X.prog X.w X.K X.mg X.base k C m ps sp) (hr : Room k X.A) (he : PE X o ta)
    (ht : eval (.Call (.Attribute o m apos) [] [] pos) X.env = (do
      let ov ← eval o X.env
      standAt apos.atName
      let (g, first) ← holding [ov] (getMethod ov m pl)
      callWith pos g first (backTo pos (starEach [] X.env)) (backToKw pos (keywordEach [] X.env))) := by rfl) :
    PE X (.Call (.Attribute o m apos) [] [] pos) (tMeth C m sp [] E0 ta tNil) := by
  obtain ⟨f, fd, hm, hb, G⟩ := c.ex
  exact pe_meth0 he c.cl hm G hr hb .nil passL ht
end
end L2


set_option Elab.async false
set_option linter.all false
set_option maxRecDepth 100000
set_option maxHeartbeats 4000000
/-! a range held by a name; comprehensions with two for -/
namespace L2
open PySem PySem.Spec PyProof.Rows
section
variable {X : Cx} {tg e : Expr} {te : TE}
theorem cr_range1 : CallR X (.type "range") (fun vs H Q => ∃ j, vs = [V.int j] ∧ ∀ p, H p = none → Q (.ref p) (upd H p (.rng 0 j))) := by
  intro pins s σ H vs us Q I r h
  obtain ⟨j, rfl, q⟩ := h
  obtain ⟨u, rfl, ru⟩ := r.one
  obtain ⟨t, rfl⟩ := (show ∃ t, u = Value.int j t from ru)
  refine call_range_1 ⟨.ref s.heap.objs.size, upd H s.heap.objs.size (.rng 0 j), I.laid (fun b o z => Heap.get?_push_of_some _ z) (Nat.le_refl _) ?_, rfl, q _ (I.hok.fresh (Nat.le_refl _))⟩
  exact ⟨_, t, _, Heap.get?_push_size _ rfl⟩
/-- for .. in r, r a range object -/
def iRngV (te : TE) : TI := fun σ H R => te σ H fun v H1 => ∃ (a : Addr) (lo hi : Int), v = .ref a ∧ H1 a = some (.rng lo hi) ∧ (-(2 ^ 62) ≤ lo ∧ lo < 2 ^ 62 ∧ -(2 ^ 62) ≤ hi ∧ hi < 2 ^ 62) ∧ R (Itr lo (hi - lo).toNat) H1
theorem pi_rngV (he : PE X e te) : PI X tg e (iRngV te) := by
  refine ⟨fun pins s σ H R I h => thn (he.run pins s σ H _ I h) fun v s1 hh => ?_⟩
  obtain ⟨x, H1, I1, r1, a, lo, hi, rfl, ha, ⟨b1, b2, b3, b4⟩, q⟩ := hh
  obtain rfl : v = Value.ref a := r1
  obtain ⟨t, u, w, ob⟩ := (show ObjOk X.prog X.w H1 s1.heap a (.rng lo hi) from I1.hok a _ ha)
  refine wpAny_pyIter_range (show IsRange s1.heap a lo hi 1 t u w from ob) (small_one b1 b2 b3 b4) (pi_one (tk := s1.toks) I1 _ (turn_range _ lo (hi - lo).toNat) ?_ q)
  have e1 : lo + ((0 : Nat) : Int) * 1 = lo := by simp
  have e2 : (((hi - lo).toNat : Nat) : Int) - ((0 : Nat) : Int) = Builtin.Range.rangeSize lo hi 1 := by
    rw [rangeSize_one]
    split <;> omega
  show IsRangeIter _ _ (lo + ((0 : Nat) : Int) * 1) ((((hi - lo).toNat : Nat) : Int) - ((0 : Nat) : Int)) 1
  rw [e1, e2]
  exact Heap.get?_push_size _ rfl
end
end L2
namespace L2
open PySem PySem.Spec PyProof.Rows
def flat2 (m : Nat → Nat) (v : Nat → Nat → V) (n : Nat) : List V := (List.range n).flatMap fun i => (List.range (m i)).map (v i)
theorem flat2_more (m : Nat → Nat) (v : Nat → Nat → V) (i : Nat) : flat2 m v (i + 1) = flat2 m v i ++ (List.range (m i)).map (v i) := by
  unfold flat2
  rw [List.range_succ, List.flatMap_append]
  simp
theorem flat2_len {m : Nat → Nat} {v : Nat → Nat → V} (h : ∀ i, m i ≤ 100) : ∀ n, (flat2 m v n).length ≤ 100 * n
  | 0 => by simp [flat2]
  | n + 1 => by
    rw [flat2_more, List.length_append, List.length_map, List.length_range]
    have := flat2_len (v := v) h n
    have := h n
    omega
section
variable {J : It} {n : Nat} {G : Hp → Prop} {Y : Nat → Hp → V → Hp → Prop} {te : TE} {vs vs1 : List Nat} {σ : St} {H H1 : Hp} {Q : VK} {wi wi1 : TI} {a b : Nat}
theorem lc2_use (m : Nat → Nat) (v : Nat → Nat → V) (hl : ∀ R : It → Hp → Prop, R J H1 → wi σ H R) (w : Walk J n G Y) (hn : n ≤ 100) (hm : ∀ i, m i ≤ 100) (hG : ∀ H', Same H1 H' → G H') (hy : ∀ i H' x H2, Same H1 H' → Y i H' x H2 → Same H' H2)
    (hw : ∀ x, wipe ((wipe σ vs).set a (some x)) vs = wipe σ vs)
    (inner : ∀ i x H' H2, i < n → Same H1 H' → Y i H' x H2 → ∃ (J1 : It) (G1 : Hp → Prop) (Y1 : Nat → Hp → V → Hp → Prop), Walk J1 (m i) G1 Y1 ∧ (∀ H3, Same H1 H3 → G1 H3) ∧ (∀ j H3 y H4, Same H1 H3 → Y1 j H3 y H4 → Same H3 H4) ∧
      (∀ R : It → Hp → Prop, R J1 H2 → wi1 ((wipe σ vs).set a (some x)) H2 R) ∧
      ∀ j y H3 H4, j < m i → Same H1 H3 → Y1 j H3 y H4 → wipe ((wipe ((wipe σ vs).set a (some x)) vs1).set b (some y)) vs1 = wipe ((wipe σ vs).set a (some x)) vs1 ∧ ∀ R : VK, (∀ H5, Same H4 H5 → R (v i j) H5) → te ((wipe ((wipe σ vs).set a (some x)) vs1).set b (some y)) H4 R)
    (q : ∀ D H', H1 D = none → Same H1 H' → H' D = some (.lst (flat2 m v n)) → Q (.ref D) H') : tLc2 wi (gName a) tYes wi1 (gName b) tYes te vs vs1 σ H Q := hl _ fun D hD => by
  refine ⟨fun i k H' => k = n - i ∧ i ≤ n ∧ Same H1 H' ∧ H' D = some (.lst (flat2 m v i)), ⟨n, by simp, Nat.zero_le _, same_upd hD, upd_same⟩, ?_⟩
  rintro i k H' ⟨rfl, hi, s, d⟩
  by_cases hlt : i < n
  · refine .inr ⟨w.goes i H' hlt (hG H' s), fun H2 => Same H1 H2 ∧ H2 D = some (.lst (flat2 m v (i + 1))), fun H2 p => ⟨n - (i + 1), by omega, rfl, hlt, p⟩, fun x H2 y => ?_⟩
    have y' := w.yields i H' x H2 hlt (hG H' s) y
    have e2 := hy i H' x H2 s y'
    obtain ⟨J1, G1, Y1, w1, hG1, hy1, hl1, turn⟩ := inner i x H' H2 hlt s y'
    refine gN ⟨hw x, ?_⟩
    unfold tYes
    dsimp only
    rw [if_pos rfl]
    have d2 : H2 D = some (.lst (flat2 m v i ++ (List.range 0).map (v i))) := by
      rw [List.range_zero, List.map_nil, List.append_nil]
      exact e2 _ _ d
    refine hl1 _ ⟨fun j k H3 => k = m i - j ∧ j ≤ m i ∧ Same H1 H3 ∧ H3 D = some (.lst (flat2 m v i ++ (List.range j).map (v i))), ⟨m i, by simp, Nat.zero_le _, s.trans e2, d2⟩, ?_⟩
    rintro j k H3 ⟨rfl, hj, s3, d3⟩
    by_cases hlt2 : j < m i
    · refine .inr ⟨w1.goes j H3 hlt2 (hG1 H3 s3), fun H4 => Same H1 H4 ∧ H4 D = some (.lst (flat2 m v i ++ (List.range (j + 1)).map (v i))), fun H4 p => ⟨m i - (j + 1), by omega, rfl, hlt2, p⟩, fun y2 H4 z => ?_⟩
      have z' := w1.yields j H3 y2 H4 hlt2 (hG1 H3 s3) z
      have e4 := hy1 j H3 y2 H4 s3 z'
      obtain ⟨t1, t2⟩ := turn j y2 H3 H4 hlt2 s3 z'
      refine gN ⟨t1, ?_⟩
      rw [if_pos rfl]
      refine t2 _ fun H5 e5 => ⟨_, e5 _ _ (e4 _ _ d3), ?_, same_mut ((s3.trans e4).trans e5) hD, ?_⟩
      · rw [List.length_append, List.length_map, List.length_range, sizeLine_eq]
        have := flat2_len (v := v) hm i
        have := hm i
        omega
      · rw [upd_same, map_more, List.append_assoc]
    · have ej : j = m i := by omega
      subst ej
      exact .inl ⟨w1.stops H3 (hG1 H3 s3), s3, by rw [flat2_more]; exact d3⟩
  · have e : i = n := by omega
    subst e
    exact .inl ⟨w.stops H' (hG H' s), q D H' hD s d⟩
end
end L2
namespace L2
open PySem PySem.Spec PyProof.Rows
theorem pi_listK {X : Cx} {tg l : Expr} {tl : TE} (K : PySem.W.Frag) (hl : PE X l tl) (hK : X.K = K := by rfl) : PI X tg l (iList K tl) := by
  subst hK
  exact pi_list hl
end L2


set_option Elab.async false
set_option linter.all false
set_option maxRecDepth 100000
set_option maxHeartbeats 4000000
/-! makers in one hand -/
namespace L2
open PySem PySem.Spec PyProof.Rows
structure Mkr (P : Program) (w : World) (K : PySem.W.Frag) (mg : Str → Option Value) (base : Heap) (k : Nat) (x : Str) (C : Addr) (ps : List Str) (sp : Sp) : Prop where
  ex : ∃ f fd, Mk K C f ∧ mg x = some (.ref C) ∧ Binds K fd ps [] ∧ FnOk P w K mg base (L2.CX P w) k f fd ps sp
section
variable {X : Cx} {k : Nat} {C : Addr} {x : Str} {ps : List Str} {sp : Sp} {E : XK} {e : Expr} {es : List Expr} {t : TA} {p pos : Pos}
theorem pe_mkr (c : Mkr X.prog X.w X.K X.mg X.base k x C ps sp) (hr : Room (k + 1) X.A) (hg : Gl X x) (hx : Passes (L2.CX X.prog X.w) X E) (ha : PA X (e :: es) t) (hdb : (x == ("__debug__" : Str)) = false := by decide)
    (he : starEach (e :: es) X.env = (false, eval e X.env) :: starEach es X.env := by rfl) (hpl : (backTo pos (starEach es X.env)).any (·.1) = false := by rfl) : PE X (.Call (.Name x p) (e :: es) [] pos) (tMake C sp [] E t) := by
  obtain ⟨f, fd, M, hm, hb, G⟩ := c.ex
  exact pe_make M G hr hg hm hb .nil hx ha hdb he hpl
end
end L2


set_option Elab.async false
set_option linter.all false
set_option maxRecDepth 100000
set_option maxHeartbeats 4000000
/-! min and max of a list of texts -/
namespace L2
open PySem PySem.Spec PyProof.Rows
def gtS (xs : List Str) (i j : Nat) : Bool := decide ((xs.getD j Str.empty).cps.toList < (xs.getD i Str.empty).cps.toList)
def ltS (xs : List Str) (i j : Nat) : Bool := decide ((xs.getD i Str.empty).cps.toList < (xs.getD j Str.empty).cps.toList)
def maxS (xs : List Str) : Str := xs.getD (argBest (gtS xs) (xs.length - 1)) Str.empty
def minS (xs : List Str) : Str := xs.getD (argBest (ltS xs) (xs.length - 1)) Str.empty
section
variable {prog : Program} {w : World} {A : Around} {E : Value → Shared → Prop} {s : Shared} {l : Addr} {its : Array Value} {xs : List Str} {Q : Value → Shared → Prop}
theorem gts_of (hv : ∀ (i : Nat) (v : Value), its[i]? = some v → ∃ t, v = .str (xs.getD i Str.empty) t) : CmpOf prog w A .Gt (fun i v => its[i]? = some v) (gtS xs) := fun i j vi vj s Q E hi hj h => by
  obtain ⟨t, rfl⟩ := hv i vi hi
  obtain ⟨u, rfl⟩ := hv j vj hj
  exact PySem.P.gt_str h
theorem lts_of (hv : ∀ (i : Nat) (v : Value), its[i]? = some v → ∃ t, v = .str (xs.getD i Str.empty) t) : CmpOf prog w A .Lt (fun i v => its[i]? = some v) (ltS xs) := fun i j vi vj s Q E hi hj h => by
  obtain ⟨t, rfl⟩ := hv i vi hi
  obtain ⟨u, rfl⟩ := hv j vj hj
  exact lt_str h
theorem walk_of_list {Q : Value → Shared → Prop} (hl : s.heap.IsList l its)
    (h : ∀ s2 : Shared, s2 = { s with heap := s.heap.push { cls := .type "list_iterator", data := .fields #[.ref l, .int 0 0] } } → (s2.heap.IsListIter s.heap.objs.size l 0 ∧ s2.heap.IsList l its) → (∀ b ∈ [s.heap.objs.size, l], b < s2.heap.objs.size) → l ≠ s.heap.objs.size → Q (.ref s.heap.objs.size) s2) :
    wpAny (model prog w) A (pyIter (.ref l)) Q E s := by
  have lt : l < s.heap.objs.size := hl.elim fun o q => Heap.lt_size q.1
  refine wpAny_pyIter_list hl (h _ rfl ⟨⟨_, Heap.get?_push_size _ rfl, rfl, rfl⟩, hl.push _⟩ (fun b hb => ?_) (Nat.ne_of_lt lt))
  show b < (s.heap.push _).objs.size
  rw [Heap.size_push]
  simp only [List.mem_cons, List.not_mem_nil, or_false] at hb
  rcases hb with rfl | rfl
  · exact Nat.lt_succ_self _
  · exact Nat.lt_succ_of_lt lt
theorem call_maxS (hh : A.handled = none) (hl : s.heap.IsList l its) (hv : ∀ (i : Nat) (v : Value), its[i]? = some v → ∃ t, v = .str (xs.getD i Str.empty) t) (hne : 0 < its.size) (hz : its.size = xs.length)
    (h : ∀ h' tk t, (∀ b o, s.heap.get? b = some o → h'.get? b = some o) → Q (.str (maxS xs) t) { s with heap := h', toks := tk }) : wpAny (model prog w) A (call (.builtin "max") [.ref l]) Q E s := by
  refine call_max_walk (walk_of_list hl fun s2 e st below far => ?_)
  subst e
  refine ⟨_, _, _, _, _, _, _, rfl, Walks.list (A := A.in1) hh _ l far its, st, below, hne, gts_of hv, fun v h' tk hP hk => ?_⟩
  obtain ⟨t, rfl⟩ := hv _ v hP
  rw [hz]
  exact h h' tk t (old_kept hk)
theorem call_minS (hh : A.handled = none) (hl : s.heap.IsList l its) (hv : ∀ (i : Nat) (v : Value), its[i]? = some v → ∃ t, v = .str (xs.getD i Str.empty) t) (hne : 0 < its.size) (hz : its.size = xs.length)
    (h : ∀ h' tk t, (∀ b o, s.heap.get? b = some o → h'.get? b = some o) → Q (.str (minS xs) t) { s with heap := h', toks := tk }) : wpAny (model prog w) A (call (.builtin "min") [.ref l]) Q E s := by
  refine call_min_walk (walk_of_list hl fun s2 e st below far => ?_)
  subst e
  refine ⟨_, _, _, _, _, _, _, rfl, Walks.list (A := A.in1) hh _ l far its, st, below, hne, lts_of hv, fun v h' tk hP hk => ?_⟩
  obtain ⟨t, rfl⟩ := hv _ v hP
  rw [hz]
  exact h h' tk t (old_kept hk)
end
def rBestS (K : PySem.W.Frag) (g : List Str → Str) : List V → Hp → VK → Prop := fun vs H Q => ∃ (a : Addr) (xs : List Str), vs = [V.ref a] ∧ SqL K H a (xs.map V.str) ∧ 0 < xs.length ∧ Q (.str (g xs)) H
theorem strs_vals {xs : List Str} {its : List Value} (r : Vals (xs.map V.str) its) : ∀ (i : Nat) (v : Value), its.toArray[i]? = some v → ∃ t, v = .str (xs.getD i Str.empty) t := fun i v hv => by
  rw [List.getElem?_toArray] at hv
  have hlen : its.length = xs.length := by rw [← r.length, List.length_map]
  have hi : i < xs.length := by rw [← hlen]; exact (List.getElem?_eq_some_iff.mp hv).1
  obtain ⟨u, hu, ru⟩ := r.get (i := i) (x := V.str xs[i]) (by rw [List.getElem?_map, List.getElem?_eq_getElem hi]; rfl)
  rw [hv] at hu
  obtain rfl : v = u := Option.some.inj hu
  rw [List.getD_eq_getElem?_getD, List.getElem?_eq_getElem hi]
  exact ru
theorem cr_maxS {X : Cx} (K : PySem.W.Frag) (hc : X.calm = true := by rfl) (hK : X.K = K := by rfl) : CallR X (.builtin "max") (rBestS K maxS) := by
  subst hK
  intro pins s σ H xs us Q I r h
  obtain ⟨a, ys, rfl, hs, hne, q⟩ := h
  obtain ⟨its, rv, hl, _⟩ := I.list hs
  have hlen : its.length = ys.length := by rw [← rv.length, List.length_map]
  rw [Vals.ref1 r]
  exact call_maxS (I.ok.hd hc) hl.isList (strs_vals rv) (by rw [List.size_toArray]; omega) (by rw [List.size_toArray]; exact hlen) fun h' tk t hk => ⟨.str _, H, I.kept hk, ⟨_, rfl⟩, q⟩
theorem cr_minS {X : Cx} (K : PySem.W.Frag) (hc : X.calm = true := by rfl) (hK : X.K = K := by rfl) : CallR X (.builtin "min") (rBestS K minS) := by
  subst hK
  intro pins s σ H xs us Q I r h
  obtain ⟨a, ys, rfl, hs, hne, q⟩ := h
  obtain ⟨its, rv, hl, _⟩ := I.list hs
  have hlen : its.length = ys.length := by rw [← rv.length, List.length_map]
  rw [Vals.ref1 r]
  exact call_minS (I.ok.hd hc) hl.isList (strs_vals rv) (by rw [List.size_toArray]; omega) (by rw [List.size_toArray]; exact hlen) fun h' tk t hk => ⟨.str _, H, I.kept hk, ⟨_, rfl⟩, q⟩
end L2


set_option Elab.async false
set_option linter.all false
set_option maxRecDepth 100000
namespace L2
open PySem PySem.Spec PyProof.Rows
/-! clauses with and without a name, one behind the other -/
abbrev Suit := Addr → Value → Option Addr → TS
/-- the ends of a suite whose name goes at its end -/
def gone (i : Nat) (D : Ends) : Ends := { nx := fun σ H => D.nx (σ.set i none) H, rt := D.rt, bk := fun σ H => D.bk (σ.set i none) H, ct := fun σ H => D.ct (σ.set i none) H }
def tClause (t : Suit) (D : Ends) (a : Addr) (cls : Value) (d : Option Addr) (σ : St) (H : Hp) : Option Nat → Prop
  | none => t a cls d D σ H
  | some i => t a cls d (gone i D) (σ.set i (some (.ref a))) H
def wMix (K : PySem.W.Frag) (Wout : WX) (D : Ends) : List (Value × Option Nat × Suit) → WX
  | [] => Wout
  | (c, i, t) :: r => fun cls d σ H => ∃ b, PySem.W.exmOne K cls c = some b ∧ (b = true → ∀ a, H a = none → tClause t D a cls d σ H i) ∧ (b = false → wMix K Wout D r cls d σ H)
inductive Slot (X : Cx) : Option Str → Option Nat → Prop
  | no : Slot X none none
  | as {n : Str} {i : Nat} (hN : X.N.Nodup) (hi : X.N[i]? = some n) (hl : X.env.kindOf n = some .local) : Slot X (some n) (some i)
inductive MixOk (X : Cx) : List ExceptHandler → List (Value × Option Nat × Suit) → Prop
  | nil : MixOk X [] []
  | cons {x : Str} {c : Value} {o : Option Str} {i : Option Nat} {t : Suit} {b₀ : Stmt} {suite : List Stmt} {np pos' : Pos} {hds : List ExceptHandler} {l : List (Value × Option Nat × Suit)} (hc : Names X x c) (hn : Slot X o i)
      (hsu : ∀ (a : Addr) (oe : Obj) (cls : Value) (d : Option Addr) (pn : List (Addr × Obj)), Zc cls d oe → (∃ vs, oe.data = .fields vs) → PSs (X.suite a ((a, oe) :: pn)) (b₀ :: suite) (t a cls d)) (r : MixOk X hds l) :
      MixOk X (.ExceptHandler (some (.Name x np)) o (b₀ :: suite) pos' :: hds) ((c, i, t) :: l)
section
variable {X : Cx} {body : List Stmt} {h₀ : ExceptHandler} {hds : List ExceptHandler} {l : List (Value × Option Nat × Suit)} {pos : Pos} {tb : WX → TS} {Wout : WX}
theorem ps_try_mix (hs : X.stack = X.env :: X.outer) (hf : X.env.frame = some X.env.locals) (tk : Takes X Wout)
    (hb : ∀ (W : WX) (pn : List (Addr × Obj)) (xe : Value → Shared → Prop), Takes (X.tr pn xe) W → PassesOwn (model X.prog X.w) X.A X.env xe → PSs (X.tr pn xe) body (tb W))
    (hh : MixOk X (h₀ :: hds) l) : PS X (.Try body (h₀ :: hds) [] [] pos) (fun D σ H => tb (wMix X.K Wout D l) D σ H) := by
  refine ⟨fun pins s σ H D I h => ?_⟩
  have ok := I.ok
  have hfr : X.A.frames = some (X.env :: X.outer) := by rw [ok.frames, hs]
  refine wpAny_Try_except (wpAny_mono ((hb (wMix X.K Wout D l) (X.pn ++ pins) (fun e s₁ => wpAny (model X.prog X.w) X.A (noteFrame e X.env) (fun _ s₂ => wpAny (model X.prog X.w) X.A (setFlight e none) (fun _ s₃ =>
    wpAny (model X.prog X.w) X.A (handleBy e X.env (h₀ :: hds)) (SP X pins D) X.xe s₃) X.xe s₂) X.xe s₁) (fun u s' xx => ?_) PassesOwn.looking).run [] s σ H D (I.toTry _) h) (fun f s1 hsp => ?_) fun e s1 he => he)
  · obtain ⟨a, B, sI, pins', σ', H', cls, d, rfl, J', nb, up, sky, na, os, ag, w⟩ := xx
    have J := J'.ofTry ok
    have sky' : Sky B (X.env :: X.outer) a (Zc cls d) X.env.locals s'.heap := by rw [← hs]; exact sky
    show wpAny (model X.prog X.w) X.A (noteFrame (.ref a) X.env) _ _ _
    refine Sky.land Zc.steady hfr hf sky' fun h3 fl3 up3 => ?_
    have J3 : Inv X pins σ' H' { s' with heap := h3 } := J.landed nb fl3.1 (up.trans up3) os ag
    obtain ⟨o3, vs3, e3, z3, d3⟩ := fl3.there
    have nfr : a ∉ frs (X.env :: X.outer) := fun hm => by
      obtain ⟨_, o', e', hnf⟩ := fl3.2.2.1.mem hm
      rw [e3] at e'; cases e'
      exact hnf _ d3
    have nL : a ≠ X.env.locals := fun z => nfr (List.mem_filterMap.mpr ⟨X.env, List.mem_cons_self, by rw [hf, z]⟩)
    have nF : a ∉ X.fs := fun hm => by
      obtain ⟨e, he, q⟩ := List.mem_filterMap.mp hm
      exact nfr (List.mem_filterMap.mpr ⟨e, List.mem_cons_of_mem _ he, q⟩)
    have S3 := J3.suite e3 d3 na nL nF
    have LT : PySem.W.Looks (model X.prog X.w) h3 (typeOf (.ref a)) cls := fun A Q E s k q => wpAny_typeOf_ref (k _ _ e3) (by rw [z3.1]; exact q)
    have go : ∀ {hs' : List ExceptHandler} {l' : List (Value × Option Nat × Suit)}, MixOk X hs' l' → wMix X.K Wout D l' cls d σ' H' →
        wpAny (model X.prog X.w) X.A (handleBy (.ref a) X.env hs') (SP X pins D) X.xe { s' with heap := h3 } := by
      intro hs' l' hk
      induction hk with
      | nil =>
        intro w
        refine wpAny_handleBy_nil ?_
        obtain ⟨k1, k2, k3, oe, vs, T, oT, ts', he, hz, hd, h1, hr⟩ := id fl3
        unfold PySem.passOn
        refine wpAny_bind (wpAny_field he hd h1 ?_)
        rw [if_neg (show ¬ ((Value.ref T == Value.none) = true) from by simp)]
        have fin : wpAny (model X.prog X.w) X.A (setFlight (.ref a) X.env.frame) (fun _ s4 => wpAny (model X.prog X.w) X.A (throw (.ref a) : Sem Flow) (SP X pins D) X.xe s4) X.xe { s' with heap := h3 } := by
          rw [hf]
          exact HandSPX.setFlight_upZ fl3 fun h4 hh4 up4 => wpAny_throw (tk _ _ ⟨a, B, sI, pins, σ', H', cls, d, rfl, J, nb, (up.trans up3).trans up4, .inr (.inr (by rw [hs]; exact hh4)), na, os, ag, w⟩)
        first
          | exact wpAny_bind (wpAny_pure (wpAny_bind fin))
          | exact wpAny_bind fin
      | @cons x c o i t b₀ suite np pos' hds2 l2 hc hn hsu r ih =>
        intro w
        obtain ⟨b, hb1, hyes, hno⟩ := w
        refine wpAny_handleBy_cons (codeAny_handlers_test ?_) (by intro q; cases q)
        have LM := PySem.W.exm_one (M := model X.prog X.w) (J3.kIn) LT hb1
        have test : ∀ {Q : Value → Shared → Prop} {E : Value → Shared → Prop}, Q c { s' with heap := h3 } → wpAny (model X.prog X.w) (X.A.mark (some (.ref a))) (eval (.Name x np) X.env) Q E { s' with heap := h3 } := fun {Q E} q => by
          obtain ⟨hg, hdbg, hm | ⟨hm, hv, hnn⟩⟩ := hc
          · exact ld_glob (X := X.suite a ((a, o3) :: (X.pn ++ pins))) S3 hg hm q hdbg
          · exact ld_blt (X := X.suite a ((a, o3) :: (X.pn ++ pins))) S3 hg hm hv q hnn hdbg
        refine test (LM.here ?_)
        cases b with
        | false => exact ih (hno rfl)
        | true =>
          have hy := hyes rfl a na
          cases hn with
          | no =>
            refine codeAny_handlers_suite (HandSPX.lands_againZ fl3 fun h4 fl4 up4 => ?_)
            have J4 : Inv X pins σ' H' { s' with heap := h4 } := J.landed nb fl4.1 ((up.trans up3).trans up4) os ag
            obtain ⟨o4, vs4, e4, z4, d4⟩ := fl4.there
            refine wpAny_mono ((hsu a o4 cls d (X.pn ++ pins) z4 ⟨_, d4⟩).run [] _ _ H' _ (J4.suite e4 d4 na nL nF) hy) (fun f s6 hsp => ?_) (fun _ _ z => False.elim z)
            cases f with
            | ret u =>
              obtain ⟨v6, σ6, H6, S6, r6, q6⟩ := hsp
              exact ⟨_, _, _, S6.unsuite ok, r6, q6⟩
            | _ =>
              obtain ⟨σ6, H6, S6, q6⟩ := hsp
              exact ⟨_, _, S6.unsuite ok, q6⟩
          | @as n i hN hi hl =>
            refine codeAny_handlers_suite_as (HandSPX.lands_againZ fl3 fun h4 fl4 up4 => ?_)
            have J4 : Inv X pins σ' H' { s' with heap := h4 } := J.landed nb fl4.1 ((up.trans up3).trans up4) os ag
            obtain ⟨o4, vs4, e4, z4, d4⟩ := fl4.there
            refine store_ok (X := X.suite a ((a, o4) :: (X.pn ++ pins))) (v := .ref a) (J4.suite e4 d4 na nL nF) hN hi (.inl hl) rfl (fun s5 S5 => ?_) (.inr hl)
            refine wpAny_mono ((hsu a o4 cls d (X.pn ++ pins) z4 ⟨_, d4⟩).run [] s5 _ H' _ S5 hy) (fun f s6 hsp => ?_) (fun _ _ z => False.elim z)
            have fin : ∀ {σ6 : St} {H6 : Hp} {Q : Shared → Prop}, Inv (X.suite a ((a, o4) :: (X.pn ++ pins))) [] σ6 H6 s6 → (∀ s7, Inv X pins (σ6.set i none) H6 s7 → Q s7) →
                wpAny (model X.prog X.w) X.A (do bindName X.env n .none; unbindBehindTheSuite X.env n pos') (fun _ s7 => Q s7) X.xe s6 := fun {σ6 H6 Q} S6 hq => gone_ok (S6.unsuite ok) hN hi hl hq
            cases f with
            | ret u =>
              obtain ⟨v6, σ6, H6, S6, r6, q6⟩ := hsp
              exact fin S6 fun s7 J7 => ⟨_, _, _, J7, r6, q6⟩
            | next =>
              obtain ⟨σ6, H6, S6, q6⟩ := hsp
              exact fin S6 fun s7 J7 => ⟨_, _, J7, q6⟩
            | brk =>
              obtain ⟨σ6, H6, S6, q6⟩ := hsp
              exact fin S6 fun s7 J7 => ⟨_, _, J7, q6⟩
            | cont =>
              obtain ⟨σ6, H6, S6, q6⟩ := hsp
              exact fin S6 fun s7 J7 => ⟨_, _, J7, q6⟩
    exact go hh w
  · cases f with
    | next =>
      obtain ⟨σ', H', J', q⟩ := hsp
      exact wpAny_execs_nil ⟨σ', H', J'.ofTry ok, q⟩
    | brk =>
      obtain ⟨σ', H', J', q⟩ := hsp
      exact ⟨σ', H', J'.ofTry ok, q⟩
    | cont =>
      obtain ⟨σ', H', J', q⟩ := hsp
      exact ⟨σ', H', J'.ofTry ok, q⟩
    | ret u =>
      obtain ⟨v, σ', H', J', r, q⟩ := hsp
      exact ⟨v, σ', H', J'.ofTry ok, r, q⟩
end
end L2


set_option Elab.async false
set_option linter.all false
set_option maxRecDepth 100000
namespace L2
open PySem PySem.Spec PyProof.Rows
/-! a method called in a try's body -/
def tMtdT (C : Addr) (m : Str) (sp : Sp) (W : WX) (ta : TE) (t : TA) : TE := fun σ H Q => ta σ H fun x H1 => ∃ a dx fs, x = .ref a ∧ H1 a = some (.ins C dx fs) ∧ fs.lookup m = none ∧ t σ H1 fun vs H2 => sp (x :: vs) H2 Q (WE W σ)
theorem pe_mtdT {X : Cx} {k : Nat} {C : Addr} {m : Str} {ps : List Str} {sp : Sp} {W : WX} {o e : Expr} {es : List Expr} {ta : TE} {t : TA} {apos pos : Pos} {pl : Sem Bool} (c : Mtd X.prog X.w X.K X.mg X.base k C m ps sp) (hr : Room k X.A) (tk : Takes X W) (he : PE X o ta) (ha : PA X (e :: es) t)
    (hst : starEach (e :: es) X.env = (false, eval e X.env) :: starEach es X.env := by rfl) (hpl : (backTo pos (starEach es X.env)).any (·.1) = false := by rfl)
    (ht : eval (.Call (.Attribute o m apos) (e :: es) [] pos) X.env = (do
      let ov ← eval o X.env
      standAt apos.atName
      let (g, first) ← holding [ov] (getMethod ov m pl)
      callWith pos g first (backTo pos (starEach (e :: es) X.env)) (backToKw pos (keywordEach [] X.env))) := by rfl) :
    PE X (.Call (.Attribute o m apos) (e :: es) [] pos) (tMtdT C m sp W ta t) := by
  obtain ⟨f, fd, hm, hb, G⟩ := c.ex
  refine ⟨fun pins s σ H Q I h => PySem.W.methodCall_KW (pl := pl) (thn (he.run pins s σ H _ I h) fun u s1 ⟨x, H1, I1, rx, a, dx, fs, ex, ea, l, q⟩ => ?_) ht⟩
  subst ex
  obtain rfl : u = Value.ref a := rx
  refine getmeth_ok I1 ea c.cl hm l (PySem.W.callWith_K (first := [.ref a]) (h₀ := X.base) I.ok.mod.kin hm.kp (thn (ha.run pos pins s1 σ H1 _ I1 q) fun us s2 ⟨vs, H2, I2, r, q2⟩ => ⟨I2.kIn, ?_⟩) hst hpl)
  exact run_fnS (us := .ref a :: us) (vs := .ref a :: vs) G hr hb (passAt tk σ) I2 (.cons rfl r) q2
end L2


set_option Elab.async false
set_option linter.all false
set_option maxRecDepth 100000
set_option maxHeartbeats 4000000
/-! comprehensions with a condition -/
namespace L2
open PySem PySem.Spec PyProof.Rows
section
variable {J : It} {n : Nat} {G : Hp → Prop} {Y : Nat → Hp → V → Hp → Prop} {g : TG} {te : TE} {tt : TT} {vs : List Nat} {σ : St} {H1 : Hp} {Q : VK}
theorem picked_more {α : Type} (p : Nat → Bool) (v : Nat → α) (i : Nat) : ((List.range (i + 1)).filter p).map v = ((List.range i).filter p).map v ++ (if p i = true then [v i] else []) := by
  rw [List.range_succ, List.filter_append, List.map_append]
  by_cases h : p i = true
  · rw [if_pos h, List.filter_cons_of_pos h]; rfl
  · rw [if_neg h, List.filter_cons_of_neg h]; rfl
theorem picked_len {α : Type} (p : Nat → Bool) (v : Nat → α) (i : Nat) : (((List.range i).filter p).map v).length ≤ i := by
  rw [List.length_map]
  exact Nat.le_trans (List.length_filter_le _ _) (by rw [List.length_range]; exact Nat.le_refl _)
/-- [e for .. in .. if ..]: turn i is taken if p i, and tells v i then -/
theorem lc_filtW (p : Nat → Bool) (v : Nat → V) (w : Walk J n G Y) (hn : n ≤ 50000) (hG : ∀ H', Same H1 H' → G H') (hy : ∀ i H' x H2, Same H1 H' → Y i H' x H2 → Same H' H2)
    (hs : ∀ i x H' H2, i < n → Same H1 H' → Y i H' x H2 → ∀ (R : VK) (N : Hp → Prop), (p i = true → ∀ H4, Same H2 H4 → R (v i) H4) → (p i = false → ∀ H4, Same H2 H4 → N H4) → g x (wipe σ vs) H2 fun σ2 H3 => wipe σ2 vs = wipe σ vs ∧ tt σ2 H3 fun b H4 => if b = true then te σ2 H4 R else N H4)
    (q : ∀ D H', H1 D = none → Same H1 H' → H' D = some (.lst (((List.range n).filter p).map v)) → Q (.ref D) H') :
    ∀ D, H1 D = none → ∃ W : Nat → Nat → Hp → Prop, (∃ m, W 0 m (upd H1 D (.lst []))) ∧ ∀ i m H, W i m H →
      ((J.stop i H ∧ Q (.ref D) H) ∨ (J.go i H ∧ ∃ Nx : Hp → Prop, (∀ H', Nx H' → ∃ m', m' < m ∧ W (i + 1) m' H') ∧ ∀ x H', J.yld i H x H' → g x (wipe σ vs) H' fun σ2 H2 => wipe σ2 vs = wipe σ vs ∧ tt σ2 H2 fun b H3 =>
        if b = true then te σ2 H3 fun y H4 => ∃ acc, H4 D = some (.lst acc) ∧ acc.length < sizeLine ∧ Nx (upd H4 D (.lst (acc ++ [y]))) else Nx H3)) := by
  refine fun D hD => lc_it w (tt := tt) (Pv := fun i H' => Same H1 H' ∧ H' D = some (.lst (((List.range i).filter p).map v))) ⟨same_upd hD, upd_same⟩ (fun i H' _ z => hG H' z.1) (fun i x H' H2 hi z y => ?_) (fun H' z => q D H' hD z.1 z.2)
  have s2 := hy i H' x H2 z.1 y
  refine hs i x H' H2 hi z.1 y _ _ (fun hp H4 e4 => ?_) (fun hp H4 e4 => ?_)
  · refine ⟨_, e4 _ _ (s2 _ _ z.2), ?_, same_mut ((z.1.trans s2).trans e4) hD, ?_⟩
    · rw [sizeLine_eq]
      exact Nat.lt_of_le_of_lt (picked_len p v i) (by omega)
    · rw [picked_more, if_pos hp]
      exact upd_same
  · refine ⟨(z.1.trans s2).trans e4, ?_⟩
    rw [picked_more, if_neg (by rw [hp]; decide), List.append_nil]
    exact e4 _ _ (s2 _ _ z.2)
theorem lc_filt {wi : TI} {H : Hp} (p : Nat → Bool) (v : Nat → V) (hl : ∀ R : It → Hp → Prop, R J H1 → wi σ H R) (w : Walk J n G Y) (hn : n ≤ 50000) (hG : ∀ H', Same H1 H' → G H') (hy : ∀ i H' x H2, Same H1 H' → Y i H' x H2 → Same H' H2)
    (hs : ∀ i x H' H2, i < n → Same H1 H' → Y i H' x H2 → ∀ (R : VK) (N : Hp → Prop), (p i = true → ∀ H4, Same H2 H4 → R (v i) H4) → (p i = false → ∀ H4, Same H2 H4 → N H4) → g x (wipe σ vs) H2 fun σ2 H3 => wipe σ2 vs = wipe σ vs ∧ tt σ2 H3 fun b H4 => if b = true then te σ2 H4 R else N H4)
    (q : ∀ D H', H1 D = none → Same H1 H' → H' D = some (.lst (((List.range n).filter p).map v)) → Q (.ref D) H') : tLc wi g tt te vs σ H Q := hl _ (lc_filtW p v w hn hG hy hs q)
/-- .. over a list that is new itself -/
theorem lc_filtL {K : PySem.W.Frag} {wi : TI} {H : Hp} (zs : List V) (p : Nat → Bool) (v : Nat → V) (hl : ∀ R : It → Hp → Prop, (∀ L H1, Same H H1 → H1 L = some (.lst zs) → R (Itl K L) H1) → wi σ H R) (hn : zs.length ≤ 50000)
    (hs : ∀ i y H2, zs[i]? = some y → Same H H2 → ∀ (R : VK) (N : Hp → Prop), (p i = true → ∀ H4, Same H2 H4 → R (v i) H4) → (p i = false → ∀ H4, Same H2 H4 → N H4) → g y (wipe σ vs) H2 fun σ2 H3 => wipe σ2 vs = wipe σ vs ∧ tt σ2 H3 fun b H4 => if b = true then te σ2 H4 R else N H4)
    (q : ∀ D H', Same H H' → H' D = some (.lst (((List.range zs.length).filter p).map v)) → Q (.ref D) H') : tLc wi g tt te vs σ H Q :=
  hl _ fun L H1 e1 hL => lc_filtW (J := Itl K L) (H1 := H1) p v (walk_list (xs := zs)) hn (fun H2 e2 => SqL.of (e2 _ _ hL)) (fun i H2 y H3 _ z => z.1 ▸ Same.refl _)
    (fun i y H2 H3 hi e2 z R N q1 q2 => by
      obtain ⟨rfl, hy⟩ := z
      exact hs i y _ hy (e1.trans e2) R N q1 q2) fun D H' _ e2 hd => q D H' (e1.trans e2) hd
end
end L2


set_option Elab.async false
set_option linter.all false
set_option maxRecDepth 100000
namespace L2
open PySem PySem.Spec PyProof.Rows
/-! one def, kept for each of several classes: the class is told at the call -/
def anyC (D : Addr → Prop) (sp : Addr → Sp) : Sp := fun vs H Q E => ∃ C, D C ∧ sp C vs H Q E
theorem FnOk.any {P : Program} {w : World} {K : PySem.W.Frag} {mg : Str → Option Value} {base : Heap} {CX : CXT} {k : Nat} {f : Addr} {fd : FuncData} {ps : List Str} {D : Addr → Prop} {sp : Addr → Sp} (h : ∀ C, D C → FnOk P w K mg base CX k f fd ps (sp C)) : FnOk P w K mg base CX k f fd ps (anyC D sp) :=
  ⟨fun vs H Q E ⟨C, d, z⟩ => (h C d).len vs H Q E z, fun A outer s H args us vs Q E hr e0 hb hv ⟨C, d, z⟩ => (h C d).run A outer s H args us vs Q E hr e0 hb hv z⟩
/-- o.m(..), o an instance of one of the classes D -/
structure MtdA (P : Program) (w : World) (K : PySem.W.Frag) (mg : Str → Option Value) (base : Heap) (k : Nat) (D : Addr → Prop) (m : Str) (ps : List Str) (sp : Sp) : Prop where
  ex : ∃ f fd, (∀ C, D C → Cls K C ∧ Meth K C m f) ∧ PySem.W.keepIn K (.ref f) = true ∧ Binds K fd ps [] ∧ FnOk P w K mg base (L2.CX P w) k f fd ps sp
def tMethA (D : Addr → Prop) (m : Str) (sp : Sp) (E : XK) (ta : TE) (t : TA) : TE := fun σ H Q => ta σ H fun x H1 => ∃ a C dx fs, D C ∧ x = .ref a ∧ H1 a = some (.ins C dx fs) ∧ fs.lookup m = none ∧ t σ H1 fun vs H2 => sp (x :: vs) H2 Q E
section
variable {X : Cx} {k : Nat} {D : Addr → Prop} {m : Str} {ps : List Str} {sp : Sp} {E : XK} {o e : Expr} {es : List Expr} {ta : TE} {t : TA} {apos pos : Pos} {pl : Sem Bool}
theorem pe_mtdA (c : MtdA X.prog X.w X.K X.mg X.base k D m ps sp) (hr : Room k X.A) (hx : Passes (L2.CX X.prog X.w) X E) (he : PE X o ta) (ha : PA X (e :: es) t)
    (hst : starEach (e :: es) X.env = (false, eval e X.env) :: starEach es X.env := by rfl) (hpl : (backTo pos (starEach es X.env)).any (·.1) = false := by rfl)
    (ht : eval (.Call (.Attribute o m apos) (e :: es) [] pos) X.env = (do
      let ov ← eval o X.env
      standAt apos.atName
      let (g, first) ← holding [ov] (getMethod ov m pl)
      callWith pos g first (backTo pos (starEach (e :: es) X.env)) (backToKw pos (keywordEach [] X.env))) := by rfl) :
    PE X (.Call (.Attribute o m apos) (e :: es) [] pos) (tMethA D m sp E ta t) := by
  obtain ⟨f, fd, hm, kp, hb, G⟩ := c.ex
  refine ⟨fun pins s σ H Q I h => PySem.W.methodCall_KW (pl := pl) (thn (he.run pins s σ H _ I h) fun u s1 ⟨x, H1, I1, rx, a, C, dx, fs, dC, ex, ea, l, q⟩ => ?_) ht⟩
  subst ex
  obtain rfl : u = Value.ref a := rx
  refine getmeth_ok I1 ea (hm C dC).1 (hm C dC).2 l (PySem.W.callWith_K (first := [.ref a]) (h₀ := X.base) I.ok.mod.kin kp (thn (ha.run pos pins s1 σ H1 _ I1 q) fun us s2 ⟨vs, H2, I2, r, q2⟩ => ⟨I2.kIn, ?_⟩) hst hpl)
  exact run_fn (us := .ref a :: us) (vs := .ref a :: vs) G hr hb .nil hx I2 (.cons rfl r) (by rw [List.append_nil]; exact q2)
theorem pe_mtdA0 (c : MtdA X.prog X.w X.K X.mg X.base k D m ps sp) (hr : Room k X.A) (hx : Passes (L2.CX X.prog X.w) X E) (he : PE X o ta)
    (ht : eval (.Call (.Attribute o m apos) [] [] pos) X.env = (do
      let ov ← eval o X.env
      standAt apos.atName
      let (g, first) ← holding [ov] (getMethod ov m pl)
      callWith pos g first (backTo pos (starEach [] X.env)) (backToKw pos (keywordEach [] X.env))) := by rfl) :
    PE X (.Call (.Attribute o m apos) [] [] pos) (tMethA D m sp E ta tNil) := by
  obtain ⟨f, fd, hm, kp, hb, G⟩ := c.ex
  refine ⟨fun pins s σ H Q I h => PySem.W.methodCall_KW (pl := pl) (thn (he.run pins s σ H _ I h) fun u s1 ⟨x, H1, I1, rx, a, C, dx, fs, dC, ex, ea, l, q⟩ => ?_) ht⟩
  subst ex
  obtain rfl : u = Value.ref a := rx
  exact getmeth_ok I1 ea (hm C dC).1 (hm C dC).2 l (PySem.W.callWith_K0 (first := [.ref a]) I1.kIn kp (run_fn (us := [.ref a]) (vs := [.ref a]) G hr hb .nil hx I1 (.cons rfl .nil) q))
end
end L2


set_option Elab.async false
set_option linter.all false
set_option maxRecDepth 100000
set_option maxHeartbeats 4000000
namespace L2
open PySem PySem.Spec PyProof.Rows
/-- a dict that is told turn by turn, kept under a local's name: the parts of it, each in its own block -/
structure DcParts (Y : Cx) (sc : Scope) (tgt kE vE : Expr) (fs : List Expr) (gg : TG) (te : TT) (ka va : TE) : Prop where
  pg : ∀ s0 G0 c0 l0 b0, PG (Y.blk s0 G0 sc (compEnvC sc l0 c0 Y.env) b0) tgt gg
  pt : ∀ s0 G0 c0 l0 b0, PTs (Y.blk s0 G0 sc (compEnvC sc l0 c0 Y.env) b0) fs te
  pk : ∀ s0 G0 c0 l0 b0, PE (Y.blk s0 G0 sc (compEnvC sc l0 c0 Y.env) b0) kE ka
  pv : ∀ s0 G0 c0 l0 b0, PE (Y.blk s0 G0 sc (compEnvC sc l0 c0 Y.env) b0) vE va
theorem ps_setDcP {Y : Cx} {j : Nat} {nm : Str} {pn : Pos} {kE vE tgt src : Expr} {fs : List Expr} {sc : Scope} {mine : List (Str × Nat)} {pc pa : Pos} {iw : TI} {gg : TG} {te : TT} {ka va : TE}
    (calm : Y.calm = true) (uniq : Y.N.Nodup) (at_ : Y.N[j]? = some nm) (loc : Y.env.scope.names.lookup nm = some .local) (sw : swapsWith (.DictComp kE vE [⟨tgt, src, fs, 0⟩] sc pc) (some (.Name nm pn)) pa.line Y.env = pure true)
    (over : PI Y tgt src iw) (blk : BlkOk Y.N Y.env.scope sc mine) (parts : DcParts Y sc tgt kE vE fs gg te ka va) (same : ∀ z, foldedSetIterable src Y.env z = pure z) :
    PS Y (.Assign [.Name nm pn] (.DictComp kE vE [⟨tgt, src, fs, 0⟩] sc pc) pa) (tAsg (tDc iw gg te ka va (mine.map (·.2))) (gName j)) :=
  ⟨fun ps0 s0 τ G D0 inv told => by
    rw [exec_Assign_Name_used _ _ _ _ sw]
    apply wpAny_bind; apply wpAny_standAt; apply wpAny_bind
    show wpAny _ Y.A (do let _ ← comprehension (.DictComp kE vE [⟨tgt, src, fs, 0⟩] sc pc) sc Y.env (firstIterPos [⟨tgt, src, fs, 0⟩] pc) newDict false (eval src Y.env) (some (assign (.Name nm pn) Y.env))) _ _ s0
    have told : tDc iw gg te ka va (mine.map (·.2)) τ G (fun z G1 => gName j z τ G1 D0.nx) := told
    apply wpAny_bind
    refine thn (dc_core (Qf := fun _ t => SP Y ps0 D0 .next t) calm uniq inv over blk parts.pg parts.pt parts.pk parts.pv same told ?_) fun _ t ht => wpAny_pure (wpAny_pure ht)
    intro dA cA t1 sz G1 inv1 post ns fpo
    show wpAny _ _ (assign (.Name nm pn) Y.env (.ref dA)) _ _ _
    apply wpAny_assign_Name
    refine store_ok2 (v := V.ref dA) inv1 uniq at_ (.inl loc) rfl ?_ (.inr loc)
    rintro t2 inv2 ⟨cell, but, wh⟩
    obtain ⟨k0, k1, k2, k3, k4, k5⟩ := fpo
    have away : cA ≠ cell := by
      cases wh with
      | inl e => rw [e]; exact k1
      | inr e => exact fun q => k4 nm cell e q.symm
    refine ⟨sz, ns.sameBut but away, fun h3 but3 => ⟨_, G1, ?_, post⟩⟩
    exact inv2.turned (t' := t2.toks) (fun c o hc q => (but3.2 c hc).trans q) k0 k1 k3 k4 k5⟩
theorem ps_setDc {X : Cx} {i : Nat} {y : Str} {py : Pos} {kx vx tg iter : Expr} {ifs : List Expr} {scope : Scope} {own : List (Str × Nat)} {pos spos : Pos} {wi : TI} {g : TG} {tt : TT} {tk tv : TE} (c1 : X.calm = true) (c2 : X.N.Nodup) (c3 : X.N[i]? = some y) (c4 : X.env.scope.names.lookup y = some .local) (c5 : swapsWith (.DictComp kx vx [⟨tg, iter, ifs, 0⟩] scope pos) (some (.Name y py)) spos.line X.env = pure true) (c6 : PI X tg iter wi) (c7 : BlkOk X.N X.env.scope scope own)
    (d1 : ∀ s0 G0 c0 l0 b0, PG (X.blk s0 G0 scope (compEnvC scope l0 c0 X.env) b0) tg g) (d2 : ∀ s0 G0 c0 l0 b0, PTs (X.blk s0 G0 scope (compEnvC scope l0 c0 X.env) b0) ifs tt) (d3 : ∀ s0 G0 c0 l0 b0, PE (X.blk s0 G0 scope (compEnvC scope l0 c0 X.env) b0) kx tk) (d4 : ∀ s0 G0 c0 l0 b0, PE (X.blk s0 G0 scope (compEnvC scope l0 c0 X.env) b0) vx tv) (d5 : ∀ z, foldedSetIterable iter X.env z = pure z := by intro _; rfl) :
    PS X (.Assign [.Name y py] (.DictComp kx vx [⟨tg, iter, ifs, 0⟩] scope pos) spos) (tAsg (tDc wi g tt tk tv (own.map (·.2))) (gName i)) := ps_setDcP c1 c2 c3 c4 c5 c6 c7 ⟨d1, d2, d3, d4⟩ d5
theorem sw_trueD {ke ve : Expr} {cs : List Comprehension} {sc : Scope} {p1 p2 : Pos} {nm : Str} {n : Nat} {en : Env} (a1 : en.scope.kind = .function) (a2 : en.scope.names.lookup nm = some .local) (a3 : (p2.line == p1.line) = true)
    (a4 : (sc.names.any fun (n, k) => n == nm && (k == .local || k == .cell)) = false) : swapsWith (.DictComp ke ve cs sc p1) (some (.Name nm p2)) n en = pure true := by
  have b1 : en.kindOf nm = some .local := a2
  have b2 : en.blockKind = .function := by rw [Env.blockKind, a1]; rfl
  unfold swapsWith
  simp only [b2, b1, a4, a3, Expr.pos]; rfl
end L2


set_option Elab.async false
set_option linter.all false
set_option maxRecDepth 100000
set_option maxHeartbeats 4000000
/-! plain data that a heap holds, what stays, a world -/
namespace Dl
open PySem PySem.Spec PyProof.Rows L2
/-- plain data -/
inductive Da where
  | non | bl (b : Bool) | int (i : Int) | str (s : Str)
  | lst (ds : List Da) | tup (ds : List Da) | dct (kvs : List (Key × Da)) | dtt (kvs : List (List Key × Da))
  | adr (a : Addr) | ty (n : String) | ext (P : V → Hp → Prop)
/-- all stands but at X, and what is taken stays taken -/
structure Kp (X : Addr → Prop) (H H' : Hp) : Prop where
  a : ∀ a o, H a = some o → ¬ X a → H' a = some o
  b : ∀ a, H a ≠ none → H' a ≠ none
section
variable {X Y : Addr → Prop} {H H1 H2 : Hp}
theorem Kp.refl : Kp X H H := ⟨fun _ _ h _ => h, fun _ h => h⟩
theorem Kp.trans (x : Kp X H H1) (y : Kp X H1 H2) : Kp X H H2 := ⟨fun a o h n => y.a a o (x.a a o h n) n, fun a h => y.b a (x.b a h)⟩
theorem Kp.same (e : Same H H1) : Kp X H H1 := ⟨fun a o h _ => e a o h, fun a h => by
  cases c : H a with
  | none => exact absurd c h
  | some o => rw [e a o c]; exact fun z => nomatch z⟩
theorem Kp.sub (s : ∀ a, Y a → X a) (e : Kp Y H H1) : Kp X H H1 := ⟨fun a o h n => e.a a o h fun z => n (s a z), e.b⟩
theorem Kp.free (e : Kp X H H1) {p : Addr} (h : H1 p = none) : H p = none := Classical.byContradiction fun z => e.b p z h
theorem Kp.new {p : Addr} {o : HO} (h : H p = none) : Kp X H (upd H p o) := .same (same_upd h)
theorem Kp.upd {p : Addr} {o : HO} (e : Kp X H H1) (h : X p) : Kp X H (upd H1 p o) := ⟨fun a u q n => by rw [upd_ne (show a ≠ p from fun z => n (by rw [z]; exact h))]; exact e.a a u q n, fun a q => by
  by_cases c : a = p
  · rw [c, upd_same]; exact fun z => nomatch z
  · rw [upd_ne c]; exact e.b a q⟩
/-- .. at a place that was free ahead -/
theorem Kp.mut {p : Addr} {o : HO} (e : Kp X H H1) (h : H p = none) : Kp X H (L2.upd H1 p o) := ⟨fun a u q n => by rw [upd_ne (ne_of_none q h)]; exact e.a a u q n, fun a q => by
  by_cases c : a = p
  · rw [c, upd_same]; exact fun z => nomatch z
  · rw [upd_ne c]; exact e.b a q⟩
end
mutual
/-- v reads as d; none of its objects lies at X -/
inductive Rp (X : Addr → Prop) (H : Hp) : V → Da → Prop
  | non : Rp X H .non .non
  | bl (b : Bool) : Rp X H (.bl b) (.bl b)
  | int (i : Int) : Rp X H (.int i) (.int i)
  | str (s : Str) : Rp X H (.str s) (.str s)
  | ty (n : String) : Rp X H (.ty n) (.ty n)
  | lst {a : Addr} {vs : List V} {ds : List Da} : H a = some (.lst vs) → ¬ X a → Rps X H vs ds → Rp X H (.ref a) (.lst ds)
  | tup {a : Addr} {vs : List V} {ds : List Da} : H a = some (.tup vs) → ¬ X a → Rps X H vs ds → Rp X H (.ref a) (.tup ds)
  | dct {a : Addr} {kvs : List (Key × V)} {dvs : List (Key × Da)} : H a = some (.dK kvs) → ¬ X a → Rpk X H kvs dvs → Rp X H (.ref a) (.dct dvs)
  | dtt {a : Addr} {kvs : List (List Key × V)} {dvs : List (List Key × Da)} : H a = some (.dT kvs) → ¬ X a → Rpt X H kvs dvs → Rp X H (.ref a) (.dtt dvs)
  | adr (a : Addr) : Rp X H (.ref a) (.adr a)
  | ext {v : V} {P : V → Hp → Prop} : (∀ H', Kp X H H' → P v H') → Rp X H v (.ext P)
inductive Rps (X : Addr → Prop) (H : Hp) : List V → List Da → Prop
  | nil : Rps X H [] []
  | cons {v : V} {d : Da} {vs : List V} {ds : List Da} : Rp X H v d → Rps X H vs ds → Rps X H (v :: vs) (d :: ds)
inductive Rpk (X : Addr → Prop) (H : Hp) : List (Key × V) → List (Key × Da) → Prop
  | nil : Rpk X H [] []
  | cons {k : Key} {v : V} {d : Da} {vs : List (Key × V)} {ds : List (Key × Da)} : Rp X H v d → Rpk X H vs ds → Rpk X H ((k, v) :: vs) ((k, d) :: ds)
inductive Rpt (X : Addr → Prop) (H : Hp) : List (List Key × V) → List (List Key × Da) → Prop
  | nil : Rpt X H [] []
  | cons {k : List Key} {v : V} {d : Da} {vs : List (List Key × V)} {ds : List (List Key × Da)} : Rp X H v d → Rpt X H vs ds → Rpt X H ((k, v) :: vs) ((k, d) :: ds)
end
/-- from one heap and set of places to another -/
structure To (X : Addr → Prop) (H : Hp) (X' : Addr → Prop) (H' : Hp) : Prop where
  a : ∀ a o, H a = some o → ¬ X a → H' a = some o ∧ ¬ X' a
  e : ∀ H2, Kp X' H' H2 → Kp X H H2
section
variable {X X' : Addr → Prop} {H H' : Hp}
mutual
theorem Rp.to (t : To X H X' H') : ∀ {v : V} {d : Da}, Rp X H v d → Rp X' H' v d
  | _, _, .non => .non
  | _, _, .bl b => .bl b
  | _, _, .int i => .int i
  | _, _, .str s => .str s
  | _, _, .ty n => .ty n
  | _, _, .lst h n r => .lst (t.a _ _ h n).1 (t.a _ _ h n).2 (Rps.to t r)
  | _, _, .tup h n r => .tup (t.a _ _ h n).1 (t.a _ _ h n).2 (Rps.to t r)
  | _, _, .dct h n r => .dct (t.a _ _ h n).1 (t.a _ _ h n).2 (Rpk.to t r)
  | _, _, .dtt h n r => .dtt (t.a _ _ h n).1 (t.a _ _ h n).2 (Rpt.to t r)
  | _, _, .adr a => .adr a
  | _, _, .ext p => .ext fun H2 k => p H2 (t.e H2 k)
theorem Rps.to (t : To X H X' H') : ∀ {v : List V} {d : List Da}, Rps X H v d → Rps X' H' v d
  | _, _, .nil => .nil
  | _, _, .cons a b => .cons (Rp.to t a) (Rps.to t b)
theorem Rpk.to (t : To X H X' H') : ∀ {v : List (Key × V)} {d : List (Key × Da)}, Rpk X H v d → Rpk X' H' v d
  | _, _, .nil => .nil
  | _, _, .cons a b => .cons (Rp.to t a) (Rpk.to t b)
theorem Rpt.to (t : To X H X' H') : ∀ {v : List (List Key × V)} {d : List (List Key × Da)}, Rpt X H v d → Rpt X' H' v d
  | _, _, .nil => .nil
  | _, _, .cons a b => .cons (Rp.to t a) (Rpt.to t b)
end
theorem To.kp (e : Kp X H H') : To X H X H' := ⟨fun a o h n => ⟨e.a a o h n, n⟩, fun _ k => e.trans k⟩
theorem To.sub (s : ∀ a, X' a → X a) : To X H X' H := ⟨fun a o h n => ⟨h, fun z => n (s a z)⟩, fun _ k => k.sub s⟩
theorem To.add {p : Addr} (h : H p = none) : To X H (fun a => X a ∨ a = p) H := ⟨fun a o q n => ⟨q, fun z => z.elim n fun c => (ne_of_none q h) c⟩, fun H2 k => ⟨fun a o q n => k.a a o q fun z => z.elim n fun c => (ne_of_none q h) c, k.b⟩⟩
theorem Rp.kp {v : V} {d : Da} (r : Rp X H v d) (e : Kp X H H') : Rp X H' v d := r.to (.kp e)
theorem Rps.kp {v : List V} {d : List Da} (r : Rps X H v d) (e : Kp X H H') : Rps X H' v d := r.to (.kp e)
theorem Rpk.kp {v : List (Key × V)} {d : List (Key × Da)} (r : Rpk X H v d) (e : Kp X H H') : Rpk X H' v d := r.to (.kp e)
theorem Rpt.kp {v : List (List Key × V)} {d : List (List Key × Da)} (r : Rpt X H v d) (e : Kp X H H') : Rpt X H' v d := r.to (.kp e)
theorem Rps.len : ∀ {v : List V} {d : List Da}, Rps X H v d → v.length = d.length
  | _, _, .nil => rfl
  | _, _, .cons _ r => congrArg (· + 1) r.len
theorem Rps.app : ∀ {v u : List V} {d e : List Da}, Rps X H v d → Rps X H u e → Rps X H (v ++ u) (d ++ e)
  | _, _, _, _, .nil, s => s
  | _, _, _, _, .cons a r, s => .cons a (r.app s)
theorem Rps.one {v : V} {d : Da} (h : Rp X H v d) : Rps X H [v] [d] := .cons h .nil
theorem Rps.at_ : ∀ {v : List V} {d : List Da} {i : Nat} {x : V}, Rps X H v d → v[i]? = some x → ∃ y, d[i]? = some y ∧ Rp X H x y
  | _, _, 0, _, .cons h _, e => ⟨_, rfl, by cases e; exact h⟩
  | _, _, i + 1, _, .cons _ r, e => r.at_ e
theorem Rps.ix : ∀ {v : List V} {d : List Da} {i : Nat} {y : Da}, Rps X H v d → d[i]? = some y → ∃ x, v[i]? = some x ∧ Rp X H x y
  | _, _, 0, _, .cons h _, e => ⟨_, rfl, by cases e; exact h⟩
  | _, _, i + 1, _, .cons _ r, e => r.ix e
theorem Rps.take : ∀ (n : Nat) {v : List V} {d : List Da}, Rps X H v d → Rps X H (v.take n) (d.take n)
  | 0, _, _, _ => .nil
  | _ + 1, _, _, .nil => .nil
  | n + 1, _, _, .cons h r => .cons h (r.take n)
theorem Rps.drop : ∀ (n : Nat) {v : List V} {d : List Da}, Rps X H v d → Rps X H (v.drop n) (d.drop n)
  | 0, _, _, r => r
  | _ + 1, _, _, .nil => .nil
  | n + 1, _, _, .cons _ r => r.drop n
theorem Rps.rev : ∀ {v : List V} {d : List Da}, Rps X H v d → Rps X H v.reverse d.reverse
  | _, _, .nil => .nil
  | _, _, .cons h r => by rw [List.reverse_cons, List.reverse_cons]; exact r.rev.app (.one h)
theorem Rps.set {x : V} {y : Da} (h : Rp X H x y) : ∀ (i : Nat) {v : List V} {d : List Da}, Rps X H v d → Rps X H (v.set i x) (d.set i y)
  | _, _, _, .nil => .nil
  | 0, _, _, .cons _ r => .cons h r
  | i + 1, _, _, .cons q r => .cons q (r.set h i)
theorem Rps.ints : ∀ {v : List V} {ns : List Int}, Rps X H v (ns.map Da.int) → v = ns.map V.int
  | _, [], .nil => rfl
  | _, n :: r, .cons h t => by cases h; rw [t.ints]; rfl
theorem Rps.strs : ∀ {v : List V} {ns : List Str}, Rps X H v (ns.map Da.str) → v = ns.map V.str
  | _, [], .nil => rfl
  | _, n :: r, .cons h t => by cases h; rw [t.strs]; rfl
theorem Rps.bls : ∀ {v : List V} {ns : List Bool}, Rps X H v (ns.map Da.bl) → v = ns.map V.bl
  | _, [], .nil => rfl
  | _, n :: r, .cons h t => by cases h; rw [t.bls]; rfl
theorem Rps.of_strs : ∀ (ns : List Str), Rps X H (ns.map V.str) (ns.map Da.str)
  | [] => .nil
  | n :: r => .cons (.str n) (Rps.of_strs r)
theorem Rps.of_ints : ∀ (ns : List Int), Rps X H (ns.map V.int) (ns.map Da.int)
  | [] => .nil
  | n :: r => .cons (.int n) (Rps.of_ints r)
theorem Rpk.len : ∀ {v : List (Key × V)} {d : List (Key × Da)}, Rpk X H v d → v.length = d.length
  | _, _, .nil => rfl
  | _, _, .cons _ r => congrArg (· + 1) r.len
theorem Rpk.keys : ∀ {v : List (Key × V)} {d : List (Key × Da)}, Rpk X H v d → v.map (·.1) = d.map (·.1)
  | _, _, .nil => rfl
  | _, _, .cons _ r => congrArg (_ :: ·) r.keys
theorem Rpt.len : ∀ {v : List (List Key × V)} {d : List (List Key × Da)}, Rpt X H v d → v.length = d.length
  | _, _, .nil => rfl
  | _, _, .cons _ r => congrArg (· + 1) r.len
theorem Rpt.keys : ∀ {v : List (List Key × V)} {d : List (List Key × Da)}, Rpt X H v d → v.map (·.1) = d.map (·.1)
  | _, _, .nil => rfl
  | _, _, .cons _ r => congrArg (_ :: ·) r.keys
end
/-- a dict of data, asked -/
def look {κ : Type} [DecidableEq κ] (kvs : List (κ × Da)) (k : κ) : Option Da := (kvs.find? fun kv => decide (kv.1 = k)).map (·.2)
def put {κ : Type} [DecidableEq κ] (kvs : List (κ × Da)) (k : κ) (v : Da) : List (κ × Da) := if kvs.any fun kv => decide (kv.1 = k) then kvs.map fun kv => if kv.1 = k then (kv.1, v) else kv else kvs ++ [(k, v)]
section
variable {X : Addr → Prop} {H : Hp}
theorem Rpk.look : ∀ {v : List (Key × V)} {d : List (Key × Da)} (k : Key), Rpk X H v d → match look d k with | none => valV v k = none | some y => ∃ x, valV v k = some x ∧ Rp X H x y
  | _, _, k, .nil => rfl
  | _, _, k, @Rpk.cons _ _ k' v' d' vs ds h r => by
    have ih := r.look k
    unfold Dl.look valV at ih ⊢
    rw [List.find?_cons, List.find?_cons]
    by_cases c : k' = k
    · simp only [decide_eq_true c]
      exact ⟨_, rfl, h⟩
    · simp only [decide_eq_false c]
      exact ih
theorem Rpt.look : ∀ {v : List (List Key × V)} {d : List (List Key × Da)} (k : List Key), Rpt X H v d → match look d k with | none => valV v k = none | some y => ∃ x, valV v k = some x ∧ Rp X H x y
  | _, _, k, .nil => rfl
  | _, _, k, @Rpt.cons _ _ k' v' d' vs ds h r => by
    have ih := r.look k
    unfold Dl.look valV at ih ⊢
    rw [List.find?_cons, List.find?_cons]
    by_cases c : k' = k
    · simp only [decide_eq_true c]
      exact ⟨_, rfl, h⟩
    · simp only [decide_eq_false c]
      exact ih
theorem Rpk.snoc {k : Key} {x : V} {y : Da} (h : Rp X H x y) : ∀ {v : List (Key × V)} {d : List (Key × Da)}, Rpk X H v d → Rpk X H (v ++ [(k, x)]) (d ++ [(k, y)])
  | _, _, .nil => .cons h .nil
  | _, _, .cons a r => .cons a (r.snoc h)
theorem Rpk.any (k : Key) : ∀ {v : List (Key × V)} {d : List (Key × Da)}, Rpk X H v d → (v.any fun kv => decide (kv.1 = k)) = d.any fun kv => decide (kv.1 = k)
  | _, _, .nil => rfl
  | _, _, .cons _ r => by rw [List.any_cons, List.any_cons, r.any k]
theorem Rpk.put_in {k : Key} {x : V} {y : Da} (h : Rp X H x y) : ∀ {v : List (Key × V)} {d : List (Key × Da)}, Rpk X H v d → Rpk X H (v.map fun kv => if kv.1 = k then (kv.1, x) else kv) (d.map fun kv => if kv.1 = k then (kv.1, y) else kv)
  | _, _, .nil => .nil
  | _, _, @Rpk.cons _ _ k' v' d' vs ds a r => by
    rw [List.map_cons, List.map_cons]
    by_cases c : k' = k
    · rw [if_pos c, if_pos c]; exact .cons h (r.put_in h)
    · rw [if_neg c, if_neg c]; exact .cons a (r.put_in h)
theorem Rpk.put {k : Key} {x : V} {y : Da} (h : Rp X H x y) {v : List (Key × V)} {d : List (Key × Da)} (r : Rpk X H v d) : Rpk X H (putK v k x) (Dl.put d k y) := by
  unfold putK Dl.put
  rw [r.any k]
  split
  · exact r.put_in h
  · exact r.snoc h
end
end Dl


set_option Elab.async false
set_option linter.all false
set_option maxRecDepth 100000
set_option maxHeartbeats 4000000
/-! a world, the slots' data, what an expression tells -/
namespace Dl
open PySem PySem.Spec PyProof.Rows L2
/-- X0: what the def's callers may turn; X: that and the def's own objects that turn; Y: what this def may turn of its callers'; J: what is known of Y -/
structure Wd where
  h0 : Hp
  fs : List Hp
  X0 : Addr → Prop
  X : Addr → Prop
  Y : Addr → Prop
  J : Hp → Prop
  s0 : ∀ a, X0 a → X a
  sy : ∀ a, Y a → X0 a
  jd : ∀ H H', (∀ a o, Y a → H a = some o → H' a = some o) → J H → J H'
/-- a slot: unknown, data, an own list, an own dict -/
inductive En where
  | un | da (d : Da) | ml (l : Addr) (ds : List Da) | md (l : Addr) (kvs : List (Key × Da))
def En.mut : En → Option Addr
  | .ml l _ => some l
  | .md l _ => some l
  | _ => none
def SlE (W : Wd) (H : Hp) (o : Option V) : En → Prop
  | .un => True
  | .da d => ∃ v, o = some v ∧ Rp W.X H v d
  | .ml l ds => o = some (.ref l) ∧ W.X l ∧ ¬ W.X0 l ∧ W.h0 l = none ∧ ∃ vs, H l = some (.lst vs) ∧ Rps W.X H vs ds
  | .md l ds => o = some (.ref l) ∧ W.X l ∧ ¬ W.X0 l ∧ W.h0 l = none ∧ ∃ vs, H l = some (.dK vs) ∧ Rpk W.X H vs ds
/-- what the def may turn -/
def Wd.Z (W : Wd) (a : Addr) : Prop := W.Y a ∨ (W.X a ∧ ¬ W.X0 a)
structure Sl (W : Wd) (H : Hp) (σ : L2.St) (ρ : List En) : Prop where
  k0 : Kp W.Y W.h0 H
  fr : ∀ H1 ∈ W.fs, Kp W.Z H1 H
  al : ∀ a, W.X a → H a ≠ none
  j : W.J H
  len : σ.length = ρ.length
  at_ : ∀ (i : Nat) o e, σ[i]? = some o → ρ[i]? = some e → SlE W H o e
  nd : ∀ (i j : Nat) e f a, i ≠ j → ρ[i]? = some e → ρ[j]? = some f → e.mut = some a → f.mut ≠ some a
theorem Wd.jsame (W : Wd) {H H' : Hp} (e : Same H H') (j : W.J H) : W.J H' := W.jd H H' (fun a o _ h => e a o h) j
theorem Wd.y (W : Wd) (a : Addr) (h : W.Y a) : W.X a := W.s0 a (W.sy a h)
theorem SlE.kp {W : Wd} {H H' : Hp} {o : Option V} : ∀ {e : En}, SlE W H o e → Kp W.Y H H' → SlE W H' o e
  | .un, _, _ => trivial
  | .da d, ⟨v, h, r⟩, k => ⟨v, h, r.kp (k.sub W.y)⟩
  | .ml l ds, ⟨h, x, y, y0, vs, q, r⟩, k => ⟨h, x, y, y0, vs, k.a _ _ q fun z => y (W.sy _ z), r.kp (k.sub W.y)⟩
  | .md l ds, ⟨h, x, y, y0, vs, q, r⟩, k => ⟨h, x, y, y0, vs, k.a _ _ q fun z => y (W.sy _ z), r.kp (k.sub W.y)⟩
theorem Sl.step {W : Wd} {H H' : Hp} {σ : L2.St} {ρ : List En} (s : Sl W H σ ρ) (k : Kp W.Y H H') (j : W.J H') : Sl W H' σ ρ :=
  ⟨s.k0.trans k, fun H1 m => (s.fr H1 m).trans (k.sub fun a h => .inl h), fun a h => k.b a (s.al a h), j, s.len, fun i o e h q => (s.at_ i o e h q).kp k, s.nd⟩
theorem Sl.get {W : Wd} {H : Hp} {σ : L2.St} {ρ : List En} (s : Sl W H σ ρ) {i : Nat} {e : En} (h : ρ[i]? = some e) : ∃ o, σ[i]? = some o ∧ SlE W H o e := by
  obtain ⟨hi, q⟩ := List.getElem?_eq_some_iff.mp h
  have hj : i < σ.length := by rw [s.len]; exact hi
  have h2 : σ[i]? = some σ[i] := List.getElem?_eq_getElem hj
  exact ⟨_, h2, s.at_ i _ e h2 h⟩
theorem Sl.set {W : Wd} {H : Hp} {σ : L2.St} {ρ : List En} (s : Sl W H σ ρ) (i : Nat) {o : Option V} {e : En} (h : SlE W H o e) (n : ∀ a, e.mut = some a → ∀ (j : Nat) f, j ≠ i → ρ[j]? = some f → f.mut ≠ some a) : Sl W H (σ.set i o) (ρ.set i e) := by
  refine ⟨s.k0, s.fr, s.al, s.j, by rw [List.length_set, List.length_set]; exact s.len, fun j o' e' h1 h2 => ?_, fun j k e1 e2 a hjk h1 h2 m => ?_⟩
  · by_cases c : i = j
    · subst c
      by_cases d : i < σ.length
      · rw [List.getElem?_set_self d] at h1
        rw [List.getElem?_set_self (by rw [← s.len]; exact d)] at h2
        cases h1
        cases h2
        exact h
      · rw [List.getElem?_eq_none (by rw [List.length_set]; omega)] at h1
        cases h1
    · rw [List.getElem?_set_ne c] at h1 h2
      exact s.at_ j o' e' h1 h2
  · by_cases c : i = j
    · subst c
      rw [List.getElem?_set_ne hjk] at h2
      have : e1 = e := by
        have hl := (List.getElem?_eq_some_iff.mp h1).1
        rw [List.getElem?_set_self (by rw [List.length_set] at hl; exact hl)] at h1
        exact (Option.some.inj h1).symm
      subst this
      exact n a m k e2 (Ne.symm hjk) h2
    · rw [List.getElem?_set_ne c] at h1
      by_cases c2 : i = k
      · subst c2
        have : e2 = e := by
          have hl := (List.getElem?_eq_some_iff.mp h2).1
          rw [List.getElem?_set_self (by rw [List.length_set] at hl; exact hl)] at h2
          exact (Option.some.inj h2).symm
        subst this
        exact fun m2 => n a m2 j e1 (Ne.symm c) h1 m
      · rw [List.getElem?_set_ne c2] at h2
        exact s.nd j k e1 e2 a hjk h1 h2 m
theorem Sl.setD {W : Wd} {H : Hp} {σ : L2.St} {ρ : List En} (s : Sl W H σ ρ) (i : Nat) {v : V} {d : Da} (h : Rp W.X H v d) : Sl W H (σ.set i (some v)) (ρ.set i (.da d)) := s.set i (e := .da d) ⟨v, rfl, h⟩ fun a z => nomatch z
/-! ### what an expression, a test, an argument list tells -/
def WE (W : Wd) (te : TE) (ρ : List En) (Φ : Da → Prop) : Prop := ∀ σ H, Sl W H σ ρ → ∀ Q : VK, (∀ v H' d, Φ d → Kp W.Y H H' → W.J H' → Rp W.X H' v d → Q v H') → te σ H Q
def WT (W : Wd) (tt : TT) (ρ : List En) (Φ : Bool → Prop) : Prop := ∀ σ H, Sl W H σ ρ → ∀ Q : Bool → Hp → Prop, (∀ b H', Φ b → Kp W.Y H H' → W.J H' → Q b H') → tt σ H Q
def WA (W : Wd) (ta : TA) (ρ : List En) (Φ : List Da → Prop) : Prop := ∀ σ H, Sl W H σ ρ → ∀ Q : List V → Hp → Prop, (∀ vs H' ds, Φ ds → Kp W.Y H H' → W.J H' → Rps W.X H' vs ds → Q vs H') → ta σ H Q
def WO (W : Wd) (to : TO) (ρ : List En) (Φ : Option Int → Prop) : Prop := ∀ σ H, Sl W H σ ρ → ∀ Q : Option Int → Hp → Prop, (∀ b H', Φ b → Kp W.Y H H' → W.J H' → Q b H') → to σ H Q
/-- an operation on data -/
def W2 (W : Wd) (r : R2) (x y : Da) (Φ : Da → Prop) : Prop := ∀ v u H, (∀ a, W.X a → H a ≠ none) → W.J H → Rp W.X H v x → Rp W.X H u y → ∀ Q : VK, (∀ z H' d, Φ d → Kp W.Y H H' → W.J H' → Rp W.X H' z d → Q z H') → r v u H Q
def W1 (W : Wd) (r : V → Hp → VK → Prop) (x : Da) (Φ : Da → Prop) : Prop := ∀ v H, (∀ a, W.X a → H a ≠ none) → W.J H → Rp W.X H v x → ∀ Q : VK, (∀ z H' d, Φ d → Kp W.Y H H' → W.J H' → Rp W.X H' z d → Q z H') → r v H Q
def WC (W : Wd) (r : List V → Hp → VK → Prop) (xs : List Da) (Φ : Da → Prop) : Prop := ∀ vs H, (∀ a, W.X a → H a ≠ none) → W.J H → Rps W.X H vs xs → ∀ Q : VK, (∀ z H' d, Φ d → Kp W.Y H H' → W.J H' → Rp W.X H' z d → Q z H') → r vs H Q
section
variable {W : Wd} {ρ : List En} {Φ : Da → Prop} {ta tb tc te : TE} {i : Nat}
theorem WE.mono {Ψ : Da → Prop} (h : WE W te ρ Φ) (m : ∀ d, Φ d → Ψ d) : WE W te ρ Ψ := fun σ H s Q q => h σ H s Q fun v H' d f => q v H' d (m d f)
theorem WT.mono {tt : TT} {Φ Ψ : Bool → Prop} (h : WT W tt ρ Φ) (m : ∀ d, Φ d → Ψ d) : WT W tt ρ Ψ := fun σ H s Q q => h σ H s Q fun b H' f => q b H' (m b f)
theorem WA.mono {ta : TA} {Φ Ψ : List Da → Prop} (h : WA W ta ρ Φ) (m : ∀ d, Φ d → Ψ d) : WA W ta ρ Ψ := fun σ H s Q q => h σ H s Q fun v H' d f => q v H' d (m d f)
theorem we_var {d : Da} (h : ρ[i]? = some (.da d)) (f : Φ d) : WE W (tVar i) ρ Φ := fun σ H s Q q => by
  obtain ⟨o, ho, v, rfl, r⟩ := s.get h
  exact ⟨v, ho, q v H d f .refl s.j r⟩
/-- an own object as an address -/
theorem we_varM {e : En} {l : Addr} (h : ρ[i]? = some e) (m : e.mut = some l) (f : Φ (.adr l)) : WE W (tVar i) ρ Φ := fun σ H s Q q => by
  obtain ⟨o, ho, r⟩ := s.get h
  cases e with
  | un => cases m
  | da d => cases m
  | ml l' ds =>
    cases m
    obtain ⟨rfl, _⟩ := r
    exact ⟨_, ho, q _ H _ f .refl s.j (.adr l)⟩
  | md l' ds =>
    cases m
    obtain ⟨rfl, _⟩ := r
    exact ⟨_, ho, q _ H _ f .refl s.j (.adr l)⟩
/-- a constant's data -/
def cD : V → Da
  | .non => .non
  | .bl b => .bl b
  | .int i => .int i
  | .str s => .str s
  | .ref a => .adr a
  | .ty n => .ty n
  | _ => .ext fun _ _ => True
theorem rp_c {X : Addr → Prop} {H : Hp} : ∀ v : V, Rp X H v (cD v)
  | .non => .non
  | .bl b => .bl b
  | .int i => .int i
  | .str s => .str s
  | .ref a => .adr a
  | .ty n => .ty n
  | .byt _ => .ext fun _ _ => trivial
  | .flt _ => .ext fun _ _ => trivial
theorem we_c {v : V} (f : Φ (cD v)) : WE W (tC v) ρ Φ := fun σ H s Q q => q v H _ f .refl s.j (rp_c v)
theorem we_op {r : R2} (h : WE W ta ρ fun x => WE W tb ρ fun y => W2 W r x y Φ) : WE W (tOp r ta tb) ρ Φ := fun σ H s Q q =>
  h σ H s _ fun v H1 x h1 k1 j1 r1 => h1 σ H1 (s.step k1 j1) _ fun u H2 y h2 k2 j2 r2 => h2 v u H2 (fun a z => k2.b a (k1.b a (s.al a z))) j2 (r1.kp (k2.sub W.y)) r2 Q fun z H3 d f k3 => q z H3 d f ((k1.trans k2).trans k3)
theorem we_un {r : V → Hp → VK → Prop} (h : WE W ta ρ fun x => W1 W r x Φ) : WE W (tUn r ta) ρ Φ := fun σ H s Q q =>
  h σ H s _ fun v H1 x h1 k1 j1 r1 => h1 v H1 (fun a z => k1.b a (s.al a z)) j1 r1 Q fun z H3 d f k3 => q z H3 d f (k1.trans k3)
theorem we_cb {r : List V → Hp → VK → Prop} {t : TA} (h : WA W t ρ fun xs => WC W r xs Φ) : WE W (tCB r t) ρ Φ := fun σ H s Q q =>
  h σ H s _ fun v H1 x h1 k1 j1 r1 => h1 v H1 (fun a z => k1.b a (s.al a z)) j1 r1 Q fun z H3 d f k3 => q z H3 d f (k1.trans k3)
theorem wa_nil {Φ : List Da → Prop} (f : Φ []) : WA W tNil ρ Φ := fun σ H s Q q => q [] H [] f .refl s.j .nil
theorem wa_cons {Φ : List Da → Prop} {tr : TA} (h : WE W ta ρ fun x => WA W tr ρ fun xs => Φ (x :: xs)) : WA W (tCons ta tr) ρ Φ := fun σ H s Q q =>
  h σ H s _ fun v H1 x h1 k1 j1 r1 => h1 σ H1 (s.step k1 j1) _ fun us H2 ys h2 k2 j2 r2 => q _ H2 _ h2 (k1.trans k2) j2 (.cons (r1.kp (k2.sub W.y)) r2)
theorem we_if {t : TT} (h : WT W t ρ fun b => if b = true then WE W ta ρ Φ else WE W tb ρ Φ) : WE W (tIf t ta tb) ρ Φ := fun σ H s Q q =>
  h σ H s _ fun b H1 h1 k1 j1 => by
    cases b
    · exact if_neg Bool.false_ne_true ▸ h1 σ H1 (s.step k1 j1) Q fun z H3 d f k3 => q z H3 d f (k1.trans k3)
    · exact if_pos rfl ▸ h1 σ H1 (s.step k1 j1) Q fun z H3 d f k3 => q z H3 d f (k1.trans k3)
theorem new_ok {H H1 : Hp} {p : Addr} (al : ∀ a, W.X a → H a ≠ none) (h : H p = none) : ¬ W.X p := fun z => al p z h
theorem we_tup {t : TA} (h : WA W t ρ fun xs => xs.length ≤ 1000000 ∧ Φ (.tup xs)) : WE W (tTup t) ρ Φ := fun σ H s Q q =>
  h σ H s _ fun vs H1 xs h1 k1 j1 r1 => ⟨by rw [r1.len, sizeLine_eq]; omega, fun p hp => by
    have e : Same H1 (upd H1 p (.tup vs)) := same_upd hp
    exact q _ _ _ h1.2 (k1.trans (.same e)) (W.jsame e j1) (.tup upd_same (fun z => k1.b p (s.al p z) hp) (r1.kp (.same e)))⟩
theorem we_lst {t : TA} (h : WA W t ρ fun xs => xs.length ≤ 1000000 ∧ Φ (.lst xs)) : WE W (tLst t) ρ Φ := fun σ H s Q q =>
  h σ H s _ fun vs H1 xs h1 k1 j1 r1 => ⟨by rw [r1.len, sizeLine_eq]; omega, fun p hp => by
    have e : Same H1 (upd H1 p (.lst vs)) := same_upd hp
    exact q _ _ _ h1.2 (k1.trans (.same e)) (W.jsame e j1) (.lst upd_same (fun z => k1.b p (s.al p z) hp) (r1.kp (.same e)))⟩
/-! ### tests -/
theorem wt_test {Φ : Bool → Prop} (h : WE W te ρ fun x => ∃ b, x = .bl b ∧ Φ b) : WT W (tTest te) ρ Φ := fun σ H s Q q =>
  h σ H s _ fun v H1 x ⟨b, e, f⟩ k1 j1 r1 => by
    subst e
    cases r1
    exact ⟨b, rfl, q b H1 f k1 j1⟩
theorem wt_B {Φ : Bool → Prop} (h : WE W te ρ fun x => ∃ b, x = .bl b ∧ Φ b) : WT W (tB te) ρ Φ := fun σ H s Q q =>
  h σ H s _ fun v H1 x ⟨b, e, f⟩ k1 j1 r1 => by
    subst e
    cases r1
    exact ⟨b, rfl, q b H1 f k1 j1⟩
theorem wt_not {t : TT} {Φ : Bool → Prop} (h : WT W t ρ fun b => Φ (!b)) : WT W (tNot t) ρ Φ := fun σ H s Q q => h σ H s _ fun b H1 f k1 j1 => q (!b) H1 f k1 j1
theorem wt_and {t u : TT} {Φ : Bool → Prop} (h : WT W t ρ fun b => if b = true then WT W u ρ Φ else Φ false) : WT W (tAnd t u) ρ Φ := fun σ H s Q q =>
  h σ H s _ fun b H1 f k1 j1 => by
    cases b
    · exact if_neg Bool.false_ne_true ▸ q false H1 f k1 j1
    · exact if_pos rfl ▸ f σ H1 (s.step k1 j1) Q fun b2 H2 f2 k2 => q b2 H2 f2 (k1.trans k2)
theorem wt_or {t u : TT} {Φ : Bool → Prop} (h : WT W t ρ fun b => if b = true then Φ true else WT W u ρ Φ) : WT W (tOr t u) ρ Φ := fun σ H s Q q =>
  h σ H s _ fun b H1 f k1 j1 => by
    cases b
    · exact if_neg Bool.false_ne_true ▸ f σ H1 (s.step k1 j1) Q fun b2 H2 f2 k2 => q b2 H2 f2 (k1.trans k2)
    · exact if_pos rfl ▸ q true H1 f k1 j1
theorem we_andV {Φ : Da → Prop} (h : WE W ta ρ fun x => ∃ b, x = .bl b ∧ if b = true then WE W tb ρ Φ else Φ (.bl false)) : WE W (tAndV ta tb) ρ Φ := fun σ H s Q q =>
  h σ H s _ fun v H1 x ⟨b, e, f⟩ k1 j1 r1 => by
    subst e
    cases r1
    refine ⟨b, rfl, ?_⟩
    cases b
    · exact if_neg Bool.false_ne_true ▸ q _ H1 _ f k1 j1 (.bl false)
    · exact if_pos rfl ▸ f σ H1 (s.step k1 j1) Q fun b2 H2 d f2 k2 => q b2 H2 d f2 (k1.trans k2)
theorem we_orV {Φ : Da → Prop} (h : WE W ta ρ fun x => ∃ b, x = .bl b ∧ if b = true then Φ (.bl true) else WE W tb ρ Φ) : WE W (tOrV ta tb) ρ Φ := fun σ H s Q q =>
  h σ H s _ fun v H1 x ⟨b, e, f⟩ k1 j1 r1 => by
    subst e
    cases r1
    refine ⟨b, rfl, ?_⟩
    cases b
    · exact if_neg Bool.false_ne_true ▸ f σ H1 (s.step k1 j1) Q fun b2 H2 d f2 k2 => q b2 H2 d f2 (k1.trans k2)
    · exact if_pos rfl ▸ q _ H1 _ f k1 j1 (.bl true)
theorem we_notV {Φ : Da → Prop} (h : WE W ta ρ fun x => ∃ b, x = .bl b ∧ Φ (.bl (!b))) : WE W (tNotV ta) ρ Φ := fun σ H s Q q =>
  h σ H s _ fun v H1 x ⟨b, e, f⟩ k1 j1 r1 => by
    subst e
    cases r1
    exact ⟨b, rfl, q _ H1 _ f k1 j1 (.bl _)⟩
/-- truth of data -/
def truD : Da → Option Bool
  | .non => some false
  | .bl b => some b
  | .int i => some (i != 0)
  | .str y => if y.length ≤ 1000000 then some ((y.length : Int) != 0) else none
  | .lst ds => some (!ds.isEmpty)
  | .tup ds => some (!ds.isEmpty)
  | .dct ds => some (!ds.isEmpty)
  | _ => none
theorem wt_truK {K : PySem.W.Frag} {Φ : Bool → Prop} (h : WE W ta ρ fun x => ∃ b, truD x = some b ∧ Φ b) : WT W (tTruK K ta) ρ Φ := fun σ H s Q q =>
  h σ H s _ fun v H1 x ⟨b, e, f⟩ k1 j1 r1 => by
    refine ⟨b, ?_, q b H1 f k1 j1⟩
    cases r1 with
    | non => cases e; rfl
    | bl _ => cases e; rfl
    | int _ => cases e; rfl
    | str y =>
      unfold truD at e
      dsimp only at e
      split at e
      · rename_i c
        cases e
        exact ⟨by rw [sizeLine_eq]; omega, rfl⟩
      · cases e
    | lst a n r =>
      cases e
      exact .inl ⟨_, SqL.of a, by cases r <;> rfl⟩
    | tup a n r =>
      cases e
      exact .inr (.inl ⟨_, SqT.of a, by cases r <;> rfl⟩)
    | dct a n r =>
      cases e
      exact .inr (.inr ⟨_, a, by cases r <;> rfl⟩)
    | _ => cases e
/-! ### chains, parts -/
theorem we_chain {r r' : R2} (h : WE W ta ρ fun x => WE W tb ρ fun y => W2 W r x y fun z => ∃ k, z = .bl k ∧ if k = true then WE W tc ρ fun z2 => W2 W r' y z2 Φ else Φ (.bl false)) : WE W (tChain r r' ta tb tc) ρ Φ := fun σ H s Q q =>
  h σ H s _ fun v H1 x h1 k1 j1 r1 => h1 σ H1 (s.step k1 j1) _ fun u H2 y h2 k2 j2 r2 => h2 v u H2 (fun a z => k2.b a (k1.b a (s.al a z))) j2 (r1.kp (k2.sub W.y)) r2 _ fun z H3 d ⟨k, e, f⟩ k3 j3 r3 => by
    subst e
    cases r3
    refine ⟨k, rfl, ?_⟩
    have k03 := (k1.trans k2).trans k3
    cases k
    · exact q _ H3 _ f k03 j3 (.bl false)
    · exact f σ H3 (s.step k03 j3) _ fun w H4 z2 h4 k4 j4 r4 => h4 u w H4 (fun a z => k4.b a (k03.b a (s.al a z))) j4 ((r2.kp (k3.sub W.y)).kp (k4.sub W.y)) r4 Q fun z H5 d f k5 => q z H5 d f ((k03.trans k4).trans k5)
theorem wo_none {Φ : Option Int → Prop} (f : Φ none) : WO W tNoPart ρ Φ := fun σ H s Q q => q none H f .refl s.j
theorem wo_some {Φ : Option Int → Prop} (h : WE W te ρ fun x => ∃ i, x = .int i ∧ Φ (some i)) : WO W (tPart te) ρ Φ := fun σ H s Q q => h σ H s _ fun v H1 x ⟨i, e, f⟩ k1 j1 r1 => by
  subst e
  cases r1
  exact ⟨i, rfl, q _ H1 f k1 j1⟩
end
end Dl


set_option Elab.async false
set_option linter.all false
set_option maxRecDepth 100000
set_option maxHeartbeats 4000000
/-! operations on data, parts, calls -/
namespace Dl
open PySem PySem.Spec PyProof.Rows L2
section
variable {W : Wd} {ρ : List En} {Φ : Da → Prop} {ta tb tc te : TE} {i : Nat} {x y : Da} {xs : List Da} {K : PySem.W.Frag}
theorem w2_I0 {g : Int → Int → V} (f : ∃ i j, x = .int i ∧ y = .int j ∧ Φ (cD (g i j))) : W2 W (rI0 g) x y Φ := fun v u H al j rx ry Q q => by
  obtain ⟨i, k, rfl, rfl, f⟩ := f
  cases rx
  cases ry
  exact ⟨i, k, rfl, rfl, q _ H _ f .refl j (rp_c _)⟩
theorem w2_I {C : Int → Int → Prop} {g : Int → Int → V} (f : ∃ i j, x = .int i ∧ y = .int j ∧ C i j ∧ Φ (cD (g i j))) : W2 W (rI C g) x y Φ := fun v u H al j rx ry Q q => by
  obtain ⟨i, k, rfl, rfl, c, f⟩ := f
  cases rx
  cases ry
  exact ⟨i, k, rfl, rfl, c, q _ H _ f .refl j (rp_c _)⟩
theorem w2_adS (f : ∃ i j, x = .str i ∧ y = .str j ∧ i.length + j.length ≤ 1000000 ∧ Φ (.str (i ++ j))) : W2 W (fun x y H Q => ∃ i j, x = V.str i ∧ y = V.str j ∧ i.length + j.length ≤ sizeLine ∧ Q (V.str (i ++ j)) H) x y Φ := fun v u H al j rx ry Q q => by
  obtain ⟨i, k, rfl, rfl, c, f⟩ := f
  cases rx
  cases ry
  exact ⟨i, k, rfl, rfl, by rw [sizeLine_eq]; omega, q _ H _ f .refl j (.str _)⟩
theorem w2_eqI (f : ∃ i j, x = .int i ∧ y = .int j ∧ Φ (.bl (decide (i = j)))) : W2 W rEq x y Φ := fun v u H al j rx ry Q q => by
  obtain ⟨i, k, rfl, rfl, f⟩ := f
  cases rx
  cases ry
  refine ⟨rfl, ?_⟩
  have e : decide (V.int i = V.int k) = decide (i = k) := by rw [decide_eq_decide]; exact ⟨fun z => V.int.inj z, fun z => z ▸ rfl⟩
  rw [e]
  exact q _ H _ f .refl j (.bl _)
theorem w2_neI (f : ∃ i j, x = .int i ∧ y = .int j ∧ Φ (.bl (!decide (i = j)))) : W2 W rNe x y Φ := fun v u H al j rx ry Q q => by
  obtain ⟨i, k, rfl, rfl, f⟩ := f
  cases rx
  cases ry
  refine ⟨rfl, ?_⟩
  have e : decide (V.int i = V.int k) = decide (i = k) := by rw [decide_eq_decide]; exact ⟨fun z => V.int.inj z, fun z => z ▸ rfl⟩
  rw [e]
  exact q _ H _ f .refl j (.bl _)
theorem w2_eqS (f : ∃ i j, x = .str i ∧ y = .str j ∧ Φ (.bl (decide (i = j)))) : W2 W rEq x y Φ := fun v u H al j rx ry Q q => by
  obtain ⟨i, k, rfl, rfl, f⟩ := f
  cases rx
  cases ry
  refine ⟨rfl, ?_⟩
  have e : decide (V.str i = V.str k) = decide (i = k) := by rw [decide_eq_decide]; exact ⟨fun z => V.str.inj z, fun z => z ▸ rfl⟩
  rw [e]
  exact q _ H _ f .refl j (.bl _)
theorem w2_neS (f : ∃ i j, x = .str i ∧ y = .str j ∧ Φ (.bl (!decide (i = j)))) : W2 W rNe x y Φ := fun v u H al j rx ry Q q => by
  obtain ⟨i, k, rfl, rfl, f⟩ := f
  cases rx
  cases ry
  refine ⟨rfl, ?_⟩
  have e : decide (V.str i = V.str k) = decide (i = k) := by rw [decide_eq_decide]; exact ⟨fun z => V.str.inj z, fun z => z ▸ rfl⟩
  rw [e]
  exact q _ H _ f .refl j (.bl _)
/-- is None -/
def isN : Da → Option Bool
  | .non => some true
  | .ext _ => none
  | _ => some false
theorem isN_ok {X : Addr → Prop} {H : Hp} {v : V} {b : Bool} (e : isN x = some b) (r : Rp X H v x) : decide (v = .non) = b := by
  cases r <;> cases e <;> rfl
theorem w2_isN (f : y = .non ∧ ∃ b, isN x = some b ∧ Φ (.bl b)) : W2 W (fun x y H Q => y = V.non ∧ Q (V.bl (decide (x = V.non))) H) x y Φ := fun v u H al j rx ry Q q => by
  obtain ⟨rfl, b, e, f⟩ := f
  cases ry
  refine ⟨rfl, ?_⟩
  rw [isN_ok e rx]
  exact q _ H _ f .refl j (.bl _)
theorem w2_notN (f : y = .non ∧ ∃ b, isN x = some b ∧ Φ (.bl (!b))) : W2 W (fun x y H Q => y = V.non ∧ Q (V.bl (!decide (x = V.non))) H) x y Φ := fun v u H al j rx ry Q q => by
  obtain ⟨rfl, b, e, f⟩ := f
  cases ry
  refine ⟨rfl, ?_⟩
  rw [isN_ok e rx]
  exact q _ H _ f .refl j (.bl _)
/-! in -/
theorem inV_strs {s : Str} {ss : List Str} : inV (.str s) (ss.map V.str) = decide (s ∈ ss) := by
  unfold inV
  rw [Bool.eq_iff_iff, List.any_eq_true, decide_eq_true_iff]
  constructor
  · rintro ⟨v, hv, e⟩
    obtain ⟨u, hu, rfl⟩ := List.mem_map.mp hv
    have : u = s := by simpa [eqV] using e
    exact this ▸ hu
  · exact fun h => ⟨.str s, List.mem_map.mpr ⟨s, h, rfl⟩, by simp [eqV]⟩
theorem inV_ints {s : Int} {ss : List Int} : inV (.int s) (ss.map V.int) = decide (s ∈ ss) := by
  unfold inV
  rw [Bool.eq_iff_iff, List.any_eq_true, decide_eq_true_iff]
  constructor
  · rintro ⟨v, hv, e⟩
    obtain ⟨u, hu, rfl⟩ := List.mem_map.mp hv
    have : u = s := by simpa [eqV] using e
    exact this ▸ hu
  · exact fun h => ⟨.int s, List.mem_map.mpr ⟨s, h, rfl⟩, by simp [eqV]⟩
theorem flatS (ss : List Str) : (ss.map V.str).all flatV = true := by
  rw [List.all_eq_true]
  intro v hv
  obtain ⟨u, _, rfl⟩ := List.mem_map.mp hv
  rfl
theorem flatI (ss : List Int) : (ss.map V.int).all flatV = true := by
  rw [List.all_eq_true]
  intro v hv
  obtain ⟨u, _, rfl⟩ := List.mem_map.mp hv
  rfl
theorem seq_of {X : Addr → Prop} {H : Hp} {v : V} {ds : List Da} (h : Rp X H v y) (e : y = .lst ds ∨ y = .tup ds) : ∃ p vs, v = .ref p ∧ (SqL K H p vs ∨ SqT K H p vs) ∧ Rps X H vs ds := by
  rcases e with rfl | rfl
  · cases h with
    | lst a n r => exact ⟨_, _, rfl, .inl (SqL.of a), r⟩
  · cases h with
    | tup a n r => exact ⟨_, _, rfl, .inr (SqT.of a), r⟩
theorem w2_inS {neg : Bool} (f : ∃ (s : Str) (ss : List Str), x = .str s ∧ (y = .lst (ss.map .str) ∨ y = .tup (ss.map .str)) ∧ Φ (.bl (if neg then !decide (s ∈ ss) else decide (s ∈ ss)))) : W2 W (rIn K neg) x y Φ := fun v u H al j rx ry Q q => by
  obtain ⟨s, ss, rfl, e, f⟩ := f
  cases rx
  obtain ⟨p, vs, rfl, hs, r⟩ := seq_of (K := K) ry e
  obtain rfl := r.strs
  refine ⟨p, _, rfl, hs, rfl, flatS ss, ?_⟩
  rw [inV_strs]
  exact q _ H _ f .refl j (.bl _)
theorem w2_inI {neg : Bool} (f : ∃ (s : Int) (ss : List Int), x = .int s ∧ (y = .lst (ss.map .int) ∨ y = .tup (ss.map .int)) ∧ Φ (.bl (if neg then !decide (s ∈ ss) else decide (s ∈ ss)))) : W2 W (rIn K neg) x y Φ := fun v u H al j rx ry Q q => by
  obtain ⟨s, ss, rfl, e, f⟩ := f
  cases rx
  obtain ⟨p, vs, rfl, hs, r⟩ := seq_of (K := K) ry e
  obtain rfl := r.ints
  refine ⟨p, _, rfl, hs, rfl, flatI ss, ?_⟩
  rw [inV_ints]
  exact q _ H _ f .refl j (.bl _)
/-! items, parts -/
theorem atI_map {α β : Type} (g : α → β) (xs : List α) (i : Int) : atI (xs.map g) i = (atI xs i).map g := by
  unfold atI
  rw [List.length_map]
  cases ixN xs.length i with
  | none => rfl
  | some j => exact List.getElem?_map
theorem Rps.atI {X : Addr → Prop} {H : Hp} {vs : List V} {ds : List Da} {i : Int} {d : Da} (r : Rps X H vs ds) (h : atI ds i = some d) : ∃ v, L2.atI vs i = some v ∧ Rp X H v d := by
  unfold L2.atI at h ⊢
  rw [r.len]
  cases e : ixN ds.length i with
  | none => rw [e] at h; cases h
  | some j => rw [e] at h; exact r.ix h
theorem w2_ixL (f : ∃ ds i d, x = .lst ds ∧ y = .int i ∧ L2.atI ds i = some d ∧ Φ d) : W2 W (rIxL K) x y Φ := fun v u H al j rx ry Q q => by
  obtain ⟨ds, i, d, rfl, rfl, e, f⟩ := f
  cases ry
  cases rx with
  | lst a n r =>
    obtain ⟨v, h1, h2⟩ := r.atI e
    exact ⟨_, _, _, v, rfl, rfl, SqL.of a, h1, q _ H _ f .refl j h2⟩
theorem w2_ixT (f : ∃ ds i d, x = .tup ds ∧ y = .int i ∧ L2.atI ds i = some d ∧ Φ d) : W2 W (rIxT K) x y Φ := fun v u H al j rx ry Q q => by
  obtain ⟨ds, i, d, rfl, rfl, e, f⟩ := f
  cases ry
  cases rx with
  | tup a n r =>
    obtain ⟨v, h1, h2⟩ := r.atI e
    exact ⟨_, _, _, v, rfl, rfl, SqT.of a, h1, q _ H _ f .refl j h2⟩
theorem w2_ixS (f : ∃ z i c, x = .str z ∧ y = .int i ∧ 0 ≤ i ∧ i < 2 ^ 63 ∧ i < (z.length : Int) ∧ z.cps[i.toNat]? = some c ∧ Φ (.str ⟨#[c]⟩)) : W2 W (fun x y H Q => ∃ z i c, x = V.str z ∧ y = V.int i ∧ 0 ≤ i ∧ i < 2 ^ 63 ∧ i < (z.length : Int) ∧ z.cps[i.toNat]? = some c ∧ Q (V.str { cps := #[c] }) H) x y Φ := fun v u H al j rx ry Q q => by
  obtain ⟨z, i, c, rfl, rfl, h1, h2, h3, h4, f⟩ := f
  cases rx
  cases ry
  exact ⟨z, i, c, rfl, rfl, h1, h2, h3, h4, q _ H _ f .refl j (.str _)⟩
theorem w2_inC (f : ∃ c z, x = .str ⟨#[c]⟩ ∧ y = .str z ∧ Φ (.bl (decide (c ∈ z.cps.toList)))) : W2 W (fun x y H Q => ∃ c z, x = V.str { cps := #[c] } ∧ y = V.str z ∧ Q (V.bl (decide (c ∈ z.cps.toList))) H) x y Φ := fun v u H al j rx ry Q q => by
  obtain ⟨c, z, rfl, rfl, f⟩ := f
  cases rx
  cases ry
  exact ⟨c, z, rfl, rfl, q _ H _ f .refl j (.bl _)⟩
theorem w2_ninC (f : ∃ c z, x = .str ⟨#[c]⟩ ∧ y = .str z ∧ Φ (.bl (!decide (c ∈ z.cps.toList)))) : W2 W (fun x y H Q => ∃ c z, x = V.str { cps := #[c] } ∧ y = V.str z ∧ Q (V.bl (!decide (c ∈ z.cps.toList))) H) x y Φ := fun v u H al j rx ry Q q => by
  obtain ⟨c, z, rfl, rfl, f⟩ := f
  cases rx
  cases ry
  exact ⟨c, z, rfl, rfl, q _ H _ f .refl j (.bl _)⟩
/-- a new object -/
theorem rp_newL {H : Hp} {p : Addr} {vs : List V} {ds : List Da} (al : ∀ a, W.X a → H a ≠ none) (hp : H p = none) (r : Rps W.X H vs ds) : Rp W.X (upd H p (.lst vs)) (.ref p) (.lst ds) := .lst upd_same (fun z => al p z hp) (r.kp (.new hp))
theorem rp_newT {H : Hp} {p : Addr} {vs : List V} {ds : List Da} (al : ∀ a, W.X a → H a ≠ none) (hp : H p = none) (r : Rps W.X H vs ds) : Rp W.X (upd H p (.tup vs)) (.ref p) (.tup ds) := .tup upd_same (fun z => al p z hp) (r.kp (.new hp))
theorem w2_cat (f : ∃ xs ys, x = .lst xs ∧ y = .lst ys ∧ xs.length + ys.length ≤ 1000000 ∧ Φ (.lst (xs ++ ys))) : W2 W rCat x y Φ := fun v u H al j rx ry Q q => by
  obtain ⟨xs, ys, rfl, rfl, c, f⟩ := f
  cases rx with
  | lst a n r =>
    cases ry with
    | lst a2 n2 r2 => exact ⟨_, _, _, _, rfl, rfl, a, a2, by rw [r.len, r2.len, sizeLine_eq]; omega, fun p hp => q _ _ _ f (.new hp) (W.jsame (same_upd hp) j) (rp_newL al hp (r.app r2))⟩
theorem w2_rep (f : ∃ xs k, x = .lst xs ∧ y = .int k ∧ -(2 ^ 63) ≤ k ∧ k < 2 ^ 63 ∧ xs.length * k.toNat ≤ 1000000 ∧ Φ (.lst (List.replicate k.toNat xs).flatten)) : W2 W rRep x y Φ := fun v u H al j rx ry Q q => by
  obtain ⟨xs, k, rfl, rfl, c1, c2, c3, f⟩ := f
  cases ry
  cases rx with
  | lst a n r =>
    refine ⟨_, _, _, rfl, rfl, a, c1, c2, by rw [r.len, sizeLine_eq]; omega, fun p hp => ?_⟩
    have rr : ∀ m : Nat, Rps W.X H (List.replicate m _).flatten (List.replicate m xs).flatten := fun m => by
      induction m with
      | zero => exact .nil
      | succ m ih => rw [List.replicate_succ, List.replicate_succ, List.flatten_cons, List.flatten_cons]; exact r.app ih
    exact q _ _ _ f (.new hp) (W.jsame (same_upd hp) j) (rp_newL al hp (rr _))
theorem we_revL {Ψ : Da → Prop} (h : WE W te ρ fun x => ∃ ds, x = .lst ds ∧ Ψ (.lst ds.reverse)) : WE W (tRevL K te) ρ Ψ := fun σ H s Q q =>
  h σ H s _ fun v H1 x ⟨ds, e, f⟩ k1 j1 r1 => by
    subst e
    cases r1 with
    | lst a n r => exact ⟨_, _, rfl, SqL.of a, fun p hp => q _ _ _ f (k1.trans (.new hp)) (W.jsame (same_upd hp) j1) (rp_newL (fun a z => k1.b a (s.al a z)) hp r.rev)⟩
/-- the part of a list of data -/
def cutD (xs : List Da) (lo hi : Option Int) : List Da := (xs.drop (HT.sIx xs.length 0 lo)).take (HT.sIx xs.length xs.length hi - HT.sIx xs.length 0 lo)
theorem cut_rps {X : Addr → Prop} {H : Hp} {vs : List V} {ds : List Da} (r : Rps X H vs ds) (lo hi : Option Int) : Rps X H (cutV vs lo hi) (cutD ds lo hi) := by
  unfold cutV cutD
  rw [r.len]
  exact (r.drop _).take _
theorem cutD_tl (x : Da) (vs : List Da) : cutD (x :: vs) (some 1) none = vs := by
  unfold cutD
  rw [show (some (1 : Int)) = some ((1 : Nat) : Int) from rfl, HT.sIx_nat, HT.sIx_none, List.length_cons, Nat.min_eq_left (by omega)]
  show vs.take _ = vs
  exact List.take_of_length_le (by omega)
theorem we_slL {tl th : TO} {Ψ : Da → Prop} (h : WE W te ρ fun x => WO W tl ρ fun lo => WO W th ρ fun hi => ∃ ds, x = .lst ds ∧ Ψ (.lst (cutD ds lo hi))) : WE W (tSl (rSlL K) te tl th) ρ Ψ := fun σ H s Q q =>
  h σ H s _ fun v H1 x h1 k1 j1 r1 => h1 σ H1 (s.step k1 j1) _ fun lo H2 h2 k2 j2 => h2 σ H2 ((s.step k1 j1).step k2 j2) _ fun hi H3 ⟨ds, e, f⟩ k3 j3 => by
    subst e
    cases (r1.kp (k2.sub W.y)).kp (k3.sub W.y) with
    | lst a n r => exact ⟨_, _, rfl, SqL.of a, fun p hp => q _ _ _ f (((k1.trans k2).trans k3).trans (.new hp)) (W.jsame (same_upd hp) j3) (rp_newL (fun a z => k3.b a (k2.b a (k1.b a (s.al a z)))) hp (cut_rps r lo hi))⟩
theorem tl_notD (x : Da) (vs : List Da) : ¬ (HT.sIx (x :: vs).length 0 (some 1) = 0 ∧ HT.sIx (x :: vs).length (x :: vs).length none = (x :: vs).length) := by
  rintro ⟨z, _⟩
  rw [show (some (1 : Int)) = some ((1 : Nat) : Int) from rfl, HT.sIx_nat, List.length_cons] at z
  omega
theorem we_slT {tl th : TO} {Ψ : Da → Prop} (h : WE W te ρ fun x => WO W tl ρ fun lo => WO W th ρ fun hi => ∃ ds, x = .tup ds ∧ ¬ (HT.sIx ds.length 0 lo = 0 ∧ HT.sIx ds.length ds.length hi = ds.length) ∧ Ψ (.tup (cutD ds lo hi))) : WE W (tSl (rSlT K) te tl th) ρ Ψ := fun σ H s Q q =>
  h σ H s _ fun v H1 x h1 k1 j1 r1 => h1 σ H1 (s.step k1 j1) _ fun lo H2 h2 k2 j2 => h2 σ H2 ((s.step k1 j1).step k2 j2) _ fun hi H3 ⟨ds, e, nw, f⟩ k3 j3 => by
    subst e
    have rr := (r1.kp (k2.sub W.y)).kp (k3.sub W.y)
    have k123 := (k1.trans k2).trans k3
    cases rr with
    | @tup a vs _ ha n r => exact ⟨_, vs, rfl, SqT.of ha, by rw [r.len]; exact nw, fun p hp => q _ _ _ f (k123.trans (.new hp)) (W.jsame (same_upd hp) j3) (rp_newT (fun a z => k123.b a (s.al a z)) hp (cut_rps r lo hi))⟩
theorem w2_catT (f : ∃ xs ys, x = .tup xs ∧ y = .tup ys ∧ xs ≠ [] ∧ xs.length + ys.length ≤ 1000000 ∧ Φ (.tup (xs ++ ys))) : W2 W (rCatT K) x y Φ := fun v u H al j rx ry Q q => by
  obtain ⟨xs, ys, rfl, rfl, ne, c, f⟩ := f
  cases rx with
  | tup a n r =>
    cases ry with
    | tup a2 n2 r2 =>
      refine ⟨_, _, _, _, rfl, rfl, SqT.of a, SqT.of a2, fun z => ne ?_, by rw [r.len, r2.len, sizeLine_eq]; omega, ?_⟩
      · subst z
        cases r
        rfl
      · refine ⟨fun e => ?_, fun _ p hp => q _ _ _ f (.new hp) (W.jsame (same_upd hp) j) (rp_newT al hp (r.app r2))⟩
        subst e
        cases r2
        rw [List.append_nil] at f
        exact q _ _ _ f .refl j (.tup a n r)
/-! ### calls of built-ins -/
theorem wc_len (f : ∃ y ds, xs = [y] ∧ (y = .lst ds ∨ y = .tup ds) ∧ Φ (.int (ds.length : Nat))) : WC W (Evl.rLenS K) xs Φ := fun vs H al j r Q q => by
  obtain ⟨y, ds, rfl, e, f⟩ := f
  cases r with
  | cons r1 r2 =>
    cases r2
    obtain ⟨p, vs, rfl, hs, rr⟩ := seq_of (K := K) r1 e
    refine ⟨p, vs, rfl, hs, ?_⟩
    rw [rr.len]
    exact q _ H _ f .refl j (.int _)
theorem wc_lenS (f : ∃ z, xs = [.str z] ∧ z.length ≤ 1000000 ∧ Φ (.int (z.length : Nat))) : WC W (fun xs H Q => ∃ z, xs = [V.str z] ∧ z.length ≤ sizeLine ∧ Q (V.int z.length) H) xs Φ := fun vs H al j r Q q => by
  obtain ⟨z, rfl, e, f⟩ := f
  cases r with
  | cons r1 r2 =>
    cases r2
    cases r1
    exact ⟨z, rfl, by rw [sizeLine_eq]; omega, q _ H _ f .refl j (.int _)⟩
theorem wc_lenD (f : ∃ ds, xs = [.dct ds] ∧ Φ (.int (ds.length : Nat))) : WC W (fun xs H Q => ∃ a kvs, xs = [V.ref a] ∧ H a = some (HO.dK kvs) ∧ Q (V.int kvs.length) H) xs Φ := fun vs H al j r Q q => by
  obtain ⟨z, rfl, f⟩ := f
  cases r with
  | cons r1 r2 =>
    cases r2
    cases r1 with
    | dct a n rr =>
      refine ⟨_, _, rfl, a, ?_⟩
      rw [rr.len]
      exact q _ H _ f .refl j (.int _)
theorem wc_list (f : ∃ y ds, xs = [y] ∧ (y = .lst ds ∨ y = .tup ds) ∧ Φ (.lst ds)) : WC W (Evl.rListS K) xs Φ := fun vs H al j r Q q => by
  obtain ⟨y, ds, rfl, e, f⟩ := f
  cases r with
  | cons r1 r2 =>
    cases r2
    obtain ⟨p, vs, rfl, hs, rr⟩ := seq_of (K := K) r1 e
    exact ⟨p, vs, rfl, hs, fun l hl => q _ _ _ f (.new hl) (W.jsame (same_upd hl) j) (rp_newL al hl rr)⟩
theorem wc_tup (f : ∃ y ds, xs = [y] ∧ (y = .lst ds ∨ y = .tup ds) ∧ Φ (.tup ds)) : WC W (fun xs H Q => ∃ p ys, xs = [.ref p] ∧ ((SqL K H p ys ∧ ∀ l, H l = none → Q (.ref l) (upd H l (.tup ys))) ∨ (SqT K H p ys ∧ Q (.ref p) H))) xs Φ := fun vs H al j r Q q => by
  obtain ⟨y, ds, rfl, e, f⟩ := f
  cases r with
  | cons r1 r2 =>
    cases r2
    rcases e with rfl | rfl
    · cases r1 with
      | lst a n rr => exact ⟨_, _, rfl, .inl ⟨SqL.of a, fun l hl => q _ _ _ f (.new hl) (W.jsame (same_upd hl) j) (rp_newT al hl rr)⟩⟩
    · cases r1 with
      | tup a n rr => exact ⟨_, _, rfl, .inr ⟨SqT.of a, q _ _ _ f .refl j (.tup a n rr)⟩⟩
theorem kV_cD (k : Key) {X : Addr → Prop} {H : Hp} : Rp X H (kV k) (match k with | .inl i => .int i | .inr s => .str s) := by
  cases k with
  | inl i => exact .int i
  | inr s => exact .str s
def kD : Key → Da
  | .inl i => .int i
  | .inr s => .str s
theorem rps_keys {X : Addr → Prop} {H : Hp} : ∀ {kvs : List (Key × V)} {ds : List (Key × Da)}, Rpk X H kvs ds → Rps X H (kvs.map fun kv => kV kv.1) (ds.map fun kv => kD kv.1)
  | _, _, .nil => .nil
  | _, _, @Rpk.cons _ _ k _ _ _ _ _ r => .cons (by cases k <;> constructor) (rps_keys r)
theorem wc_listD (f : ∃ ds, xs = [.dct ds] ∧ Φ (.lst (ds.map fun kv => kD kv.1))) : WC W (fun xs H Q => ∃ a kvs, xs = [V.ref a] ∧ Rd H a (HO.dK kvs) ∧ ∀ (p : Addr), H p = none → Q (V.ref p) (upd H p (HO.lst (List.map (fun kv => kV kv.fst) kvs)))) xs Φ := fun vs H al j r Q q => by
  obtain ⟨z, rfl, f⟩ := f
  cases r with
  | cons r1 r2 =>
    cases r2
    cases r1 with
    | dct a n rr => exact ⟨_, _, rfl, .inl a, fun p hp => q _ _ _ f (.new hp) (W.jsame (same_upd hp) j) (rp_newL al hp (rps_keys rr))⟩
theorem wc_dictD (f : ∃ ds, xs = [.dct ds] ∧ Φ (.dct ds)) : WC W (fun xs H Q => ∃ a kvs, xs = [V.ref a] ∧ Rd H a (HO.dK kvs) ∧ ∀ (p : Addr), H p = none → Q (V.ref p) (upd H p (HO.dK kvs))) xs Φ := fun vs H al j r Q q => by
  obtain ⟨z, rfl, f⟩ := f
  cases r with
  | cons r1 r2 =>
    cases r2
    cases r1 with
    | dct a n rr => exact ⟨_, _, rfl, .inl a, fun p hp => q _ _ _ f (.new hp) (W.jsame (same_upd hp) j) (.dct upd_same (fun z => al p z hp) (rr.kp (.new hp)))⟩
theorem wc_int (f : ∃ i, xs = [.int i] ∧ Φ (.int i)) : WC W (fun xs H Q => (∃ i, xs = [V.int i] ∧ Q (V.int i) H) ∨ ∃ k, xs = [V.bl k] ∧ Q (V.int (if k = true then 1 else 0)) H) xs Φ := fun vs H al j r Q q => by
  obtain ⟨i, rfl, f⟩ := f
  cases r with
  | cons r1 r2 =>
    cases r2
    cases r1
    exact .inl ⟨i, rfl, q _ H _ f .refl j (.int _)⟩
theorem wc_str (f : ∃ i, xs = [.int i] ∧ i.natAbs.log2 < 1920 ∧ Φ (.str (Str.ofString (toString i)))) : WC W (fun xs H Q => ∃ i, xs = [V.int i] ∧ i.natAbs.log2 < 1920 ∧ Q (V.str (Str.ofString (toString i))) H) xs Φ := fun vs H al j r Q q => by
  obtain ⟨i, rfl, l, f⟩ := f
  cases r with
  | cons r1 r2 =>
    cases r2
    cases r1
    exact ⟨i, rfl, l, q _ H _ f .refl j (.str _)⟩
theorem wc_abs (f : ∃ i, xs = [.int i] ∧ Φ (.int (if i < 0 then -i else i))) : WC W (fun xs H Q => ∃ i, xs = [V.int i] ∧ Q (V.int (if i < 0 then -i else i)) H) xs Φ := fun vs H al j r Q q => by
  obtain ⟨i, rfl, f⟩ := f
  cases r with
  | cons r1 r2 =>
    cases r2
    cases r1
    exact ⟨i, rfl, q _ H _ f .refl j (.int _)⟩
theorem wc_max2 (f : ∃ i k, xs = [.int i, .int k] ∧ Φ (.int (if k > i then k else i))) : WC W (fun xs H Q => ∃ i j, xs = [V.int i, V.int j] ∧ Q (V.int (if j > i then j else i)) H) xs Φ := fun vs H al j r Q q => by
  obtain ⟨i, k, rfl, f⟩ := f
  cases r with
  | cons r1 r2 =>
    cases r2 with
    | cons r2 r3 =>
      cases r3
      cases r1
      cases r2
      exact ⟨i, k, rfl, q _ H _ f .refl j (.int _)⟩
theorem wc_min2 (f : ∃ i k, xs = [.int i, .int k] ∧ Φ (.int (if k < i then k else i))) : WC W (fun xs H Q => ∃ i j, xs = [V.int i, V.int j] ∧ Q (V.int (if j < i then j else i)) H) xs Φ := fun vs H al j r Q q => by
  obtain ⟨i, k, rfl, f⟩ := f
  cases r with
  | cons r1 r2 =>
    cases r2 with
    | cons r2 r3 =>
      cases r3
      cases r1
      cases r2
      exact ⟨i, k, rfl, q _ H _ f .refl j (.int _)⟩
theorem wc_sum (f : ∃ ns : List Int, xs = [.lst (ns.map .int)] ∧ Φ (.int ns.sum)) : WC W (rSum K) xs Φ := fun vs H al j r Q q => by
  obtain ⟨ns, rfl, f⟩ := f
  cases r with
  | cons r1 r2 =>
    cases r2
    cases r1 with
    | lst a n rr =>
      obtain rfl := rr.ints
      exact ⟨_, ns, rfl, SqL.of a, q _ H _ f .refl j (.int _)⟩
theorem wc_max (f : ∃ ns : List Int, xs = [.lst (ns.map .int)] ∧ 0 < ns.length ∧ ∀ m, m ∈ ns → (∀ y, y ∈ ns → y ≤ m) → Φ (.int m)) : WC W (rMax K) xs Φ := fun vs H al j r Q q => by
  obtain ⟨ns, rfl, l, f⟩ := f
  cases r with
  | cons r1 r2 =>
    cases r2
    cases r1 with
    | lst a n rr =>
      obtain rfl := rr.ints
      exact ⟨_, ns, rfl, SqL.of a, l, fun m h1 h2 => q _ H _ (f m h1 h2) .refl j (.int _)⟩
theorem wc_min (f : ∃ ns : List Int, xs = [.lst (ns.map .int)] ∧ 0 < ns.length ∧ ∀ m, m ∈ ns → (∀ y, y ∈ ns → m ≤ y) → Φ (.int m)) : WC W (rMin K) xs Φ := fun vs H al j r Q q => by
  obtain ⟨ns, rfl, l, f⟩ := f
  cases r with
  | cons r1 r2 =>
    cases r2
    cases r1 with
    | lst a n rr =>
      obtain rfl := rr.ints
      exact ⟨_, ns, rfl, SqL.of a, l, fun m h1 h2 => q _ H _ (f m h1 h2) .refl j (.int _)⟩
theorem wc_all (f : ∃ ns : List Bool, xs = [.lst (ns.map .bl)] ∧ Φ (.bl (ns.all id))) : WC W (rAll K) xs Φ := fun vs H al j r Q q => by
  obtain ⟨ns, rfl, f⟩ := f
  cases r with
  | cons r1 r2 =>
    cases r2
    cases r1 with
    | lst a n rr =>
      obtain rfl := rr.bls
      exact ⟨_, ns, rfl, SqL.of a, q _ H _ f .refl j (.bl _)⟩
theorem wc_any (f : ∃ ns : List Bool, xs = [.lst (ns.map .bl)] ∧ Φ (.bl (ns.any id))) : WC W (rAny K) xs Φ := fun vs H al j r Q q => by
  obtain ⟨ns, rfl, f⟩ := f
  cases r with
  | cons r1 r2 =>
    cases r2
    cases r1 with
    | lst a n rr =>
      obtain rfl := rr.bls
      exact ⟨_, ns, rfl, SqL.of a, q _ H _ f .refl j (.bl _)⟩
/-- list(range(..)) -/
theorem we_lrg1 (h : WE W ta ρ fun x => ∃ n, x = .int n ∧ RgOk 0 n ∧ Φ (.lst ((List.range n.toNat).map fun (i : Nat) => .int (i : Nat)))) : WE W (tLstRg (tRg1 ta)) ρ Φ := fun σ H s Q q =>
  h σ H s _ fun v H1 x ⟨n, e, ok, f⟩ k1 j1 r1 => by
    subst e
    cases r1
    refine ⟨n, rfl, ok, fun p hp => q _ _ _ f (k1.trans (.new hp)) (W.jsame (same_upd hp) j1) (rp_newL (fun a z => k1.b a (s.al a z)) hp ?_)⟩
    unfold rgV
    rw [Int.sub_zero]
    have key : ∀ l : List Nat, Rps W.X H1 (l.map fun (i : Nat) => V.int (0 + (i : Int))) (l.map fun (i : Nat) => Da.int (i : Int)) := fun l => by
      induction l with
      | nil => exact .nil
      | cons a r ih => rw [List.map_cons, List.map_cons, Int.zero_add]; exact .cons (.int _) ih
    exact key _
/-! isinstance with a built-in class -/
def tyD : Da → Option String
  | .bl _ => some "bool"
  | .int _ => some "int"
  | .str _ => some "str"
  | .lst _ => some "list"
  | .tup _ => some "tuple"
  | .dct _ => some "dict"
  | .non => some "NoneType"
  | _ => none
theorem tyD_ok {X : Addr → Prop} {H : Hp} {v : V} {n : String} (r : Rp X H v x) (e : tyD x = some n) : TyX K H v (.type n) := by
  cases r with
  | bl b => cases e; exact .base (.bl b)
  | int b => cases e; exact .base (.int b)
  | str b => cases e; exact .base (.str b)
  | lst a n r => cases e; exact .base (.lst a)
  | tup a n r => cases e; exact .base (.tup a)
  | dct a n r => cases e; exact .base (.dK a)
  | non => cases e; exact .base .non
  | _ => cases e
theorem wc_isi (f : ∃ y m n b, xs = [y, .ty m] ∧ tyD y = some n ∧ PySem.W.kitOne K (.type n) (.type m) = some b ∧ Φ (.bl b)) : WC W (rIsi K) xs Φ := fun vs H al j r Q q => by
  obtain ⟨y, m, n, b, rfl, e1, e2, f⟩ := f
  cases r with
  | cons r1 r2 =>
    cases r2 with
    | cons r2 r3 =>
      cases r3
      cases r2
      exact ⟨_, _, _, _, b, rfl, ClsV.ty _, tyD_ok r1 e1, e2, q _ H _ f .refl j (.bl _)⟩
end
end Dl


set_option Elab.async false
set_option linter.all false
set_option maxRecDepth 100000
set_option maxHeartbeats 4000000
/-! walks, targets, comprehensions -/
namespace Dl
open PySem PySem.Spec PyProof.Rows L2
/-- a datum as a key -/
def keyO : Da → Option Key
  | .int i => some (.inl i)
  | .str s => some (.inr s)
  | _ => none
/-- what a for walks: its items -/
def WI (W : Wd) (wi : TI) (ρ : List En) (Φ : List Da → Prop) : Prop := ∀ σ H, Sl W H σ ρ → ∀ R : It → Hp → Prop,
  (∀ J H1 ds G Y, Φ ds → Kp W.Y H H1 → W.J H1 → Walk J ds.length G Y → (∀ H', Kp W.X H1 H' → G H') → (∀ (i : Nat) H2 x H3, Kp W.X H1 H2 → Y i H2 x H3 → Same H2 H3 ∧ ∃ d, ds[i]? = some d ∧ ∀ X' : Addr → Prop, (∀ a, W.X a → X' a) → To W.X H1 X' H2 → (∀ a, X' a → H2 a ≠ none) → Rp X' H3 x d) → R J H1) → wi σ H R
section
variable {W : Wd} {ρ : List En} {K : PySem.W.Frag} {te ta tb : TE} {Φ : List Da → Prop}
theorem yat_list {X : Addr → Prop} {H1 H2 H3 : Hp} {vs : List V} {ds : List Da} (r : Rps X H1 vs ds) {i : Nat} {x : V} (y : YAt vs i H2 x H3) : Same H2 H3 ∧ ∃ d, ds[i]? = some d ∧ ∀ X' : Addr → Prop, (∀ a, X a → X' a) → To X H1 X' H2 → (∀ a, X' a → H2 a ≠ none) → Rp X' H3 x d := by
  obtain ⟨rfl, h⟩ := y
  obtain ⟨d, h1, h2⟩ := r.at_ h
  exact ⟨Same.refl _, d, h1, fun X' _ t _ => h2.to t⟩
theorem wi_list (h : WE W te ρ fun x => ∃ ds, x = .lst ds ∧ Φ ds) : WI W (iList K te) ρ Φ := fun σ H s R q =>
  h σ H s _ fun v H1 x ⟨ds, e, f⟩ k1 j1 r1 => by
    subst e
    cases r1 with
    | @lst a vs _ ha n r => exact ⟨a, rfl, ⟨vs, SqL.of ha⟩, q _ H1 ds _ _ f k1 j1 (by rw [← r.len]; exact walk_list (xs := vs)) (fun H' k => SqL.of (k.a _ _ ha n)) fun i H2 x H3 k y => yat_list r y⟩
theorem wi_tup (h : WE W te ρ fun x => ∃ ds, x = .tup ds ∧ Φ ds) : WI W (iTup K te) ρ Φ := fun σ H s R q =>
  h σ H s _ fun v H1 x ⟨ds, e, f⟩ k1 j1 r1 => by
    subst e
    cases r1 with
    | @tup a vs _ ha n r => exact ⟨a, rfl, ⟨vs, SqT.of ha⟩, q _ H1 ds _ _ f k1 j1 (by rw [← r.len]; exact walk_tup (xs := vs)) (fun H' k => SqT.of (k.a _ _ ha n)) fun i H2 x H3 k y => yat_list r y⟩
def rgD (n : Nat) : List Da := (List.range n).map fun (i : Nat) => .int (i : Int)
theorem wi_rng1 {t : TA} (h : WA W t ρ fun xs => ∃ n, xs = [.int n] ∧ -(2 ^ 62) ≤ n ∧ n < 2 ^ 62 ∧ Φ (rgD n.toNat)) : WI W (iRng1 t) ρ Φ := fun σ H s R q =>
  h σ H s _ fun v H1 x ⟨n, e, c1, c2, f⟩ k1 j1 r1 => by
    subst e
    cases r1 with
    | cons r1 r2 =>
      cases r2
      cases r1
      have ll : (rgD n.toNat).length = n.toNat := by unfold rgD; rw [List.length_map, List.length_range]
      refine ⟨n, rfl, c1, c2, q (Itr 0 n.toNat) H1 _ (fun _ => True) (fun i H x H' => i < n.toNat ∧ YFn (fun i => .int (0 + (i : Int))) i H x H') f k1 j1 (by rw [ll]; exact walk_range.mono (fun _ _ => trivial) fun i H x H' hi _ y => ⟨hi, y⟩) (fun _ _ => trivial) fun i H2 x H3 k y => ?_⟩
      obtain ⟨hi, rfl, rfl⟩ := y
      refine ⟨Same.refl _, .int (i : Int), ?_, fun X' _ t _ => by
        show Rp X' H3 (V.int (0 + (i : Int))) _
        rw [Int.zero_add]
        exact .int _⟩
      unfold rgD
      rw [List.getElem?_map, List.getElem?_range hi]
      rfl
theorem wi_rng2 {t : TA} (h : WA W t ρ fun xs => ∃ lo hi, xs = [.int lo, .int hi] ∧ (-(2 ^ 62) ≤ lo ∧ lo < 2 ^ 62 ∧ -(2 ^ 62) ≤ hi ∧ hi < 2 ^ 62) ∧ Φ ((List.range (hi - lo).toNat).map fun (i : Nat) => .int (lo + (i : Int)))) : WI W (iRng2 t) ρ Φ := fun σ H s R q =>
  h σ H s _ fun v H1 x ⟨lo, hi, e, c1, f⟩ k1 j1 r1 => by
    subst e
    cases r1 with
    | cons r1 r2 =>
      cases r2 with
      | cons r2 r3 =>
        cases r3
        cases r1
        cases r2
        refine ⟨lo, hi, rfl, c1, q (Itr lo (hi - lo).toNat) H1 _ (fun _ => True) (fun i H x H' => i < (hi - lo).toNat ∧ YFn (fun i => .int (lo + (i : Int))) i H x H') f k1 j1 (by rw [List.length_map, List.length_range]; exact walk_range.mono (fun _ _ => trivial) fun i H x H' hi _ y => ⟨hi, y⟩) (fun _ _ => trivial) fun i H2 x H3 k y => ?_⟩
        obtain ⟨hi, rfl, rfl⟩ := y
        refine ⟨Same.refl _, .int (lo + (i : Int)), ?_, fun X' _ t _ => .int _⟩
        rw [List.getElem?_map, List.getElem?_range hi]
        rfl
def sgD (z : Str) : List Da := z.cps.toList.map fun c => .str ⟨#[c]⟩
theorem wi_str (h : WE W te ρ fun x => ∃ z, x = .str z ∧ Φ (sgD z)) : WI W (iStr te) ρ Φ := fun σ H s R q =>
  h σ H s _ fun v H1 x ⟨z, e, f⟩ k1 j1 r1 => by
    subst e
    cases r1
    refine ⟨z, rfl, q _ H1 _ _ _ f k1 j1 (by unfold sgD; rw [List.length_map, Array.length_toList]; exact walk_str) (fun _ _ => trivial) fun i H2 x H3 k y => ?_⟩
    obtain ⟨rfl, c, hc, rfl⟩ := y
    refine ⟨Same.refl _, .str ⟨#[c]⟩, ?_, fun X' _ t _ => .str _⟩
    unfold sgD
    rw [List.getElem?_map, Array.getElem?_toList, hc]
    rfl
theorem pair_y {X : Addr → Prop} {H1 H2 H3 : Hp} {xs ys : Nat → Option V} {i : Nat} {x : V} {d e : Da} (y : YPair xs ys i H2 x H3) (hx : ∀ X' : Addr → Prop, To X H1 X' H2 → ∀ v, xs i = some v → Rp X' H2 v d) (hy : ∀ X' : Addr → Prop, To X H1 X' H2 → ∀ v, ys i = some v → Rp X' H2 v e) :
    Same H2 H3 ∧ ∀ X' : Addr → Prop, (∀ a, X a → X' a) → To X H1 X' H2 → (∀ a, X' a → H2 a ≠ none) → Rp X' H3 x (.tup [d, e]) := by
  obtain ⟨T, u, w, rfl, nT, rfl, h1, h2⟩ := y
  exact ⟨same_upd nT, fun X' sb t al => .tup upd_same (fun z => al T z nT) (.cons ((hx X' t u h1).kp (.new nT)) (.cons ((hy X' t w h2).kp (.new nT)) .nil))⟩
def enD (ds : List Da) : List Da := (List.range ds.length).map fun (i : Nat) => .tup [.int (i : Int), ds.getD i .non]
theorem wi_enum {t : TA} (h : WA W t ρ fun xs => ∃ ds, xs = [.lst ds] ∧ Φ (enD ds)) : WI W (iEnum K t) ρ Φ := fun σ H s R q =>
  h σ H s _ fun v H1 x ⟨ds, e, f⟩ k1 j1 r1 => by
    subst e
    cases r1 with
    | cons r1 r2 =>
      cases r2
      cases r1 with
      | @lst a vs _ ha n r =>
        have ll : (enD ds).length = vs.length := by unfold enD; rw [List.length_map, List.length_range, r.len]
        refine ⟨a, vs, rfl, SqL.of ha, q (Ite K a) H1 _ (fun H => SqL K H a vs) (fun i H x H' => i < vs.length ∧ YPair (fun i => some (.int (i : Nat))) (fun i => vs[i]?) i H x H') f k1 j1 (by rw [ll]; exact walk_enum.mono (fun _ h => h) fun i H x H' hi _ y => ⟨hi, y⟩) (fun H' k => SqL.of (k.a _ _ ha n)) fun i H2 x H3 k y => ?_⟩
        obtain ⟨hi, y⟩ := y
        have hd : i < ds.length := by rw [← r.len]; exact hi
        obtain ⟨e, z⟩ := pair_y (X := W.X) (H1 := H1) (d := .int (i : Int)) (e := ds.getD i .non) y (fun X' t v hv => by cases hv; exact .int _) (fun X' t v hv => by
          obtain ⟨d, h1, h2⟩ := r.at_ hv
          rw [List.getD_eq_getElem?_getD, h1]
          exact h2.to t)
        refine ⟨e, _, ?_, z⟩
        unfold enD
        rw [List.getElem?_map, List.getElem?_range hd]
        rfl
def zpD (xs ys : List Da) : List Da := List.zipWith (fun a b => .tup [a, b]) xs ys
theorem wi_zip {t : TA} (h : WA W t ρ fun xs => ∃ ds es, xs = [.lst ds, .lst es] ∧ Φ (zpD ds es)) : WI W (iZip K t) ρ Φ := fun σ H s R q =>
  h σ H s _ fun v H1 x ⟨ds, es, e, f⟩ k1 j1 r1 => by
    subst e
    cases r1 with
    | cons r1 r2 =>
      cases r2 with
      | cons r2 r3 =>
        cases r3
        cases r1 with
        | @lst a vs _ ha n r =>
          cases r2 with
          | @lst b us _ hb n2 r2 =>
            have ll : (zpD ds es).length = min vs.length us.length := by unfold zpD; rw [List.length_zipWith, r.len, r2.len]
            refine ⟨a, b, vs, us, rfl, SqL.of ha, SqL.of hb, q (Itz K a b) H1 _ (fun H => SqL K H a vs ∧ SqL K H b us) _ f k1 j1 (by rw [ll]; exact walk_zip rfl) (fun H' k => ⟨SqL.of (k.a _ _ ha n), SqL.of (k.a _ _ hb n2)⟩) fun i H2 x H3 k y => ?_⟩
            obtain ⟨T, u, w, rfl, nT, rfl, h1, h2⟩ := y
            obtain ⟨d, g1, g2⟩ := r.at_ h1
            obtain ⟨e, g3, g4⟩ := r2.at_ h2
            refine ⟨same_upd nT, .tup [d, e], ?_, fun X' sb t al => .tup upd_same (fun z => al T z nT) (.cons ((g2.to t).kp (.new nT)) (.cons ((g4.to t).kp (.new nT)) .nil))⟩
            unfold zpD
            rw [List.getElem?_zipWith, g1, g3]
end
/-! ### targets -/
/-- a target takes a datum; only the slots S turn -/
def WG (S : List Nat) (g : TG) (ρ : List En) (d : Da) (Φ : List En → Prop) : Prop := ∀ (W : Wd) v σ H, Sl W H σ ρ → Rp W.X H v d → ∀ N : L2.St → Hp → Prop, (∀ σ' ρ', Φ ρ' → Sl W H σ' ρ' → (∀ vs : List Nat, (∀ s ∈ S, s ∈ vs) → wipe σ' vs = wipe σ vs) → N σ' H) → g v σ H N
def WGs (S : List Nat) (g : TGs) (ρ : List En) (ds : List Da) (Φ : List En → Prop) : Prop := ∀ (W : Wd) vs σ H, Sl W H σ ρ → Rps W.X H vs ds → ∀ N : L2.St → Hp → Prop, (∀ σ' ρ', Φ ρ' → Sl W H σ' ρ' → (∀ vs : List Nat, (∀ s ∈ S, s ∈ vs) → wipe σ' vs = wipe σ vs) → N σ' H) → g vs σ H N
theorem wipe_at (σ : L2.St) (i : Nat) : ∀ vs : List Nat, (wipe σ vs)[i]? = if i ∈ vs then (σ[i]?).map (fun _ => none) else σ[i]?
  | [] => by simp [wipe]
  | v :: vs => by
    unfold wipe
    by_cases c : v = i
    · subst c
      by_cases hl : v < σ.length
      · rw [List.getElem?_set_self (by rw [wipe_length]; exact hl), if_pos List.mem_cons_self, List.getElem?_eq_getElem hl]
        rfl
      · rw [List.getElem?_eq_none (by rw [List.length_set, wipe_length]; omega), if_pos List.mem_cons_self, List.getElem?_eq_none (by omega)]
        rfl
    · rw [List.getElem?_set_ne c, wipe_at σ i vs]
      by_cases m : i ∈ vs
      · rw [if_pos m, if_pos (List.mem_cons_of_mem _ m)]
      · rw [if_neg m, if_neg fun z => (List.mem_cons.mp z).elim (fun e => c e.symm) m]
theorem wipe_set {σ : L2.St} {i : Nat} {o : Option V} {vs : List Nat} (h : i ∈ vs) : wipe (σ.set i o) vs = wipe σ vs := by
  refine List.ext_getElem? fun j => ?_
  rw [wipe_at, wipe_at]
  by_cases m : j ∈ vs
  · rw [if_pos m, if_pos m]
    by_cases c : i = j
    · subst c
      by_cases hl : i < σ.length
      · rw [List.getElem?_set_self hl, List.getElem?_eq_getElem hl]; rfl
      · rw [List.getElem?_eq_none (by rw [List.length_set]; omega), List.getElem?_eq_none (by omega)]
    · rw [List.getElem?_set_ne c]
  · rw [if_neg m, if_neg m, List.getElem?_set_ne (show i ≠ j from fun e => m (by rw [← e]; exact h))]
theorem wipe_wipe {σ : L2.St} {vs : List Nat} : wipe (wipe σ vs) vs = wipe σ vs := by
  refine List.ext_getElem? fun j => ?_
  rw [wipe_at, wipe_at]
  by_cases m : j ∈ vs
  · rw [if_pos m, if_pos m]; cases σ[j]? <;> rfl
  · rw [if_neg m, if_neg m]
theorem wg_name {i : Nat} {ρ : List En} {d : Da} {Φ : List En → Prop} (f : Φ (ρ.set i (.da d))) : WG [i] (gName i) ρ d Φ := fun W v σ H s r N q => q _ _ f (s.setD i r) fun vs h => wipe_set (h i List.mem_cons_self)
theorem wgs_nil {ρ : List En} {ds : List Da} {Φ : List En → Prop} (e : ds = []) (f : Φ ρ) : WGs [] gNil ρ ds Φ := fun W vs σ H s r N q => by
  subst e
  cases r
  exact ⟨rfl, q _ _ f s fun vs _ => rfl⟩
theorem wgs_cons {S T : List Nat} {t : TG} {u : TGs} {ρ : List En} {ds : List Da} {Φ : List En → Prop} (f : ∃ d r, ds = d :: r ∧ WG S t ρ d fun ρ' => WGs T u ρ' r Φ) : WGs (S ++ T) (gCons t u) ρ ds Φ := fun W vs σ H s r N q => by
  obtain ⟨d, rs, rfl, f⟩ := f
  cases r with
  | cons r1 r2 => exact ⟨_, _, rfl, f W _ σ H s r1 _ fun σ' ρ' g s' w => g W _ σ' H s' r2 N fun σ2 ρ2 g2 s2 w2 => q σ2 ρ2 g2 s2 fun vs h => (w2 vs fun a m => h a (List.mem_append_right _ m)).trans (w vs fun a m => h a (List.mem_append_left _ m))⟩
theorem wg_tup {K : PySem.W.Frag} {n : Nat} {S : List Nat} {t : TGs} {ρ : List En} {d : Da} {Φ : List En → Prop} (f : ∃ ds, d = .tup ds ∧ ds.length = n ∧ WGs S t ρ ds Φ) : WG S (gTup K n t) ρ d Φ := fun W v σ H s r N q => by
  obtain ⟨ds, rfl, l, f⟩ := f
  cases r with
  | tup a nn rr => exact ⟨_, _, rfl, SqT.of a, by rw [rr.len, l], f W _ σ H s rr N q⟩
theorem WG.mono {S : List Nat} {g : TG} {ρ : List En} {d : Da} {Φ Ψ : List En → Prop} (h : WG S g ρ d Φ) (m : ∀ ρ, Φ ρ → Ψ ρ) : WG S g ρ d Ψ := fun W v σ H s r N q => h W v σ H s r N fun σ' ρ' f => q σ' ρ' (m _ f)
/-! ### the slots of a block forgotten -/
def wipeE (ρ : List En) : List Nat → List En
  | [] => ρ
  | v :: vs => (wipeE ρ vs).set v .un
theorem Sl.wipe {W : Wd} {H : Hp} {σ : L2.St} {ρ : List En} (s : Sl W H σ ρ) : ∀ vs : List Nat, Sl W H (L2.wipe σ vs) (wipeE ρ vs)
  | [] => s
  | v :: vs => (s.wipe vs).set v (e := .un) trivial fun a z => nomatch z
/-- a world with one more own object -/
def Wd.own (W : Wd) (l : Addr) : Wd := ⟨W.h0, W.fs, W.X0, fun a => W.X a ∨ a = l, W.Y, W.J, fun a h => .inl (W.s0 a h), W.sy, W.jd⟩
theorem To.trans {X X1 X2 : Addr → Prop} {H H1 H2 : Hp} (a : To X H X1 H1) (b : To X1 H1 X2 H2) : To X H X2 H2 := ⟨fun p o h n => by
  obtain ⟨x, y⟩ := a.a p o h n
  exact b.a p o x y, fun H3 k => a.e H3 (b.e H3 k)⟩
theorem to_own {W : Wd} {H H' : Hp} {l : Addr} (h : H l = none) (k : Kp W.Y H H') : To W.X H (W.own l).X H' := (To.add h).trans (.kp (k.sub fun a z => .inl (W.y a z)))
theorem Sl.own {W : Wd} {H H' : Hp} {σ : L2.St} {ρ : List En} {l : Addr} (s : Sl W H σ ρ) (h : H l = none) (k : Kp W.Y H H') (j : W.J H') (q : H' l ≠ none) : Sl (W.own l) H' σ ρ := by
  have t := to_own (W := W) h k
  refine ⟨s.k0.trans k, fun H1 m => ((s.fr H1 m).trans (k.sub fun a h => .inl h)).sub fun a z => z.elim .inl fun z => .inr ⟨.inl z.1, z.2⟩, fun a z => z.elim (fun z => k.b a (s.al a z)) fun c => c ▸ q, j, s.len, fun i o' e h1 h2 => ?_, s.nd⟩
  have z := s.at_ i o' e h1 h2
  cases e with
  | un => trivial
  | da d => exact z.imp fun v q => ⟨q.1, q.2.to t⟩
  | ml l' ds =>
    obtain ⟨q1, q2, q3, q0, vs, q4, q5⟩ := z
    exact ⟨q1, .inl q2, q3, q0, vs, k.a _ _ q4 fun z => q3 (W.sy _ z), q5.to t⟩
  | md l' ds =>
    obtain ⟨q1, q2, q3, q0, vs, q4, q5⟩ := z
    exact ⟨q1, .inl q2, q3, q0, vs, k.a _ _ q4 fun z => q3 (W.sy _ z), q5.to t⟩
/-- a new object at l holds d; nothing of it lies at X or at l -/
def ObD (X : Addr → Prop) (H : Hp) (l : Addr) : Da → Prop
  | .lst ds => ∃ vs, H l = some (.lst vs) ∧ Rps (fun a => X a ∨ a = l) H vs ds
  | .dct ds => ∃ vs, H l = some (.dK vs) ∧ Rpk (fun a => X a ∨ a = l) H vs ds
  | _ => False
/-- what makes a new object -/
def WW (W : Wd) (te : TE) (ρ : List En) (Φ : Da → Prop) : Prop := ∀ σ H, Sl W H σ ρ → ∀ Q : VK, (∀ l H' d, Φ d → H l = none → Kp W.Y H H' → W.J H' → ObD W.X H' l d → Q (.ref l) H') → te σ H Q
theorem ObD.rp {X : Addr → Prop} {H : Hp} {l : Addr} {d : Da} (o : ObD X H l d) (n : ¬ X l) : Rp X H (.ref l) d := by
  cases d with
  | lst ds =>
    obtain ⟨vs, h, r⟩ := o
    exact .lst h n (r.to (.sub fun a z => .inl z))
  | dct ds =>
    obtain ⟨vs, h, r⟩ := o
    exact .dct h n (r.to (.sub fun a z => .inl z))
  | _ => exact o.elim
theorem WW.e {W : Wd} {te : TE} {ρ : List En} {Φ : Da → Prop} (h : WW W te ρ Φ) : WE W te ρ Φ := fun σ H s Q q => h σ H s Q fun l H' d f n k j o => q _ H' d f k j (o.rp fun z => s.al l z n)
section
variable {W : Wd} {ρ : List En} {K : PySem.W.Frag} {te ta tb tk tv : TE} {tt : TT} {wi : TI} {g : TG} {vs S : List Nat} {Φ : Da → Prop}
/-- a comprehension, by a property of the items so far -/
theorem ww_lcP (hS : ∀ s ∈ S, s ∈ vs) (h : WI W wi ρ fun ds => ds.length ≤ 50000 ∧ ∃ P : Nat → List Da → Prop, P 0 [] ∧
    (∀ (i : Nat) x acc D, ds[i]? = some x → acc.length ≤ i → P i acc → WG S g (wipeE ρ vs) x fun ρ2 => WT (W.own D) tt ρ2 fun b => if b = true then WE (W.own D) te ρ2 fun y => P (i + 1) (acc ++ [y]) else P (i + 1) acc) ∧
    ∀ acc, P ds.length acc → Φ (.lst acc)) : WW W (tLc wi g tt te vs) ρ Φ := fun σ H s Q q => by
  refine h σ H s _ fun J H1 ds G Y ⟨hn, P, p0, ps, pe⟩ k1 j1 w hG hY => fun D hD => ?_
  have s1 := s.step k1 j1
  refine lc_it w (Pv := fun i H' => ∃ us acc, H' D = some (.lst us) ∧ acc.length ≤ i ∧ P i acc ∧ Rps (W.own D).X H' us acc ∧ Kp W.Y H1 H' ∧ W.J H') ⟨[], [], upd_same, Nat.zero_le _, p0, .nil, .new hD, W.jsame (same_upd hD) j1⟩ (fun i H' _ z => ?_) (fun i x H' H2 hi z y => ?_) (fun H' z => ?_)
  · obtain ⟨us, acc, _, _, _, _, k, _⟩ := z
    exact hG H' (k.sub W.y)
  · obtain ⟨us, acc, hus, la, pp, r, k, j⟩ := z
    obtain ⟨e, d, hd, hx⟩ := hY i H' x H2 (k.sub W.y) y
    have al : H' D ≠ none := by rw [hus]; exact fun z => nomatch z
    have k2 : Kp W.Y H1 H2 := k.trans (.same e)
    have hus2 := e _ _ hus
    have j2 := W.jsame e j
    have sl := s1.own hD k j al
    have sl2 := s1.own hD k2 j2 (by rw [hus2]; exact fun z => nomatch z)
    refine ps i d acc D hd la pp (W.own D) x _ H2 (sl2.wipe vs) (hx _ (fun a h => .inl h) (to_own hD k) sl.al) _ fun σ' ρ' f s' wp => ⟨(wp vs hS).trans wipe_wipe, ?_⟩
    refine f σ' H2 s' _ fun b H3 fb k3 j3 => ?_
    have k13 : Kp W.Y H1 H3 := k2.trans k3
    have hY' : ¬ W.Y D := fun z => k1.b D (s.al D (W.y D z)) hD
    have hus3 := k3.a _ _ hus2 hY'
    have r3 := (r.kp (.same e)).kp (k3.sub (W.own D).y)
    cases b with
    | false => exact ⟨us, acc, hus3, by omega, fb, r3, k13, j3⟩
    | true =>
      refine fb σ' H3 (s'.step k3 j3) _ fun v H4 d2 pd k4 j4 r4 => ?_
      have hus4 := k4.a _ _ hus3 hY'
      have u5 : ∀ u, Kp (W.own D).X H4 (upd H4 D u) := fun u => Kp.refl.upd (.inr rfl)
      refine ⟨us, hus4, by rw [r.len, sizeLine_eq]; omega, us ++ [v], acc ++ [d2], upd_same, by rw [List.length_append]; show acc.length + 1 ≤ _; omega, pd, ((r3.kp (k4.sub (W.own D).y)).kp (u5 _)).app (.one (r4.kp (u5 _))), (k13.trans k4).mut hD, ?_⟩
      refine W.jd H4 _ (fun a o ya h => ?_) j4
      rw [upd_ne (show a ≠ D from fun c => hY' (c ▸ ya))]
      exact h
  · obtain ⟨us, acc, hus, la, pp, r, k, j⟩ := z
    exact q _ _ _ (pe acc pp) (k1.free hD) (k1.trans k) j ⟨us, hus, r⟩
/-- all items, each told by a function -/
theorem ww_lc (hS : ∀ s ∈ S, s ∈ vs) (h : WI W wi ρ fun ds => ds.length ≤ 50000 ∧ ∃ f : Da → Da, (∀ x D, x ∈ ds → WG S g (wipeE ρ vs) x fun ρ2 => WE (W.own D) te ρ2 fun y => y = f x) ∧ Φ (.lst (ds.map f))) : WW W (tLc wi g tYes te vs) ρ Φ :=
  ww_lcP hS fun σ H s R q => h σ H s R fun J H1 ds G Y ⟨hn, f, hf, e⟩ => q J H1 ds G Y ⟨hn, fun i acc => acc = (ds.take i).map f, rfl, fun i x acc D hx _ ha => (hf x D (List.mem_of_getElem? hx)).mono fun ρ2 hw => fun σ H s Q q => q true H (hw.mono fun y e => by
    subst e ha
    rw [List.take_add_one, hx, List.map_append]
    rfl) .refl s.j, fun acc ha => by rw [ha, List.take_length]; exact e⟩
/-- those that a test lets by -/
theorem ww_lcF (hS : ∀ s ∈ S, s ∈ vs) (h : WI W wi ρ fun ds => ds.length ≤ 50000 ∧ ∃ (p : Da → Bool) (f : Da → Da), (∀ x D, x ∈ ds → WG S g (wipeE ρ vs) x fun ρ2 => WT (W.own D) tt ρ2 fun b => b = p x ∧ (b = true → WE (W.own D) te ρ2 fun y => y = f x)) ∧ Φ (.lst ((ds.filter p).map f))) : WW W (tLc wi g tt te vs) ρ Φ :=
  ww_lcP hS fun σ H s R q => h σ H s R fun J H1 ds G Y ⟨hn, p, f, hf, e⟩ => q J H1 ds G Y ⟨hn, fun i acc => acc = ((ds.take i).filter p).map f, rfl, fun i x acc D hx _ ha => (hf x D (List.mem_of_getElem? hx)).mono fun ρ2 hw => hw.mono fun b ⟨e, hb⟩ => by
    subst ha
    have tk : ds.take (i + 1) = ds.take i ++ [x] := by rw [List.take_add_one, hx]; rfl
    cases b with
    | false =>
      show _ = _
      rw [tk, List.filter_append, List.filter_cons_of_neg (by rw [← e]; decide), List.filter_nil, List.append_nil]
    | true =>
      refine (hb rfl).mono fun y ey => ?_
      subst ey
      rw [tk, List.filter_append, List.filter_cons_of_pos e.symm, List.filter_nil, List.map_append]
      rfl, fun acc ha => by rw [ha, List.take_length]; exact e⟩
/-- all items, each told by a function of what it tells -/
theorem ww_lcT (hS : ∀ s ∈ S, s ∈ vs) (h : WI W wi ρ fun ds => ∃ (α : Type) (l : List α) (enc f : α → Da), ds = l.map enc ∧ l.length ≤ 50000 ∧ (∀ a D, a ∈ l → WG S g (wipeE ρ vs) (enc a) fun ρ2 => WE (W.own D) te ρ2 fun y => y = f a) ∧ Φ (.lst (l.map f))) : WW W (tLc wi g tYes te vs) ρ Φ :=
  ww_lcP hS fun σ H s R q => h σ H s R fun J H1 ds G Y ⟨α, l, enc, f, ed, hn, hf, e⟩ => q J H1 ds G Y ⟨by rw [ed, List.length_map]; exact hn, fun i acc => acc = (l.take i).map f, rfl, fun i x acc D hx _ ha => by
    subst ed
    rw [List.getElem?_map, Option.map_eq_some_iff] at hx
    obtain ⟨a, hx, rfl⟩ := hx
    refine (hf a D (List.mem_of_getElem? hx)).mono fun ρ2 hw => fun σ H s Q q => q true H (hw.mono fun y e => ?_) .refl s.j
    subst e ha
    rw [List.take_add_one, hx, List.map_append]
    rfl, fun acc ha => by rw [ha, ed, List.length_map, List.take_length]; exact e⟩
theorem ww_lcTF (hS : ∀ s ∈ S, s ∈ vs) (h : WI W wi ρ fun ds => ∃ (α : Type) (l : List α) (enc f : α → Da) (p : α → Bool), ds = l.map enc ∧ l.length ≤ 50000 ∧ (∀ a D, a ∈ l → WG S g (wipeE ρ vs) (enc a) fun ρ2 => WT (W.own D) tt ρ2 fun b => b = p a ∧ (b = true → WE (W.own D) te ρ2 fun y => y = f a)) ∧ Φ (.lst ((l.filter p).map f))) : WW W (tLc wi g tt te vs) ρ Φ :=
  ww_lcP hS fun σ H s R q => h σ H s R fun J H1 ds G Y ⟨α, l, enc, f, p, ed, hn, hf, e⟩ => q J H1 ds G Y ⟨by rw [ed, List.length_map]; exact hn, fun i acc => acc = ((l.take i).filter p).map f, rfl, fun i x acc D hx _ ha => by
    subst ed
    rw [List.getElem?_map, Option.map_eq_some_iff] at hx
    obtain ⟨a, hx, rfl⟩ := hx
    refine (hf a D (List.mem_of_getElem? hx)).mono fun ρ2 hw => hw.mono fun b ⟨e, hb⟩ => ?_
    subst ha
    have tk : l.take (i + 1) = l.take i ++ [a] := by rw [List.take_add_one, hx]; rfl
    cases b with
    | false =>
      show _ = _
      rw [tk, List.filter_append, List.filter_cons_of_neg (by rw [← e]; decide), List.filter_nil, List.append_nil]
    | true =>
      refine (hb rfl).mono fun y ey => ?_
      subst ey
      rw [tk, List.filter_append, List.filter_cons_of_pos e.symm, List.filter_nil, List.map_append]
      rfl, fun acc ha => by rw [ha, ed, List.length_map, List.take_length]; exact e⟩
/-- a dict comprehension, by a property of the entries so far -/
theorem ww_dcP (hS : ∀ s ∈ S, s ∈ vs) (h : WI W wi ρ fun ds => ds.length ≤ 50000 ∧ ∃ P : Nat → List (Key × Da) → Prop, P 0 [] ∧
    (∀ (i : Nat) x acc D, ds[i]? = some x → acc.length ≤ i → P i acc → WG S g (wipeE ρ vs) x fun ρ2 => WT (W.own D) tt ρ2 fun b => if b = true then WE (W.own D) tk ρ2 fun kd => WE (W.own D) tv ρ2 fun y => ∃ k, keyO kd = some k ∧ P (i + 1) (Dl.put acc k y) else P (i + 1) acc) ∧
    ∀ acc, P ds.length acc → Φ (.dct acc)) : WW W (tDc wi g tt tk tv vs) ρ Φ := fun σ H s Q q => by
  refine h σ H s _ fun J H1 ds G Y ⟨hn, P, p0, ps, pe⟩ k1 j1 w hG hY => fun D hD => ?_
  have s1 := s.step k1 j1
  have hY' : ¬ W.Y D := fun z => k1.b D (s.al D (W.y D z)) hD
  refine ⟨fun i m H' => m = ds.length - i ∧ i ≤ ds.length ∧ ∃ us acc, H' D = some (.dK us) ∧ acc.length ≤ i ∧ P i acc ∧ Rpk (W.own D).X H' us acc ∧ Kp W.Y H1 H' ∧ W.J H', ⟨ds.length, by simp, Nat.zero_le _, [], [], upd_same, Nat.zero_le _, p0, .nil, .new hD, W.jsame (same_upd hD) j1⟩, ?_⟩
  rintro i m H' ⟨rfl, hi, us, acc, hus, la, pp, r, k, j⟩
  have gH := hG H' (k.sub W.y)
  by_cases hlt : i < ds.length
  · refine .inr ⟨w.goes i H' hlt gH, fun H2 => ∃ us acc, H2 D = some (.dK us) ∧ acc.length ≤ i + 1 ∧ P (i + 1) acc ∧ Rpk (W.own D).X H2 us acc ∧ Kp W.Y H1 H2 ∧ W.J H2, fun H2 p => ⟨ds.length - (i + 1), by omega, rfl, hlt, p⟩, fun x H2 y => ?_⟩
    obtain ⟨e, d, hd, hx⟩ := hY i H' x H2 (k.sub W.y) (w.yields i H' x H2 hlt gH y)
    have al : H' D ≠ none := by rw [hus]; exact fun z => nomatch z
    have k2 : Kp W.Y H1 H2 := k.trans (.same e)
    have hus2 := e _ _ hus
    have j2 := W.jsame e j
    have sl := s1.own hD k j al
    have sl2 := s1.own hD k2 j2 (by rw [hus2]; exact fun z => nomatch z)
    refine ps i d acc D hd la pp (W.own D) x _ H2 (sl2.wipe vs) (hx _ (fun a h => .inl h) (to_own hD k) sl.al) _ fun σ' ρ' f s' wp => ⟨(wp vs hS).trans wipe_wipe, ?_⟩
    refine f σ' H2 s' _ fun b H3 fb k3 j3 => ?_
    have k13 : Kp W.Y H1 H3 := k2.trans k3
    have hus3 := k3.a _ _ hus2 hY'
    have r3 := (r.kp (.same e)).kp (k3.sub (W.own D).y)
    cases b with
    | false => exact ⟨us, acc, hus3, by omega, fb, r3, k13, j3⟩
    | true =>
      refine fb σ' H3 (s'.step k3 j3) _ fun kv H4 kd fk k4 j4 rk => ?_
      refine fk σ' H4 ((s'.step k3 j3).step k4 j4) _ fun v H5 d2 ⟨key, ek, pd⟩ k5 j5 r5 => ?_
      have hus5 := k5.a _ _ (k4.a _ _ hus3 hY') hY'
      have u5 : ∀ u, Kp (W.own D).X H5 (upd H5 D u) := fun u => Kp.refl.upd (.inr rfl)
      have ekv : kv = kV key := by
        cases rk <;> cases ek <;> rfl
      have lp : (Dl.put acc key d2).length ≤ acc.length + 1 := by
        unfold Dl.put
        split
        · rw [List.length_map]; omega
        · rw [List.length_append]; exact Nat.le_refl _
      refine ⟨us, key, ekv, hus5, by rw [r.len, sizeLine_eq]; omega, putK us key v, Dl.put acc key d2, upd_same, by omega, pd, (((r3.kp (k4.sub (W.own D).y)).kp (k5.sub (W.own D).y)).kp (u5 _)).put (r5.kp (u5 _)), ((k13.trans k4).trans k5).mut hD, ?_⟩
      refine W.jd H5 _ (fun a o ya h => ?_) j5
      rw [upd_ne (show a ≠ D from fun c => hY' (c ▸ ya))]
      exact h
  · have e : i = ds.length := by omega
    subst e
    exact .inl ⟨w.stops H' gH, q _ _ _ (pe acc pp) (k1.free hD) (k1.trans k) j ⟨us, hus, r⟩⟩
end
end Dl


set_option Elab.async false
set_option linter.all false
set_option maxRecDepth 100000
set_option maxHeartbeats 4000000
/-! dicts, texts, calls, statements -/
namespace Dl
open PySem PySem.Spec PyProof.Rows L2
section
variable {W : Wd} {ρ : List En} {K : PySem.W.Frag} {te ta tb td ty tx : TE} {Φ : Da → Prop}
theorem kD_of {X : Addr → Prop} {H : Hp} {v : V} {k : Key} {d : Da} (r : Rp X H v d) (h : keyO d = some k) : v = kV k := by
  cases r <;> cases h <;> rfl
theorem kDold {X : Addr → Prop} {H : Hp} {v : V} {k : Key} (r : Rp X H v (kD k)) : v = kV k := by
  cases k with
  | inl i => cases r; rfl
  | inr i => cases r; rfl
theorem rps_kD {X : Addr → Prop} {H : Hp} : ∀ {k : List Key} {vs : List V}, Rps X H vs (k.map kD) → vs = k.map kV
  | [], _, .nil => rfl
  | c :: l, _, .cons p q => by rw [kDold p, rps_kD q]; rfl
theorem we_dget (h : WE W td ρ fun x => WE W ty ρ fun y => ∃ kvs k d, x = .dct kvs ∧ keyO y = some k ∧ look kvs k = some d ∧ Φ d) : WE W (tDGet td ty) ρ Φ := fun σ H s Q q =>
  h σ H s _ fun v H1 x h1 k1 j1 r1 => h1 σ H1 (s.step k1 j1) _ fun u H2 y ⟨kvs, k, d, ex, ey, e, f⟩ k2 j2 r2 => by
    subst ex
    obtain rfl := kD_of r2 ey
    cases r1.kp (k2.sub W.y) with
    | dct a n r =>
      have z := r.look k
      rw [e] at z
      obtain ⟨w, h1, h2⟩ := z
      exact ⟨_, w, rfl, by rw [← h1]; exact DGet.k a, q _ _ _ f (k1.trans k2) j2 h2⟩
theorem we_dgetT (h : WE W td ρ fun x => WE W ty ρ fun y => ∃ kvs k d, x = .dtt kvs ∧ y = .tup (k.map kD) ∧ look kvs k = some d ∧ Φ d) : WE W (tDGet td ty) ρ Φ := fun σ H s Q q =>
  h σ H s _ fun v H1 x h1 k1 j1 r1 => h1 σ H1 (s.step k1 j1) _ fun u H2 y ⟨kvs, k, d, ex, ey, e, f⟩ k2 j2 r2 => by
    subst ex ey
    cases r1.kp (k2.sub W.y) with
    | dtt a n r =>
      cases r2 with
      | @tup b vs _ hb nb rb =>
        have ev : vs = k.map kV := rps_kD rb
        subst ev
        have z := r.look k
        rw [e] at z
        obtain ⟨w, h1, h2⟩ := z
        exact ⟨_, w, rfl, by rw [← h1]; exact DGet.t a hb, q _ _ _ f (k1.trans k2) j2 h2⟩
theorem din_core {neg : Bool} (h : WE W ty ρ fun y => WE W td ρ fun x => ∃ kvs k, x = .dct kvs ∧ keyO y = some k ∧ Φ (.bl (if neg then !(look kvs k).isSome else (look kvs k).isSome))) (σ : L2.St) (H : Hp) (s : Sl W H σ ρ) (Q : VK) (q : ∀ v H' d, Φ d → Kp W.Y H H' → W.J H' → Rp W.X H' v d → Q v H') :
    ty σ H fun y H1 => td σ H1 fun x H2 => ∃ a o, x = .ref a ∧ DGet H2 a y o ∧ Q (.bl (if neg then !o.isSome else o.isSome)) H2 :=
  h σ H s _ fun v H1 x h1 k1 j1 r1 => h1 σ H1 (s.step k1 j1) _ fun u H2 y ⟨kvs, k, ex, ey, f⟩ k2 j2 r2 => by
    subst ex
    obtain rfl := kD_of r1 ey
    cases r2 with
    | @dct _ kv _ a n r =>
      have z := r.look k
      refine ⟨_, _, rfl, DGet.k a, ?_⟩
      have e : (valV kv k).isSome = (look kvs k).isSome := by
        cases e : look kvs k with
        | none => rw [e] at z; rw [z]; rfl
        | some y => rw [e] at z; obtain ⟨w, h1, _⟩ := z; rw [h1]; rfl
      rw [e]
      exact q _ _ _ f (k1.trans k2) j2 (.bl _)
theorem we_din (h : WE W ty ρ fun y => WE W td ρ fun x => ∃ kvs k, x = .dct kvs ∧ keyO y = some k ∧ Φ (.bl (look kvs k).isSome)) : WE W (tDIn ty td) ρ Φ := fun σ H s Q q => din_core (neg := false) h σ H s Q q
theorem we_dnin (h : WE W ty ρ fun y => WE W td ρ fun x => ∃ kvs k, x = .dct kvs ∧ keyO y = some k ∧ Φ (.bl (!(look kvs k).isSome))) : WE W (tDNotIn ty td) ρ Φ := fun σ H s Q q => din_core (neg := true) h σ H s Q q
theorem we_dget2 (h : WE W td ρ fun x => ∃ kvs, x = .dct kvs ∧ WE W ty ρ fun y => WE W tx ρ fun z => ∃ k, keyO y = some k ∧ Φ ((look kvs k).getD z)) : WE W (tDGet2 td ty tx) ρ Φ := fun σ H s Q q =>
  h σ H s _ fun v H1 x ⟨kvs, ex, h1⟩ k1 j1 r1 => by
    subst ex
    cases r1 with
    | @dct a kv _ ha n r =>
      refine ⟨a, rfl, .inl ⟨kv, .inl ha⟩, h1 σ H1 (s.step k1 j1) _ fun u H2 y h2 k2 j2 r2 => h2 σ H2 ((s.step k1 j1).step k2 j2) _ fun w H3 z ⟨k, ey, f⟩ k3 j3 r3 => ?_⟩
      have k123 := (k1.trans k2).trans k3
      obtain rfl := kD_of r2 ey
      have k23 : Kp W.X H1 H3 := (k2.trans k3).sub W.y
      have zz := (r.kp k23).look k
      refine ⟨_, DGet.k (k23.a _ _ ha n), ?_⟩
      cases e : look kvs k with
      | none =>
        rw [e] at zz f
        rw [zz]
        exact q _ _ _ f k123 j3 r3
      | some d =>
        rw [e] at zz f
        obtain ⟨g, g1, g2⟩ := zz
        rw [g1]
        exact q _ _ _ f k123 j3 g2
/-! texts of pieces -/
def WJ (W : Wd) (ts : List TE) (acc : Str) (ρ : List En) (Φ : Str → Prop) : Prop := ∀ σ H, Sl W H σ ρ → ∀ Q : Str → Hp → Prop, (∀ z H', Φ z → Kp W.Y H H' → W.J H' → Q z H') → tJs ts acc σ H Q
theorem wj_nil {acc : Str} {Φ : Str → Prop} (f : Φ acc) : WJ W [] acc ρ Φ := fun σ H s Q q => q acc H f .refl s.j
theorem wj_cons {ts : List TE} {acc : Str} {Φ : Str → Prop} (h : WE W te ρ fun x => ∃ y, x = .str y ∧ (acc ++ y).length ≤ 1000000 ∧ WJ W ts (acc ++ y) ρ Φ) : WJ W (te :: ts) acc ρ Φ := fun σ H s Q q =>
  h σ H s _ fun v H1 x ⟨y, e, l, f⟩ k1 j1 r1 => by
    subst e
    cases r1
    exact ⟨y, rfl, by rw [sizeLine_eq]; omega, f σ H1 (s.step k1 j1) Q fun z H2 g k2 => q z H2 g (k1.trans k2)⟩
theorem we_joined {ts : List TE} (h : WJ W ts Str.empty ρ fun z => Φ (.str z)) : WE W (fun σ H Q => tJs ts Str.empty σ H fun out H1 => Q (.str out) H1) ρ Φ := fun σ H s Q q => h σ H s _ fun z H1 f k1 j1 => q _ _ _ f k1 j1 (.str _)
theorem we_fmt (h : WE W te ρ fun x => (∃ y, x = .str y ∧ y.length ≤ 1000000 ∧ Φ (.str y)) ∨ ∃ i : Int, x = .int i ∧ i.natAbs.log2 < 1920 ∧ Φ (.str (toString i))) : WE W (tFmt te) ρ Φ := fun σ H s Q q =>
  h σ H s _ fun v H1 x e k1 j1 r1 => by
    rcases e with ⟨y, rfl, l, f⟩ | ⟨i, rfl, l, f⟩
    · cases r1
      exact .inl ⟨y, rfl, by rw [sizeLine_eq]; omega, q _ _ _ f k1 j1 (.str _)⟩
    · cases r1
      exact .inr ⟨i, rfl, l, q _ _ _ f k1 j1 (.str _)⟩
end
/-! ### calls -/
/-- a def that leaves all as it is -/
def spP (P : List Da → Da → Prop) : Sp := fun vs H Q _ => ∃ (X : Addr → Prop) (ds : List Da) (d : Da), (∀ a, X a → H a ≠ none) ∧ Rps X H vs ds ∧ P ds d ∧ ∀ v H', Same H H' → Rp X H' v d → Q v H'
/-- a def that draws -/
def srY (d L : Addr) : Addr → Prop := fun a => a = d ∨ a = L
def spS (P : List Da → (Da → Prop) → Prop) : Sp := fun vs H Q _ => ∃ (d L : Addr) (X : Addr → Prop) (vs' : List V) (ds : List Da) (R : Da → Prop), vs = .ref d :: vs' ∧ Src d L H ∧ X d ∧ X L ∧ (∀ a, X a → H a ≠ none) ∧ Rps X H vs' ds ∧ P ds R ∧ ∀ v H' r, R r → Kp (srY d L) H H' → Src d L H' → Rp X H' v r → Q v H'
/-- what a def ends with -/
inductive Ot where
  | ret (d : Da) | ex (C : Addr) (fs : List (Str × Da))
def Fds (X : Addr → Prop) (H : Hp) : List (Str × V) → List (Str × Da) → Prop := Paired fun p q => p.1 = q.1 ∧ Rp X H p.2 q.2
/-- an error is raised: from H on, E is told of it -/
def Exc (X : Addr → Prop) (H : Hp) (C : Addr) (fs : List (Str × Da)) (E : XK) : Prop := match fs with
  | [] => ∀ H', Same H H' → E (.ref C) none H'
  | fs => ∀ dx vs H', H dx = none → Same H H' → H' dx = some (.xd vs) → Fds X H' vs fs → E (.ref C) (some dx) H'
def spX (P : List Da → Ot → Prop) : Sp := fun vs H Q E => ∃ (X : Addr → Prop) (ds : List Da) (o : Ot), (∀ a, X a → H a ≠ none) ∧ Rps X H vs ds ∧ P ds o ∧ match o with
  | .ret d => ∀ v H', Same H H' → Rp X H' v d → Q v H'
  | .ex C fs => Exc X H C fs E
theorem Exc.same {X : Addr → Prop} {H H1 : Hp} {C : Addr} {fs : List (Str × Da)} {E : XK} (h : Exc X H C fs E) (e : Same H H1) : Exc X H1 C fs E := by
  cases fs with
  | nil => exact fun H' e' => h H' (e.trans e')
  | cons p r => exact fun dx vs H' n e' => h dx vs H' (e.free n) (e.trans e')
/-- the world draws from the source at d -/
structure Wd.Sr (W : Wd) (d L : Addr) : Prop where
  y : W.Y = srY d L
  j : W.J = Src d L
section
variable {W : Wd} {ρ : List En} {K : PySem.W.Frag} {te ta tb td ty tx : TE} {Φ : Da → Prop} {t : TA}
theorem we_call {P : List Da → Da → Prop} {E : XK} (h : WA W t ρ fun ds => ∃ d, P ds d ∧ Φ d) : WE W (tCall (spP P) [] E t) ρ Φ := fun σ H s Q q =>
  h σ H s _ fun vs H1 ds ⟨d, p, f⟩ k1 j1 r1 => by
    rw [List.append_nil]
    exact ⟨W.X, ds, d, fun a z => k1.b a (s.al a z), r1, p, fun v H' e r => q v H' d f (k1.trans (.same e)) (W.jsame e j1) r⟩
theorem we_callS {P : List Da → (Da → Prop) → Prop} {E : XK} {d L : Addr} (hW : W.Sr d L) (h : WA W t ρ fun ds => ∃ ds' R, ds = .adr d :: ds' ∧ P ds' R ∧ ∀ r, R r → Φ r) : WE W (tCall (spS P) [] E t) ρ Φ := fun σ H s Q q =>
  h σ H s _ fun vs H1 ds ⟨ds', R, e, p, f⟩ k1 j1 r1 => by
    subst e
    rw [List.append_nil]
    cases r1 with
    | cons r1 r2 =>
      cases r1
      exact ⟨d, L, W.X, _, ds', R, rfl, by rw [← hW.j]; exact j1, W.y _ (by rw [hW.y]; exact .inl rfl), W.y _ (by rw [hW.y]; exact .inr rfl), fun a z => k1.b a (s.al a z), r2, p, fun v H' r g k j rr => q v H' r (f r g) (k1.trans (by rw [hW.y]; exact k)) (by rw [hW.j]; exact j) rr⟩
theorem we_callX {P : List Da → Ot → Prop} {E : XK} (h : WA W t ρ fun ds => ∃ o, P ds o ∧ match o with | .ret d => Φ d | .ex C fs => ∀ H1, Kp W.Y W.h0 H1 → W.J H1 → Exc W.X H1 C fs E) : WE W (tCall (spX P) [] E t) ρ Φ := fun σ H s Q q =>
  h σ H s _ fun vs H1 ds ⟨o, p, f⟩ k1 j1 r1 => by
    rw [List.append_nil]
    refine ⟨W.X, ds, o, fun a z => k1.b a (s.al a z), r1, p, ?_⟩
    cases o with
    | ret d => exact fun v H' e r => q v H' d f (k1.trans (.same e)) (W.jsame e j1) r
    | ex C fs => exact f H1 (s.k0.trans k1) j1
/-- _law_pick -/
theorem we_pick {E : XK} {d L : Addr} (hW : W.Sr d L) (h : WA W t ρ fun ds => ∃ n : Int, ds = [.adr d, .int n] ∧ n ≤ 10000000 ∧ ∀ r : Nat, ((r : Int) < n ∨ r = 0) → Φ (.int (r : Int))) : WE W (tCall spPick [] E t) ρ Φ := fun σ H s Q q =>
  h σ H s _ fun vs H1 ds ⟨n, e, l, f⟩ k1 j1 r1 => by
    subst e
    rw [List.append_nil]
    cases r1 with
    | cons r1 r2 =>
      cases r2 with
      | cons r2 r3 =>
        cases r3
        cases r1
        cases r2
        refine ⟨d, L, n, rfl, by rw [← hW.j]; exact j1, l, fun r H' r0 r1 S b => ?_⟩
        obtain ⟨m, rfl⟩ := Int.eq_ofNat_of_zero_le r0
        refine q _ _ _ (f m (by omega)) (k1.trans ?_) (by rw [hW.j]; exact S) (.int _)
        rw [hW.y]
        refine ⟨fun a o h n => b a o h (fun z => n (.inl z)) fun z => n (.inr z), fun a h => ?_⟩
        by_cases c : a = d
        · obtain ⟨cs, l, m, t, g, _⟩ := S.ex
          rw [c, g]
          exact fun z => nomatch z
        · by_cases c2 : a = L
          · obtain ⟨cs, l, m, t, _, g, _⟩ := S.ex
            rw [c2, g]
            exact fun z => nomatch z
          · cases e : H1 a with
            | none => exact absurd e h
            | some o => rw [b a o e c c2]; exact fun z => nomatch z
end
/-! ### own objects looked at -/
def Wd.vw (W : Wd) : Wd := ⟨W.h0, [], W.X0, W.X0, W.Y, W.J, fun _ h => h, W.sy, W.jd⟩
def vwE : En → En
  | .un => .un
  | .da d => .da d
  | .ml _ ds => .da (.lst ds)
  | .md _ ds => .da (.dct ds)
theorem Sl.vw {W : Wd} {H : Hp} {σ : L2.St} {ρ : List En} (s : Sl W H σ ρ) : Sl W.vw H σ (ρ.map vwE) := by
  refine ⟨s.k0, (fun _ m => by cases m), fun a h => s.al a (W.s0 a h), s.j, by rw [List.length_map]; exact s.len, fun i o e h1 h2 => ?_, fun i j e f a _ h1 _ m => ?_⟩
  · rw [List.getElem?_map, Option.map_eq_some_iff] at h2
    obtain ⟨e', h2, rfl⟩ := h2
    have z := s.at_ i o e' h1 h2
    cases e' with
    | un => trivial
    | da d => exact z.imp fun v q => ⟨q.1, q.2.to (.sub W.s0)⟩
    | ml l ds =>
      obtain ⟨q1, q2, q3, q0, vs, q4, q5⟩ := z
      exact ⟨_, q1, .lst q4 q3 (q5.to (.sub W.s0))⟩
    | md l ds =>
      obtain ⟨q1, q2, q3, q0, vs, q4, q5⟩ := z
      exact ⟨_, q1, .dct q4 q3 (q5.to (.sub W.s0))⟩
  · rw [List.getElem?_map, Option.map_eq_some_iff] at h1
    obtain ⟨e', h1, rfl⟩ := h1
    cases e' <;> cases m
/-- data without objects -/
def scaD : Da → Prop
  | .non => True
  | .bl _ => True
  | .int _ => True
  | .str _ => True
  | .adr _ => True
  | .ty _ => True
  | _ => False
theorem Rp.sca {X X' : Addr → Prop} {H : Hp} {v : V} {d : Da} (r : Rp X H v d) (h : scaD d) : Rp X' H v d := by
  cases r with
  | non => exact .non
  | bl b => exact .bl b
  | int b => exact .int b
  | str b => exact .str b
  | ty b => exact .ty b
  | adr b => exact .adr b
  | _ => exact h.elim
section
variable {W : Wd} {ρ : List En} {te : TE} {tt : TT} {Φ : Da → Prop}
theorem we_view (h : WE W.vw te (ρ.map vwE) fun d => scaD d ∧ Φ d) : WE W te ρ Φ := fun σ H s Q q => h σ H s.vw Q fun v H' d f k j r => q v H' d f.2 k j (r.sca f.1)
theorem wt_view {Φ : Bool → Prop} (h : WT W.vw tt (ρ.map vwE) Φ) : WT W tt ρ Φ := fun σ H s Q q => h σ H s.vw Q q
end
/-! ### statements -/
def WN (W : Wd) (N : L2.St → Hp → Prop) (ρ : List En) : Prop := ∀ σ H, Sl W H σ ρ → N σ H
/-- the def ends with d -/
def Rt (W : Wd) (R : VK) (d : Da) : Prop := ∀ v H, Kp W.Y W.h0 H → W.J H → Rp W.X0 H v d → R v H
section
variable {W : Wd} {ρ : List En} {K : PySem.W.Frag} {te ta tb td ty tx : TE} {tt : TT} {wi : TI} {g : TG} {S : List Nat} {t u : TS} {D : Ends} {i : Nat}
theorem wn_seq (h : WN W (t { D with nx := u D }) ρ) : WN W (tSeq t u D) ρ := h
theorem wn_next (h : WN W D.nx ρ) : WN W (tNext D) ρ := h
theorem wn_break (h : WN W D.bk ρ) : WN W (tBreak D) ρ := h
theorem wn_cont (h : WN W D.ct ρ) : WN W (tCont D) ρ := h
theorem wn_asgG (h : WE W te ρ fun d => WG S g ρ d fun ρ' => WN W D.nx ρ') : WN W (tAsg te g D) ρ := fun σ H s =>
  h σ H s _ fun v H1 d f k1 j1 r1 => f W v σ H1 (s.step k1 j1) r1 _ fun σ' ρ' f' s' _ => f' σ' H1 s'
theorem wn_asg (h : WE W te ρ fun d => WN W D.nx (ρ.set i (.da d))) : WN W (tAsg te (gName i) D) ρ := fun σ H s =>
  h σ H s _ fun v H1 d f k1 j1 r1 => f _ H1 ((s.step k1 j1).setD i r1)
theorem wn_ret (h : WE W.vw te (ρ.map vwE) (Rt W D.rt)) : WN W (tRet te D) ρ := fun σ H s =>
  h σ H s.vw _ fun v H1 d f k1 j1 r1 => f v H1 (s.k0.trans k1) j1 r1
theorem wn_retN (h : Rt W D.rt .non) : WN W (tRetN D) ρ := fun σ H s => h _ H s.k0 s.j .non
theorem wn_drop (h : WE W te ρ fun _ => WN W D.nx ρ) : WN W (tDrop te D) ρ := fun σ H s =>
  h σ H s _ fun v H1 d f k1 j1 r1 => f σ H1 (s.step k1 j1)
theorem wn_if (h : WT W.vw tt (ρ.map vwE) fun b => if b = true then WN W (t D) ρ else WN W (u D) ρ) : WN W (tIfS tt t u D) ρ := fun σ H s =>
  h σ H s.vw _ fun b H1 f k1 j1 => by
    cases b
    · exact f σ H1 (s.step k1 j1)
    · exact f σ H1 (s.step k1 j1)
/-- between two turns -/
def NI (W : Wd) (I : List En → Prop) : L2.St → Hp → Prop := fun σ H => ∃ ρ', I ρ' ∧ Sl W H σ ρ'
theorem wn_to {I : List En → Prop} (h : I ρ) : WN W (NI W I) ρ := fun σ H s => ⟨ρ, h, s⟩
/-- the world within a loop that begins at H -/
def _root_.Dl.Wd.lp (W : Wd) (H : Hp) : Wd := ⟨W.h0, H :: W.fs, W.X0, W.X, W.Y, W.J, W.s0, W.sy, W.jd⟩
theorem slE_eq {W W' : Wd} (h1 : W'.X = W.X) (h2 : W'.X0 = W.X0) (h3 : W'.h0 = W.h0) {H : Hp} {o : Option V} {e : En} (h : SlE W H o e) : SlE W' H o e := by
  cases e with
  | un => trivial
  | da d => exact h.imp fun v q => ⟨q.1, h1 ▸ q.2⟩
  | ml l ds => exact ⟨h.1, h1 ▸ h.2.1, h2 ▸ h.2.2.1, h3 ▸ h.2.2.2.1, h.2.2.2.2.imp fun vs q => ⟨q.1, h1 ▸ q.2⟩⟩
  | md l ds => exact ⟨h.1, h1 ▸ h.2.1, h2 ▸ h.2.2.1, h3 ▸ h.2.2.2.1, h.2.2.2.2.imp fun vs q => ⟨q.1, h1 ▸ q.2⟩⟩
theorem Sl.lp {H1 H : Hp} {σ : L2.St} (s : Sl W H σ ρ) (k : Kp W.Z H1 H) : Sl (W.lp H1) H σ ρ := ⟨s.k0, fun H2 m => by
  rcases List.mem_cons.mp m with rfl | m
  · exact k
  · exact s.fr H2 m, s.al, s.j, s.len, fun i o e h1 h2 => slE_eq rfl rfl rfl (s.at_ i o e h1 h2), s.nd⟩
theorem Sl.out {H1 H : Hp} {σ : L2.St} (s : Sl (W.lp H1) H σ ρ) : Sl W H σ ρ := ⟨s.k0, fun H2 m => s.fr H2 (List.mem_cons_of_mem _ m), s.al, s.j, s.len, fun i o e h1 h2 => slE_eq rfl rfl rfl (s.at_ i o e h1 h2), s.nd⟩
theorem wn_out {H1 : Hp} {N : L2.St → Hp → Prop} (h : WN W N ρ) : WN (W.lp H1) N ρ := fun σ H s => h σ H s.out
theorem wn_for (h : WI W wi ρ fun ds => ∃ I : Nat → List En → Prop, I 0 ρ ∧ (∀ (i : Nat) x ρ' H1, ds[i]? = some x → I i ρ' → WG S g ρ' x fun ρ2 => WN (W.lp H1) (t { D with nx := NI (W.lp H1) (I (i + 1)), ct := NI (W.lp H1) (I (i + 1)), bk := D.nx }) ρ2) ∧ ∀ ρ', I ds.length ρ' → WN W D.nx ρ') : WN W (tFor wi g t D) ρ := fun σ H s =>
  h σ H s _ fun J H1 ds G Y ⟨I, i0, it, ie⟩ k1 j1 w hG hY => by
    have zx : ∀ a, W.Z a → W.X a := fun a z => z.elim (W.y a) fun z => z.1
    refine for_it w (Pv := fun i => NI (W.lp H1) (I i)) ⟨ρ, i0, (s.step k1 j1).lp .refl⟩ (fun i σ' H' _ z => ?_) (fun i x σ' H' H2 hi z y => ?_) (fun σ' H' z => ?_)
    · obtain ⟨ρ', ii, s'⟩ := z
      exact hG H' ((s'.fr H1 List.mem_cons_self).sub zx)
    · obtain ⟨ρ', ii, s'⟩ := z
      have k := (s'.fr H1 List.mem_cons_self).sub zx
      obtain ⟨e, d, hd, hx⟩ := hY i H' x H2 k y
      have s2 := s'.step (.same e) (W.jsame e s'.j)
      exact it i d ρ' H1 hd ii (W.lp H1) x σ' H2 s2 (hx W.X (fun a h => h) (.kp k) s'.al) _ fun σ2 ρ2 f s3 _ => f σ2 H2 s3
    · obtain ⟨ρ', ii, s'⟩ := z
      exact ie ρ' ii σ' H' s'.out
theorem wn_while (h : ∃ I : Nat → List En → Prop, (∃ m, I m ρ) ∧ ∀ m ρ', I m ρ' → WT W.vw tt (ρ'.map vwE) fun b => if b = true then WN W (t { D with nx := NI W fun ρ2 => ∃ m', m' < m ∧ I m' ρ2, ct := NI W fun ρ2 => ∃ m', m' < m ∧ I m' ρ2, bk := D.nx }) ρ' else WN W D.nx ρ') : WN W (tWhile tt t D) ρ := fun σ H s => by
  obtain ⟨I, ⟨m, i0⟩, it⟩ := h
  refine ⟨fun m σ H => ∃ ρ', I m ρ' ∧ Sl W H σ ρ', ⟨m, ρ, i0, s⟩, fun m σ' H' ⟨ρ', ii, s'⟩ => ?_⟩
  refine it m ρ' ii σ' H' s'.vw _ fun b H2 f k j => ?_
  have s2 := s'.step k j
  cases b with
  | false => exact f σ' H2 s2
  | true => exact ⟨NI W fun ρ2 => ∃ m', m' < m ∧ I m' ρ2, fun σ2 H3 ⟨ρ2, ⟨m', l, i2⟩, s3⟩ => ⟨m', l, ρ2, i2, s3⟩, f σ' H2 s2⟩
/-! ### own objects -/
def enO (l : Addr) : Da → En
  | .lst ds => .ml l ds
  | .dct ds => .md l ds
  | d => .da d
/-- l is younger than all loops that are under way -/
def _root_.Dl.Wd.Yg (W : Wd) (l : Addr) : Prop := (∀ H1 ∈ W.fs, H1 l = none) ∧ W.h0 l = none ∧ ¬ W.X l
theorem enO_mut {l : Addr} {d : Da} {a : Addr} (h : (enO l d).mut = some a) : a = l := by
  cases d <;> cases h <;> rfl
theorem wn_own (h : WW W te ρ fun d => ∀ l, W.Yg l → WN (W.own l) D.nx (ρ.set i (enO l d))) : WN W (tAsg te (gName i) D) ρ := fun σ H s =>
  h σ H s _ fun l H1 d f n k1 j1 o => by
    have yg : W.Yg l := ⟨fun H2 m => (s.fr H2 m).free n, s.k0.free n, fun z => s.al l z n⟩
    have nl : H1 l ≠ none := by
      cases d with
      | lst ds => obtain ⟨vs, h, _⟩ := o; rw [h]; exact fun z => nomatch z
      | dct ds => obtain ⟨vs, h, _⟩ := o; rw [h]; exact fun z => nomatch z
      | _ => exact o.elim
    refine f l yg _ H1 ((s.own n k1 j1 nl).set i ?_ fun a m j e _ he z => ?_)
    · cases d with
      | lst ds => exact ⟨rfl, .inr rfl, fun z => s.al l (W.s0 l z) n, yg.2.1, o⟩
      | dct ds => exact ⟨rfl, .inr rfl, fun z => s.al l (W.s0 l z) n, yg.2.1, o⟩
      | _ => exact o.elim
    · obtain rfl := enO_mut m
      obtain ⟨ov, _, g⟩ := s.get he
      cases e with
      | un => cases z
      | da d => cases z
      | ml l' ds => cases z; exact s.al _ g.2.1 n
      | md l' ds => cases z; exact s.al _ g.2.1 n
theorem ww_lst {ts : TA} {Φ : Da → Prop} (h : WA W ts ρ fun xs => xs.length ≤ 1000000 ∧ Φ (.lst xs)) : WW W (tLst ts) ρ Φ := fun σ H s Q q =>
  h σ H s _ fun vs H1 xs h1 k1 j1 r1 => ⟨by rw [r1.len, sizeLine_eq]; omega, fun p hp => q p _ _ h1.2 (k1.free hp) (k1.trans (.new hp)) (W.jsame (same_upd hp) j1) ⟨vs, upd_same, r1.to (to_own hp (.new hp))⟩⟩
theorem ww_dnew {Φ : Da → Prop} (f : Φ (.dct [])) : WW W tDNewK ρ Φ := fun σ H s Q q => fun p hp => q p _ _ f hp (.new hp) (W.jsame (same_upd hp) s.j) ⟨[], upd_same, .nil⟩
theorem ww_dict {ts : TA} {Φ : Da → Prop} (h : WA W ts ρ fun xs => ∃ ds, xs = [.dct ds] ∧ Φ (.dct ds)) : WW W (tCB (fun xs H Q => ∃ a kvs, xs = [V.ref a] ∧ Rd H a (HO.dK kvs) ∧ ∀ (p : Addr), H p = none → Q (V.ref p) (upd H p (HO.dK kvs))) ts) ρ Φ := fun σ H s Q q =>
  h σ H s _ fun vs H1 xs ⟨ds, e, f⟩ k1 j1 r1 => by
    subst e
    cases r1 with
    | cons r1 r2 =>
      cases r2
      cases r1 with
      | dct a n rr => exact ⟨_, _, rfl, .inl a, fun p hp => q p _ _ f (k1.free hp) (k1.trans (.new hp)) (W.jsame (same_upd hp) j1) ⟨_, upd_same, rr.to (to_own hp (.new hp))⟩⟩
theorem ww_list {ts : TA} {Φ : Da → Prop} (h : WA W ts ρ fun xs => ∃ y ds, xs = [y] ∧ (y = .lst ds ∨ y = .tup ds) ∧ Φ (.lst ds)) : WW W (tCB (Evl.rListS K) ts) ρ Φ := fun σ H s Q q =>
  h σ H s _ fun vs H1 xs ⟨y, ds, e, ey, f⟩ k1 j1 r1 => by
    subst e
    cases r1 with
    | cons r1 r2 =>
      cases r2
      obtain ⟨p, us, rfl, hs, rr⟩ := seq_of (K := K) r1 ey
      exact ⟨p, us, rfl, hs, fun l hl => q l _ _ f (k1.free hl) (k1.trans (.new hl)) (W.jsame (same_upd hl) j1) ⟨_, upd_same, rr.to (to_own hl (.new hl))⟩⟩
/-- an own object turns -/
theorem Sl.turn {H : Hp} {σ : L2.St} (s : Sl W H σ ρ) {l : Addr} {e e' : En} {o : HO} (hi : ρ[i]? = some e) (hm : e.mut = some l) (hm' : e'.mut = some l) (ho : SlE W (upd H l o) (some (.ref l)) e') : Sl W (upd H l o) σ (ρ.set i e') := by
  obtain ⟨ov, h1, g⟩ := s.get hi
  have lx : W.X l ∧ ¬ W.X0 l ∧ W.h0 l = none ∧ ov = some (.ref l) := by
    cases e with
    | un => cases hm
    | da d => cases hm
    | ml l' ds => cases hm; exact ⟨g.2.1, g.2.2.1, g.2.2.2.1, g.1⟩
    | md l' ds => cases hm; exact ⟨g.2.1, g.2.2.1, g.2.2.2.1, g.1⟩
  obtain ⟨lx, lx0, lh0, rfl⟩ := lx
  have lal := s.al l lx
  have kz : Kp W.Z H (upd H l o) := Kp.refl.upd (.inr ⟨lx, lx0⟩)
  have kx : Kp W.X H (upd H l o) := Kp.refl.upd lx
  have hy : ¬ W.Y l := fun z => lx0 (W.sy l z)
  refine ⟨s.k0.mut lh0, fun H1 m => (s.fr H1 m).trans kz, fun a z => kx.b a (s.al a z), W.jd H _ (fun a u ya q => by rw [upd_ne (show a ≠ l from fun c => hy (c ▸ ya))]; exact q) s.j, by rw [List.length_set]; exact s.len, fun j o' f h2 h3 => ?_, fun j k f f' a hjk h2 h3 m => ?_⟩
  · by_cases c : i = j
    · subst c
      have hl := (List.getElem?_eq_some_iff.mp hi).1
      rw [List.getElem?_set_self hl] at h3
      cases h3
      rw [h1] at h2
      cases h2
      exact ho
    · rw [List.getElem?_set_ne c] at h3
      have z := s.at_ j o' f h2 h3
      have ne := s.nd i j e f l c hi h3 hm
      cases f with
      | un => trivial
      | da d => exact z.imp fun v q => ⟨q.1, q.2.kp kx⟩
      | ml l' ds =>
        obtain ⟨q1, q2, q3, q0, vs, q4, q5⟩ := z
        exact ⟨q1, q2, q3, q0, vs, by rw [upd_ne (show l' ≠ l from fun c => ne (c ▸ rfl))]; exact q4, q5.kp kx⟩
      | md l' ds =>
        obtain ⟨q1, q2, q3, q0, vs, q4, q5⟩ := z
        exact ⟨q1, q2, q3, q0, vs, by rw [upd_ne (show l' ≠ l from fun c => ne (c ▸ rfl))]; exact q4, q5.kp kx⟩
  · have key : ∀ {j : Nat} {f : En}, (ρ.set i e')[j]? = some f → ∃ f2, ρ[j]? = some f2 ∧ f2.mut = f.mut := fun {j f} h => by
      by_cases c : i = j
      · subst c
        rw [List.getElem?_set_self (List.getElem?_eq_some_iff.mp hi).1] at h
        cases h
        exact ⟨e, hi, by rw [hm, hm']⟩
      · rw [List.getElem?_set_ne c] at h
        exact ⟨f, h, rfl⟩
    obtain ⟨f2, g1, g2⟩ := key h2
    obtain ⟨f3, g3, g4⟩ := key h3
    rw [← g4]
    exact s.nd j k f2 f3 a hjk g1 g3 (by rw [g2]; exact m)
theorem slE_m {l : Addr} {ds : List Da} {H : Hp} {o : Option V} (h : SlE W H o (.ml l ds)) : o = some (.ref l) ∧ W.X l ∧ ¬ W.X0 l ∧ W.h0 l = none ∧ ∃ vs, H l = some (.lst vs) ∧ Rps W.X H vs ds := h
/-- x.append(e) -/
theorem wn_app {l : Addr} {ds : List Da} (hi : ρ[i]? = some (.ml l ds)) (hl : ds.length ≤ 1000000) (h : WE W te ρ fun d => WN W D.nx (ρ.set i (.ml l (ds ++ [d])))) : WN W (tDrop (tBM K "list" rAppend (tVar i) (tCons te tNil)) D) ρ := fun σ H s => by
  obtain ⟨ov, h1, rfl, lx, lx0, lh0, vs, hv, rv⟩ := s.get hi
  refine ⟨_, h1, .inl ⟨rfl, _, SqL.of hv⟩, h σ H s _ fun v H1 d f k1 j1 r1 => ?_⟩
  have s1 := s.step k1 j1
  have hv1 := k1.a _ _ hv fun z => lx0 (W.sy l z)
  have rv1 := rv.kp (k1.sub W.y)
  have kx : Kp W.X H1 (upd H1 l (.lst (vs ++ [v]))) := Kp.refl.upd lx
  refine ⟨l, vs, v, rfl, rfl, hv1, by rw [rv.len, sizeLine_eq]; omega, f σ _ (s1.turn hi rfl rfl ⟨rfl, lx, lx0, lh0, _, upd_same, (rv1.app (.one r1)).kp kx⟩)⟩
/-- x.extend(e), e a list -/
theorem wn_ext {l : Addr} {ds : List Da} (hi : ρ[i]? = some (.ml l ds)) (h : WE W te ρ fun d => ∃ es, d = .lst es ∧ ds.length + es.length ≤ 1000000 ∧ WN W D.nx (ρ.set i (.ml l (ds ++ es)))) : WN W (tDrop (tBM K "list" rExtend (tVar i) (tCons te tNil)) D) ρ := fun σ H s => by
  obtain ⟨ov, h1, rfl, lx, lx0, lh0, vs, hv, rv⟩ := s.get hi
  refine ⟨_, h1, .inl ⟨rfl, _, SqL.of hv⟩, h σ H s _ fun v H1 d ⟨es, e, hl, f⟩ k1 j1 r1 => ?_⟩
  subst e
  cases r1 with
  | @lst b us _ hb nb rb =>
    have s1 := s.step k1 j1
    have hv1 := k1.a _ _ hv fun z => lx0 (W.sy l z)
    have rv1 := rv.kp (k1.sub W.y)
    have kx : Kp W.X H1 (upd H1 l (.lst (vs ++ us))) := Kp.refl.upd lx
    exact ⟨l, b, vs, us, rfl, rfl, hv1, hb, by rw [rv.len, rb.len, sizeLine_eq]; omega, f σ _ (s1.turn hi rfl rfl ⟨rfl, lx, lx0, lh0, _, upd_same, (rv1.app rb).kp kx⟩)⟩
/-- y = x.pop() -/
theorem wn_pop {l : Addr} {ds : List Da} {d : Da} {j : Nat} (hi : ρ[i]? = some (.ml l ds)) (hd : ds[ds.length - 1]? = some d) (h : WN W D.nx ((ρ.set i (.ml l ds.dropLast)).set j (.da d))) : WN W (tAsg (tBM0 K "list" rPop (tVar i)) (gName j) D) ρ := fun σ H s => by
  obtain ⟨ov, h1, rfl, lx, lx0, lh0, vs, hv, rv⟩ := s.get hi
  rw [← rv.len] at hd
  obtain ⟨y, hy, ry⟩ := rv.ix hd
  have kx : Kp W.X H (upd H l (.lst vs.dropLast)) := Kp.refl.upd lx
  have dl : Rps W.X H vs.dropLast ds.dropLast := by
    rw [List.dropLast_eq_take, List.dropLast_eq_take, rv.len]
    exact rv.take _
  refine ⟨_, h1, .inl ⟨rfl, _, SqL.of hv⟩, l, vs, y, rfl, rfl, hv, hy, h _ _ ((s.turn (e' := .ml l ds.dropLast) (o := .lst vs.dropLast) hi rfl rfl ⟨rfl, lx, lx0, lh0, _, upd_same, dl.kp kx⟩).setD j (ry.kp kx))⟩
/-- x[k] = e, x an own dict -/
theorem wn_dput {l : Addr} {kvs : List (Key × Da)} (hi : ρ[i]? = some (.md l kvs)) (hl : kvs.length ≤ 1000000) (h : WE W te ρ fun d => WE W ty ρ fun y => ∃ k, keyO y = some k ∧ WN W D.nx (ρ.set i (.md l (put kvs k d)))) : WN W (sDPut (tVar i) ty te D) ρ := fun σ H s => by
  obtain ⟨ov, h1, rfl, lx, lx0, lh0, vs, hv, rv⟩ := s.get hi
  refine h σ H s _ fun v H1 d f k1 j1 r1 => ⟨_, h1, f σ H1 (s.step k1 j1) _ fun u H2 y ⟨k, ey, g⟩ k2 j2 r2 => ?_⟩
  obtain rfl := kD_of r2 ey
  have k12 := k1.trans k2
  have hv2 := k12.a _ _ hv fun z => lx0 (W.sy l z)
  have rv2 := rv.kp (k12.sub W.y)
  have kx : Kp W.X H2 (upd H2 l (.dK (putK vs k v))) := Kp.refl.upd lx
  exact ⟨l, _, rfl, DPut.k hv2 (by rw [rv.len, sizeLine_eq]; omega), g σ _ (((s.step k1 j1).step k2 j2).turn hi rfl rfl ⟨rfl, lx, lx0, lh0, _, upd_same, (rv2.put (r1.kp (k2.sub W.y))).kp kx⟩)⟩
/-- an own object is let alone from here on -/
theorem wn_frz {l : Addr} {e : En} {N : L2.St → Hp → Prop} (hy : W.Yg l) (hi : ρ[i]? = some e) (hm : e.mut = some l) (h : WN W N (ρ.set i (vwE e))) : WN (W.own l) N ρ := fun σ H s => by
  obtain ⟨ov, h1, g⟩ := s.get hi
  have gg : ∃ v d, ov = some v ∧ vwE e = .da d ∧ Rp W.X H v d := by
    cases e with
    | un => cases hm
    | da d => cases hm
    | ml l' ds =>
      cases hm
      obtain ⟨rfl, lx, lx0, lh0, vs, hv, rv⟩ := g
      exact ⟨_, _, rfl, rfl, .lst hv hy.2.2 (rv.to (.sub fun a h => .inl h))⟩
    | md l' ds =>
      cases hm
      obtain ⟨rfl, lx, lx0, lh0, vs, hv, rv⟩ := g
      exact ⟨_, _, rfl, rfl, .dct hv hy.2.2 (rv.to (.sub fun a h => .inl h))⟩
  obtain ⟨v, d, rfl, ed, rd⟩ := gg
  refine h σ H ⟨s.k0, fun H1 m => ?_, fun a z => s.al a (.inl z), s.j, by rw [List.length_set]; exact s.len, fun j o' f h2 h3 => ?_, fun j k f f' a hjk h2 h3 m => ?_⟩
  · have k := s.fr H1 m
    have n := hy.1 H1 m
    exact ⟨fun a o q nz => k.a a o q fun z => nz (z.elim .inl fun z => z.1.elim (fun x => .inr ⟨x, z.2⟩) fun c => absurd c (ne_of_none q n)), k.b⟩
  · by_cases c : i = j
    · subst c
      rw [List.getElem?_set_self (List.getElem?_eq_some_iff.mp hi).1] at h3
      cases h3
      rw [h1] at h2
      cases h2
      rw [ed]
      exact ⟨v, rfl, rd⟩
    · rw [List.getElem?_set_ne c] at h3
      have z := s.at_ j o' f h2 h3
      have ne := s.nd i j e f l c hi h3 hm
      cases f with
      | un => trivial
      | da d => exact z.imp fun v q => ⟨q.1, q.2.to (.sub fun a h => .inl h)⟩
      | ml l' ds =>
        obtain ⟨q1, q2, q3, q0, vs, q4, q5⟩ := z
        exact ⟨q1, q2.elim (fun x => x) fun c => absurd (c ▸ rfl) ne, q3, q0, vs, q4, q5.to (.sub fun a h => .inl h)⟩
      | md l' ds =>
        obtain ⟨q1, q2, q3, q0, vs, q4, q5⟩ := z
        exact ⟨q1, q2.elim (fun x => x) fun c => absurd (c ▸ rfl) ne, q3, q0, vs, q4, q5.to (.sub fun a h => .inl h)⟩
  · have key : ∀ {j : Nat} {f : En} {b : Addr}, (ρ.set i (vwE e))[j]? = some f → f.mut = some b → ρ[j]? = some f := fun {j f b} h m => by
      by_cases c : i = j
      · subst c
        rw [List.getElem?_set_self (List.getElem?_eq_some_iff.mp hi).1] at h
        cases h
        rw [ed] at m
        cases m
      · rw [List.getElem?_set_ne c] at h
        exact h
    exact fun m2 => s.nd j k f f' a hjk (key h2 m) (key h3 m2) m m2
/-! ### a def's own beginning -/
/-- the world of a def that leaves all as it is -/
def wdP (H : Hp) (X : Addr → Prop) : Wd := ⟨H, [], X, X, fun _ => False, fun _ => True, fun _ h => h, fun _ h => h.elim, fun _ _ _ h => h⟩
/-- .. of one that draws -/
def wdS (H : Hp) (X : Addr → Prop) (d L : Addr) (hd : X d) (hL : X L) : Wd := ⟨H, [], X, X, srY d L, Src d L, fun _ h => h, fun _ h => h.elim (fun e => e ▸ hd) fun e => e ▸ hL, fun H H' h s => by
  obtain ⟨cs, l, m, t, h1, h2, h3⟩ := s.ex
  exact ⟨cs, l, m, t, h _ _ (.inl rfl) h1, h _ _ (.inr rfl) h2, h3⟩⟩
theorem wdS_sr {H : Hp} {X : Addr → Prop} {d L : Addr} {hd : X d} {hL : X L} : (wdS H X d L hd hL).Sr d L := ⟨rfl, rfl⟩
theorem Wd.Sr.own {d L l : Addr} (h : W.Sr d L) : (W.own l).Sr d L := ⟨h.y, h.j⟩
theorem Wd.Sr.lp {d L : Addr} {H : Hp} (h : W.Sr d L) : (W.lp H).Sr d L := ⟨h.y, h.j⟩
theorem Wd.Sr.vw {d L : Addr} (h : W.Sr d L) : W.vw.Sr d L := ⟨h.y, h.j⟩
theorem rt_P {X : Addr → Prop} {H : Hp} {Q : VK} {d : Da} (q : ∀ v H', Same H H' → Rp X H' v d → Q v H') : Rt (wdP H X) Q d := fun v H' k _ r => q v H' (fun a o h => k.a a o h fun z => z) r
theorem rt_S {X : Addr → Prop} {H : Hp} {Q : VK} {r : Da} {d L : Addr} {hd : X d} {hL : X L} (q : ∀ v H', Kp (srY d L) H H' → Src d L H' → Rp X H' v r → Q v H') : Rt (wdS H X d L hd hL) Q r := fun v H' k j rr => q v H' k j rr
/-- isinstance of built-in kinds -/
def isi (n m : String) : Option Bool :=
  if n = "bool" then (if m = "int" then some true else if m = "bool" then some true else if m = "str" then some false else if m = "tuple" then some false else if m = "list" then some false else none)
  else if n = "int" then (if m = "int" then some true else if m = "bool" then some false else if m = "str" then some false else if m = "tuple" then some false else if m = "list" then some false else none)
  else if n = "str" then (if m = "int" then some false else if m = "bool" then some false else if m = "str" then some true else if m = "tuple" then some false else if m = "list" then some false else none)
  else if n = "tuple" then (if m = "int" then some false else if m = "bool" then some false else if m = "str" then some false else if m = "tuple" then some true else if m = "list" then some false else none)
  else if n = "list" then (if m = "int" then some false else if m = "bool" then some false else if m = "str" then some false else if m = "tuple" then some false else if m = "list" then some true else none)
  else if n = "NoneType" then (if m = "int" then some false else if m = "bool" then some false else if m = "str" then some false else if m = "tuple" then some false else if m = "list" then some false else none)
  else none
theorem isi_ok {K : PySem.W.Frag} {n m : String} {b : Bool} (h : isi n m = some b) : PySem.W.kitOne K (.type n) (.type m) = some b := by
  have all : ∀ n ∈ ["bool", "int", "str", "tuple", "list", "NoneType"], ∀ m ∈ ["int", "bool", "str", "tuple", "list"], ∀ b, isi n m = some b → PySem.W.kitOne K (.type n) (.type m) = some b := by
    intro n hn m hm b h
    simp only [List.mem_cons, List.not_mem_nil, or_false] at hn hm
    rcases hn with rfl | rfl | rfl | rfl | rfl | rfl <;> rcases hm with rfl | rfl | rfl | rfl | rfl <;> cases b <;> first | (exact kit_ty (by decide +kernel)) | (exfalso; revert h; decide +kernel)
  unfold isi at h
  have hn : n ∈ ["bool", "int", "str", "tuple", "list", "NoneType"] := by
    simp only [List.mem_cons, List.not_mem_nil, or_false]
    by_cases c1 : n = "bool"
    · exact .inl c1
    · by_cases c2 : n = "int"
      · exact .inr (.inl c2)
      · by_cases c3 : n = "str"
        · exact .inr (.inr (.inl c3))
        · by_cases c4 : n = "tuple"
          · exact .inr (.inr (.inr (.inl c4)))
          · by_cases c5 : n = "list"
            · exact .inr (.inr (.inr (.inr (.inl c5))))
            · by_cases c6 : n = "NoneType"
              · exact .inr (.inr (.inr (.inr (.inr c6))))
              · simp [c1, c2, c3, c4, c5, c6] at h
  have hm : m ∈ ["int", "bool", "str", "tuple", "list"] := by
    simp only [List.mem_cons, List.not_mem_nil, or_false]
    by_cases c1 : m = "int"
    · exact .inl c1
    · by_cases c2 : m = "bool"
      · exact .inr (.inl c2)
      · by_cases c3 : m = "str"
        · exact .inr (.inr (.inl c3))
        · by_cases c4 : m = "tuple"
          · exact .inr (.inr (.inr (.inl c4)))
          · by_cases c5 : m = "list"
            · exact .inr (.inr (.inr (.inr c5)))
            · simp [c1, c2, c3, c4, c5] at h
  exact all n hn m hm b h
theorem wc_isi2 {xs : List Da} {Φ : Da → Prop} (f : ∃ y m n b, xs = [y, .ty m] ∧ tyD y = some n ∧ isi n m = some b ∧ Φ (.bl b)) : WC W (rIsi K) xs Φ := wc_isi (by
  obtain ⟨y, m, n, b, e1, e2, e3, f⟩ := f
  exact ⟨y, m, n, b, e1, e2, isi_ok e3, f⟩)
/-- t[1:] -/
theorem we_tl {Φ : Da → Prop} (h : WE W te ρ fun x => ∃ d r, x = .tup (d :: r) ∧ Φ (.tup r)) : WE W (tSl (rSlT K) te (tPart (tC (V.int 1))) tNoPart) ρ Φ := we_slT (h.mono fun x ⟨d, r, e, f⟩ => wo_some (we_c ⟨1, rfl, wo_none ⟨_, e, tl_notD d r, by rw [cutD_tl]; exact f⟩⟩))
theorem we_pickX {Φ : Da → Prop} {ts : TA} {E : XK} (d L : Addr) (hW : W.Sr d L) (h : WA W ts ρ fun ds => ∃ n : Int, ds = [.adr d, .int n] ∧ n ≤ 10000000 ∧ ∀ r : Nat, ((r : Int) < n ∨ r = 0) → Φ (.int (r : Int))) : WE W (tCall spPick [] E ts) ρ Φ := we_pick hW h
theorem wt_yes {Φ : Bool → Prop} (f : Φ true) : WT W tYes ρ Φ := fun σ H s Q q => q true H f .refl s.j
theorem we_varX {Φ : Da → Prop} (d : Da) (h : ρ[i]? = some (.da d)) (f : Φ d) : WE W (tVar i) ρ Φ := we_var h f
theorem wn_start {Ns : List Str} {N : L2.St → Hp → Prop} {vs : List V} {ds : List Da} {H : Hp} (ρ : List En) (e0 : W.h0 = H) (ef : W.fs = []) (j : W.J H) (al : ∀ a, W.X a → H a ≠ none) (r : Rps W.X H vs ds) (h : WN W N ρ) (hρ : ρ = ds.map .da ++ List.replicate (Ns.length - ds.length) .un := by rfl) : N (L2.start Ns vs) H := by
  subst hρ
  refine h _ H ⟨e0 ▸ .refl, (fun H1 m => by rw [ef] at m; cases m), al, j, ?_, fun i o e h1 h2 => ?_, fun i k e f a _ h1 _ m => ?_⟩
  · unfold L2.start
    rw [List.length_append, List.length_append, List.length_map, List.length_map, List.length_replicate, List.length_replicate, r.len]
  · unfold L2.start at h1
    by_cases c : i < vs.length
    · rw [List.getElem?_append_left (by rw [List.length_map]; exact c), List.getElem?_map, List.getElem?_eq_getElem c] at h1
      cases h1
      rw [List.getElem?_append_left (by rw [List.length_map, ← r.len]; exact c), List.getElem?_map] at h2
      obtain ⟨d, g1, g2⟩ := r.at_ (List.getElem?_eq_getElem c)
      rw [g1] at h2
      cases h2
      exact ⟨_, rfl, g2⟩
    · rw [List.getElem?_append_right (by rw [List.length_map, ← r.len]; omega)] at h2
      rw [List.getElem?_replicate] at h2
      split at h2
      · cases h2
        trivial
      · cases h2
  · by_cases c : i < ds.length
    · rw [List.getElem?_append_left (by rw [List.length_map]; exact c), List.getElem?_map, List.getElem?_eq_getElem c] at h1
      cases h1
      cases m
    · rw [List.getElem?_append_right (by rw [List.length_map]; omega), List.getElem?_replicate] at h1
      split at h1
      · cases h1
        cases m
      · cases h1
end
end Dl


set_option Elab.async false
set_option linter.all false
set_option maxRecDepth 100000
set_option maxHeartbeats 4000000
/-! == of data -/
namespace Dl
open PySem PySem.Spec PyProof.Rows L2
mutual
def toPy : Da → PyData
  | .non => .none
  | .bl b => .bool b
  | .int i => .int i
  | .str s => .str s
  | .lst ds => .list (toPys ds)
  | .tup ds => .tuple (toPys ds)
  | _ => .none
def toPys : List Da → List PyData
  | [] => []
  | d :: r => toPy d :: toPys r
end
mutual
/-- data that == looks at, without truths -/
def plD : Da → Bool
  | .non => true
  | .int _ => true
  | .str s => PyData.strOk s
  | .lst ds => plDs ds
  | .tup ds => plDs ds
  | _ => false
def plDs : List Da → Bool
  | [] => true
  | d :: r => plD d && plDs r
end
mutual
def dpD : Da → Nat
  | .lst ds => dpDs ds + 1
  | .tup ds => dpDs ds + 1
  | _ => 0
def dpDs : List Da → Nat
  | [] => 0
  | d :: r => max (dpD d) (dpDs r)
end
mutual
theorem rp_dp {K : PySem.W.Frag} {X : Addr → Prop} {H : Hp} : ∀ {v : V} {d : Da}, Rp X H v d → plD d = true → Dp K H v (toPy d)
  | _, _, .non, _ => .non
  | _, _, .int i, _ => .int i
  | _, _, .str s, _ => .str s
  | _, _, .lst a n r, h => .lst (SqL.of a) (rps_dp r h)
  | _, _, .tup a n r, h => .tup (SqT.of a) (rps_dp r h)
  | _, _, .bl b, h => by cases h
  | _, _, .ty b, h => by cases h
  | _, _, .adr b, h => by cases h
  | _, _, .ext b, h => by cases h
  | _, _, .dct a n b, h => by cases h
  | _, _, .dtt a n b, h => by cases h
theorem rps_dp {K : PySem.W.Frag} {X : Addr → Prop} {H : Hp} : ∀ {v : List V} {d : List Da}, Rps X H v d → plDs d = true → DpAll K H v (toPys d)
  | _, _, .nil, _ => .nil
  | _, _, .cons a r, h => by
    have h : (plD _ && plDs _) = true := h
    rw [Bool.and_eq_true] at h
    exact .cons (rp_dp a h.1) (rps_dp r h.2)
end
mutual
theorem lay_of : ∀ d : Da, plD d = true → (toPy d).canLay0 = true
  | .non, _ => rfl
  | .int i, _ => rfl
  | .str s, h => by
    have h : PyData.strOk s = true := h
    simpa [toPy, PyData.canLay0] using h
  | .lst ds, h => by simpa [toPy, PyData.canLay0] using lays_of ds h
  | .tup ds, h => by simpa [toPy, PyData.canLay0] using lays_of ds h
  | .bl b, h => by cases h
  | .ty b, h => by cases h
  | .adr b, h => by cases h
  | .ext b, h => by cases h
  | .dct a, h => by cases h
  | .dtt a, h => by cases h
theorem lays_of : ∀ d : List Da, plDs d = true → PyData.canLayAll0 (toPys d) = true
  | [], _ => by simp [toPys, PyData.canLayAll0]
  | d :: r, h => by
    have h : (plD d && plDs r) = true := h
    rw [Bool.and_eq_true] at h
    simp [toPys, PyData.canLayAll0, lay_of d h.1, lays_of r h.2]
end
mutual
theorem dep_of : ∀ d : Da, (toPy d).depth ≤ dpD d
  | .non => by simp [toPy, PyData.depth]
  | .int i => by simp [toPy, PyData.depth]
  | .str s => by simp [toPy, PyData.depth]
  | .lst ds => by
    have := deps_of ds
    simp only [toPy, PyData.depth, dpD]
    omega
  | .tup ds => by
    have := deps_of ds
    simp only [toPy, PyData.depth, dpD]
    omega
  | .bl b => by simp [toPy, PyData.depth]
  | .ty b => by simp [toPy, PyData.depth]
  | .adr b => by simp [toPy, PyData.depth]
  | .ext b => by simp [toPy, PyData.depth]
  | .dct a => by simp [toPy, PyData.depth]
  | .dtt a => by simp [toPy, PyData.depth]
theorem deps_of : ∀ d : List Da, PyData.depthAll (toPys d) ≤ dpDs d
  | [] => by simp [toPys, PyData.depthAll]
  | d :: r => by
    have := dep_of d
    have := deps_of r
    simp only [toPys, PyData.depthAll, dpDs]
    omega
end
theorem shaped_of {d : Da} (h : plD d = true) (l : dpD d ≤ 64) : SeqAt.shaped (toPy d) = true := by
  have := dep_of d
  have h2 := lay_of d h
  unfold SeqAt.shaped
  rw [h2, Bool.true_and, decide_eq_true (by omega)]
mutual
theorem eqv_iff : ∀ a b : Da, plD a = true → plD b = true → (PyData.eqv (toPy a) (toPy b) = true ↔ a = b)
  | .non, b, _, h => by cases b <;> simp_all [toPy, PyData.eqv, plD]
  | .int i, b, _, h => by cases b <;> simp_all [toPy, PyData.eqv, plD]
  | .str s, b, _, h => by cases b <;> simp_all [toPy, PyData.eqv, plD]
  | .lst ds, b, g, h => by
    cases b with
    | lst es =>
      have := eqvs_iff ds es g h
      simp [toPy, PyData.eqv, this]
    | _ => simp_all [toPy, PyData.eqv, plD]
  | .tup ds, b, g, h => by
    cases b with
    | tup es =>
      have := eqvs_iff ds es g h
      simp [toPy, PyData.eqv, this]
    | _ => simp_all [toPy, PyData.eqv, plD]
  | .bl b, _, h, _ => by cases h
  | .ty b, _, h, _ => by cases h
  | .adr b, _, h, _ => by cases h
  | .ext b, _, h, _ => by cases h
  | .dct a, _, h, _ => by cases h
  | .dtt a, _, h, _ => by cases h
theorem eqvs_iff : ∀ a b : List Da, plDs a = true → plDs b = true → (PyData.eqvAll (toPys a) (toPys b) = true ↔ a = b)
  | [], [], _, _ => by simp [toPys, PyData.eqvAll]
  | [], _ :: _, _, _ => by simp [toPys, PyData.eqvAll]
  | _ :: _, [], _, _ => by simp [toPys, PyData.eqvAll]
  | a :: r, b :: s, g, h => by
    have g : (plD a && plDs r) = true := g
    have h : (plD b && plDs s) = true := h
    rw [Bool.and_eq_true] at g h
    have x := eqv_iff a b g.1 h.1
    have y := eqvs_iff r s g.2 h.2
    simp [toPys, PyData.eqvAll, x, y]
end
section
variable {W : Wd} {Φ : Da → Prop} {x y : Da} {K : PySem.W.Frag}
theorem w2_eqD (f : plD x = true ∧ plD y = true ∧ dpD x ≤ 64 ∧ dpD y ≤ 64 ∧ ∃ b : Bool, (b = true ↔ x = y) ∧ Φ (.bl b)) : W2 W (rEqD K) x y Φ := fun v u H al j rx ry Q q => by
  obtain ⟨h1, h2, l1, l2, b, e, f⟩ := f
  refine ⟨_, _, rp_dp rx h1, rp_dp ry h2, shaped_of h1 l1, shaped_of h2 l2, ?_⟩
  have : PyData.eqv (toPy x) (toPy y) = b := by
    rw [Bool.eq_iff_iff, eqv_iff x y h1 h2, e]
  rw [this]
  exact q _ _ _ f .refl j (.bl _)
theorem w2_neD (f : plD x = true ∧ plD y = true ∧ dpD x ≤ 64 ∧ dpD y ≤ 64 ∧ ∃ b : Bool, (b = true ↔ x = y) ∧ Φ (.bl (!b))) : W2 W (rNeD K) x y Φ := fun v u H al j rx ry Q q => by
  obtain ⟨h1, h2, l1, l2, b, e, f⟩ := f
  refine ⟨_, _, rp_dp rx h1, rp_dp ry h2, shaped_of h1 l1, shaped_of h2 l2, ?_⟩
  have : PyData.eqv (toPy x) (toPy y) = b := by
    rw [Bool.eq_iff_iff, eqv_iff x y h1 h2, e]
  rw [this]
  exact q _ _ _ f .refl j (.bl _)
end
theorem isEmpty_iff' {ds : List Da} {f : List Da → Da} (inj : ∀ a b, f a = f b → a = b) : ds.isEmpty = true ↔ f ds = f [] := by
  cases ds with
  | nil => simp
  | cons a r => exact ⟨fun h => (by cases h), fun h => by have := inj _ _ h; cases this⟩
section
variable {W : Wd} {Φ : Da → Prop} {ds : List Da} {K : PySem.W.Frag}
theorem w2_eqNil (h1 : plDs ds = true) (l1 : dpDs ds ≤ 63) (f : Φ (.bl ds.isEmpty)) : W2 W (rEqD K) (.lst ds) (.lst []) Φ := w2_eqD ⟨h1, rfl, by show dpDs ds + 1 ≤ 64; omega, by decide, _, isEmpty_iff' fun a b h => by injection h, f⟩
theorem w2_neNil (h1 : plDs ds = true) (l1 : dpDs ds ≤ 63) (f : Φ (.bl (!ds.isEmpty))) : W2 W (rNeD K) (.lst ds) (.lst []) Φ := w2_neD ⟨h1, rfl, by show dpDs ds + 1 ≤ 64; omega, by decide, _, isEmpty_iff' fun a b h => by injection h, f⟩
theorem w2_eqNilT (h1 : plDs ds = true) (l1 : dpDs ds ≤ 63) (f : Φ (.bl ds.isEmpty)) : W2 W (rEqD K) (.tup ds) (.tup []) Φ := w2_eqD ⟨h1, rfl, by show dpDs ds + 1 ≤ 64; omega, by decide, _, isEmpty_iff' fun a b h => by injection h, f⟩
end
theorem plDs_map {α : Type} {f : α → Da} {l : List α} (h : ∀ a ∈ l, plD (f a) = true) : plDs (l.map f) = true := by
  induction l with
  | nil => rfl
  | cons a r ih =>
    show (plD (f a) && plDs (r.map f)) = true
    rw [h a List.mem_cons_self, ih fun b hb => h b (List.mem_cons_of_mem _ hb)]
    rfl
theorem dpDs_le {n : Nat} : ∀ {l : List Da}, (∀ a ∈ l, dpD a ≤ n) → dpDs l ≤ n
  | [], _ => Nat.zero_le _
  | a :: r, h => Nat.max_le.mpr ⟨h a List.mem_cons_self, dpDs_le fun b hb => h b (List.mem_cons_of_mem _ hb)⟩
end Dl


set_option Elab.async false
set_option linter.all false
set_option maxRecDepth 100000
set_option maxHeartbeats 4000000
namespace K43
open PySem PySem.Spec PyProof.Rows L2
def top (i : Nat) : Stmt := PySem.Challenge.pw_equalkin_k43_chains_judged.main.body.getD i (.Pass ⟨0, 0, 0, 0⟩)
abbrev sPick : Stmt := top 33
/-- the built-in names that the module leaves alone, its own numbers and texts -/
structure Blt (mg : Str → Option Value) : Prop where
  len : mg "len" = none
  int : mg "int" = none
  abs : mg "abs" = none
  range : mg "range" = none
  str : mg "str" = none
  list : mg "list" = none
  tuple : mg "tuple" = none
  isinstance : mg "isinstance" = none
  all : mg "all" = none
  set : mg "set" = none
  enumerate : mg "enumerate" = none
  sum : mg "sum" = none
  max : mg "max" = none
  min : mg "min" = none
  bool : mg "bool" = none
  c_LETTERS : ∃ u, mg "_LETTERS" = some u ∧ RelV (.str "abcdefghijklmnopqrstuvwxyz") u
  c_CHARACTERS : ∃ u, mg "_CHARACTERS" = some u ∧ RelV (.str "abcdefghijklmnopqrstuvwxyz0123456789") u
  c_LONGEST : ∃ u, mg "_LONGEST" = some u ∧ RelV (.int 12) u
  c_MOST_MEMBERS : ∃ u, mg "_MOST_MEMBERS" = some u ∧ RelV (.int 6) u
  c_MOST_OPERATIONS : ∃ u, mg "_MOST_OPERATIONS" = some u ∧ RelV (.int 5) u
section
variable {P : Program} {w : World} {K : PySem.W.Frag} {mg : Str → Option Value} {base : Heap}
/-- between two turns of the draws' while -/
def WPick (d L : Addr) (n : Int) (H : Hp) (j : Nat) (σ : L2.St) (H1 : Hp) : Prop := σ = [some (.ref d), some (.int n), some (.ref L), none, none, none] ∧ But d L H H1 ∧
  ∃ (cs : List Int) (l m t : Int), H1 d = some (.dK (srcD L l m t)) ∧ H1 L = some (.lst (cs.map V.int)) ∧ cs.length ≤ 63 ∧ j = cs.length
theorem scPick : FnScope ["source", "many", "cells", "left", "turn", "mixed"] ["source", "many"] (defScope sPick) := ⟨rfl, rfl, rfl, by decide +kernel, rfl, by decide +kernel, by decide +kernel⟩
theorem ok_pick {f : Addr} {fd : FuncData} (F : Fun K "_law_pick" "_law_pick" sPick f fd) (T : Blt mg) : FnOk P w K mg base CX0 1 f fd ["source", "many"] spPick := by
  refine F.ok scPick (fun vs H Q E h => ?_) (fun cdv A outer s H vs Q E hr h => ?_)
  · obtain ⟨d, L, n, rfl, _⟩ := h
    rfl
  · obtain ⟨d, L, n, rfl, S, hn, k⟩ := h
    have hu := hu_of hr
    refine ⟨_, pss_cons (ps_if (pt_cmpR op_lt (pv 1) pe_int (nomark _)) (pss_one (ps_ret pe_int)) pss_nil)
      (pss_cons (ps_set (i := 2) scPick.nd rfl (Or.inl rfl) (pe_dget hu (pv 0) pe_str (fun _ _ => rfl)))
      (pss_cons (ps_while PassesOwn.never (PW.pt (pw_and (pt_cmpR op_lt (pe_dget hu (pv 0) pe_str (fun _ _ => rfl)) pe_int (nomark _))
          (pw_and1 (pt_cmpR op_gt (pe_callB call_len_seq (by rfl) T.len PySem.boot_len (pa_cons (pv 2) pa_nil)) pe_int (nomark _)))))
        (pss_one (ps_dput hu (pv 0) pe_str (pe_bm0 PySem.F.plainAttrs_list PySem.F.slot_list_pop PySem.F.type_list_pop mt_pop (pv 2)) rfl)))
      (pss_cons (ps_set (i := 3) scPick.nd rfl (Or.inl rfl) (pe_dget hu (pv 0) pe_str (fun _ _ => rfl)))
      (pss_cons (ps_if (pt_cmpR op_gt (pv 3) pe_int (nomark _)) (pss_cons (ps_dput hu (pv 0) pe_str (pe_op op_fdiv (pv 3) (pv 1)) rfl)
          (pss_one (ps_ret (pe_op op_mod (pe_callTy call_int1 (by rfl) T.int (by decide +kernel) (pa_cons (pv 3) pa_nil)) (pv 1))))) pss_nil)
      (pss_cons (ps_dput hu (pv 0) pe_str (pe_op op_add (pe_dget hu (pv 0) pe_str (fun _ _ => rfl)) pe_int) rfl)
      (pss_cons (ps_set (i := 4) scPick.nd rfl (Or.inl rfl) (pe_dget hu (pv 0) pe_str (fun _ _ => rfl)))
      (pss_cons (ps_set (i := 5) scPick.nd rfl (Or.inl rfl) (pe_op op_mod (pe_callTy call_int1 (by rfl) T.int (by decide +kernel) (pa_cons (pe_op op_add (pe_dget hu (pv 0) pe_str (fun _ _ => rfl)) (pe_op op_mul (pv 4) pe_int)) pa_nil)) pe_int))
      (pss_cons (ps_set (i := 5) scPick.nd rfl (Or.inl rfl) (pe_op op_mod (pe_callTy call_int1 (by rfl) T.int (by decide +kernel) (pa_cons (pe_op op_add (pe_op op_mul (pv 5) (pv 5)) (pe_op op_mul (pv 4) pe_int)) pa_nil)) pe_int))
      (pss_cons (ps_if (pt_cmpR op_gt (pv 1) (pe_op op_pow pe_int pe_int) (nomark _)) (pss_one (ps_set (i := 5) scPick.nd rfl (Or.inl rfl) (pe_op op_pow (pe_callTy call_int1 (by rfl) T.int (by decide +kernel) (pa_cons (pe_op op_add (pe_op op_mul (pv 5) pe_int) (pv 4)) pa_nil)) pe_int))) pss_nil)
      (pss_one (ps_ret (pe_op op_mod (pe_callTy call_int1 (by rfl) T.int (by decide +kernel) (pa_cons (pe_op op_fdiv (pv 5) pe_int) pa_nil)) (pv 1))))))))))))), ?_⟩
    obtain ⟨cs, l, m, t, h1, h2, h3⟩ := S.ex
    have ndL := S.ne
    -- if many < 2
    refine ⟨_, rfl, _, _, rfl, rfl, _, rfl, ?_⟩
    refine ite2 (fun c => ?_) (fun c => ?_)
    · exact k 0 H (Int.le_refl 0) (.inr rfl) S But.refl
    have c2 : 2 ≤ n := by
      have c := of_decide_eq_false (Bool.eq_false_iff.mpr c)
      omega
    -- cells = source['cells']
    refine ⟨_, rfl, _, _, rfl, dg_cells h1, ?_⟩
    -- the while
    refine ⟨WPick d L n H, ⟨_, rfl, But.refl, cs, l, m, t, h1, h2, h3, rfl⟩, ?_⟩
    clear h1 h2 h3 S cs l m t
    rintro j σ H1 ⟨rfl, b1, cs, l, m, t, h1, h2, h3, rfl⟩
    refine ⟨_, rfl, _, _, rfl, dg_left h1, _, _, rfl, rfl, _, rfl, ?_⟩
    by_cases c : l < 2 ∧ 0 < cs.length
    · refine tT (decide_eq_true c.1) ⟨_, rfl, _, _, rfl, .inl (SqL.of h2), _, _, rfl, rfl, _, rfl, tT (decide_eq_true (by rw [List.length_map]; omega)) ?_⟩
      obtain ⟨z, hz⟩ : ∃ z, cs[cs.length - 1]? = some z := ⟨_, List.getElem?_eq_getElem (by omega)⟩
      refine ⟨WPick d L n H (cs.length - 1), fun σ' H' q => ⟨_, by omega, q⟩, ?_⟩
      refine ⟨_, rfl, .inl ⟨rfl, _, SqL.of h2⟩, L, _, .int z, rfl, rfl, h2, by rw [List.length_map, List.getElem?_map, hz]; rfl, _, rfl, d, _, rfl, dp_left (by rw [upd_ne ndL]; exact h1), ?_⟩
      refine ⟨rfl, (b1.upd_L).upd_d, cs.dropLast, z, m, t, upd_same, ?_, by rw [List.length_dropLast]; omega, by rw [List.length_dropLast]⟩
      rw [upd_ne ndL.symm, upd_same, List.map_dropLast]
    have c0 : decide (l < 2) = false ∨ decide (l < 2) = true ∧ cs.length = 0 := by
      by_cases c1 : l < 2
      · exact .inr ⟨decide_eq_true c1, by omega⟩
      · exact .inl (decide_eq_false c1)
    rcases c0 with c1 | ⟨c1, c2⟩
    all_goals first | refine tF c1 (iteF ?_) | refine tT c1 ⟨_, rfl, _, _, rfl, .inl (SqL.of h2), _, _, rfl, rfl, _, rfl, tF (decide_eq_false (by rw [List.length_map]; omega)) ?_⟩
    all_goals
      -- left = source['left']; if left > 1
      refine ⟨_, rfl, _, _, rfl, dg_left h1, ?_⟩
      refine ⟨_, rfl, _, _, rfl, rfl, _, rfl, ?_⟩
      by_cases c3 : 1 < l
      · refine tT (decide_eq_true c3) ?_
        refine ⟨_, rfl, _, rfl, l, n, rfl, rfl, ⟨by omega, by omega⟩, _, rfl, d, _, rfl, dp_left h1, ?_⟩
        refine ⟨_, rfl, .inl ⟨_, rfl, _, rfl, _, _, rfl, rfl, by omega, ?_⟩⟩
        refine k (l % n) _ (Int.emod_nonneg _ (by omega)) (.inl (Int.emod_lt_of_pos _ (by omega))) ⟨cs, l / n, m, t, upd_same, by rw [upd_ne ndL.symm]; exact h2, h3⟩ b1.upd_d
      · refine tF (decide_eq_false c3) ?_
        -- source['turn'] += 1; turn; mixed
        refine ⟨_, rfl, _, _, rfl, dg_turn h1, _, _, rfl, rfl, _, rfl, d, _, rfl, dp_turn h1, ?_⟩
        refine ⟨_, rfl, _, _, rfl, dg_turn upd_same, ?_⟩
        refine ⟨_, rfl, _, _, rfl, dg_mixed upd_same, _, rfl, t + 1, 104729, rfl, rfl, .inr (by decide), _, _, rfl, rfl, .inl ⟨_, rfl, _, _, rfl, rfl, (by show (0 : Int) < _; decide), ?_⟩⟩
        have m1 := Int.emod_lt_of_pos (m + (t + 1) * 104729) (show (0 : Int) < 998244353 by decide)
        have m0 := Int.emod_nonneg (m + (t + 1) * 104729) (show (998244353 : Int) ≠ 0 by decide)
        refine ⟨_, rfl, _, rfl, _, _, rfl, rfl, .inl (by constructor <;> omega), _, rfl, t + 1, 17, rfl, rfl, .inr (by decide), _, _, rfl, rfl, .inl ⟨_, rfl, _, _, rfl, rfl, (by show (0 : Int) < _; decide), ?_⟩⟩
        have e7 : ¬ ((10 : Int) ^ (7 : Int).toNat < n) := by
          have e : (10 : Int) ^ (7 : Int).toNat = 10000000 := by decide
          omega
        refine ⟨_, rfl, 10, 7, rfl, rfl, ⟨by decide, by decide, by decide⟩, _, _, rfl, rfl, _, rfl, tF (decide_eq_false e7) ?_⟩
        refine ⟨_, rfl, _, 16, rfl, rfl, ⟨by decide, by decide⟩, .inl ⟨_, rfl, _, rfl, _, n, rfl, rfl, by omega, ?_⟩⟩
        refine k _ _ (Int.emod_nonneg _ (by omega)) (.inl (Int.emod_lt_of_pos _ (by omega))) ⟨cs, l, m, t + 1, upd_same, by rw [upd_ne ndL.symm]; exact h2, h3⟩ b1.upd_d
end
end K43

set_option Elab.async false
set_option linter.all false
set_option maxRecDepth 100000
set_option maxHeartbeats 4000000
namespace K43
open PySem PySem.Spec PyProof.Rows L2 Evl
section
variable {P : Program} {w : World} {K : PySem.W.Frag} {mg : Str → Option Value} {base : Heap}
theorem int_of {ns : List Int} {i : Nat} {y : V} (hi : (ns.map V.int)[i]? = some y) : ∃ z, ns[i]? = some z ∧ y = V.int z := by
  rw [List.getElem?_map] at hi
  cases e : ns[i]? with
  | none => rw [e] at hi; cases hi
  | some z => rw [e] at hi; exact ⟨z, rfl, (Option.some.inj hi).symm⟩
abbrev s__law_source : Stmt := top 32
abbrev N__law_source : List Str := ["script", "mixed", "cell", "cells", "k"]
theorem sc__law_source : FnScope N__law_source ["script"] (defScope s__law_source) := ⟨rfl, rfl, rfl, by decide +kernel, rfl, by decide +kernel, by decide +kernel⟩
theorem ok_source {f : Addr} {fd : FuncData} (F : Fun K "_law_source" "_law_source" s__law_source f fd) (T : Blt mg) : FnOk P w K mg base CX0 1 f fd ["script"] (spSource K) := by
  refine F.ok sc__law_source (fun vs H Q E h => ?_) (fun cdv A outer s H vs Q E hr h => ?_)
  · obtain ⟨a, ns, rfl, _⟩ := h
    rfl
  · obtain ⟨a, ns, rfl, hS, hlen, k⟩ := h
    have hu := hu_of hr
    refine ⟨_, (pss_cons (ps_set (i := 1) sc__law_source.nd rfl (Or.inl rfl) (pe_int))
      (pss_cons (ps_for PassesOwn.never rfl (pi_list (pv 0)) (pg_name (i := 2) sc__law_source.nd rfl (Or.inl rfl)) (pss_one (ps_set (i := 1) sc__law_source.nd rfl (Or.inl rfl) (pe_op op_mod (pe_callTy call_int1 (by rfl) T.int (by decide +kernel) (pa_cons (pe_op op_add (pe_op op_add (pe_op op_mul (pv 1) (pe_int)) (pe_op op_mul (pv 2) (pe_int))) (pe_int)) pa_nil)) (pe_int)))))
      (pss_cons (ps_set (i := 3) sc__law_source.nd rfl (Or.inr rfl) (pe_lc (own := [("cell", 2)]) (g := gName 2) (by rfl) sc__law_source.nd (pi_list (pv 0)) (blkOk_by (own := [("cell", 2)]) (N := N__law_source) (sc := defScope s__law_source) (by decide +kernel)) (fun _ _ _ _ _ => pg_name (i := 2) sc__law_source.nd rfl (Or.inl rfl)) (fun _ _ _ _ _ => pts_nil) (fun _ _ _ _ _ => pe_callB call_abs (by rfl) T.abs (by decide +kernel) (pa_cons (pv 2) pa_nil))))
      (pss_one (ps_ret (pe_disp (pps_cons (pe_str) (pe_lc (own := [("k", 4)]) (g := gName 4) (by rfl) sc__law_source.nd (pi_range1 (by rfl) T.range (pa_cons (pe_callB (call_lenK K) (by rfl) T.len (by decide +kernel) (pa_cons (pv 3) pa_nil)) pa_nil)) (blkOk_by (own := [("k", 4)]) (N := N__law_source) (sc := defScope s__law_source) (by decide +kernel)) (fun _ _ _ _ _ => pg_name (i := 4) sc__law_source.nd rfl (Or.inl rfl)) (fun _ _ _ _ _ => pts_nil) (fun _ _ _ _ _ => pe_ix (ix_listK K) (pv 3) (pe_op op_sub (pe_op op_sub (pe_callB (call_lenK K) (by rfl) T.len (by decide +kernel) (pa_cons (pv 3) pa_nil)) (pe_int)) (pv 4)) (fun _ _ => rfl))) (pps_cons (pe_str) (pe_int) (pps_cons (pe_str) (pv 1) (pps_cons (pe_str) (pe_int) pps_nil)))) (by rfl) (by rfl) (fun z => by cases z) (by decide))))))), ?_⟩
    refine ⟨_, rfl, a, rfl, ⟨_, hS⟩, for_list (K := K) (a := a) (xs := ns.map V.int) (fun i σ H1 => ∃ (m : Int) (v : Option V), σ = [some (.ref a), some (.int m), v, none, none] ∧ H1 = H) ⟨11, none, rfl, rfl⟩ (fun i σ H1 _ ⟨_, _, _, e⟩ => by rw [e]; exact hS) ?_ ?_⟩
    · rintro i y σ H1 hi ⟨m, v, rfl, rfl⟩
      obtain ⟨z, _, rfl⟩ := int_of hi
      refine ⟨_, rfl, _, _, rfl, rfl, .inr (by decide), _, rfl, _, _, rfl, rfl, .inr (by decide), _, _, rfl, rfl, _, _, rfl, rfl, .inl ⟨_, rfl, _, _, rfl, rfl, (by show (0 : Int) < _; decide), ?_⟩⟩
      exact ⟨_, _, rfl, rfl⟩
    · rintro σ H1 ⟨m, v, rfl, rfl⟩
      have hl : (ns.map V.int).length = ns.length := List.length_map _
      -- cells = [abs(cell) for cell in script]
      have len0 : (ns.map V.int).length = ns.length := List.length_map _
      dsimp only
      refine q_asgL (xs := given (ns.map V.int).length (fun _ => true) (fun i => .int (if ns.getD i 0 < 0 then - ns.getD i 0 else ns.getD i 0))) (by
        refine el_lcL (K := K) (xs := ns.map V.int) (a := a) (fun _ => true) _ (ev_var rfl) hS (by omega) (fun _ => rfl) (fun i x H2 e2 hi => ?_) (fun i x H2 e2 hi _ => ?_)
        · exact et_yes
        · obtain ⟨z, hz, rfl⟩ := int_of hi
          rw [List.getD_eq_getElem?_getD, hz]
          exact fun H3 e3 Q3 q3 => ⟨_, rfl, z, rfl, q3 H3 (Ex.refl H3)⟩) (fun L H2 hL e2 h2 => ?_)
      rw [given_all, hl] at h2
      -- the dict
      intro d hd
      have nLd : L ≠ d := ne_of_none h2 hd
      have ex3 : Ex H2 (upd H2 d (.dK [])) := Ex.new hd
      have h3 : (upd H2 d (.dK [])) L = some (.lst ((List.range ns.length).map fun i => .int (if ns.getD i 0 < 0 then - ns.getD i 0 else ns.getD i 0))) := by rw [upd_ne nLd]; exact h2
      simp only [tPairs, tC, List.map_cons, List.map_nil]
      refine use_lc (xs := given ns.length (fun _ => true) (fun i => .int (if ns.getD (ns.length - 1 - i) 0 < 0 then - ns.getD (ns.length - 1 - i) 0 else ns.getD (ns.length - 1 - i) 0))) ?_ ?_
      · have lenE : ((List.range ns.length).map fun i => (V.int (if ns.getD i 0 < 0 then - ns.getD i 0 else ns.getD i 0))).length = ns.length := by rw [List.length_map, List.length_range]
        have eq : (ns.length : Int).toNat = ns.length := Int.toNat_natCast _
        rw [← eq]
        refine el_lcR1 (n := (ns.length : Int)) (fun _ => true) _ ?_ (by omega) (fun _ => rfl) (fun i H4 e4 hi => et_yes) (fun i H4 e4 hi _ => ?_)
        · have q := ev_len (K := K) (ta := tVar 3) (σ := [some (.ref a), some (.int m), v, some (.ref L), none]) (ev_var rfl) (sq_of h3)
          rw [lenE] at q
          exact ea_cons q ea_nil
        · have h4 := e4 L _ h3
          have q := ev_len (K := K) (ta := tVar 3) (σ := [some (.ref a), some (.int m), v, some (.ref L), some (.int (i : Int))]) (ev_var rfl) (sq_of h4)
          rw [lenE] at q
          refine ev_op (ev_var rfl) (ev_op (ev_op q ev_c rv_I0) (ev_var rfl) rv_I0) (rv_ixL (sq_of h4) ?_)
          have ei : ((ns.length : Int) - 1 - (i : Int)) = ((ns.length - 1 - i : Nat) : Int) := by omega
          rw [ei]
          refine atI_nat ?_
          rw [List.getElem?_map, List.getElem?_range (by omega)]
          rfl
      · intro R H4 hR e4 h4
        rw [given_all] at h4
        have hd4 : H4 d = some (.dK []) := e4 _ _ upd_same
        refine ⟨_, rfl, hd4, srcD R 1 m 0, rfl, (by show 4 ≤ 15; decide), ?_⟩
        rw [merge_src]
        have nRd : d ≠ R := ne_of_none upd_same hR
        refine k d R _ (fresh_back e2 hd) (fresh_back e2 (fresh_back ex3 hR)) ?_ ?_
        · refine ⟨(List.range ns.length).map fun i => (if ns.getD (ns.length - 1 - i) 0 < 0 then - ns.getD (ns.length - 1 - i) 0 else ns.getD (ns.length - 1 - i) 0), 1, m, 0, upd_same, ?_, by rw [List.length_map, List.length_range]; exact hlen⟩
          rw [upd_ne nRd.symm, h4, List.map_map]
          rfl
        · exact fun b o q => by
            rw [upd_ne (ne_of_none (e2 _ _ q) hd)]
            exact e4 _ _ (ex3 _ _ (e2 _ _ q))
end
end K43


set_option Elab.async false
set_option linter.all false
set_option maxRecDepth 100000
set_option maxHeartbeats 4000000
namespace K43
open PySem PySem.Spec PyProof.Rows L2 Evl
theorem if_true_of {b : Bool} {A B : Prop} (h : b = true) (q : A) : if b = true then A else B := by rw [if_pos h]; exact q
theorem if_false_of {b : Bool} {A B : Prop} (h : b = false) (q : B) : if b = true then A else B := by rw [if_neg (by rw [h]; decide)]; exact q
def abc : Str := "abcdefghijklmnopqrstuvwxyz"
def abc9 : Str := "abcdefghijklmnopqrstuvwxyz0123456789"
/-- plain: one to twelve small letters and digits -/
def plainB (x : Str) : Bool := decide (1 ≤ x.length) && decide (x.length ≤ 12) && ((List.range x.cps.size).map fun i => decide (x.cps.getD i 0 ∈ abc9.cps.toList)).all id
def wordB (x : Str) : Bool := plainB x && decide (x.cps.getD 0 0 ∈ abc.cps.toList)
section
variable {P : Program} {w : World} {K : PySem.W.Frag} {mg : Str → Option Value} {base : Heap}
/-- a truth about a text -/
def spText (g : Str → Bool) : Sp := fun vs H Q _ => ∃ x : Str, vs = [.str x] ∧ x.length ≤ 1000 ∧ ∀ H', Same H H' → Q (.bl (g x)) H'
abbrev s_is_plain : Stmt := top 11
abbrev N_is_plain : List Str := ["thing", "character"]
theorem sc_is_plain : FnScope N_is_plain ["thing"] (defScope s_is_plain) := ⟨rfl, rfl, rfl, by decide +kernel, rfl, by decide +kernel, by decide +kernel⟩
theorem ok_is_plain {f : Addr} {fd : FuncData} (F : Fun K "is_plain" "is_plain" s_is_plain f fd) (T : Blt mg) : FnOk P w K mg base CX0 1 f fd ["thing"] (spText plainB) := by
  refine F.ok sc_is_plain (fun vs H Q E h => ?_) (fun cdv A outer s H vs Q E hr h => ?_)
  · obtain ⟨x, rfl, _⟩ := h
    rfl
  · obtain ⟨x, rfl, hx, k⟩ := h
    have hu := hu_of hr
    refine ⟨_, (pss_cons (ps_if (PW.pt (pw_or (pt_not (pt_val (pe_callB (call_isiK' K) (by rfl) T.isinstance (by decide +kernel) (pa_cons (pv 0) (pa_cons (pe_bty (n := "str") (by rfl) T.str (by decide +kernel)) pa_nil))))) (pw_or1 (pt_not (pt_chain op_le op_le (pe_int) (pe_callB call_len_str (by rfl) T.len (by decide +kernel) (pa_cons (pv 0) pa_nil)) (C8.pe_gc rfl T.c_LONGEST)))))) (pss_one (ps_ret (pe_bl))) pss_nil)
      (pss_one (ps_ret (pe_callB (cr_allK K rfl) (by rfl) T.all (by decide +kernel) (pa_cons (pe_lc (own := [("character", 1)]) (g := gName 1) (by rfl) sc_is_plain.nd (pi_str (pv 0)) (blkOk_by (own := [("character", 1)]) (N := N_is_plain) (sc := defScope s_is_plain) (by decide +kernel)) (fun _ _ _ _ _ => pg_name (i := 1) sc_is_plain.nd rfl (Or.inl rfl)) (fun _ _ _ _ _ => pts_nil) (fun _ _ _ _ _ => pe_cmpR op_in_sign (pv 1) (C8.pe_gc rfl T.c_CHARACTERS) rfl)) pa_nil))))), ?_⟩
    refine ⟨_, rfl, .str x, _, _, _, true, rfl, ClsV.ty _, .base (.str x), kit_ty (by decide +kernel), true, rfl, iteF ⟨_, rfl, x, rfl, by rw [sizeLine_eq]; omega, 1, _, rfl, rfl, ?_⟩⟩
    have no : plainB x = false → Q (.bl false) H := fun e => by
      have z := k H (Same.refl H)
      rw [e] at z
      exact z
    refine ⟨_, rfl, ?_⟩
    by_cases c1 : (1 : Int) ≤ (x.length : Int)
    · refine if_true_of (decide_eq_true c1) ⟨_, _, rfl, rfl, _, rfl, ?_⟩
      by_cases c2 : (x.length : Int) ≤ 12
      · refine if_false_of (by rw [decide_eq_true c2]; rfl) ?_
        have hs : x.cps.size = x.length := rfl
        unfold tNext tRet tCB tCons
        dsimp only
        refine lc_use (J := Its x) (H1 := H) (g := gName 1) (fun i => .bl (decide (x.cps.getD i 0 ∈ abc9.cps.toList))) (fun R r => ⟨_, rfl, x, rfl, r⟩) walk_str (by omega) (fun _ _ => trivial) (fun i H' y H2 _ z => z.1 ▸ Same.refl _) (fun i y H' H2 hi e z R q => ?_) (fun _ _ _ _ h z => gn_mono h z) (fun D H' hD e hd => ?_)
        · obtain ⟨rfl, c, hc, rfl⟩ := z
          have ec : x.cps.getD i 0 = c := by rw [Array.getD_eq_getD_getElem?, hc]; rfl
          refine gN ⟨rfl, _, rfl, c, _, rfl, rfl, ?_⟩
          have z := q H2 (Same.refl _)
          rw [ec] at z
          exact z
        · refine ⟨D, (List.range x.cps.size).map fun i => decide (x.cps.getD i 0 ∈ abc9.cps.toList), rfl, SqL.of (by rw [List.map_map]; exact hd), ?_⟩
          have z := k H' e
          unfold plainB at z
          rw [decide_eq_true (show 1 ≤ x.length by omega), decide_eq_true (show x.length ≤ 12 by omega)] at z
          exact z
      · refine if_true_of (by rw [decide_eq_false c2]; rfl) (no ?_)
        unfold plainB
        rw [decide_eq_false (show ¬ x.length ≤ 12 by omega), Bool.and_false, Bool.false_and]
    · refine if_false_of (decide_eq_false c1) ⟨false, rfl, if_true_of rfl (no ?_)⟩
      unfold plainB
      rw [decide_eq_false (show ¬ 1 ≤ x.length by omega), Bool.false_and, Bool.false_and]
abbrev s_is_word : Stmt := top 12
abbrev N_is_word : List Str := ["thing"]
theorem sc_is_word : FnScope N_is_word ["thing"] (defScope s_is_word) := ⟨rfl, rfl, rfl, by decide +kernel, rfl, by decide +kernel, by decide +kernel⟩
theorem ok_is_word {f : Addr} {fd : FuncData} (F : Fun K "is_word" "is_word" s_is_word f fd) (T : Blt mg) (c_is_plain : Cal P w K mg base 1 "is_plain" ["thing"] (spText plainB)) : FnOk P w K mg base CX0 2 f fd ["thing"] (spText wordB) := by
  refine F.ok sc_is_word (fun vs H Q E h => ?_) (fun cdv A outer s H vs Q E hr h => ?_)
  · obtain ⟨x, rfl, _⟩ := h
    rfl
  · obtain ⟨x, rfl, hx, k⟩ := h
    refine ⟨_, (pss_one (ps_ret (pe_and (pe_cal c_is_plain (hr.mono (by decide)) (by rfl) (pa_cons (pv 0) pa_nil)) (pe_one (pe_cmpR op_in_sign (pe_item_str (pv 0) (pe_int) (fun _ _ => rfl)) (C8.pe_gc rfl T.c_LETTERS) rfl))))), ?_⟩
    refine ⟨_, rfl, x, rfl, hx, fun H1 e1 => ⟨plainB x, rfl, ?_⟩⟩
    have z := k H1 e1
    unfold wordB at z
    cases hp : plainB x with
    | false =>
      rw [hp] at z
      exact if_false_of rfl z
    | true =>
      rw [hp] at z
      refine if_true_of rfl ?_
      have h1 : 1 ≤ x.length := by
        unfold plainB at hp
        rw [Bool.and_eq_true, Bool.and_eq_true] at hp
        exact of_decide_eq_true hp.1.1
      have hc : x.cps[0]? = some (x.cps.getD 0 0) := by
        have l : 0 < x.cps.size := h1
        rw [Array.getElem?_eq_getElem l, Array.getD_eq_getD_getElem?, Array.getElem?_eq_getElem l]
        rfl
      exact ⟨_, rfl, x, 0, x.cps.getD 0 0, rfl, rfl, by decide, by decide, by show (0 : Int) < x.length; omega, hc, _, _, rfl, rfl, z⟩
end
end K43


set_option Elab.async false
set_option linter.all false
set_option maxRecDepth 100000
set_option maxHeartbeats 4000000
namespace K43
open PySem PySem.Spec PyProof.Rows L2 Evl
/-- members that an algebra may have -/
structure GoodM (xs : List Str) : Prop where
  lo : 1 ≤ xs.length
  hi : xs.length ≤ 6
  pl : ∀ x ∈ xs, plainB x = true
  nd : xs.Nodup
theorem plain_len {x : Str} (h : plainB x = true) : x.length ≤ 12 := by
  unfold plainB at h
  rw [Bool.and_eq_true, Bool.and_eq_true] at h
  exact of_decide_eq_true h.1.2
section
variable {P : Program} {w : World} {K : PySem.W.Frag} {mg : Str → Option Value} {base : Heap}
/-- it is let by -/
def spChkM (K : PySem.W.Frag) : Sp := fun vs H Q _ => ∃ (a : Addr) (xs : List Str), vs = [.ref a] ∧ SqL K H a (xs.map V.str) ∧ GoodM xs ∧ ∀ H', Same H H' → Q .non H'
abbrev s__check_members : Stmt := top 18
abbrev N__check_members : List Str := ["members", "name"]
theorem sc__check_members : FnScope N__check_members ["members"] (defScope s__check_members) := ⟨rfl, rfl, rfl, by decide +kernel, rfl, by decide +kernel, by decide +kernel⟩
theorem ok_check_members {f : Addr} {fd : FuncData} (F : Fun K "_check_members" "_check_members" s__check_members f fd) (T : Blt mg) (c_is_plain : Cal P w K mg base 1 "is_plain" ["thing"] (spText plainB)) : FnOk P w K mg base CX0 2 f fd ["members"] (spChkM K) := by
  refine F.ok sc__check_members (fun vs H Q E h => ?_) (fun cdv A outer s H vs Q E hr h => ?_)
  · obtain ⟨a, xs, rfl, _⟩ := h
    rfl
  · obtain ⟨a, xs, rfl, hS, gm, k⟩ := h
    refine ⟨_, (pss_cons (ps_if (pt_not (pt_chain op_le op_le (pe_int) (pe_callB (call_lenK K) (by rfl) T.len (by decide +kernel) (pa_cons (pv 0) pa_nil)) (C8.pe_gc rfl T.c_MOST_MEMBERS))) (pss_one (ps_never)) pss_nil)
      (pss_cons (ps_if (pt_not (pt_val (pe_callB (cr_allK K rfl) (by rfl) T.all (by decide +kernel) (pa_cons (pe_lc (own := [("name", 1)]) (g := gName 1) (by rfl) sc__check_members.nd (pi_list (pv 0)) (blkOk_by (own := [("name", 1)]) (N := N__check_members) (sc := defScope s__check_members) (by decide +kernel)) (fun _ _ _ _ _ => pg_name (i := 1) sc__check_members.nd rfl (Or.inl rfl)) (fun _ _ _ _ _ => pts_nil) (fun _ _ _ _ _ => pe_cal c_is_plain (hr.mono (by decide)) (by rfl) (pa_cons (pv 1) pa_nil))) pa_nil)))) (pss_one (ps_never)) pss_nil)
      (pss_one (ps_if (pt_cmpR op_lt (pe_lenKeys (by rfl) T.len (by rfl) T.set (pv 0)) (pe_callB (call_lenK K) (by rfl) T.len (by decide +kernel) (pa_cons (pv 0) pa_nil)) (nomark _)) (pss_one (ps_never)) pss_nil)))), ?_⟩
    have l1 := gm.lo
    have l2 := gm.hi
    have hl : (xs.map V.str).length = xs.length := List.length_map _
    refine ⟨_, rfl, a, _, rfl, .inl hS, 1, _, rfl, rfl, _, rfl, if_true_of (decide_eq_true (by rw [hl]; omega)) ⟨_, _, rfl, rfl, _, rfl, if_false_of (by rw [decide_eq_true (by rw [hl]; omega)]; rfl) ?_⟩⟩
    -- all plain
    unfold tNext tSeq tIfS tNot tB tCB tCons
    dsimp only
    refine lc_use (J := Itl K a) (H1 := H) (g := gName 1) (fun i => .bl (plainB (xs.getD i Str.empty))) (fun R r => ⟨_, rfl, a, rfl, ⟨_, hS⟩, r⟩) (walk_list (xs := xs.map V.str)) (by omega) (fun H' e => e.seq hS) (fun i H' y H2 _ z => z.1 ▸ Same.refl _) (fun i y H' H2 hi e z R q => ?_) (fun _ _ _ _ h z => gn_mono h z) (fun D H' hD e hd => ?_)
    · obtain ⟨rfl, hy⟩ := z
      rw [hl] at hi
      rw [List.getElem?_map, List.getElem?_eq_getElem hi] at hy
      obtain rfl : V.str xs[i] = y := Option.some.inj hy
      have eg : xs.getD i Str.empty = xs[i] := by rw [List.getD_eq_getElem?_getD, List.getElem?_eq_getElem hi]; rfl
      rw [eg] at q
      have := plain_len (gm.pl _ (List.getElem_mem hi))
      exact gN ⟨rfl, _, rfl, xs[i], rfl, by omega, q⟩
    rw [hl] at hd
    have bt : ((List.range xs.length).map fun i => plainB (xs.getD i Str.empty)).all id = true := by
      rw [List.all_eq_true]
      intro b hb
      obtain ⟨i, hi, rfl⟩ := List.mem_map.mp hb
      rw [List.mem_range] at hi
      have eg : xs.getD i Str.empty = xs[i] := by rw [List.getD_eq_getElem?_getD, List.getElem?_eq_getElem hi]; rfl
      show plainB _ = true
      rw [eg]
      exact gm.pl _ (List.getElem_mem hi)
    refine ⟨D, (List.range xs.length).map fun i => plainB (xs.getD i Str.empty), rfl, SqL.of (by rw [List.map_map]; exact hd), _, rfl, if_false_of (by rw [bt]; rfl) ?_⟩
    have hS2 := e.seq hS
    refine ⟨_, rfl, a, xs, rfl, hS2, gm.nd, by omega, _, rfl, a, _, rfl, .inl hS2, _, _, rfl, rfl, _, rfl, if_false_of (decide_eq_false (by rw [hl]; omega)) (k H' e)⟩
end
end K43


set_option Elab.async false
set_option linter.all false
set_option maxRecDepth 100000
set_option maxHeartbeats 4000000
namespace K43
open PySem PySem.Spec PyProof.Rows L2 Evl
/-- values that an operation may have -/
structure GoodV (xs : List Str) (n : Nat) (ys : List Str) : Prop where
  ar : n ≤ 2
  sz : ys.length = xs.length ^ n
  el : ∀ y ∈ ys, y ∈ xs
theorem all_flat (xs : List Str) : (xs.map V.str).all flatV = true := by
  rw [List.all_eq_true]
  intro v hv
  obtain ⟨x, _, rfl⟩ := List.mem_map.mp hv
  rfl
theorem in_strs {x : Str} {xs : List Str} : inV (.str x) (xs.map V.str) = true ↔ x ∈ xs := by
  unfold inV
  rw [List.any_eq_true]
  constructor
  · rintro ⟨v, hv, e⟩
    obtain ⟨y, hy, rfl⟩ := List.mem_map.mp hv
    have : y = x := by simpa [eqV] using e
    exact this ▸ hy
  · intro h
    exact ⟨.str x, List.mem_map.mpr ⟨x, h, rfl⟩, by simp [eqV]⟩
section
variable {P : Program} {w : World} {K : PySem.W.Frag} {mg : Str → Option Value} {base : Heap}
def spChkV (K : PySem.W.Frag) : Sp := fun vs H Q _ => ∃ (a b : Addr) (n : Nat) (xs ys : List Str), vs = [.ref a, .int (n : Int), .ref b] ∧ SqL K H a (xs.map V.str) ∧ SqL K H b (ys.map V.str) ∧ GoodM xs ∧ GoodV xs n ys ∧ ∀ H', Same H H' → Q .non H'
abbrev s__check_values : Stmt := top 20
abbrev N__check_values : List Str := ["members", "arity", "values", "tuples", "name"]
theorem sc__check_values : FnScope N__check_values ["members", "arity", "values"] (defScope s__check_values) := ⟨rfl, rfl, rfl, by decide +kernel, rfl, by decide +kernel, by decide +kernel⟩
theorem ok_check_values {f : Addr} {fd : FuncData} (F : Fun K "_check_values" "_check_values" s__check_values f fd) (T : Blt mg) : FnOk P w K mg base CX0 1 f fd ["members", "arity", "values"] (spChkV K) := by
  refine F.ok sc__check_values (fun vs H Q E h => ?_) (fun cdv A outer s H vs Q E hr h => ?_)
  · obtain ⟨a, b, n, xs, ys, rfl, _⟩ := h
    rfl
  · obtain ⟨a, b, n, xs, ys, rfl, hA, hB, gm, gv, k⟩ := h
    refine ⟨_, (pss_cons (ps_if (PW.pt (pw_or (pt_not (pt_val (pe_callB (call_isiK' K) (by rfl) T.isinstance (by decide +kernel) (pa_cons (pv 1) (pa_cons (pe_bty (n := "int") (by rfl) T.int (by decide +kernel)) pa_nil))))) (pw_or (pt_val (pe_callB (call_isiK' K) (by rfl) T.isinstance (by decide +kernel) (pa_cons (pv 1) (pa_cons (pe_bty (n := "bool") (by rfl) T.bool (by decide +kernel)) pa_nil)))) (pw_or1 (pt_not (pt_chain op_le op_le (pe_int) (pv 1) (pe_int))))))) (pss_one (ps_never)) pss_nil)
      (pss_cons (ps_set (i := 3) sc__check_values.nd rfl (Or.inl rfl) (pe_tup (pa_cons (pe_int) (pa_cons (pe_callB (call_lenK K) (by rfl) T.len (by decide +kernel) (pa_cons (pv 0) pa_nil)) (pa_cons (pe_op op_mul (pe_callB (call_lenK K) (by rfl) T.len (by decide +kernel) (pa_cons (pv 0) pa_nil)) (pe_callB (call_lenK K) (by rfl) T.len (by decide +kernel) (pa_cons (pv 0) pa_nil))) pa_nil)))))
      (pss_cons (ps_if (pt_cmpR op_ne (pe_callB (call_lenK K) (by rfl) T.len (by decide +kernel) (pa_cons (pv 2) pa_nil)) (pe_ix (ix_tupK K) (pv 3) (pv 1) (fun _ _ => rfl)) (nomark _)) (pss_one (ps_never)) pss_nil)
      (pss_one (ps_if (pt_not (pt_val (pe_callB (cr_allK K rfl) (by rfl) T.all (by decide +kernel) (pa_cons (pe_lc (own := [("name", 4)]) (g := gName 4) (by rfl) sc__check_values.nd (pi_list (pv 2)) (blkOk_by (own := [("name", 4)]) (N := N__check_values) (sc := defScope s__check_values) (by decide +kernel)) (fun _ _ _ _ _ => pg_name (i := 4) sc__check_values.nd rfl (Or.inl rfl)) (fun _ _ _ _ _ => pts_nil) (fun _ _ _ _ _ => pe_cmpR (op_inK K) (pv 4) (pv 0) rfl)) pa_nil)))) (pss_one (ps_never)) pss_nil))))), ?_⟩
    have l1 := gm.lo
    have l2 := gm.hi
    have hl : (xs.map V.str).length = xs.length := List.length_map _
    have hlY : (ys.map V.str).length = ys.length := List.length_map _
    have ar := gv.ar
    refine ⟨_, rfl, .int n, _, _, _, true, rfl, ClsV.ty _, .base (.int _), kit_ty (by decide +kernel), true, rfl, iteF ⟨_, rfl, .int n, _, _, _, false, rfl, ClsV.ty _, .base (.int _), kit_ty (by decide +kernel), false, rfl, iteF
      ⟨_, rfl, 0, _, rfl, rfl, _, rfl, if_true_of (decide_eq_true (by omega)) ⟨_, _, rfl, rfl, _, rfl, if_false_of (by rw [decide_eq_true (by omega)]; rfl) ?_⟩⟩⟩⟩
    -- tuples
    refine ⟨_, rfl, a, _, rfl, .inl hA, _, rfl, a, _, rfl, .inl hA, _, rfl, a, _, rfl, .inl hA, _, _, rfl, rfl, .inl ⟨by rw [hl]; omega, by rw [hl]; omega⟩, by show 3 ≤ sizeLine; decide, fun t nt => ?_⟩
    rw [hl]
    obtain ⟨H1, eG, s1, ht⟩ := put_new (o := .tup [.int 1, .int (xs.length : Nat), .int ((xs.length : Nat) * (xs.length : Nat))]) nt
    refine gN ?_
    rw [eG]
    clear eG
    have hA1 := s1.seq hA
    have hB1 := s1.seq hB
    obtain ⟨m, m1, m2⟩ : ∃ m : Int, atI [V.int 1, .int (xs.length : Nat), .int ((xs.length : Nat) * (xs.length : Nat))] (n : Int) = some (.int m) ∧ m = (ys.length : Nat) := by
      have sz := gv.sz
      have hh : n = 0 ∨ n = 1 ∨ n = 2 := by omega
      rcases hh with rfl | rfl | rfl
      · exact ⟨1, rfl, by rw [sz]; rfl⟩
      · exact ⟨_, rfl, by rw [sz, Nat.pow_one]⟩
      · refine ⟨_, rfl, ?_⟩
        rw [sz, Nat.pow_two, Int.natCast_mul]
    refine ⟨_, rfl, b, _, rfl, .inl hB1, _, rfl, _, rfl, t, _, _, .int m, rfl, rfl, SqT.of ht, m1, rfl, _, rfl, if_false_of (by rw [m2, hlY]; simp) ?_⟩
    unfold tNext tIfS tNot tB tCB tCons
    dsimp only
    refine lc_use (J := Itl K b) (H1 := H1) (g := gName 4) (fun i => .bl (inV (.str (ys.getD i Str.empty)) (xs.map V.str))) (fun R r => ⟨_, rfl, b, rfl, ⟨_, hB1⟩, r⟩) (walk_list (xs := ys.map V.str)) ?_ (fun H' e => e.seq hB1) (fun i H' y H2 _ z => z.1 ▸ Same.refl _) (fun i y H' H2 hi e z R q => ?_) (fun _ _ _ _ h z => gn_mono h z) (fun D H' hD e hd => ?_)
    · rw [hlY, gv.sz]
      have hh : n = 0 ∨ n = 1 ∨ n = 2 := by omega
      rcases hh with rfl | rfl | rfl
      · simp
      · rw [Nat.pow_one]; omega
      · rw [Nat.pow_two]
        have := Nat.mul_le_mul l2 l2
        omega
    · obtain ⟨rfl, hy⟩ := z
      rw [hlY] at hi
      rw [List.getElem?_map, List.getElem?_eq_getElem hi] at hy
      obtain rfl : V.str ys[i] = y := Option.some.inj hy
      have eg : ys.getD i Str.empty = ys[i] := by rw [List.getD_eq_getElem?_getD, List.getElem?_eq_getElem hi]; rfl
      rw [eg] at q
      exact gN ⟨rfl, _, rfl, _, rfl, a, _, rfl, .inl (e.seq hA1), rfl, all_flat _, q _ (Same.refl _)⟩
    rw [hlY] at hd
    have bt : ((List.range ys.length).map fun i => inV (.str (ys.getD i Str.empty)) (xs.map V.str)).all id = true := by
      rw [List.all_eq_true]
      intro b hb
      obtain ⟨i, hi, rfl⟩ := List.mem_map.mp hb
      rw [List.mem_range] at hi
      have eg : ys.getD i Str.empty = ys[i] := by rw [List.getD_eq_getElem?_getD, List.getElem?_eq_getElem hi]; rfl
      show inV _ _ = true
      rw [eg]
      exact in_strs.mpr (gv.el _ (List.getElem_mem hi))
    exact ⟨D, (List.range ys.length).map fun i => inV (.str (ys.getD i Str.empty)) (xs.map V.str), rfl, SqL.of (by rw [List.map_map]; exact hd), _, rfl, if_false_of (by rw [bt]; rfl) (k H' (s1.trans e))⟩
end
end K43


set_option Elab.async false
set_option linter.all false
set_option maxRecDepth 100000
set_option maxHeartbeats 4000000
namespace K43
open PySem PySem.Spec PyProof.Rows L2 Evl
/-- an operation, told: its sign, its arity, its values -/
abbrev Opn : Type := Str × Nat × List Str
structure GoodO (xs : List Str) (os : List Opn) : Prop where
  hi : os.length ≤ 5
  wd : ∀ o ∈ os, wordB o.1 = true
  nd : (os.map (·.1)).Nodup
  va : ∀ o ∈ os, GoodV xs o.2.1 o.2.2
/-- operations in a list of tuples, each with its list of values -/
def OpAt (K : PySem.W.Frag) (H : Hp) (t : Addr) (o : Opn) : Prop := ∃ va, SqT K H t [.str o.1, .int (o.2.1 : Int), .ref va] ∧ SqL K H va (o.2.2.map V.str)
def OpsAt (K : PySem.W.Frag) (H : Hp) (b : Addr) (os : List Opn) : Prop := ∃ ts : List Addr, SqL K H b (ts.map V.ref) ∧ Paired (OpAt K H) ts os
section
variable {P : Program} {w : World} {K : PySem.W.Frag} {mg : Str → Option Value} {base : Heap}
theorem OpAt.same {H H' : Hp} {t : Addr} {o : Opn} (h : OpAt K H t o) (e : Same H H') : OpAt K H' t o := h.imp fun _ z => ⟨ex_t e z.1, e.seq z.2⟩
theorem OpsAt.same {H H' : Hp} {b : Addr} {os : List Opn} (h : OpsAt K H b os) (e : Same H H') : OpsAt K H' b os := h.imp fun _ z => ⟨e.seq z.1, Paired.mapP z.2 fun _ _ q => q.same e⟩
theorem paired_get {α β : Type} {F : α → β → Prop} : ∀ {l : List α} {m : List β} {i : Nat} {a : α}, Paired F l m → l[i]? = some a → ∃ b, m[i]? = some b ∧ F a b
  | _, _, _, _, .nil, e => by simp at e
  | _, _, 0, _, .cons r t, e => by simp at e; subst e; exact ⟨_, rfl, r⟩
  | _, _, i + 1, _, .cons r t, e => by
    obtain ⟨b, h1, h2⟩ := paired_get (i := i) t (by simpa using e)
    exact ⟨b, by simpa using h1, h2⟩
def spChkO (K : PySem.W.Frag) : Sp := fun vs H Q _ => ∃ (a b : Addr) (xs : List Str) (os : List Opn), vs = [.ref a, .ref b] ∧ SqL K H a (xs.map V.str) ∧ OpsAt K H b os ∧ GoodM xs ∧ GoodO xs os ∧ ∀ H', Same H H' → Q .non H'
abbrev s__check_operations : Stmt := top 19
abbrev N__check_operations : List Str := ["members", "operations", "signs", "sign", "arity", "values"]
theorem sc__check_operations : FnScope N__check_operations ["members", "operations"] (defScope s__check_operations) := ⟨rfl, rfl, rfl, by decide +kernel, rfl, by decide +kernel, by decide +kernel⟩
theorem ok_check_operations {f : Addr} {fd : FuncData} (F : Fun K "_check_operations" "_check_operations" s__check_operations f fd) (T : Blt mg) (c_is_word : Cal P w K mg base 2 "is_word" ["thing"] (spText wordB))
    (c__check_values : Cal P w K mg base 1 "_check_values" ["members", "arity", "values"] (spChkV K)) : FnOk P w K mg base CX0 3 f fd ["members", "operations"] (spChkO K) := by
  refine F.ok sc__check_operations (fun vs H Q E h => ?_) (fun cdv A outer s H vs Q E hr h => ?_)
  · obtain ⟨a, b, xs, os, rfl, _⟩ := h
    rfl
  · obtain ⟨a, b, xs, os, rfl, hA, hO, gm, go, k⟩ := h
    refine ⟨_, (pss_cons (ps_if (pt_cmpR op_gt (pe_callB (call_lenK K) (by rfl) T.len (by decide +kernel) (pa_cons (pv 1) pa_nil)) (C8.pe_gc rfl T.c_MOST_OPERATIONS) (nomark _)) (pss_one (ps_never)) pss_nil)
      (pss_cons (ps_set (i := 2) sc__check_operations.nd rfl (Or.inl rfl) (pe_lst pa_nil))
      (pss_one (ps_for PassesOwn.never rfl (pi_list (pv 1)) (pg_tup rfl (pgs_cons (pg_name (i := 3) sc__check_operations.nd rfl (Or.inl rfl)) (pgs_cons (pg_name (i := 4) sc__check_operations.nd rfl (Or.inl rfl)) (pgs_cons (pg_name (i := 5) sc__check_operations.nd rfl (Or.inl rfl)) pgs_nil)))) (pss_cons (ps_if (PW.pt (pw_or (pt_not (pt_val (pe_cal c_is_word (hr.mono (by decide)) (by rfl) (pa_cons (pv 3) pa_nil)))) (pw_or1 (pt_cmpR (op_inK K) (pv 3) (pv 2) rfl)))) (pss_one (ps_never)) pss_nil)
      (pss_cons (ps_expr (pe_bm PySem.F.plainAttrs_list PySem.F.slot_list_append PySem.F.type_list_append mt_append (pv 2) (pa_cons (pv 3) pa_nil)))
      (pss_one (ps_expr (pe_cal c__check_values (hr.mono (by decide)) (by rfl) (pa_cons (pv 0) (pa_cons (pv 4) (pa_cons (pv 5) pa_nil)))))))))))), ?_⟩
    obtain ⟨ts, hB, pr⟩ := id hO
    have hlt : (ts.map V.ref).length = os.length := by rw [List.length_map]; exact Paired.length pr
    have l5 := go.hi
    have l6 := gm.hi
    refine ⟨_, rfl, b, _, rfl, .inl hB, _, _, rfl, rfl, _, rfl, if_false_of (decide_eq_false (by rw [hlt]; omega)) ⟨by show 0 ≤ sizeLine; decide, fun sg nsg => ?_⟩⟩
    obtain ⟨H1, eG, s1, hsg⟩ := put_new (o := .lst []) nsg
    refine gN ?_
    rw [eG]
    clear eG
    refine ⟨_, rfl, b, rfl, ⟨_, s1.seq hB⟩, for_list (K := K) (a := b) (xs := ts.map V.ref) (fun i σ' H' => (∃ v1 v2 v3, σ' = [some (.ref a), some (.ref b), some (.ref sg), v1, v2, v3]) ∧ Same H H' ∧ H' sg = some (.lst ((os.take i).map fun o => .str o.1)))
      ⟨⟨none, none, none, rfl⟩, s1, hsg⟩ (fun i σ' H' _ p => p.2.1.seq hB) (fun i v σ' H' hi p => ?_) (fun σ' H' p => k H' p.2.1)⟩
    obtain ⟨⟨v1, v2, v3, rfl⟩, s2, h2⟩ := p
    have hi2 : i < os.length := by rw [← hlt]; exact (List.getElem?_eq_some_iff.mp hi).1
    obtain ⟨t, ht, rfl⟩ : ∃ t, ts[i]? = some t ∧ v = .ref t := by
      rw [List.getElem?_map] at hi
      cases e : ts[i]? with
      | none => rw [e] at hi; cases hi
      | some t => rw [e] at hi; exact ⟨t, rfl, (Option.some.inj hi).symm⟩
    obtain ⟨o, ho, va, hT, hV⟩ := paired_get pr ht
    have hm : o ∈ os := List.mem_of_getElem? ho
    have hw := go.wd o hm
    have lw : o.1.length ≤ 12 := plain_len (by unfold wordB at hw; rw [Bool.and_eq_true] at hw; exact hw.1)
    refine ⟨t, _, rfl, ex_t s2 hT, rfl, _, _, rfl, _, _, rfl, _, _, rfl, rfl, ?_⟩
    refine ⟨_, rfl, o.1, rfl, by omega, fun H3 e3 => ⟨_, rfl, if_false_of (by rw [hw]; rfl) ?_⟩⟩
    have h3 := e3 _ _ h2
    have hno : o.1 ∉ (os.take i).map (·.1) := fun z => by
      obtain ⟨m, hm1, hm2⟩ := List.mem_iff_getElem.mp z
      rw [List.length_map, List.length_take] at hm1
      have nd := List.pairwise_iff_getElem.mp go.nd m i (by rw [List.length_map]; omega) (by rw [List.length_map]; exact hi2) (by omega)
      rw [List.getElem?_eq_getElem hi2] at ho
      obtain rfl : os[i] = o := Option.some.inj ho
      refine nd ?_
      rw [List.getElem_map, List.getElem_map]
      rw [List.getElem_map, List.getElem_take] at hm2
      exact hm2
    have em : ((os.take i).map fun o => V.str o.1) = ((os.take i).map (·.1)).map V.str := by rw [List.map_map]; rfl
    rw [em] at h3
    refine ⟨_, rfl, _, rfl, sg, _, rfl, .inl (SqL.of h3), rfl, all_flat _, _, rfl, if_false_of ?_ ?_⟩
    · show inV _ _ = false
      cases c : inV (V.str o.1) (((os.take i).map (·.1)).map V.str) with
      | false => rfl
      | true => exact absurd (in_strs.mp c) hno
    refine ⟨_, rfl, .inl ⟨rfl, _, SqL.of h3⟩, _, rfl, sg, _, _, rfl, rfl, h3, by rw [List.length_map, List.length_map, List.length_take, sizeLine_eq]; omega, ?_⟩
    have s4 : Same H (upd H3 sg (.lst (((os.take i).map (·.1)).map V.str ++ [.str o.1]))) := same_mut (s2.trans e3) nsg
    refine ⟨_, rfl, _, rfl, _, rfl, a, va, o.2.1, xs, o.2.2, rfl, s4.seq hA, s4.seq hV, gm, go.va o hm, fun H5 e5 => ⟨⟨_, _, _, rfl⟩, s4.trans e5, ?_⟩⟩
    rw [List.take_add_one, ho, List.map_append, em]
    exact e5 _ _ upd_same
end
end K43


set_option Elab.async false
set_option linter.all false
set_option maxRecDepth 100000
set_option maxHeartbeats 4000000
namespace K43
open PySem PySem.Spec PyProof.Rows L2 Evl
abbrev s_Algebra__fill : Stmt := inClass (top 16) 1
abbrev N_Algebra__fill : List Str := ["self", "members", "operations", "sign", "arity", "_", "place", "name", "values"]
theorem sc_Algebra__fill : FnScope N_Algebra__fill ["self", "members", "operations"] (defScope s_Algebra__fill) := ⟨rfl, rfl, rfl, by decide +kernel, rfl, by decide +kernel, by decide +kernel⟩
/-- the class of an algebra, as far as its fields go -/
structure AlgC (K : PySem.W.Frag) (C : Addr) : Prop where
  cl : Cls K C
  n1 : NoAttr K C "signature"
  n2 : NoAttr K C "_names"
  n3 : NoAttr K C "_places"
  n4 : NoAttr K C "_arities"
  n5 : NoAttr K C "_tables"
abbrev o0 : Opn := (Str.empty, 0, [])
def plK (xs : List Str) : List (Key × V) := (List.range xs.length).map fun i => (Sum.inr (xs.getD i Str.empty), V.int (i : Int))
def arK (os : List Opn) : List (Key × V) := (List.range os.length).map fun i => (Sum.inr (os.getD i o0).1, V.int ((os.getD i o0).2.1 : Int))
def tbK (os : List Opn) (ls : List Addr) : List (Key × V) := (List.range os.length).map fun i => (Sum.inr (os.getD i o0).1, V.ref (ls.getD i 0))
def flds (t n p r b : Addr) : List (Str × V) := [("signature", .ref t), ("_names", .ref n), ("_places", .ref p), ("_arities", .ref r), ("_tables", .ref b)]
/-- the algebra of xs and os stands at x -/
def AlgAt (C x : Addr) (xs : List Str) (os : List Opn) (H : Hp) : Prop := ∃ (dx t n p r b : Addr) (ss ls : List Addr), H x = some (.ins C dx (flds t n p r b)) ∧ H t = some (.tup (ss.map V.ref)) ∧ ss.length = os.length ∧
  (∀ (j : Nat) s, ss[j]? = some s → H s = some (.tup [.str (os.getD j o0).1, .int ((os.getD j o0).2.1 : Int)])) ∧ H n = some (.lst (xs.map V.str)) ∧ H p = some (.dK (plK xs)) ∧ H r = some (.dK (arK os)) ∧ H b = some (.dK (tbK os ls)) ∧
  ls.length = os.length ∧ ∀ (j : Nat) l, ls[j]? = some l → H l = some (.lst ((os.getD j o0).2.2.map V.str))
theorem AlgAt.same {C x : Addr} {xs : List Str} {os : List Opn} {H H' : Hp} (h : AlgAt C x xs os H) (e : Same H H') : AlgAt C x xs os H' := by
  obtain ⟨dx, t, n, p, r, b, ss, ls, h1, h2, h3, h4, h5, h6, h7, h8, h9, h10⟩ := h
  exact ⟨dx, t, n, p, r, b, ss, ls, e _ _ h1, e _ _ h2, h3, fun j s q => e _ _ (h4 j s q), e _ _ h5, e _ _ h6, e _ _ h7, e _ _ h8, h9, fun j l q => e _ _ (h10 j l q)⟩
/-- .. with nothing of it at X -/
def AlgX (X : Addr → Prop) (C x : Addr) (xs : List Str) (os : List Opn) (H : Hp) : Prop := ∃ (dx t n p r b : Addr) (ss ls : List Addr), (H x = some (.ins C dx (flds t n p r b)) ∧ H t = some (.tup (ss.map V.ref)) ∧ ss.length = os.length ∧
  (∀ (j : Nat) s, ss[j]? = some s → H s = some (.tup [.str (os.getD j o0).1, .int ((os.getD j o0).2.1 : Int)])) ∧ H n = some (.lst (xs.map V.str)) ∧ H p = some (.dK (plK xs)) ∧ H r = some (.dK (arK os)) ∧ H b = some (.dK (tbK os ls)) ∧
  ls.length = os.length ∧ ∀ (j : Nat) l, ls[j]? = some l → H l = some (.lst ((os.getD j o0).2.2.map V.str))) ∧ ¬ X x ∧ ¬ X t ∧ ¬ X n ∧ ¬ X p ∧ ¬ X r ∧ ¬ X b ∧ (∀ s ∈ ss, ¬ X s) ∧ ∀ l ∈ ls, ¬ X l
theorem AlgX.at {X : Addr → Prop} {C x : Addr} {xs : List Str} {os : List Opn} {H : Hp} (h : AlgX X C x xs os H) : AlgAt C x xs os H := by
  obtain ⟨dx, t, n, p, r, b, ss, ls, h, _⟩ := h
  exact ⟨dx, t, n, p, r, b, ss, ls, h⟩
theorem AlgX.kp {X : Addr → Prop} {C x : Addr} {xs : List Str} {os : List Opn} {H H' : Hp} (h : AlgX X C x xs os H) (k : Dl.Kp X H H') : AlgX X C x xs os H' := by
  obtain ⟨dx, t, n, p, r, b, ss, ls, ⟨h1, h2, h3, h4, h5, h6, h7, h8, h9, h10⟩, g1, g2, g3, g4, g5, g6, g7, g8⟩ := h
  exact ⟨dx, t, n, p, r, b, ss, ls, ⟨k.a _ _ h1 g1, k.a _ _ h2 g2, h3, fun j s q => k.a _ _ (h4 j s q) (g7 s (List.mem_of_getElem? q)), k.a _ _ h5 g3, k.a _ _ h6 g4, k.a _ _ h7 g5, k.a _ _ h8 g6, h9, fun j l q => k.a _ _ (h10 j l q) (g8 l (List.mem_of_getElem? q))⟩, g1, g2, g3, g4, g5, g6, g7, g8⟩
section
variable {K : PySem.W.Frag} {H : Hp} {x C dx a b : Addr} {fs : List (Str × V)} {ys : List V} {u : HO}
theorem sql_off (hx : H x = some (.ins C dx fs)) (h : SqL K H a ys) : SqL K (upd H x u) a ys := by
  rcases h with (h | ⟨o, h⟩) | h
  · exact .inl (.inl (by rw [upd_ne (ne_of h hx (fun z => nomatch z))]; exact h))
  · exact .inl (.inr ⟨o, by rw [upd_ne (ne_of h hx (fun z => nomatch z))]; exact h⟩)
  · exact .inr h
theorem sqt_off (hx : H x = some (.ins C dx fs)) (h : SqT K H a ys) : SqT K (upd H x u) a ys := by
  rcases h with (h | ⟨o, h⟩) | h
  · exact .inl (.inl (by rw [upd_ne (ne_of h hx (fun z => nomatch z))]; exact h))
  · exact .inl (.inr ⟨o, by rw [upd_ne (ne_of h hx (fun z => nomatch z))]; exact h⟩)
  · exact .inr h
theorem ops_off {os : List Opn} (hx : H x = some (.ins C dx fs)) (h : OpsAt K H b os) : OpsAt K (upd H x u) b os := h.imp fun _ z => ⟨sql_off hx z.1, Paired.mapP z.2 fun _ _ q => q.imp fun _ r => ⟨sqt_off hx r.1, sql_off hx r.2⟩⟩
theorem tup_off {xs : List V} (hx : H x = some (.ins C dx fs)) (h : H a = some (.tup xs)) : (upd H x u) a = some (.tup xs) := by rw [upd_ne (ne_of h hx (fun z => nomatch z))]; exact h
theorem lst_off {xs : List V} (hx : H x = some (.ins C dx fs)) (h : H a = some (.lst xs)) : (upd H x u) a = some (.lst xs) := by rw [upd_ne (ne_of h hx (fun z => nomatch z))]; exact h
theorem dK_off {xs : List (Key × V)} (hx : H x = some (.ins C dx fs)) (h : H a = some (.dK xs)) : (upd H x u) a = some (.dK xs) := by rw [upd_ne (ne_of h hx (fun z => nomatch z))]; exact h
theorem pf2 {t n : V} : putF "_names" n [(("signature" : Str), t)] = [(("signature" : Str), t), ("_names", n)] := by simp [putF, show ("signature" : Str) ≠ "_names" from by decide +kernel]
theorem pf3 {t n p : V} : putF "_places" p [(("signature" : Str), t), ("_names", n)] = [(("signature" : Str), t), ("_names", n), ("_places", p)] := by simp [putF, show ("signature" : Str) ≠ "_places" from by decide +kernel, show ("_names" : Str) ≠ "_places" from by decide +kernel]
theorem pf4 {t n p r : V} : putF "_arities" r [(("signature" : Str), t), ("_names", n), ("_places", p)] = [(("signature" : Str), t), ("_names", n), ("_places", p), ("_arities", r)] := by
  simp [putF, show ("signature" : Str) ≠ "_arities" from by decide +kernel, show ("_names" : Str) ≠ "_arities" from by decide +kernel, show ("_places" : Str) ≠ "_arities" from by decide +kernel]
theorem pf5 {t n p r b : V} : putF "_tables" b [(("signature" : Str), t), ("_names", n), ("_places", p), ("_arities", r)] = [(("signature" : Str), t), ("_names", n), ("_places", p), ("_arities", r), ("_tables", b)] := by
  simp [putF, show ("signature" : Str) ≠ "_tables" from by decide +kernel, show ("_names" : Str) ≠ "_tables" from by decide +kernel, show ("_places" : Str) ≠ "_tables" from by decide +kernel, show ("_arities" : Str) ≠ "_tables" from by decide +kernel]
theorem gT3_mono {i j l : Nat} {y : V} {σ : L2.St} {H2 : Hp} {N M : L2.St → Hp → Prop} (h : ∀ σ2 H3, N σ2 H3 → M σ2 H3) (z : gTup K 3 (gCons (gName i) (gCons (gName j) (gCons (gName l) gNil))) y σ H2 N) : gTup K 3 (gCons (gName i) (gCons (gName j) (gCons (gName l) gNil))) y σ H2 M := by
  obtain ⟨a, xs, e1, s, e2, v, r, e3, v2, r2, e4, v3, r3, e5, e6, q⟩ := z
  exact ⟨a, xs, e1, s, e2, v, r, e3, v2, r2, e4, v3, r3, e5, e6, h _ _ q⟩
theorem gT2_mono {i j : Nat} {y : V} {σ : L2.St} {H2 : Hp} {N M : L2.St → Hp → Prop} (h : ∀ σ2 H3, N σ2 H3 → M σ2 H3) (z : gTup K 2 (gCons (gName i) (gCons (gName j) gNil)) y σ H2 N) : gTup K 2 (gCons (gName i) (gCons (gName j) gNil)) y σ H2 M := by
  obtain ⟨a, xs, e1, s, e2, v, r, e3, v2, r2, e4, e6, q⟩ := z
  exact ⟨a, xs, e1, s, e2, v, r, e3, v2, r2, e4, e6, h _ _ q⟩
/-- a turn over the operations -/
theorem op_turn {os : List Opn} {ts : List Addr} {i : Nat} {y : V} {H' H2 : Hp} (pr : Paired (OpAt K H) ts os) (e : Same H H') (z : YAt (ts.map V.ref) i H' y H2) :
    ∃ t va, y = .ref t ∧ H2 = H' ∧ SqT K H' t [.str (os.getD i o0).1, .int ((os.getD i o0).2.1 : Int), .ref va] ∧ SqL K H' va ((os.getD i o0).2.2.map V.str) := by
  obtain ⟨eH, hy⟩ := z
  rw [List.getElem?_map] at hy
  cases c : ts[i]? with
  | none => rw [c] at hy; cases hy
  | some t =>
    rw [c] at hy
    obtain ⟨o, ho, va, hT, hV⟩ := paired_get pr c
    have eo : os.getD i o0 = o := by rw [List.getD_eq_getElem?_getD, ho]; rfl
    rw [eo]
    exact ⟨t, va, (Option.some.inj hy).symm, eH, ex_t e hT, e.seq hV⟩
theorem keys_ne {xs : List Str} (nd : xs.Nodup) {i j : Nat} (hi : i < xs.length) (hj : j < xs.length) (e : (Sum.inr (xs.getD i Str.empty) : Key) = Sum.inr (xs.getD j Str.empty)) : i = j := by
  have e := Sum.inr.inj e
  rw [List.getD_eq_getElem?_getD, List.getD_eq_getElem?_getD, List.getElem?_eq_getElem hi, List.getElem?_eq_getElem hj] at e
  have e : xs[i] = xs[j] := e
  have p := List.pairwise_iff_getElem.mp nd
  by_cases c : i < j
  · exact absurd e (p i j hi hj c)
  · by_cases c2 : j < i
    · exact absurd e.symm (p j i hj hi c2)
    · omega
theorem sign_ne {os : List Opn} (nd : (os.map (·.1)).Nodup) {i j : Nat} (hi : i < os.length) (hj : j < os.length) (e : (Sum.inr (os.getD i o0).1 : Key) = Sum.inr (os.getD j o0).1) : i = j := by
  refine keys_ne nd (by rw [List.length_map]; exact hi) (by rw [List.length_map]; exact hj) ?_
  rw [List.getD_eq_getElem?_getD, List.getD_eq_getElem?_getD, List.getElem?_map, List.getElem?_map, List.getElem?_eq_getElem hi, List.getElem?_eq_getElem hj]
  rw [List.getD_eq_getElem?_getD, List.getD_eq_getElem?_getD, List.getElem?_eq_getElem hi, List.getElem?_eq_getElem hj] at e
  exact e
/-- what stands but for x -/
def Off (x : Addr) (H H' : Hp) : Prop := ∀ y o, H y = some o → y ≠ x → H' y = some o
theorem off_no {X : Addr → Prop} {H H1 : Hp} {x a : Addr} (al : ∀ a, X a → H a ≠ none) (nx : ¬ X x) (f : Off x H H1) (h : H1 a = none) : ¬ X a := fun z => by
  cases c : H a with
  | none => exact al a z c
  | some o => rw [f a o c fun e => nx (e ▸ z)] at h; cases h
theorem Off.step {H1 H2 : Hp} (h : Off x H H1) (e : Same H1 H2) : Off x H (upd H2 x u) := fun y o q n => by rw [upd_ne n]; exact e _ _ (h y o q n)
end
/-- no fields, or all five -/
def FoF (fs : List (Str × V)) : Prop := fs = [] ∨ ∃ t n p r b : Addr, fs = flds t n p r b
theorem FoF.len {fs : List (Str × V)} (h : FoF fs) : fs.length ≤ 5 := by
  rcases h with rfl | ⟨t, n, p, r, b, rfl⟩
  · exact Nat.zero_le _
  · exact Nat.le_refl _
theorem putF_len (f : Str) (v : V) : ∀ fs : List (Str × V), (putF f v fs).length ≤ fs.length + 1
  | [] => Nat.le_refl _
  | (g, x) :: r => by
    unfold putF
    split
    · exact Nat.le_succ _
    · exact Nat.succ_le_succ (putF_len f v r)
theorem flds_put {fs : List (Str × V)} {t n p r b : Addr} (h : FoF fs) : putF "_tables" (.ref b) (putF "_arities" (.ref r) (putF "_places" (.ref p) (putF "_names" (.ref n) (putF "signature" (.ref t) fs)))) = flds t n p r b := by
  have e1 : ("signature" : Str) ≠ "_names" := by decide +kernel
  have e2 : ("signature" : Str) ≠ "_places" := by decide +kernel
  have e3 : ("signature" : Str) ≠ "_arities" := by decide +kernel
  have e4 : ("signature" : Str) ≠ "_tables" := by decide +kernel
  have e5 : ("_names" : Str) ≠ "_places" := by decide +kernel
  have e6 : ("_names" : Str) ≠ "_arities" := by decide +kernel
  have e7 : ("_names" : Str) ≠ "_tables" := by decide +kernel
  have e8 : ("_places" : Str) ≠ "_arities" := by decide +kernel
  have e9 : ("_places" : Str) ≠ "_tables" := by decide +kernel
  have e10 : ("_arities" : Str) ≠ "_tables" := by decide +kernel
  rcases h with rfl | ⟨t', n', p', r', b', rfl⟩
  · simp [putF, flds, e1, e2, e3, e4, e5, e6, e7, e8, e9, e10]
  · simp [putF, flds, e1, e2, e3, e4, e5, e6, e7, e8, e9, e10]
section
variable {P : Program} {w : World} {K : PySem.W.Frag} {mg : Str → Option Value} {base : Heap}
def spFill (K : PySem.W.Frag) (C : Addr) : Sp := fun vs H Q _ => ∃ (x a b dx : Addr) (xs : List Str) (os : List Opn) (X : Addr → Prop) (fs0 : List (Str × V)), vs = [.ref x, .ref a, .ref b] ∧ FoF fs0 ∧ H x = some (.ins C dx fs0) ∧ SqL K H a (xs.map V.str) ∧ OpsAt K H b os ∧ xs.Nodup ∧ xs.length ≤ 1000 ∧ (os.map (·.1)).Nodup ∧ os.length ≤ 1000 ∧ (∀ a, X a → H a ≠ none) ∧ ¬ X x ∧
  ∀ H', Off x H H' → AlgX X C x xs os H' → Q .non H'
theorem ok_fill {C f : Addr} {fd : FuncData} (F : Fun K "_fill" "Algebra._fill" s_Algebra__fill f fd) (T : Blt mg) (c : AlgC K C) : FnOk P w K mg base CX0 1 f fd ["self", "members", "operations"] (spFill K C) := by
  refine F.ok sc_Algebra__fill (fun vs H Q E h => ?_) (fun cdv A outer s H vs Q E hr h => ?_)
  · obtain ⟨x, a, b, dx, xs, os, X, fs0, rfl, _⟩ := h
    rfl
  · obtain ⟨x, a, b, dx, xs, os, X, fs0, rfl, hF, hx, hA, hB, nx, lx, no, lo, al, nxx, k⟩ := h
    refine ⟨_, (pss_cons (ps_fld (pv 0) (pe_callTy (call_tupK K) (by rfl) T.tuple (by decide +kernel) (pa_cons (pe_lc (own := [("sign", 3), ("arity", 4), ("_", 5)]) (g := gTup K 3 (gCons (gName 3) (gCons (gName 4) (gCons (gName 5) gNil)))) (by rfl) sc_Algebra__fill.nd (pi_list (pv 2)) (blkOk_by (own := [("sign", 3), ("arity", 4), ("_", 5)]) (N := N_Algebra__fill) (sc := defScope s_Algebra__fill) (by decide +kernel)) (fun _ _ _ _ _ => by exact pg_tup rfl (pgs_cons (pg_name (i := 3) sc_Algebra__fill.nd rfl (Or.inl rfl)) (pgs_cons (pg_name (i := 4) sc_Algebra__fill.nd rfl (Or.inl rfl)) (pgs_cons (pg_name (i := 5) sc_Algebra__fill.nd rfl (Or.inl rfl)) pgs_nil)))) (fun _ _ _ _ _ => pts_nil) (fun _ _ _ _ _ => pe_tup (pa_cons (pv 3) (pa_cons (pv 4) pa_nil)))) pa_nil)) rfl)
      (pss_cons (ps_fld (pv 0) (pe_callTy (call_listK K) (by rfl) T.list (by decide +kernel) (pa_cons (pv 1) pa_nil)) rfl)
      (pss_cons (ps_fld (pv 0) (pe_dc (own := [("place", 6), ("name", 7)]) (g := gTup K 2 (gCons (gName 6) (gCons (gName 7) gNil))) (by rfl) sc_Algebra__fill.nd (pi_enum (by rfl) T.enumerate (pa_cons (pe_fld (pv 0) rfl) pa_nil)) (blkOk_by (own := [("place", 6), ("name", 7)]) (N := N_Algebra__fill) (sc := defScope s_Algebra__fill) (by decide +kernel)) (fun _ _ _ _ _ => by exact pg_tup rfl (pgs_cons (pg_name (i := 6) sc_Algebra__fill.nd rfl (Or.inl rfl)) (pgs_cons (pg_name (i := 7) sc_Algebra__fill.nd rfl (Or.inl rfl)) pgs_nil))) (fun _ _ _ _ _ => pts_nil) (fun _ _ _ _ _ => pv 7) (fun _ _ _ _ _ => pv 6)) rfl)
      (pss_cons (ps_fld (pv 0) (pe_dc (own := [("sign", 3), ("arity", 4), ("_", 5)]) (g := gTup K 3 (gCons (gName 3) (gCons (gName 4) (gCons (gName 5) gNil)))) (by rfl) sc_Algebra__fill.nd (pi_list (pv 2)) (blkOk_by (own := [("sign", 3), ("arity", 4), ("_", 5)]) (N := N_Algebra__fill) (sc := defScope s_Algebra__fill) (by decide +kernel)) (fun _ _ _ _ _ => by exact pg_tup rfl (pgs_cons (pg_name (i := 3) sc_Algebra__fill.nd rfl (Or.inl rfl)) (pgs_cons (pg_name (i := 4) sc_Algebra__fill.nd rfl (Or.inl rfl)) (pgs_cons (pg_name (i := 5) sc_Algebra__fill.nd rfl (Or.inl rfl)) pgs_nil)))) (fun _ _ _ _ _ => pts_nil) (fun _ _ _ _ _ => pv 3) (fun _ _ _ _ _ => pv 4)) rfl)
      (pss_one (ps_fld (pv 0) (pe_dc (own := [("sign", 3), ("_", 5), ("values", 8)]) (g := gTup K 3 (gCons (gName 3) (gCons (gName 5) (gCons (gName 8) gNil)))) (by rfl) sc_Algebra__fill.nd (pi_list (pv 2)) (blkOk_by (own := [("sign", 3), ("_", 5), ("values", 8)]) (N := N_Algebra__fill) (sc := defScope s_Algebra__fill) (by decide +kernel)) (fun _ _ _ _ _ => by exact pg_tup rfl (pgs_cons (pg_name (i := 3) sc_Algebra__fill.nd rfl (Or.inl rfl)) (pgs_cons (pg_name (i := 5) sc_Algebra__fill.nd rfl (Or.inl rfl)) (pgs_cons (pg_name (i := 8) sc_Algebra__fill.nd rfl (Or.inl rfl)) pgs_nil)))) (fun _ _ _ _ _ => pts_nil) (fun _ _ _ _ _ => pv 3) (fun _ _ _ _ _ => pe_callTy (call_listK K) (by rfl) T.list (by decide +kernel) (pa_cons (pv 8) pa_nil))) rfl)))))), ?_⟩
    have l0 := hF.len
    have l1 : ∀ t : V, (putF "signature" t fs0).length ≤ 6 := fun t => Nat.le_trans (putF_len _ _ _) (by omega)
    have l2 : ∀ t n : V, (putF "_names" n (putF "signature" t fs0)).length ≤ 7 := fun t n => Nat.le_trans (putF_len _ _ _) (by have := l1 t; omega)
    have l3 : ∀ t n p : V, (putF "_places" p (putF "_names" n (putF "signature" t fs0))).length ≤ 8 := fun t n p => Nat.le_trans (putF_len _ _ _) (by have := l2 t n; omega)
    have l4 : ∀ t n p r : V, (putF "_arities" r (putF "_places" p (putF "_names" n (putF "signature" t fs0)))).length ≤ 9 := fun t n p r => Nat.le_trans (putF_len _ _ _) (by have := l3 t n p; omega)
    obtain ⟨ts, hL, pr⟩ := id hB
    have hlt : (ts.map V.ref).length = os.length := by rw [List.length_map]; exact Paired.length pr
    unfold tSeq sFld tCB tCons
    dsimp only
    -- the signature
    refine lc_new (J := Itl K b) (H1 := H) (g := gTup K 3 (gCons (gName 3) (gCons (gName 4) (gCons (gName 5) gNil)))) (fun i => .tup [.str (os.getD i o0).1, .int ((os.getD i o0).2.1 : Int)]) (fun R r => ⟨_, rfl, b, rfl, ⟨_, hL⟩, r⟩) (walk_list (xs := ts.map V.ref)) (by rw [hlt]; omega) (fun H' e => e.seq hL) (fun i H' y H2 _ z => z.1 ▸ Same.refl _) (fun i y H' H2 hi e z R q => ?_) (fun y H2 N M h z => gT3_mono h z) (fun D H1 ps hD e1 hps hd hp => ?_)
    · obtain ⟨t, va, rfl, rfl, hT, hV⟩ := op_turn pr e z
      exact ⟨t, _, rfl, hT, rfl, _, _, rfl, _, _, rfl, _, _, rfl, rfl, rfl, _, rfl, _, rfl, by show 2 ≤ sizeLine; decide, fun p np => q p _ np (same_upd np) upd_same⟩
    refine ⟨D, ps.map V.ref, rfl, .inl ⟨SqL.of hd, fun t nt => ?_⟩⟩
    obtain ⟨H2, eG, e2, ht⟩ := put_new (o := .tup (ps.map V.ref)) nt
    rw [eG]
    clear eG
    have hx2 := e2 _ _ (e1 _ _ hx)
    refine ⟨_, rfl, x, C, dx, fs0, rfl, hx2, c.cl, c.n1, by omega, ?_⟩
    have f2 : Off x H (upd H2 x (.ins C dx (putF "signature" (.ref t) fs0))) := Off.step (fun y o q _ => e1 _ _ q) e2
    have hA3 : SqL K (upd H2 x (.ins C dx (putF "signature" (.ref t) fs0))) a _ := sql_off hx2 (e2.seq (e1.seq hA))
    have hB3 : OpsAt K (upd H2 x (.ins C dx (putF "signature" (.ref t) fs0))) b os := ops_off hx2 ((hB.same e1).same e2)
    have ht3 : (upd H2 x (.ins C dx (putF "signature" (.ref t) fs0))) t = _ := tup_off hx2 ht
    have hp3 : ∀ (j : Nat) p, ps[j]? = some p → (upd H2 x (.ins C dx (putF "signature" (.ref t) fs0))) p = some (.tup [.str (os.getD j o0).1, .int ((os.getD j o0).2.1 : Int)]) := fun j p h => tup_off hx2 (e2 _ _ (hp j p h).2)
    obtain ⟨G1, eG1, hxG⟩ : ∃ G1, upd H2 x (.ins C dx (putF "signature" (.ref t) fs0)) = G1 ∧ G1 x = some (.ins C dx (putF "signature" (.ref t) fs0)) := ⟨_, rfl, upd_same⟩
    rw [eG1] at f2 hA3 hB3 ht3 hp3 ⊢
    clear eG1
    -- the names
    refine ⟨_, rfl, a, _, rfl, .inl hA3, fun n nn => ?_⟩
    obtain ⟨H3, eG, e3, hn⟩ := put_new (o := .lst (xs.map V.str)) nn
    rw [eG]
    clear eG
    have hx3 := e3 _ _ hxG
    refine ⟨_, rfl, x, C, dx, _, rfl, hx3, c.cl, c.n2, Nat.lt_of_le_of_lt (l1 _) (by decide), ?_⟩
    have f4 : Off x H (upd H3 x (.ins C dx (putF "_names" (.ref n) (putF "signature" (.ref t) fs0)))) := fun y o q ne => by rw [upd_ne ne]; exact e3 _ _ (f2 y o q ne)
    have hB4 := ops_off (u := .ins C dx (putF "_names" (.ref n) (putF "signature" (.ref t) fs0))) hx3 (hB3.same e3)
    have ht4 := tup_off (u := .ins C dx (putF "_names" (.ref n) (putF "signature" (.ref t) fs0))) hx3 (e3 _ _ ht3)
    have hp4 := fun (j : Nat) p h => tup_off (u := .ins C dx (putF "_names" (.ref n) (putF "signature" (.ref t) fs0))) hx3 (e3 _ _ (hp3 j p h))
    have hn4 := lst_off (u := .ins C dx (putF "_names" (.ref n) (putF "signature" (.ref t) fs0))) hx3 hn
    obtain ⟨G2, eG, hxG2⟩ : ∃ G, upd H3 x (.ins C dx (putF "_names" (.ref n) (putF "signature" (.ref t) fs0))) = G ∧ G x = some (.ins C dx (putF "_names" (.ref n) (putF "signature" (.ref t) fs0))) := ⟨_, rfl, upd_same⟩
    rw [eG] at f4 hB4 ht4 hp4 hn4 ⊢
    clear eG
    -- the places
    refine dc_use (J := Ite K n) (H1 := G2) (g := gTup K 2 (gCons (gName 6) (gCons (gName 7) gNil))) (fun i => Sum.inr (xs.getD i Str.empty)) (fun i => .int (i : Int)) (fun R r => ⟨_, rfl, x, C, dx, _, .ref n, rfl, hxG2, c.cl, c.n2, by rw [lookup_putF, if_pos rfl], n, _, rfl, SqL.of hn4, r⟩) (walk_enum (xs := xs.map V.str)) (by rw [List.length_map]; omega) (fun i j hi hj e => keys_ne nx (by rw [List.length_map] at hi; exact hi) (by rw [List.length_map] at hj; exact hj) e) (fun H' e => e.seq (SqL.of hn4)) (fun i H' y H2 _ z => ?_) (fun i y H' H2 hi e z R q => ?_) (fun y H2 N M h z => gT2_mono h z) (fun D2 H5 hD2 e5 hd2 => ?_)
    · obtain ⟨T1, _, _, _, nT, rfl, _, _⟩ := z
      exact same_upd nT
    · obtain ⟨T1, u1, u2, rfl, nT, rfl, h1, h2⟩ := z
      obtain rfl : V.int (i : Nat) = u1 := Option.some.inj h1
      rw [List.length_map] at hi
      have h2 : (xs.map V.str)[i]? = some u2 := h2
      rw [List.getElem?_map, List.getElem?_eq_getElem hi] at h2
      obtain rfl : V.str xs[i] = u2 := Option.some.inj h2
      have eg : xs.getD i Str.empty = xs[i] := by rw [List.getD_eq_getElem?_getD, List.getElem?_eq_getElem hi]; rfl
      rw [eg] at q
      exact ⟨T1, _, rfl, SqT.of upd_same, rfl, _, _, rfl, _, _, rfl, rfl, rfl, _, rfl, _, rfl, q _ (Same.refl _)⟩
    have hx5 := e5 _ _ hxG2
    refine ⟨_, rfl, x, C, dx, _, rfl, hx5, c.cl, c.n3, Nat.lt_of_le_of_lt (l2 _ _) (by decide), ?_⟩
    have hd2 : H5 D2 = some (.dK (plK xs)) := by rw [List.length_map] at hd2; exact hd2
    have f6 : Off x H (upd H5 x (.ins C dx (putF "_places" (.ref D2) (putF "_names" (.ref n) (putF "signature" (.ref t) fs0))))) := fun y o q ne => by rw [upd_ne ne]; exact e5 _ _ (f4 y o q ne)
    have hB6 := ops_off (u := .ins C dx (putF "_places" (.ref D2) (putF "_names" (.ref n) (putF "signature" (.ref t) fs0)))) hx5 (hB4.same e5)
    have ht6 := tup_off (u := .ins C dx (putF "_places" (.ref D2) (putF "_names" (.ref n) (putF "signature" (.ref t) fs0)))) hx5 (e5 _ _ ht4)
    have hp6 := fun (j : Nat) p h => tup_off (u := .ins C dx (putF "_places" (.ref D2) (putF "_names" (.ref n) (putF "signature" (.ref t) fs0)))) hx5 (e5 _ _ (hp4 j p h))
    have hn6 := lst_off (u := .ins C dx (putF "_places" (.ref D2) (putF "_names" (.ref n) (putF "signature" (.ref t) fs0)))) hx5 (e5 _ _ hn4)
    have hd6 := dK_off (u := .ins C dx (putF "_places" (.ref D2) (putF "_names" (.ref n) (putF "signature" (.ref t) fs0)))) hx5 hd2
    obtain ⟨G3, eG, hxG3⟩ : ∃ G, upd H5 x (.ins C dx (putF "_places" (.ref D2) (putF "_names" (.ref n) (putF "signature" (.ref t) fs0)))) = G ∧ G x = some (.ins C dx (putF "_places" (.ref D2) (putF "_names" (.ref n) (putF "signature" (.ref t) fs0)))) := ⟨_, rfl, upd_same⟩
    rw [eG] at f6 hB6 ht6 hp6 hn6 hd6 ⊢
    clear eG
    -- the arities
    obtain ⟨ts2, hL2, pr2⟩ := id hB6
    have hlt2 : (ts2.map V.ref).length = os.length := by rw [List.length_map]; exact Paired.length pr2
    refine dc_use (J := Itl K b) (H1 := G3) (g := gTup K 3 (gCons (gName 3) (gCons (gName 4) (gCons (gName 5) gNil)))) (fun i => Sum.inr (os.getD i o0).1) (fun i => .int ((os.getD i o0).2.1 : Int)) (fun R r => ⟨_, rfl, b, rfl, ⟨_, hL2⟩, r⟩) (walk_list (xs := ts2.map V.ref)) (by rw [hlt2]; omega) (fun i j hi hj e => sign_ne no (by rw [hlt2] at hi; exact hi) (by rw [hlt2] at hj; exact hj) e) (fun H' e => e.seq hL2) (fun i H' y H2 _ z => z.1 ▸ Same.refl _) (fun i y H' H2 hi e z R q => ?_) (fun y H2 N M h z => gT3_mono h z) (fun D3 H7 hD3 e7 hd3 => ?_)
    · obtain ⟨t, va, rfl, rfl, hT, hV⟩ := op_turn pr2 e z
      exact ⟨t, _, rfl, hT, rfl, _, _, rfl, _, _, rfl, _, _, rfl, rfl, rfl, _, rfl, _, rfl, q _ (Same.refl _)⟩
    have hx7 := e7 _ _ hxG3
    refine ⟨_, rfl, x, C, dx, _, rfl, hx7, c.cl, c.n4, Nat.lt_of_le_of_lt (l3 _ _ _) (by decide), ?_⟩
    have hd3 : H7 D3 = some (.dK (arK os)) := by rw [hlt2] at hd3; exact hd3
    have f8 : Off x H (upd H7 x (.ins C dx (putF "_arities" (.ref D3) (putF "_places" (.ref D2) (putF "_names" (.ref n) (putF "signature" (.ref t) fs0)))))) := fun y o q ne => by rw [upd_ne ne]; exact e7 _ _ (f6 y o q ne)
    have hB8 := ops_off (u := .ins C dx (putF "_arities" (.ref D3) (putF "_places" (.ref D2) (putF "_names" (.ref n) (putF "signature" (.ref t) fs0))))) hx7 (hB6.same e7)
    have ht8 := tup_off (u := .ins C dx (putF "_arities" (.ref D3) (putF "_places" (.ref D2) (putF "_names" (.ref n) (putF "signature" (.ref t) fs0))))) hx7 (e7 _ _ ht6)
    have hp8 := fun (j : Nat) p h => tup_off (u := .ins C dx (putF "_arities" (.ref D3) (putF "_places" (.ref D2) (putF "_names" (.ref n) (putF "signature" (.ref t) fs0))))) hx7 (e7 _ _ (hp6 j p h))
    have hn8 := lst_off (u := .ins C dx (putF "_arities" (.ref D3) (putF "_places" (.ref D2) (putF "_names" (.ref n) (putF "signature" (.ref t) fs0))))) hx7 (e7 _ _ hn6)
    have hd8 := dK_off (u := .ins C dx (putF "_arities" (.ref D3) (putF "_places" (.ref D2) (putF "_names" (.ref n) (putF "signature" (.ref t) fs0))))) hx7 (e7 _ _ hd6)
    have ha8 := dK_off (u := .ins C dx (putF "_arities" (.ref D3) (putF "_places" (.ref D2) (putF "_names" (.ref n) (putF "signature" (.ref t) fs0))))) hx7 hd3
    obtain ⟨G4, eG, hxG4⟩ : ∃ G, upd H7 x (.ins C dx (putF "_arities" (.ref D3) (putF "_places" (.ref D2) (putF "_names" (.ref n) (putF "signature" (.ref t) fs0))))) = G ∧ G x = some (.ins C dx (putF "_arities" (.ref D3) (putF "_places" (.ref D2) (putF "_names" (.ref n) (putF "signature" (.ref t) fs0))))) := ⟨_, rfl, upd_same⟩
    rw [eG] at f8 hB8 ht8 hp8 hn8 hd8 ha8 ⊢
    clear eG
    -- the tables
    obtain ⟨ts3, hL3, pr3⟩ := id hB8
    have hlt3 : (ts3.map V.ref).length = os.length := by rw [List.length_map]; exact Paired.length pr3
    refine dc_new (J := Itl K b) (H1 := G4) (g := gTup K 3 (gCons (gName 3) (gCons (gName 5) (gCons (gName 8) gNil)))) (fun i => Sum.inr (os.getD i o0).1) (fun i => .lst ((os.getD i o0).2.2.map V.str)) (fun R r => ⟨_, rfl, b, rfl, ⟨_, hL3⟩, r⟩) (walk_list (xs := ts3.map V.ref)) (by rw [hlt3]; omega) (fun i j hi hj e => sign_ne no (by rw [hlt3] at hi; exact hi) (by rw [hlt3] at hj; exact hj) e) (fun H' e => e.seq hL3) (fun i H' y H2 _ z => z.1 ▸ Same.refl _) (fun i y H' H2 hi e z R q => ?_) (fun y H2 N M h z => gT3_mono h z) (fun D4 H9 qs hD4 e9 hqs hd4 hq => ?_)
    · obtain ⟨t, va, rfl, rfl, hT, hV⟩ := op_turn pr3 e z
      exact ⟨t, _, rfl, hT, rfl, _, _, rfl, _, _, rfl, _, _, rfl, rfl, rfl, _, rfl, _, rfl, va, _, rfl, .inl hV, fun p np => q p _ np (same_upd np) upd_same⟩
    have hx9 := e9 _ _ hxG4
    refine ⟨_, rfl, x, C, dx, _, rfl, hx9, c.cl, c.n5, Nat.lt_of_le_of_lt (l4 _ _ _ _) (by decide), ?_⟩
    rw [flds_put hF]
    have hd4 : H9 D4 = some (.dK (tbK os qs)) := by rw [hlt3] at hd4; exact hd4
    refine k _ (fun y o q ne => by rw [upd_ne ne]; exact e9 _ _ (f8 y o q ne)) ⟨dx, t, n, D2, D3, D4, ps, qs, ⟨upd_same, tup_off hx9 (e9 _ _ ht8), by rw [hps, hlt], fun j s h => tup_off hx9 (e9 _ _ (hp8 j s h)), lst_off hx9 (e9 _ _ hn8), dK_off hx9 (e9 _ _ hd8), dK_off hx9 (e9 _ _ ha8), dK_off hx9 hd4, by rw [hqs, hlt3], fun j l h => lst_off hx9 (hq j l h).2⟩, nxx, fun z => al _ z (e1.free nt), off_no al nxx f2 nn, off_no al nxx f4 hD2, off_no al nxx f6 hD3, off_no al nxx f8 hD4, fun s m => (List.mem_iff_getElem?.mp m).elim fun j q => fun z => al _ z (hp j s q).1, fun l m => (List.mem_iff_getElem?.mp m).elim fun j q => off_no al nxx f8 (hq j l q).1⟩
end
end K43


set_option Elab.async false
set_option linter.all false
set_option maxRecDepth 100000
set_option maxHeartbeats 4000000
namespace K43
open PySem PySem.Spec PyProof.Rows L2 Evl
section
variable {P : Program} {w : World} {K : PySem.W.Frag} {mg : Str → Option Value} {base : Heap}
def spAlg (K : PySem.W.Frag) (C : Addr) : Sp := fun vs H Q _ => ∃ (x a b dx : Addr) (xs : List Str) (os : List Opn) (X : Addr → Prop), vs = [.ref x, .ref a, .ref b] ∧ H x = some (.ins C dx []) ∧ SqL K H a (xs.map V.str) ∧ OpsAt K H b os ∧ GoodM xs ∧ GoodO xs os ∧ (∀ a, X a → H a ≠ none) ∧ ¬ X x ∧
  ∀ H', Off x H H' → AlgX X C x xs os H' → Q .non H'
abbrev s_Algebra___init__ : Stmt := inClass (top 16) 0
abbrev N_Algebra___init__ : List Str := ["self", "members", "operations"]
theorem sc_Algebra___init__ : FnScope N_Algebra___init__ ["self", "members", "operations"] (defScope s_Algebra___init__) := ⟨rfl, rfl, rfl, by decide +kernel, rfl, by decide +kernel, by decide +kernel⟩
theorem ok_alg {C f : Addr} {fd : FuncData} (F : Fun K "__init__" "Algebra.__init__" s_Algebra___init__ f fd) (c__check_members : Cal P w K mg base 2 "_check_members" ["members"] (spChkM K)) (c__check_operations : Cal P w K mg base 3 "_check_operations" ["members", "operations"] (spChkO K))
    (m_fill : Mtd P w K mg base 1 C "_fill" ["self", "members", "operations"] (spFill K C)) : FnOk P w K mg base CX0 4 f fd ["self", "members", "operations"] (spAlg K C) := by
  refine F.ok sc_Algebra___init__ (fun vs H Q E h => ?_) (fun cdv A outer s H vs Q E hr h => ?_)
  · obtain ⟨x, a, b, dx, xs, os, X, rfl, _⟩ := h
    rfl
  · obtain ⟨x, a, b, dx, xs, os, X, rfl, hx, hA, hB, gm, go, al, nxx, k⟩ := h
    refine ⟨_, (pss_cons (ps_expr (pe_cal c__check_members (hr.mono (by decide)) (by rfl) (pa_cons (pv 1) pa_nil)))
      (pss_cons (ps_expr (pe_cal c__check_operations (hr.mono (by decide)) (by rfl) (pa_cons (pv 1) (pa_cons (pv 2) pa_nil))))
      (pss_one (ps_expr (pe_mtd m_fill (hr.mono (by decide)) (pv 0) (pa_cons (pv 1) (pa_cons (pv 2) pa_nil))))))), ?_⟩
    refine ⟨_, rfl, a, xs, rfl, hA, gm, fun H1 e1 => ⟨_, rfl, _, rfl, a, b, xs, os, rfl, e1.seq hA, hB.same e1, gm, go, fun H2 e2 => ?_⟩⟩
    have l1 := gm.hi
    have l2 := go.hi
    refine ⟨_, rfl, x, dx, [], rfl, e2 _ _ (e1 _ _ hx), rfl, _, rfl, _, rfl, x, a, b, dx, xs, os, X, [], rfl, .inl rfl, e2 _ _ (e1 _ _ hx), e2.seq (e1.seq hA), (hB.same e1).same e2, gm.nd, by omega, go.nd, by omega, (fun a z => ((Dl.Kp.same (X := X) e1).trans (.same e2)).b a (al a z)), nxx, fun H3 off ax => ?_⟩
    exact k H3 (fun y o q ne => off y o (e2 _ _ (e1 _ _ q)) ne) ax
/-- members(): a new list -/
def spMem (C : Addr) : Sp := fun vs H Q _ => ∃ (x : Addr) (xs : List Str) (os : List Opn), vs = [.ref x] ∧ AlgAt C x xs os H ∧ RetL (xs.map V.str) H Q
abbrev s_Algebra_members : Stmt := inClass (top 16) 2
abbrev N_Algebra_members : List Str := ["self"]
theorem sc_Algebra_members : FnScope N_Algebra_members ["self"] (defScope s_Algebra_members) := ⟨rfl, rfl, rfl, by decide +kernel, rfl, by decide +kernel, by decide +kernel⟩
theorem ok_members {C f : Addr} {fd : FuncData} (F : Fun K "members" "Algebra.members" s_Algebra_members f fd) (T : Blt mg) (c : AlgC K C) : FnOk P w K mg base CX0 1 f fd ["self"] (spMem C) := by
  refine F.ok sc_Algebra_members (fun vs H Q E h => ?_) (fun cdv A outer s H vs Q E hr h => ?_)
  · obtain ⟨x, xs, os, rfl, _⟩ := h
    rfl
  · obtain ⟨x, xs, os, rfl, al, k⟩ := h
    refine ⟨_, (pss_one (ps_ret (pe_callTy (call_listK K) (by rfl) T.list (by decide +kernel) (pa_cons (pe_fld (pv 0) rfl) pa_nil)))), ?_⟩
    obtain ⟨dx, t, n, p, r, b, ss, ls, h1, h2, h3, h4, h5, _⟩ := al
    exact ⟨_, rfl, x, C, dx, _, _, rfl, h1, c.cl, c.n2, rfl, n, _, rfl, .inl (SqL.of h5), fun l nl => k l _ nl (same_upd nl) upd_same⟩
def spLen (C : Addr) : Sp := fun vs H Q _ => ∃ (x : Addr) (xs : List Str) (os : List Opn), vs = [.ref x] ∧ AlgAt C x xs os H ∧ Q (.int (xs.length : Nat)) H
abbrev s_Algebra___len__ : Stmt := inClass (top 16) 5
abbrev N_Algebra___len__ : List Str := ["self"]
theorem sc_Algebra___len__ : FnScope N_Algebra___len__ ["self"] (defScope s_Algebra___len__) := ⟨rfl, rfl, rfl, by decide +kernel, rfl, by decide +kernel, by decide +kernel⟩
theorem ok_len {C f : Addr} {fd : FuncData} (F : Fun K "__len__" "Algebra.__len__" s_Algebra___len__ f fd) (T : Blt mg) (c : AlgC K C) : FnOk P w K mg base CX0 1 f fd ["self"] (spLen C) := by
  refine F.ok sc_Algebra___len__ (fun vs H Q E h => ?_) (fun cdv A outer s H vs Q E hr h => ?_)
  · obtain ⟨x, xs, os, rfl, _⟩ := h
    rfl
  · obtain ⟨x, xs, os, rfl, al, k⟩ := h
    refine ⟨_, (pss_one (ps_ret (pe_callB (call_lenK K) (by rfl) T.len (by decide +kernel) (pa_cons (pe_fld (pv 0) rfl) pa_nil)))), ?_⟩
    obtain ⟨dx, t, n, p, r, b, ss, ls, h1, h2, h3, h4, h5, _⟩ := al
    rw [← List.length_map (f := V.str)] at k
    exact ⟨_, rfl, x, C, dx, _, _, rfl, h1, c.cl, c.n2, rfl, n, _, rfl, .inl (SqL.of h5), k⟩
end
end K43


set_option Elab.async false
set_option linter.all false
set_option maxRecDepth 100000
set_option maxHeartbeats 4000000
namespace K43
open PySem PySem.Spec PyProof.Rows L2 Evl
/-- a dict of n entries with unlike keys is asked -/
theorem val_at {n : Nat} {k : Nat → Key} {v : Nat → V} (inj : ∀ i j, i < n → j < n → k i = k j → i = j) {i : Nat} (hi : i < n) : valV ((List.range n).map fun i => (k i, v i)) (k i) = some (v i) := by
  unfold valV
  rw [List.find?_map]
  have e : (List.range n).find? ((fun kv : Key × V => decide (kv.1 = k i)) ∘ fun i => (k i, v i)) = some i := by
    rw [List.find?_range_eq_some]
    refine ⟨by simp, List.mem_range.mpr hi, fun j hj => ?_⟩
    have : k j ≠ k i := fun z => by
      have := inj j i (by omega) hi z
      omega
    simp [this]
  rw [e]
  rfl
theorem val_no {n : Nat} {k : Nat → Key} {v : Nat → V} {y : Key} (h : ∀ i, i < n → k i ≠ y) : valV ((List.range n).map fun i => (k i, v i)) y = none := by
  unfold valV
  rw [List.find?_eq_none.mpr]
  · rfl
  · intro p hp
    obtain ⟨i, hi, rfl⟩ := List.mem_map.mp hp
    rw [List.mem_range] at hi
    simp [h i hi]
theorem getD_at {xs : List Str} {i : Nat} (hi : i < xs.length) : xs.getD i Str.empty = xs[i] := by rw [List.getD_eq_getElem?_getD, List.getElem?_eq_getElem hi]; rfl
/-- the places of names -/
theorem pl_in {xs : List Str} (nd : xs.Nodup) {i : Nat} (hi : i < xs.length) : valV (plK xs) (Sum.inr xs[i]) = some (.int (i : Int)) := by
  have z := val_at (n := xs.length) (k := fun i => Sum.inr (xs.getD i Str.empty)) (v := fun i => V.int (i : Int)) (fun i j hi hj e => keys_ne nd hi hj e) hi
  rw [getD_at hi] at z
  exact z
theorem pl_no {xs : List Str} {y : Str} (h : y ∉ xs) : valV (plK xs) (Sum.inr y) = none := by
  refine val_no fun i hi e => h ?_
  have e := Sum.inr.inj e
  rw [getD_at hi] at e
  exact e ▸ List.getElem_mem hi
section
variable {P : Program} {w : World} {K : PySem.W.Frag} {mg : Str → Option Value} {base : Heap}
def spHasM (C : Addr) : Sp := fun vs H Q _ => ∃ (x : Addr) (nm : Str) (xs : List Str) (os : List Opn), vs = [.ref x, .str nm] ∧ AlgAt C x xs os H ∧ xs.Nodup ∧ Q (.bl (decide (nm ∈ xs))) H
abbrev s_Algebra___contains__ : Stmt := inClass (top 16) 4
abbrev N_Algebra___contains__ : List Str := ["self", "name"]
theorem sc_Algebra___contains__ : FnScope N_Algebra___contains__ ["self", "name"] (defScope s_Algebra___contains__) := ⟨rfl, rfl, rfl, by decide +kernel, rfl, by decide +kernel, by decide +kernel⟩
theorem ok_has {C f : Addr} {fd : FuncData} (F : Fun K "__contains__" "Algebra.__contains__" s_Algebra___contains__ f fd) (T : Blt mg) (c : AlgC K C) : FnOk P w K mg base CX0 1 f fd ["self", "name"] (spHasM C) := by
  refine F.ok sc_Algebra___contains__ (fun vs H Q E h => ?_) (fun cdv A outer s H vs Q E hr h => ?_)
  · obtain ⟨x, nm, xs, os, rfl, _⟩ := h
    rfl
  · obtain ⟨x, nm, xs, os, rfl, al, nd, k⟩ := h
    have hu := hu_of hr
    refine ⟨_, (pss_one (ps_ret (pe_and (pe_callB (call_isiK' K) (by rfl) T.isinstance (by decide +kernel) (pa_cons (pv 1) (pa_cons (pe_bty (n := "str") (by rfl) T.str (by decide +kernel)) pa_nil))) (pe_one (pe_cmp (pc_din hu (pv 1) (pe_fld (pv 0) rfl))))))), ?_⟩
    obtain ⟨dx, t, n, p, r, b, ss, ls, h1, h2, h3, h4, h5, h6, _⟩ := al
    refine ⟨_, rfl, .str nm, _, _, _, true, rfl, ClsV.ty _, .base (.str nm), kit_ty (by decide +kernel), true, rfl, iteT ⟨_, rfl, _, rfl, x, C, dx, _, _, rfl, h1, c.cl, c.n3, rfl, p, _, rfl, DGet.k (k := Sum.inr nm) h6, ?_⟩⟩
    by_cases hm : nm ∈ xs
    · obtain ⟨i, hi, rfl⟩ := List.mem_iff_getElem.mp hm
      rw [pl_in nd hi]
      rw [decide_eq_true hm] at k
      exact k
    · rw [pl_no hm]
      rw [decide_eq_false hm] at k
      exact k
end
end K43


set_option Elab.async false
set_option linter.all false
set_option maxRecDepth 100000
set_option maxHeartbeats 4000000
/-! more operations: max with default=, dicts compared, truths -/
namespace Dl
open PySem PySem.Spec PyProof.Rows L2
theorem maxOf_int (ys : List Int) : ∀ x : Int, PySem.W.maxOf x ys ∈ x :: ys ∧ ∀ y ∈ x :: ys, y ≤ PySem.W.maxOf x ys := by
  induction ys with
  | nil => exact fun x => ⟨List.mem_cons_self, fun y h => by rw [List.mem_singleton.mp h]; exact Int.le_refl _⟩
  | cons a r ih =>
    intro x
    have e : PySem.W.maxOf x (a :: r) = PySem.W.maxOf (if decide (x < a) = true then a else x) r := rfl
    rw [e]
    by_cases h : x < a
    · rw [if_pos (decide_eq_true h)]
      obtain ⟨h1, h2⟩ := ih a
      refine ⟨List.mem_cons_of_mem _ h1, fun y hy => ?_⟩
      rcases List.mem_cons.mp hy with rfl | hy
      · exact Int.le_trans (Int.le_of_lt h) (h2 a List.mem_cons_self)
      · exact h2 y hy
    · rw [if_neg (by simpa using h)]
      obtain ⟨h1, h2⟩ := ih x
      refine ⟨?_, fun y hy => ?_⟩
      · rcases List.mem_cons.mp h1 with z | z
        · rw [z]; exact List.mem_cons_self
        · exact List.mem_cons_of_mem _ (List.mem_cons_of_mem _ z)
      · rcases List.mem_cons.mp hy with rfl | hy
        · exact h2 _ List.mem_cons_self
        rcases List.mem_cons.mp hy with rfl | hy
        · exact Int.le_trans (Int.not_lt.mp h) (h2 x List.mem_cons_self)
        · exact h2 y (List.mem_cons_of_mem _ hy)
def rMaxD0 (K : PySem.W.Frag) : List V → List V → Hp → VK → Prop := fun xs zs H Q => ∃ (a : Addr) (ns : List Int) (d : Int), xs = [.ref a] ∧ zs = [.int d] ∧ SqL K H a (ns.map V.int) ∧ ∀ m : Int, (ns = [] → m = d) → (ns ≠ [] → m ∈ ns ∧ ∀ y ∈ ns, y ≤ m) → Q (.int m) H
theorem cr_maxDef {X : Cx} (K : PySem.W.Frag) (hu : X.A.units + 64 < cLine) (hc : X.calm = true := by rfl) (hK : X.K = K := by rfl) : CallRK X (.builtin "max") [Str.ofString "default"] (rMaxD0 K) := by
  subst hK
  intro pins s σ H vs zs us ws Q I r rz h
  obtain ⟨a, ns, d, rfl, rfl, hs, q⟩ := h
  obtain ⟨its, rv, hl, _⟩ := I.list hs
  obtain rfl := Vals.ref1 r
  obtain ⟨w1, rfl, e1⟩ := vals1 rz
  refine PySem.W.max_list_datum_default (α := Int) (I.ok.hd hc) hl.isList (PySem.W.HoldAll.of_ints (by exact rv.ints)) (by show X.A.units + 1 + 0 < cLine; omega) (fun e h' tk hk => ?_) fun y ys i v h' tk e hi hv hk => ?_
  · exact ⟨.int d, H, I.kept hk, e1, q d (fun _ => rfl) fun z => absurd e z⟩
  · obtain ⟨m1, m2⟩ := maxOf_int ys y
    obtain ⟨bs, rd⟩ := hv
    refine ⟨.int (PySem.W.maxOf y ys), H, I.kept hk, ?_, q _ (fun z => absurd (e ▸ z) (by simp)) fun _ => by rw [e]; exact ⟨m1, m2⟩⟩
    generalize PySem.W.maxOf y ys = m at rd
    have rd : Reads h' v (.int m) bs := rd
    cases rd
    exact ⟨_, rfl⟩
/-- dicts that read the same -/
def rNeDD (K : PySem.W.Frag) : R2 := fun x y H Q => ∃ a b ks ls, x = .ref a ∧ y = .ref b ∧ H a = some (.dK ks) ∧ H b = some (.dK ls) ∧ ks.length = ls.length ∧ (∀ p ∈ ks, ∃ v d, valV ls p.1 = some v ∧ Dp K H p.2 d ∧ Dp K H v d ∧ SeqAt.shaped d = true) ∧ Q (.bl false) H
theorem hits_D {X : Cx} {pins : List (Addr × Obj)} {σ : L2.St} {H : Hp} {s : Shared} {A : Around} (hu : A.units + 64 < cLine) (I : Inv X pins σ H s) {kvs : List (Key × V)} {vb : List (Key × Value)} (rb : KV kvs vb) {ks : List (Key × V)} {va : List (Key × Value)} (ra : KV ks va) :
    (∀ p ∈ ks, ∃ v d, valV kvs p.1 = some v ∧ Dp X.K H p.2 d ∧ Dp X.K H v d ∧ SeqAt.shaped d = true) → PySem.W.KeqHits A s vb va true := by
  unfold KV at ra
  induction ra with
  | nil => intro _; exact .nil
  | @cons p q ps qs h t ih =>
    intro hp
    obtain ⟨h1, h2⟩ := h
    obtain ⟨v, d, e, d1, d2, sd⟩ := hp p List.mem_cons_self
    have rr : RelO (some v) (valueAt vb p.1) := by rw [← e]; exact rb.val p.1
    obtain ⟨y, hy, ry⟩ := rr.some_of
    obtain ⟨k, u⟩ := q
    have h1' : p.1 = k := h1
    rw [h1'] at hy
    obtain ⟨as, r1⟩ := Dp.reads I d p.2 u d1 h2
    obtain ⟨bs, r2⟩ := Dp.reads I d v y d2 ry
    have cl := SeqAt.canLay_of_shaped sd
    have eq := SeqAt.eqAt_reads d d A s u y as bs r1 r2 cl cl (SeqAt.room_of_shaped sd hu)
    rw [SeqAt.eqv_refl d cl] at eq
    show PySem.W.KeqHits A s vb ((k, u) :: qs) (true && true)
    exact .hit hy eq (ih fun p' hm => hp p' (List.mem_cons_of_mem _ hm))
theorem op_ne_dictDK {X : Cx} (K : PySem.W.Frag) (hu : X.A.units + 65 < cLine) (hK : X.K = K := by rfl) : OpR X (compareOp .NotEq) (rNeDD K) := by
  subst hK
  intro pins s σ H x y v u Q I rx ry h
  obtain ⟨a, b, ks, ls, rfl, rfl, ea, eb, hlen, hp, q⟩ := h
  obtain rfl : v = Value.ref a := rx
  obtain rfl : u = Value.ref b := ry
  obtain ⟨_, ya, va, ra, da⟩ := (show ObjOk X.prog X.w H s.heap a (.dK ks) from I.hok a _ ea)
  obtain ⟨_, yb, vb, rb, db⟩ := (show ObjOk X.prog X.w H s.heap b (.dK ls) from I.hok b _ eb)
  have hl : va.length = vb.length := by rw [← ra.length, ← rb.length]; exact hlen
  exact PySem.W.keq_ne (knd := mixKind X.prog X.w) (r := true) ya yb da db (Nat.lt_of_le_of_lt (Nat.le_add_right _ 65) hu) (fun _ => hits_D (A := X.A.in1) (by show X.A.units + 1 + 64 < cLine; rw [Nat.add_assoc]; exact hu) I rb ra hp) (fin_bl I q (by simp [hl]))
section
variable {W : Wd} {Φ : Da → Prop} {x y : Da} {K : PySem.W.Frag} {ρ : List En} {ta tb : TA}
theorem rpk_look {X X' : Addr → Prop} {H : Hp} {kvs : List (Key × V)} {ds : List (Key × Da)} (r : Rpk X H kvs ds) : ∀ p ∈ kvs, ∃ d, (p.1, d) ∈ ds ∧ Rp X H p.2 d := by
  intro p hp
  cases r with
  | nil => cases hp
  | cons a r =>
    rcases List.mem_cons.mp hp with rfl | hp
    · exact ⟨_, List.mem_cons_self, a⟩
    · obtain ⟨d, h1, h2⟩ := rpk_look (X' := X') r p hp
      exact ⟨d, List.mem_cons_of_mem _ h1, h2⟩
termination_by kvs.length
theorem rpk_len {X : Addr → Prop} {H : Hp} : ∀ {kvs : List (Key × V)} {ds : List (Key × Da)}, Rpk X H kvs ds → kvs.length = ds.length
  | _, _, .nil => rfl
  | _, _, .cons _ r => congrArg (· + 1) (rpk_len r)
/-- a dict and its copy -/
theorem w2_neDict (f : ∃ kvs : List (Key × Da), x = .dct kvs ∧ y = .dct kvs ∧ (∀ p ∈ kvs, look kvs p.1 = some p.2 ∧ plD p.2 = true ∧ dpD p.2 ≤ 64) ∧ Φ (.bl false)) : W2 W (rNeDD K) x y Φ := fun v u H al j rx ry Q q => by
  obtain ⟨kvs, rfl, rfl, h, f⟩ := f
  cases rx with
  | dct a1 n1 r1 =>
    cases ry with
    | dct a2 n2 r2 =>
      refine ⟨_, _, _, _, rfl, rfl, a1, a2, by rw [rpk_len r1, rpk_len r2], fun p hp => ?_, q _ H _ f .refl j (.bl _)⟩
      obtain ⟨d, hd, rd⟩ := rpk_look (X' := W.X) r1 p hp
      obtain ⟨l, pl, dl⟩ := h _ hd
      have z := r2.look p.1
      rw [show look kvs p.1 = some d from l] at z
      obtain ⟨w, h1, h2⟩ := z
      exact ⟨w, _, h1, rp_dp rd pl, rp_dp h2 pl, shaped_of pl dl⟩
/-- max(xs, default=d) -/
theorem we_maxDef (h : WA W ta ρ fun xs => WA W tb ρ fun zs => ∃ (ns : List Int) (d : Int), xs = [.lst (ns.map .int)] ∧ zs = [.int d] ∧ ∀ m : Int, (ns = [] → m = d) → (ns ≠ [] → m ∈ ns ∧ ∀ y ∈ ns, y ≤ m) → Φ (.int m)) : WE W (tCKw (rMaxD0 K) ta tb) ρ Φ := fun σ H s Q q =>
  h σ H s _ fun vs H1 xs h1 k1 j1 r1 => h1 σ H1 (s.step k1 j1) _ fun us H2 zs ⟨ns, d, ex, ez, f⟩ k2 j2 r2 => by
    subst ex ez
    cases r1 with
    | cons r1 r3 =>
      cases r3
      cases r2 with
      | cons r2 r4 =>
        cases r4
        cases r2
        have r1 := r1.kp (k2.sub W.y)
        cases r1 with
        | lst a n rr =>
          obtain rfl := rr.ints
          exact ⟨_, ns, d, rfl, rfl, SqL.of a, fun m m1 m2 => q _ _ _ (f m m1 m2) (k1.trans k2) j2 (.int _)⟩
theorem inV_bls {s : Bool} {ss : List Bool} : inV (.bl s) (ss.map V.bl) = decide (s ∈ ss) := by
  unfold inV
  rw [Bool.eq_iff_iff, List.any_eq_true, decide_eq_true_iff]
  constructor
  · rintro ⟨v, hv, e⟩
    obtain ⟨u, hu, rfl⟩ := List.mem_map.mp hv
    have : u = s := by simpa [eqV] using e
    exact this ▸ hu
  · exact fun h => ⟨.bl s, List.mem_map.mpr ⟨s, h, rfl⟩, by simp [eqV]⟩
theorem flatBl (ss : List Bool) : (ss.map V.bl).all flatV = true := by
  rw [List.all_eq_true]
  intro v hv
  obtain ⟨u, _, rfl⟩ := List.mem_map.mp hv
  rfl
theorem w2_inB {neg : Bool} (f : ∃ (s : Bool) (ss : List Bool), x = .bl s ∧ (y = .lst (ss.map .bl) ∨ y = .tup (ss.map .bl)) ∧ Φ (.bl (if neg then !decide (s ∈ ss) else decide (s ∈ ss)))) : W2 W (rIn K neg) x y Φ := fun v u H al j rx ry Q q => by
  obtain ⟨s, ss, rfl, e, f⟩ := f
  cases rx
  obtain ⟨p, vs, rfl, hs, r⟩ := seq_of (K := K) ry e
  obtain rfl := r.bls
  refine ⟨p, _, rfl, hs, rfl, flatBl ss, ?_⟩
  rw [inV_bls]
  exact q _ H _ f .refl j (.bl _)
/-- truths and texts -/
def bsD : Da → Bool
  | .bl _ => true
  | .str s => PyData.strOk s
  | _ => false
def bsP : Da → PyData
  | .bl b => .bool b
  | .str s => .str s
  | _ => .none
theorem bs_dp {X : Addr → Prop} {H : Hp} {v : V} {d : Da} (r : Rp X H v d) (h : bsD d = true) : Dp K H v (bsP d) ∧ SeqAt.shaped (bsP d) = true := by
  cases r with
  | bl b => exact ⟨.bl b, rfl⟩
  | str s =>
    refine ⟨.str s, ?_⟩
    have h : PyData.strOk s = true := h
    simp [bsP, SeqAt.shaped, PyData.canLay0, PyData.depth, h]
  | _ => cases h
theorem w2_neBS (f : bsD x = true ∧ bsD y = true ∧ ∃ b : Bool, (b = true ↔ x = y) ∧ Φ (.bl (!b))) : W2 W (rNeD K) x y Φ := fun v u H al j rx ry Q q => by
  obtain ⟨h1, h2, b, e, f⟩ := f
  obtain ⟨p1, s1⟩ := bs_dp (K := K) rx h1
  obtain ⟨p2, s2⟩ := bs_dp (K := K) ry h2
  refine ⟨_, _, p1, p2, s1, s2, ?_⟩
  have : PyData.eqv (bsP x) (bsP y) = b := by
    rw [Bool.eq_iff_iff, e]
    cases x <;> cases y <;> simp_all [bsP, PyData.eqv, bsD]
  rw [this]
  exact q _ _ _ f .refl j (.bl _)
end
end Dl


set_option Elab.async false
set_option linter.all false
set_option maxRecDepth 100000
set_option maxHeartbeats 4000000
/-! starred arguments, dict comprehensions by a function, things -/
namespace Dl
open PySem PySem.Spec PyProof.Rows L2
theorem put_newD {κ : Type} [DecidableEq κ] {kvs : List (κ × Da)} {k : κ} (v : Da) (h : k ∉ kvs.map (·.1)) : put kvs k v = kvs ++ [(k, v)] := by
  unfold put
  rw [if_neg]
  rw [List.any_eq_true]
  rintro ⟨p, hp, e⟩
  exact h (List.mem_map.mpr ⟨p, hp, of_decide_eq_true e⟩)
theorem look_app_new {κ : Type} [DecidableEq κ] {kvs : List (κ × Da)} {k : κ} {v : Da} (h : k ∉ kvs.map (·.1)) : look (kvs ++ [(k, v)]) k = some v := by
  unfold look
  rw [List.find?_append, List.find?_eq_none.mpr fun p hp z => h (List.mem_map.mpr ⟨p, hp, of_decide_eq_true z⟩), Option.none_or, List.find?_cons, show decide ((k, v).1 = k) = true from decide_eq_true rfl]
  rfl
theorem look_put_self {κ : Type} [DecidableEq κ] {k : κ} {v : Da} : ∀ {kvs : List (κ × Da)}, look (put kvs k v) k = some v := by
  intro kvs
  unfold put
  split
  · rename_i h
    induction kvs with
    | nil => cases h
    | cons p r ih =>
      unfold look
      rw [List.map_cons, List.find?_cons]
      by_cases c : p.1 = k
      · rw [if_pos c, show decide ((p.1, v).1 = k) = true from decide_eq_true c]
        rfl
      · rw [if_neg c, show decide (p.1 = k) = false from decide_eq_false c]
        refine ih ?_
        rw [List.any_cons, show decide (p.1 = k) = false from decide_eq_false c, Bool.false_or] at h
        exact h
  · rename_i h
    refine look_app_new fun z => h ?_
    obtain ⟨p, hp, e⟩ := List.mem_map.mp z
    exact List.any_eq_true.mpr ⟨p, hp, decide_eq_true e⟩
theorem look_put_ne {κ : Type} [DecidableEq κ] {k k' : κ} {v : Da} (hn : k' ≠ k) : ∀ {kvs : List (κ × Da)}, look (put kvs k v) k' = look kvs k' := by
  intro kvs
  unfold put
  split
  · rename_i h
    clear h
    induction kvs with
    | nil => rfl
    | cons p r ih =>
      unfold look at ih ⊢
      rw [List.map_cons, List.find?_cons, List.find?_cons]
      by_cases c : p.1 = k
      · rw [if_pos c, show decide ((p.1, v).1 = k') = false from decide_eq_false fun z => hn (z.symm.trans c)]
        exact ih
      · rw [if_neg c]
        cases e : decide (p.1 = k') with
        | true => rfl
        | false => exact ih
  · unfold look
    rw [List.find?_append]
    cases e : kvs.find? fun kv => decide (kv.1 = k') with
    | some p => rfl
    | none =>
      rw [Option.none_or, List.find?_cons, show decide ((k, v).1 = k') = false from decide_eq_false fun z => hn z.symm]
      rfl
theorem put_len {κ : Type} [DecidableEq κ] (kvs : List (κ × Da)) (k : κ) (v : Da) : (put kvs k v).length ≤ kvs.length + 1 := by
  unfold put
  split
  · rw [List.length_map]; omega
  · rw [List.length_append]; exact Nat.le_refl _
theorem put_mem {κ : Type} [DecidableEq κ] {kvs : List (κ × Da)} {k : κ} {v : Da} {p : κ × Da} (h : p ∈ put kvs k v) : p = (k, v) ∨ (p ∈ kvs ∧ p.1 ≠ k) := by
  unfold put at h
  split at h
  · obtain ⟨q, hq, e⟩ := List.mem_map.mp h
    by_cases c : q.1 = k
    · rw [if_pos c, c] at e; exact .inl e.symm
    · rw [if_neg c] at e; subst e; exact .inr ⟨hq, c⟩
  · rename_i hn
    rcases List.mem_append.mp h with h | h
    · exact .inr ⟨h, fun z => hn (List.any_eq_true.mpr ⟨p, h, decide_eq_true z⟩)⟩
    · exact .inl (List.mem_singleton.mp h)
/-- all its entries are found -/
def NdK {κ : Type} [DecidableEq κ] (kvs : List (κ × Da)) : Prop := ∀ p ∈ kvs, look kvs p.1 = some p.2
theorem NdK.put {κ : Type} [DecidableEq κ] {kvs : List (κ × Da)} (h : NdK kvs) (k : κ) (v : Da) : NdK (Dl.put kvs k v) := fun p hp => by
  rcases put_mem hp with rfl | ⟨hp, ne⟩
  · exact look_put_self
  · rw [look_put_ne ne]; exact h p hp
theorem NdK.nil {κ : Type} [DecidableEq κ] : NdK ([] : List (κ × Da)) := fun _ h => by cases h
theorem look_mem {κ : Type} [DecidableEq κ] {kvs : List (κ × Da)} {k : κ} {v : Da} (h : look kvs k = some v) : (k, v) ∈ kvs := by
  unfold look at h
  rw [Option.map_eq_some_iff] at h
  obtain ⟨p, h1, rfl⟩ := h
  have := List.find?_some h1
  have e : p.1 = k := of_decide_eq_true this
  rw [← e]
  exact List.mem_of_find?_eq_some h1
section
variable {W : Wd} {ρ : List En} {K : PySem.W.Frag} {te ta tb tk tv : TE} {tt : TT} {wi : TI} {g : TG} {vs S : List Nat} {Φ : Da → Prop} {tr : TA}
theorem wa_star {Φ : List Da → Prop} (h : WE W te ρ fun x => ∃ ds, (x = .lst ds ∨ x = .tup ds) ∧ WA W tr ρ fun xs => Φ (ds ++ xs)) : WA W (StX.tStar K te tr) ρ Φ := fun σ H s Q q =>
  h σ H s _ fun v H1 x ⟨ds, e, f⟩ k1 j1 r1 => by
    obtain ⟨p, vs, rfl, hs, rr⟩ := seq_of (K := K) r1 e
    exact ⟨p, vs, rfl, hs.symm, f σ H1 (s.step k1 j1) _ fun us H2 ys h2 k2 j2 r2 => q _ H2 _ h2 (k1.trans k2) j2 ((rr.kp (k2.sub W.y)).app r2)⟩
theorem w2_inBX {neg : Bool} {x y : Da} (f : ∃ s : Bool, x = .bl s ∧ ∃ ss : List Bool, (y = .lst (ss.map .bl) ∨ y = .tup (ss.map .bl)) ∧ Φ (.bl (if neg then !decide (s ∈ ss) else decide (s ∈ ss)))) : W2 W (rIn K neg) x y Φ := by
  obtain ⟨s, e, ss, h⟩ := f
  exact w2_inB ⟨s, ss, e, h⟩
/-- a dict comprehension, each key once -/
theorem ww_dcT (hS : ∀ s ∈ S, s ∈ vs) (h : WI W wi ρ fun ds => ∃ (α : Type) (l : List α) (enc f : α → Da) (key : α → Key), ds = l.map enc ∧ l.length ≤ 50000 ∧ (l.map key).Nodup ∧ (∀ a D, a ∈ l → WG S g (wipeE ρ vs) (enc a) fun ρ2 => WE (W.own D) tk ρ2 fun kd => keyO kd = some (key a) ∧ WE (W.own D) tv ρ2 fun y => y = f a) ∧ Φ (.dct (l.map fun a => (key a, f a)))) : WW W (tDc wi g tYes tk tv vs) ρ Φ :=
  ww_dcP hS fun σ H s R q => h σ H s R fun J H1 ds G Y ⟨α, l, enc, f, key, ed, hn, nd, hf, e⟩ => q J H1 ds G Y ⟨by rw [ed, List.length_map]; exact hn, fun i acc => acc = (l.take i).map fun a => (key a, f a), rfl, fun i x acc D hx _ ha => by
    subst ed
    rw [List.getElem?_map, Option.map_eq_some_iff] at hx
    obtain ⟨a, hx, rfl⟩ := hx
    refine (hf a D (List.mem_of_getElem? hx)).mono fun ρ2 hw => fun σ H s Q q => q true H (hw.mono fun kd ⟨ek, hv⟩ => hv.mono fun y e => ⟨key a, ek, ?_⟩) .refl s.j
    subst e ha
    rw [put_newD]
    · rw [List.take_add_one, hx, List.map_append]
      rfl
    · rw [List.map_map]
      intro z
      obtain ⟨b, hb, eb⟩ := List.mem_map.mp z
      obtain ⟨j, hj, e⟩ := List.mem_iff_getElem.mp hb
      rw [List.length_take] at hj
      rw [List.getElem_take] at e
      obtain ⟨hi, e2⟩ := List.getElem?_eq_some_iff.mp hx
      have ne := List.pairwise_iff_getElem.mp nd j i (by rw [List.length_map]; omega) (by rw [List.length_map]; omega) (by omega)
      rw [List.getElem_map, List.getElem_map, e, e2] at ne
      exact ne eb, fun acc ha => by rw [ha, ed, List.length_map, List.take_length]; exact e⟩
end
/-! small things -/
mutual
def smD : Da → Bool
  | .non => true
  | .int _ => true
  | .str s => PyData.strOk s && decide (s.length ≤ 100)
  | .lst ds => smDs ds && decide (ds.length ≤ 100)
  | .tup ds => smDs ds && decide (ds.length ≤ 100)
  | _ => false
def smDs : List Da → Bool
  | [] => true
  | d :: r => smD d && smDs r
end
mutual
theorem sm_pl : ∀ {d : Da}, smD d = true → plD d = true
  | .non, _ => rfl
  | .int _, _ => rfl
  | .str s, h => by
    have h : (PyData.strOk s && decide (s.length ≤ 100)) = true := h
    rw [Bool.and_eq_true] at h
    exact h.1
  | .lst ds, h => by
    have h : (smDs ds && decide (ds.length ≤ 100)) = true := h
    rw [Bool.and_eq_true] at h
    exact sms_pl h.1
  | .tup ds, h => by
    have h : (smDs ds && decide (ds.length ≤ 100)) = true := h
    rw [Bool.and_eq_true] at h
    exact sms_pl h.1
  | .bl b, h => by cases h
  | .ty b, h => by cases h
  | .adr b, h => by cases h
  | .ext b, h => by cases h
  | .dct a, h => by cases h
  | .dtt a, h => by cases h
theorem sms_pl : ∀ {d : List Da}, smDs d = true → plDs d = true
  | [], _ => rfl
  | d :: r, h => by
    have h : (smD d && smDs r) = true := h
    rw [Bool.and_eq_true] at h
    show (plD d && plDs r) = true
    rw [sm_pl h.1, sms_pl h.2]
    rfl
end
theorem sms_mem : ∀ {ds : List Da} {d : Da}, smDs ds = true → d ∈ ds → smD d = true
  | d :: r, x, h, m => by
    have h : (smD d && smDs r) = true := h
    rw [Bool.and_eq_true] at h
    rcases List.mem_cons.mp m with rfl | m
    · exact h.1
    · exact sms_mem h.2 m
theorem sms_of : ∀ {ds : List Da}, (∀ d ∈ ds, smD d = true) → smDs ds = true
  | [], _ => rfl
  | d :: r, h => by
    show (smD d && smDs r) = true
    rw [h d List.mem_cons_self, sms_of fun x hx => h x (List.mem_cons_of_mem _ hx)]
    rfl
theorem sm_tup {ds : List Da} : smD (.tup ds) = true ↔ (∀ d ∈ ds, smD d = true) ∧ ds.length ≤ 100 := by
  show (smDs ds && decide (ds.length ≤ 100)) = true ↔ _
  rw [Bool.and_eq_true, decide_eq_true_iff]
  exact ⟨fun h => ⟨fun d hd => sms_mem h.1 hd, h.2⟩, fun h => ⟨sms_of h.1, h.2⟩⟩
theorem sm_lst {ds : List Da} : smD (.lst ds) = true ↔ (∀ d ∈ ds, smD d = true) ∧ ds.length ≤ 100 := sm_tup
theorem dps_mem : ∀ {ds : List Da} {d : Da}, d ∈ ds → dpD d ≤ dpDs ds
  | d :: r, x, m => by
    show _ ≤ max (dpD d) (dpDs r)
    rcases List.mem_cons.mp m with rfl | m
    · exact Nat.le_max_left _ _
    · exact Nat.le_trans (dps_mem m) (Nat.le_max_right _ _)
theorem sm_str {s : Str} (h : smD (.str s) = true) : PyData.strOk s = true ∧ s.length ≤ 100 := by
  have h : (PyData.strOk s && decide (s.length ≤ 100)) = true := h
  rw [Bool.and_eq_true, decide_eq_true_iff] at h
  exact h
end Dl


set_option Elab.async false
set_option linter.all false
set_option maxRecDepth 100000
set_option maxHeartbeats 4000000
/-! dict displays, defs that make something new, copies of own dicts -/
namespace Dl
open PySem PySem.Spec PyProof.Rows L2
def Rpp (X : Addr → Prop) (H : Hp) : List (V × V) → List (Key × Da) → Prop := Paired fun p q => p.1 = kV q.1 ∧ Rp X H p.2 q.2
def WDs (W : Wd) (trs : List (TE × TE)) (ρ : List En) (Φ : List (Key × Da) → Prop) : Prop := ∀ σ H, Sl W H σ ρ → ∀ Q : List (V × V) → Hp → Prop, (∀ ps H' ds, Φ ds → Kp W.Y H H' → W.J H' → Rpp W.X H' ps ds → Q ps H') → tPairs trs σ H Q
theorem Rpp.kp {X : Addr → Prop} {H H' : Hp} {ps : List (V × V)} {ds : List (Key × Da)} (r : Rpp X H ps ds) (k : Kp X H H') : Rpp X H' ps ds := Paired.mapP r fun _ _ q => ⟨q.1, q.2.kp k⟩
theorem Rpp.to {X X' : Addr → Prop} {H H' : Hp} {ps : List (V × V)} {ds : List (Key × Da)} (r : Rpp X H ps ds) (k : To X H X' H') : Rpp X' H' ps ds := Paired.mapP r fun _ _ q => ⟨q.1, q.2.to k⟩
theorem Rpp.kvs {X : Addr → Prop} {H : Hp} {ps : List (V × V)} {ds : List (Key × Da)} (r : Rpp X H ps ds) : ∃ kvs : List (Key × V), ps = kvs.map (fun kv => (kV kv.1, kv.2)) ∧ kvs.length = ds.length ∧ Rpk X H kvs ds := by
  unfold Rpp at r
  induction r with
  | nil => exact ⟨[], rfl, rfl, .nil⟩
  | @cons p q ps qs h t ih =>
    obtain ⟨kvs, e, l, r⟩ := ih
    obtain ⟨p1, p2⟩ := p
    obtain ⟨q1, q2⟩ := q
    obtain ⟨h1, h2⟩ := h
    have h1 : p1 = kV q1 := h1
    exact ⟨(q1, p2) :: kvs, by rw [List.map_cons, ← e, h1], by rw [List.length_cons, List.length_cons, l], .cons h2 r⟩
def mergeD (kvs : List (Key × Da)) (more : List (Key × Da)) : List (Key × Da) := more.foldl (fun acc kv => put acc kv.1 kv.2) kvs
theorem rpk_merge {X : Addr → Prop} {H : Hp} (more : List (Key × V)) : ∀ (dm : List (Key × Da)) {kvs : List (Key × V)} {ds : List (Key × Da)}, Rpk X H more dm → Rpk X H kvs ds → Rpk X H (mergeK kvs more) (mergeD ds dm) := by
  induction more with
  | nil => intro dm kvs ds m r; cases m; exact r
  | cons p more ih =>
    intro dm kvs ds m r
    cases m with
    | @cons k x y _ _ a m => exact ih (kvs := putK kvs k x) (ds := put ds k y) _ m (r.put a)
section
variable {W : Wd} {ρ : List En} {K : PySem.W.Frag} {te ta tb tk tv : TE} {tt : TT} {Φ : Da → Prop} {trs : List (TE × TE)} {i : Nat} {D : Ends} {t : TA}
theorem wds_nil {Φ : List (Key × Da) → Prop} (f : Φ []) : WDs W [] ρ Φ := fun σ H s Q q => q [] H [] f .refl s.j .nil
theorem wds_cons {Φ : List (Key × Da) → Prop} (h : WE W tk ρ fun x => ∃ k, keyO x = some k ∧ WE W tv ρ fun y => WDs W trs ρ fun ps => Φ ((k, y) :: ps)) : WDs W ((tk, tv) :: trs) ρ Φ := fun σ H s Q q =>
  h σ H s _ fun v H1 x ⟨k, ek, h1⟩ k1 j1 r1 => h1 σ H1 (s.step k1 j1) _ fun u H2 y h2 k2 j2 r2 => h2 σ H2 ((s.step k1 j1).step k2 j2) _ fun ps H3 ds f k3 j3 r3 => by
    refine q _ H3 _ f ((k1.trans k2).trans k3) j3 (.cons ⟨?_, r2.kp (k3.sub W.y)⟩ r3)
    exact kD_of r1 ek
theorem ww_disp (h : ∀ D, WDs (W.own D) trs ρ fun ds => ds.length ≤ 15 ∧ Φ (.dct (mergeD [] ds))) : WW W (tDisp trs) ρ Φ := fun σ H s Q q => fun p hp => by
  have n1 : (upd H p (.dK [])) p ≠ none := by rw [upd_same]; exact fun z => nomatch z
  have j1 : W.J (upd H p (.dK [])) := W.jsame (same_upd hp) s.j
  have so : Sl (W.own p) (upd H p (.dK [])) σ ρ := s.own hp (.new hp) j1 n1
  have nY : ¬ W.Y p := fun z => s.al p (W.y p z) hp
  refine h p σ _ so _ fun ps H2 ds ⟨l15, f⟩ k j r => ?_
  have h2 : H2 p = some (.dK []) := k.a _ _ upd_same nY
  obtain ⟨kvs, e, l, rk⟩ := r.kvs
  refine ⟨h2, kvs, e, by omega, q p _ _ f hp (((Kp.new hp).trans k).mut hp) ?_ ⟨_, upd_same, ?_⟩⟩
  · refine W.jd H2 _ (fun a o ya ha => ?_) j
    rw [upd_ne (show a ≠ p from fun c => nY (c ▸ ya))]
    exact ha
  · exact rpk_merge _ _ (rk.kp (Kp.refl.upd (.inr rfl))) .nil
/-- a def that makes something new -/
def spN (P : List Da → Da → Prop) : Sp := fun vs H Q _ => ∃ (X : Addr → Prop) (ds : List Da) (d : Da), (∀ a, X a → H a ≠ none) ∧ Rps X H vs ds ∧ P ds d ∧ ∀ l H', H l = none → Same H H' → ObD X H' l d → Q (.ref l) H'
theorem ww_callN {P : List Da → Da → Prop} {E : XK} (h : WA W t ρ fun ds => ∃ d, P ds d ∧ Φ d) : WW W (tCall (spN P) [] E t) ρ Φ := fun σ H s Q q =>
  h σ H s _ fun vs H1 ds ⟨d, p, f⟩ k1 j1 r1 => by
    rw [List.append_nil]
    exact ⟨W.X, ds, d, fun a z => k1.b a (s.al a z), r1, p, fun l H' n e o => q l H' d f (k1.free n) (k1.trans (.same e)) (W.jsame e j1) o⟩
/-- new().append(e) -/
theorem wn_appN (h : WW W te ρ fun d => ∃ ds, d = .lst ds ∧ ds.length < 1000000 ∧ WE W ta ρ fun _ => WN W D.nx ρ) : WN W (tDrop (tBM K "list" rAppend te (tCons ta tNil)) D) ρ := fun σ H s =>
  h σ H s _ fun l H1 d ⟨ds, ed, ln, h1⟩ nl k1 j1 o => by
    subst ed
    obtain ⟨vs, hv, rv⟩ := o
    refine ⟨.inl ⟨rfl, _, SqL.of hv⟩, h1 σ H1 (s.step k1 j1) _ fun v H2 y f k2 j2 r2 => ?_⟩
    have nY : ¬ W.Y l := fun z => s.al l (W.y l z) nl
    have nX : ¬ W.X l := fun z => s.al l z nl
    have hv2 := k2.a _ _ hv nY
    refine ⟨l, vs, v, rfl, rfl, hv2, by rw [rv.len, sizeLine_eq]; omega, f σ _ ?_⟩
    have s2 := (s.step k1 j1).step k2 j2
    have k12 : Kp W.Y H (upd H2 l (.lst (vs ++ [v]))) := (k1.trans k2).mut nl
    exact s.step k12 (W.jd H2 _ (fun a o ya ha => by rw [upd_ne (show a ≠ l from fun c => nY (c ▸ ya))]; exact ha) j2)
/-- dict(x), x an own dict -/
theorem we_dictM {l : Addr} {kvs : List (Key × Da)} (hi : ρ[i]? = some (.md l kvs)) (f : Φ (.dct kvs)) : WE W (tCB (fun xs H Q => ∃ (a : Addr) (kvs : List (Key × V)), xs = [V.ref a] ∧ Rd H a (HO.dK kvs) ∧ ∀ (p : Addr), H p = none → Q (V.ref p) (upd H p (HO.dK kvs))) (tCons (tVar i) tNil)) ρ Φ := fun σ H s Q q => by
  obtain ⟨ov, h1, rfl, lx, lx0, lh0, vs, hv, rv⟩ := s.get hi
  exact ⟨_, h1, l, vs, rfl, .inl hv, fun p hp => q _ _ _ f (.new hp) (W.jsame (same_upd hp) s.j) (.dct upd_same (fun z => s.al p z hp) (rv.kp (.new hp)))⟩
end
theorem w1_U {W : Wd} {x : Da} {Φ : Da → Prop} {g : Int → V} (f : ∃ i, x = .int i ∧ Φ (cD (g i))) : W1 W (rU g) x Φ := fun v H al j rx Q q => by
  obtain ⟨i, rfl, f⟩ := f
  cases rx
  exact ⟨i, rfl, q _ H _ f .refl j (rp_c _)⟩
/-! parts of tuples and lists -/
theorem cutD_take {ds : List Da} {k : Nat} (h : k ≤ ds.length) : cutD ds none (some (k : Int)) = ds.take k := by
  unfold cutD
  rw [HT.sIx_nat, HT.sIx_none, List.drop_zero, Nat.sub_zero, Nat.min_eq_left h]
theorem cutD_drop {ds : List Da} {k : Nat} (h : k ≤ ds.length) : cutD ds (some (k : Int)) none = ds.drop k := by
  unfold cutD
  rw [HT.sIx_nat, HT.sIx_none, Nat.min_eq_left h]
  exact List.take_of_length_le (by rw [List.length_drop]; omega)
theorem cutD_init {ds : List Da} : cutD ds none (some (-1)) = ds.dropLast := by
  unfold cutD
  rw [HT.sIx_none, List.drop_zero, Nat.sub_zero, List.dropLast_eq_take]
  have : HT.sIx ds.length ds.length (some (-1)) = ds.length - 1 := by
    show (if (-1 : Int) < 0 then ((-1 : Int) + (ds.length : Int)).toNat else min (-1 : Int).toNat ds.length) = _
    rw [if_pos (by decide)]
    omega
  rw [this]
theorem not_take {ds : List Da} {k : Nat} (h : k < ds.length) : ¬ (HT.sIx ds.length 0 none = 0 ∧ HT.sIx ds.length ds.length (some (k : Int)) = ds.length) := by
  rw [HT.sIx_nat, HT.sIx_none]
  omega
theorem not_drop {ds : List Da} {k : Nat} (h : 0 < k) (hd : 0 < ds.length) : ¬ (HT.sIx ds.length 0 (some (k : Int)) = 0 ∧ HT.sIx ds.length ds.length none = ds.length) := by
  rw [HT.sIx_nat, HT.sIx_none]
  omega
theorem not_init {ds : List Da} (h : 0 < ds.length) : ¬ (HT.sIx ds.length 0 none = 0 ∧ HT.sIx ds.length ds.length (some (-1)) = ds.length) := by
  rintro ⟨_, z⟩
  have : (if (-1 : Int) < 0 then ((-1 : Int) + (ds.length : Int)).toNat else min (-1 : Int).toNat ds.length) = ds.length := z
  rw [if_pos (by decide)] at this
  omega
end Dl


set_option Elab.async false
set_option linter.all false
set_option maxRecDepth 100000
set_option maxHeartbeats 4000000
/-! the law's beginning, an if that sets -/
namespace Dl
open PySem PySem.Spec PyProof.Rows L2
theorem wn_src {N : L2.St → Hp → Prop} {a d L : Addr} {H1 : Hp} (n : Nat) {σ : L2.St} (s : Src d L H1) (h : WN (wdS H1 (srY d L) d L (.inl rfl) (.inr rfl)) N (.un :: .da (.adr d) :: List.replicate n .un)) (hσ : σ = some (.ref a) :: some (.ref d) :: List.replicate n none := by rfl) : N σ H1 := by
  subst hσ
  refine h _ H1 ⟨.refl, (fun H2 m => by cases m), fun x hx => ?_, s, by simp, fun i o e h1 h2 => ?_, fun i k e f x hik h1 h2 m => ?_⟩
  · obtain ⟨cs, l, m, t, g1, g2, _⟩ := s.ex
    rcases hx with rfl | rfl
    · rw [g1]; exact fun z => nomatch z
    · rw [g2]; exact fun z => nomatch z
  · cases i with
    | zero => cases h2; trivial
    | succ i =>
      cases i with
      | zero => cases h1; cases h2; exact ⟨_, rfl, .adr d⟩
      | succ i =>
        rw [List.getElem?_cons_succ, List.getElem?_cons_succ, List.getElem?_replicate] at h2
        split at h2
        · cases h2; trivial
        · cases h2
  · cases i with
    | zero => cases h1; cases m
    | succ i =>
      cases i with
      | zero => cases h1; cases m
      | succ i =>
        rw [List.getElem?_cons_succ, List.getElem?_cons_succ, List.getElem?_replicate] at h1
        split at h1
        · cases h1; cases m
        · cases h1
theorem cutD_takeG {ds : List Da} {k : Nat} : cutD ds none (some (k : Int)) = ds.take k := by
  by_cases h : k ≤ ds.length
  · exact cutD_take h
  · unfold cutD
    rw [HT.sIx_nat, HT.sIx_none, List.drop_zero, Nat.sub_zero, Nat.min_eq_right (by omega), List.take_of_length_le (Nat.le_refl _), List.take_of_length_le (by omega)]
theorem cutD_dropG {ds : List Da} {k : Nat} : cutD ds (some (k : Int)) none = ds.drop k := by
  by_cases h : k ≤ ds.length
  · exact cutD_drop h
  · unfold cutD
    rw [HT.sIx_nat, HT.sIx_none, Nat.min_eq_right (by omega), List.drop_eq_nil_of_le (Nat.le_refl _), List.drop_eq_nil_of_le (by omega), List.take_nil]
section
variable {W : Wd} {ρ : List En} {te : TE} {tt : TT} {D : Ends} {i : Nat}
/-- new().append(e), as a value -/
theorem we_appN {K : PySem.W.Frag} {ta : TE} {Φ : Da → Prop} (h : WW W te ρ fun d => ∃ ds, d = .lst ds ∧ ds.length < 1000000 ∧ WE W ta ρ fun _ => Φ .non) : WE W (tBM K "list" rAppend te (tCons ta tNil)) ρ Φ := fun σ H s Q q =>
  h σ H s _ fun l H1 d ⟨ds, ed, ln, h1⟩ nl k1 j1 o => by
    subst ed
    obtain ⟨vs, hv, rv⟩ := o
    refine ⟨.inl ⟨rfl, _, SqL.of hv⟩, h1 σ H1 (s.step k1 j1) _ fun v H2 y f k2 j2 r2 => ?_⟩
    have nY : ¬ W.Y l := fun z => s.al l (W.y l z) nl
    have hv2 := k2.a _ _ hv nY
    exact ⟨l, vs, v, rfl, rfl, hv2, by rw [rv.len, sizeLine_eq]; omega, q _ _ _ f ((k1.trans k2).mut nl) (W.jd H2 _ (fun a o ya ha => by rw [upd_ne (show a ≠ l from fun c => nY (c ▸ ya))]; exact ha) j2) .non⟩
/-- if test: x = e -/
theorem wn_ifAsg (C : Da → Prop) {d0 : Da} (hi : ρ[i]? = some (.da d0)) (h : WT W.vw tt (ρ.map vwE) fun b => if b = true then WE W te ρ C else C d0) (k : ∀ y, C y → WN W D.nx (ρ.set i (.da y))) : WN W (tIfS tt (tAsg te (gName i)) tNext D) ρ := by
  refine wn_if (h.mono fun b hb => ?_)
  cases b with
  | true =>
    have hb : WE W te ρ C := hb
    exact wn_asg (hb.mono k)
  | false =>
    have hb : C d0 := hb
    have z := k d0 hb
    have e : ρ.set i (.da d0) = ρ := by
      obtain ⟨hl, e⟩ := List.getElem?_eq_some_iff.mp hi
      rw [← e, List.set_getElem_self]
    rw [e] at z
    exact wn_next z
end
section
variable {P : Program} {w : World} {K : PySem.W.Frag} {mg : Str → Option Value} {base : Heap}
/-- a promise for each depth, as one -/
def upTo (N : Nat) (sp : Nat → Sp) : Sp := fun vs H Q E => ∃ n, n ≤ N ∧ sp n vs H Q E
theorem fn_up {k f fd} {ps : List Str} {CX : CXT} {N : Nat} {sp : Nat → Sp} (h : ∀ n, n ≤ N → FnOk P w K mg base CX k f fd ps (sp n)) : FnOk P w K mg base CX k f fd ps (upTo N sp) :=
  ⟨fun vs H Q E ⟨n, d, z⟩ => (h n d).len vs H Q E z, fun A outer s H args us vs Q E hr e0 hb hv ⟨n, d, z⟩ => (h n d).run A outer s H args us vs Q E hr e0 hb hv z⟩
end
end Dl


set_option Elab.async false
set_option linter.all false
set_option maxRecDepth 100000
set_option maxHeartbeats 4000000
/-! comprehensions with two fors -/
namespace StX
open PySem PySem.Spec PyProof.Rows L2
theorem pa_starK {X : Cx} {e : Expr} {te : TE} {es : List Expr} {t : TA} {p : Pos} (K : PySem.W.Frag) (he : PE X e te) (hr : PA X es t) (hs : starEach (.Starred e p :: es) X.env = (true, eval e X.env) :: starEach es X.env := by rfl) (hK : X.K = K := by rfl) : PA X (.Starred e p :: es) (tStar K te t) := by
  subst hK
  exact pa_star he hr hs
end StX
namespace L2
open PySem PySem.Spec PyProof.Rows
/-- a list or a tuple walked -/
def iSeq (K : PySem.W.Frag) (tl : TE) : TI := fun σ H R => tl σ H fun x H1 => ∃ a, x = .ref a ∧ (((∃ xs, SqL K H1 a xs) ∧ R (Itl K a) H1) ∨ ((∃ xs, SqT K H1 a xs) ∧ R (Itt K a) H1))
theorem pi_seq {X : Cx} {tg l : Expr} {tl : TE} (K : PySem.W.Frag) (hl : PE X l tl) (hK : X.K = K := by rfl) : PI X tg l (iSeq K tl) := by
  subst hK
  refine ⟨fun pins s σ H R I h => ?_⟩
  refine thn (hl.run pins s σ H _ I h) fun v s1 ⟨x, H1, I1, r1, q1⟩ => ?_
  obtain ⟨a, e, q⟩ := q1
  subst e
  cases r1
  rcases q with ⟨⟨xs, hq⟩, q⟩ | ⟨⟨xs, hq⟩, q⟩
  · obtain ⟨its, rv, p, hz⟩ := I1.list hq
    refine wpAny_pyIter_list p.isList ?_
    refine ⟨s1.heap.objs.size, [s1.heap.objs.size], _, _, H1, rfl, I1.kept (t' := s1.toks) fun b o e => Heap.get?_push_of_some _ e, turn_list a _, ⟨_, Heap.get?_push_size _ rfl, rfl, rfl⟩, fun b hb => ?_, q⟩
    have e : b = s1.heap.objs.size := by simpa using hb
    subst e
    exact I1.fpOk (Nat.le_refl _) (I1.hok.fresh (Nat.le_refl _))
  · obtain ⟨its, rv, p, hz⟩ := I1.tuple hq
    refine wpAny_pyIter_tuple (show s1.heap.IsTuple a its.toArray from p) ?_
    refine ⟨s1.heap.objs.size, [s1.heap.objs.size], _, _, H1, rfl, I1.kept (t' := s1.toks) fun b o e => Heap.get?_push_of_some _ e, turn_tuple a _, ⟨_, Heap.get?_push_size _ rfl, rfl, rfl⟩, fun b hb => ?_, q⟩
    have e : b = s1.heap.objs.size := by simpa using hb
    subst e
    exact I1.fpOk (Nat.le_refl _) (I1.hok.fresh (Nat.le_refl _))
theorem pi_tupK {X : Cx} {tg l : Expr} {tl : TE} (K : PySem.W.Frag) (hl : PE X l tl) (hK : X.K = K := by rfl) : PI X tg l (iTup K tl) := by
  subst hK
  exact pi_tup hl
end L2
namespace Dl
open PySem PySem.Spec PyProof.Rows L2
section
variable {W : Wd} {ρ : List En} {K : PySem.W.Frag} {te : TE} {wi wi1 : TI} {g g1 : TG} {vs vs1 S S1 : List Nat} {Φ : Da → Prop}
/-- an own object that no slot holds turns -/
theorem Sl.mutD {H H' : Hp} {σ : L2.St} {D : Addr} (s : Sl (W.own D) H σ ρ) (nd : ∀ e ∈ ρ, e.mut ≠ some D) (nX : ¬ W.X0 D) (h0 : W.h0 D = none) (k : Kp (fun a => W.Y a ∨ a = D) H H') (j : W.J H') : Sl (W.own D) H' σ ρ := by
  have kx : Kp (W.own D).X H H' := k.sub fun a z => z.elim (fun y => .inl (W.y a y)) .inr
  refine ⟨⟨fun a o q n => k.a a o (s.k0.a a o q n) fun z => z.elim n fun e => ne_of_none q h0 e, fun a h => k.b a (s.k0.b a h)⟩, fun H1 m => (s.fr H1 m).trans (k.sub fun a z => z.elim .inl fun e => .inr ⟨.inr e, fun x => nX (e ▸ x)⟩), fun a z => k.b a (s.al a z), j, s.len, fun i o e h1 h2 => ?_, s.nd⟩
  have z := s.at_ i o e h1 h2
  have ne := nd e (List.mem_of_getElem? h2)
  cases e with
  | un => trivial
  | da d => exact z.imp fun v q => ⟨q.1, q.2.kp kx⟩
  | ml l ds =>
    obtain ⟨q1, q2, q3, q0, us, q4, q5⟩ := z
    exact ⟨q1, q2, q3, q0, us, k.a _ _ q4 fun z => z.elim (fun y => q3 (W.sy _ y)) fun e => ne (e ▸ rfl), q5.kp kx⟩
  | md l ds =>
    obtain ⟨q1, q2, q3, q0, us, q4, q5⟩ := z
    exact ⟨q1, q2, q3, q0, us, k.a _ _ q4 fun z => z.elim (fun y => q3 (W.sy _ y)) fun e => ne (e ▸ rfl), q5.kp kx⟩
theorem wipeE_mut {a : Addr} : ∀ (vs : List Nat) {ρ : List En}, (∃ e ∈ wipeE ρ vs, e.mut = some a) → ∃ e ∈ ρ, e.mut = some a
  | [], _, h => h
  | v :: vs, ρ, ⟨e, he, m⟩ => by
    have he : e ∈ (wipeE ρ vs).set v .un := he
    rcases List.mem_or_eq_of_mem_set he with he | he
    · exact wipeE_mut vs ⟨e, he, m⟩
    · subst he; cases m
theorem fm_len {α β : Type} {m : α → List β} {f : α → β → Da} : ∀ l : List α, (∀ a ∈ l, (m a).length ≤ 1000) → (l.flatMap fun a => (m a).map (f a)).length ≤ 1000 * l.length
  | [], _ => by simp
  | a :: r, h => by
    have := fm_len (f := f) r fun b hb => h b (List.mem_cons_of_mem _ hb)
    have := h a List.mem_cons_self
    rw [List.flatMap_cons, List.length_append, List.length_map, List.length_cons]
    omega
theorem ww_lc2T (hS : ∀ s ∈ S, s ∈ vs) (hS1 : ∀ s ∈ S1, s ∈ vs1) (h : WI W wi ρ fun ds => ∃ (α β : Type) (l : List α) (enc : α → Da) (m : α → List β) (enc1 : α → β → Da) (f : α → β → Da), ds = l.map enc ∧ l.length ≤ 900 ∧ (∀ a ∈ l, (m a).length ≤ 1000) ∧
    (∀ a D, a ∈ l → WG S g (wipeE ρ vs) (enc a) fun ρ2 => ρ2.map En.mut = (wipeE ρ vs).map En.mut ∧ WI (W.own D) wi1 ρ2 fun es => es = (m a).map (enc1 a) ∧ ∀ b, b ∈ m a → WG S1 g1 (wipeE ρ2 vs1) (enc1 a b) fun ρ3 => WE (W.own D) te ρ3 fun y => y = f a b) ∧
    Φ (.lst (l.flatMap fun a => (m a).map (f a)))) : WW W (tLc2 wi g tYes wi1 g1 tYes te vs vs1) ρ Φ := fun σ H s Q q => by
  refine h σ H s _ fun J H1 ds G Y ⟨α, β, l, enc, m, enc1, f, ed, hn, hm, hf, fin⟩ k1 j1 w hG hY => fun D hD => ?_
  have s1 := s.step k1 j1
  have nX : ¬ W.X D := fun z => s1.al D z hD
  have nX0 : ¬ W.X0 D := fun z => nX (W.s0 D z)
  have hY' : ¬ W.Y D := fun z => nX (W.y D z)
  have h0 : W.h0 D = none := s1.k0.free hD
  have jd : ∀ {H2 : Hp} {u : HO}, W.J H2 → W.J (upd H2 D u) := fun {H2 u} j => W.jd H2 _ (fun a o ya h => by rw [upd_ne (show a ≠ D from fun c => hY' (c ▸ ya))]; exact h) j
  have noD : ∀ e ∈ ρ, e.mut ≠ some D := fun e he z => by
    obtain ⟨i, hi⟩ := List.mem_iff_getElem?.mp he
    obtain ⟨o, _, g⟩ := s1.get hi
    cases e with
    | un => cases z
    | da d => cases z
    | ml l' ds => cases z; exact nX g.2.1
    | md l' ds => cases z; exact nX g.2.1
  have ld : ds.length = l.length := by rw [ed, List.length_map]
  refine ⟨fun i k H' => k = ds.length - i ∧ i ≤ ds.length ∧ ∃ us, H' D = some (.lst us) ∧ Rps (W.own D).X H' us ((l.take i).flatMap fun a => (m a).map (f a)) ∧ Kp W.Y H1 H' ∧ W.J H', ⟨ds.length, by simp, Nat.zero_le _, [], upd_same, .nil, .new hD, W.jsame (same_upd hD) j1⟩, ?_⟩
  rintro i k H' ⟨rfl, hi, us, hus, r, kk, j⟩
  have gH := hG H' (kk.sub W.y)
  by_cases hlt : i < ds.length
  · refine .inr ⟨w.goes i H' hlt gH, fun H2 => ∃ us, H2 D = some (.lst us) ∧ Rps (W.own D).X H2 us ((l.take (i + 1)).flatMap fun a => (m a).map (f a)) ∧ Kp W.Y H1 H2 ∧ W.J H2, fun H2 p => ⟨ds.length - (i + 1), by omega, rfl, hlt, p⟩, fun x H2 y => ?_⟩
    obtain ⟨e, d, hd, hx⟩ := hY i H' x H2 (kk.sub W.y) (w.yields i H' x H2 hlt gH y)
    rw [ed, List.getElem?_map, Option.map_eq_some_iff] at hd
    obtain ⟨a, ha, rfl⟩ := hd
    have hil : i < l.length := by omega
    have tk : (l.take (i + 1)).flatMap (fun a => (m a).map (f a)) = (l.take i).flatMap (fun a => (m a).map (f a)) ++ (m a).map (f a) := by
      rw [List.take_add_one, ha, List.flatMap_append]
      simp
    have lacc : ((l.take i).flatMap fun a => (m a).map (f a)).length ≤ 1000 * i := by
      have z := fm_len (m := m) (f := f) (l.take i) fun b hb => hm b (List.mem_of_mem_take hb)
      rw [List.length_take] at z
      exact Nat.le_trans z (Nat.mul_le_mul_left _ (Nat.min_le_left _ _))
    have la := hm a (List.mem_of_getElem? ha)
    have al : H' D ≠ none := by rw [hus]; exact fun z => nomatch z
    have k2 : Kp W.Y H1 H2 := kk.trans (.same e)
    have hus2 := e _ _ hus
    have j2 := W.jsame e j
    have sl := s1.own hD kk j al
    have sl2 := s1.own hD k2 j2 (by rw [hus2]; exact fun z => nomatch z)
    refine hf a D (List.mem_of_getElem? ha) (W.own D) x _ H2 (sl2.wipe vs) (hx _ (fun a h => .inl h) (to_own hD kk) sl.al) _ fun σ2 ρ2 ⟨em, f1⟩ s' wp => ⟨(wp vs hS).trans wipe_wipe, ?_⟩
    unfold tYes
    dsimp only
    rw [if_pos rfl]
    have noD2 : ∀ e ∈ ρ2, e.mut ≠ some D := fun e he z => by
      have : some D ∈ (wipeE ρ vs).map En.mut := em ▸ List.mem_map.mpr ⟨e, he, z⟩
      obtain ⟨e2, he2, z2⟩ := List.mem_map.mp this
      obtain ⟨e3, he3, z3⟩ := wipeE_mut vs ⟨e2, he2, z2⟩
      exact noD e3 he3 z3
    refine f1 σ2 H2 s' _ fun J1 H4 es G1 Y1 ⟨ee, f2⟩ k4 j4 w1 hG1 hY1 => ?_
    have hus4 := k4.a _ _ hus2 hY'
    have s4 := s'.step k4 j4
    have les : es.length = (m a).length := by rw [ee, List.length_map]
    refine ⟨fun n k H3 => k = es.length - n ∧ n ≤ es.length ∧ ∃ us, H3 D = some (.lst us) ∧ Rps (W.own D).X H3 us ((l.take i).flatMap (fun a => (m a).map (f a)) ++ ((m a).take n).map (f a)) ∧ Kp W.Y H1 H3 ∧ Kp (fun a => W.Y a ∨ a = D) H4 H3 ∧ W.J H3,
      ⟨es.length, by simp, Nat.zero_le _, us, hus4, ?_, k2.trans k4, .refl, j4⟩, ?_⟩
    · rw [List.take_zero, List.map_nil, List.append_nil]
      exact (r.kp (.same e)).kp (k4.sub (W.own D).y)
    rintro n k H3 ⟨rfl, hn2, us3, hus3, r3, k3, kd3, j3⟩
    have kx3 : Kp (W.own D).X H4 H3 := kd3.sub fun a z => z.elim (fun y => .inl (W.y a y)) .inr
    have g3 := hG1 H3 kx3
    by_cases hlt2 : n < es.length
    · refine .inr ⟨w1.goes n H3 hlt2 g3, fun H5 => ∃ us, H5 D = some (.lst us) ∧ Rps (W.own D).X H5 us ((l.take i).flatMap (fun a => (m a).map (f a)) ++ ((m a).take (n + 1)).map (f a)) ∧ Kp W.Y H1 H5 ∧ Kp (fun a => W.Y a ∨ a = D) H4 H5 ∧ W.J H5, fun H5 p => ⟨es.length - (n + 1), by omega, rfl, hlt2, p⟩, fun x2 H5 y2 => ?_⟩
      obtain ⟨e5, d2, hd2, hx2⟩ := hY1 n H3 x2 H5 kx3 (w1.yields n H3 x2 H5 hlt2 g3 y2)
      rw [ee, List.getElem?_map, Option.map_eq_some_iff] at hd2
      obtain ⟨b, hb, rfl⟩ := hd2
      have s3 := s4.mutD noD2 nX0 h0 kd3 j3
      have s5 : Sl (W.own D) H5 σ2 ρ2 := s3.step (.same e5) (W.jsame e5 j3)
      have rx := hx2 (W.own D).X (fun a h => h) (.kp kx3) s3.al
      refine f2 b (List.mem_of_getElem? hb) (W.own D) x2 _ H5 (s5.wipe vs1) rx _ fun σ3 ρ3 f3 s6 wp1 => ⟨(wp1 vs1 hS1).trans wipe_wipe, ?_⟩
      rw [if_pos rfl]
      refine f3 σ3 H5 s6 _ fun y3 H7 d3 ey k7 j7 r7 => ?_
      subst ey
      have hus7 := k7.a _ _ (e5 _ _ hus3) hY'
      have u7 : ∀ u, Kp (W.own D).X H7 (upd H7 D u) := fun u => Kp.refl.upd (.inr rfl)
      have tk2 : ((m a).take (n + 1)).map (f a) = ((m a).take n).map (f a) ++ [f a b] := by
        rw [List.take_add_one, hb, List.map_append]
        rfl
      refine ⟨us3, hus7, ?_, us3 ++ [y3], upd_same, ?_, ((k3.trans (.same e5)).trans k7).mut hD, (((kd3.trans (.same e5)).trans (k7.sub fun a z => .inl z)).trans (Kp.refl.upd (.inr rfl))), jd j7⟩
      · rw [r3.len, List.length_append, List.length_map, List.length_take, sizeLine_eq]
        omega
      · rw [tk2, ← List.append_assoc]
        exact ((((r3.kp (.same e5)).kp (k7.sub (W.own D).y)).kp (u7 _)).app (.one (r7.kp (u7 _))))
    · have en : n = es.length := by omega
      subst en
      refine .inl ⟨w1.stops H3 g3, us3, hus3, ?_, k3, j3⟩
      rw [les, List.take_length] at r3
      rw [tk]
      exact r3
  · have e : i = ds.length := by omega
    subst e
    rw [ld, List.take_length] at r
    exact .inl ⟨w.stops H' gH, q D _ _ fin (k1.free hD) (k1.trans kk) j ⟨us, hus, r⟩⟩
end
section
variable {W : Wd} {ρ : List En} {K : PySem.W.Frag} {te : TE} {Φ : List Da → Prop}
theorem wi_seq (h : WE W te ρ fun x => ∃ ds, (x = .lst ds ∨ x = .tup ds) ∧ Φ ds) : WI W (iSeq K te) ρ Φ := fun σ H s R q =>
  h σ H s _ fun v H1 x ⟨ds, e, f⟩ k1 j1 r1 => by
    rcases e with rfl | rfl
    · cases r1 with
      | @lst a vs _ ha n r => exact ⟨a, rfl, .inl ⟨⟨vs, SqL.of ha⟩, q _ H1 ds _ _ f k1 j1 (by rw [← r.len]; exact walk_list (xs := vs)) (fun H' k => SqL.of (k.a _ _ ha n)) fun i H2 x H3 k y => yat_list r y⟩⟩
    · cases r1 with
      | @tup a vs _ ha n r => exact ⟨a, rfl, .inr ⟨⟨vs, SqT.of ha⟩, q _ H1 ds _ _ f k1 j1 (by rw [← r.len]; exact walk_tup (xs := vs)) (fun H' k => SqT.of (k.a _ _ ha n)) fun i H2 x H3 k y => yat_list r y⟩⟩
end
end Dl


set_option Elab.async false
set_option linter.all false
set_option maxRecDepth 100000
set_option maxHeartbeats 4000000
namespace K43
open PySem PySem.Spec PyProof.Rows L2 Evl NdefX
/-- the errors that an algebra raises -/
structure ErrC (P : Program) (K : PySem.W.Frag) (mg : Str → Option Value) (Ca Cc Cm Cs fm qm cm fs qs cs : Addr) (dm ds : FuncData) : Prop where
  xa : X0 K mg "BadAlgebra" Ca "ValueError" "ValueError.__new__" "ValueError.__init__" [.type "ValueError", .type "Exception", .type "BaseException", .type "object"]
  xc : X0 K mg "BadCount" Cc "ValueError" "ValueError.__new__" "ValueError.__init__" [.type "ValueError", .type "Exception", .type "BaseException", .type "object"]
  xm : XI P K mg "UnknownMember" "UnknownMember.__init__" (inClass (top 5) 0) ["self", "name"] Cm fm qm cm "LookupError" "LookupError.__new__" "LookupError.__init__" [.type "LookupError", .type "Exception", .type "BaseException", .type "object"] dm
  xs : XI P K mg "UnknownSign" "UnknownSign.__init__" (inClass (top 6) 0) ["self", "name"] Cs fs qs cs "LookupError" "LookupError.__new__" "LookupError.__init__" [.type "LookupError", .type "Exception", .type "BaseException", .type "object"] ds
  nm : PySem.W.findIn K (.ref Cm) "name" = some none
  ns : PySem.W.findIn K (.ref Cs) "name" = some none
section
variable {P : Program} {w : World} {K : PySem.W.Frag} {mg : Str → Option Value} {base : Heap} {C f cc c : Addr} {B nI iI : String} {bB : List Value} {fd : FuncData}
theorem init_UnknownMember (T : XI P K mg "UnknownMember" "UnknownMember.__init__" (inClass (top 5) 0) ["self", "name"] C f cc c B nI iI bB fd) (hno : PySem.W.findIn K (.ref C) "name" = some none) : FnOk P w K mg base (L2.CX P w) 1 f fd ["self", "name"] (spNm C) := by
  obtain ⟨oc, od, osl, kV, doc, pm, an, ct, rfl, lk⟩ := T.lk
  exact ok_nm T.xb T.xc T.xs (by decide +kernel) hno ⟨_, fun _ => rfl⟩ lk T.cd
theorem init_UnknownSign (T : XI P K mg "UnknownSign" "UnknownSign.__init__" (inClass (top 6) 0) ["self", "name"] C f cc c B nI iI bB fd) (hno : PySem.W.findIn K (.ref C) "name" = some none) : FnOk P w K mg base (L2.CX P w) 1 f fd ["self", "name"] (spNm C) := by
  obtain ⟨oc, od, osl, kV, doc, pm, an, ct, rfl, lk⟩ := T.lk
  exact ok_nm T.xb T.xc T.xs (by decide +kernel) hno ⟨_, fun _ => rfl⟩ lk T.cd
end
/-- an algebra as value() wants it -/
structure WfA (xs : List Str) (os : List Opn) : Prop where
  l1 : 1 ≤ xs.length
  l64 : xs.length ≤ 64
  nd : xs.Nodup
  no : (os.map (·.1)).Nodup
  va : ∀ o ∈ os, o.2.1 ≤ 3 ∧ o.2.2.length = xs.length ^ o.2.1 ∧ ∀ y ∈ o.2.2, y ∈ xs
theorem pow_le64 {n k : Nat} (hn : n ≤ 64) (hk : k ≤ 3) : n ^ k ≤ 262144 := Nat.le_trans (Nat.pow_le_pow_left hn k) (Nat.le_trans (Nat.pow_le_pow_right (by decide) hk) (by decide))
theorem WfA.of {xs : List Str} {os : List Opn} (m : GoodM xs) (o : GoodO xs os) : WfA xs os := ⟨m.lo, Nat.le_trans m.hi (by decide), m.nd, o.nd, fun p hp => ⟨Nat.le_trans (o.va p hp).ar (by decide), (o.va p hp).sz, (o.va p hp).el⟩⟩
/-- an own error with a name is raised -/
def RaiseNm (C : Addr) (nm : Str) (H : Hp) (E : XK) : Prop := ∀ d H', H d = none → Same H H' → H' d = some (.xd [("name", .str nm)]) → E (.ref C) (some d) H'
/-- what value() tells -/
inductive Out where
  | ok (v : Str) | sign | count | member (a : Str)
def rowOf (xs as : List Str) : Nat := as.foldl (fun r a => r * xs.length + xs.idxOf a) 0
def valOut (xs : List Str) (os : List Opn) (sg : Str) (as : List Str) : Out := match os.find? fun o => o.1 == sg with
  | none => .sign
  | some o => if as.length ≠ o.2.1 then .count else match as.find? fun a => !xs.contains a with
    | some a => .member a
    | none => .ok (o.2.2.getD (rowOf xs as) Str.empty)
theorem find_first {α : Type} {p : α → Bool} {l : List α} {i : Nat} (h : i < l.length) (no : ∀ a ∈ l.take i, p a = false) (yes : p l[i] = true) : l.find? p = some l[i] := by
  have e2 : l.take i ++ l[i] :: l.drop (i + 1) = l := by rw [← List.drop_eq_getElem_cons h, List.take_append_drop]
  have z : (l.take i ++ l[i] :: l.drop (i + 1)).find? p = some l[i] := by
    rw [List.find?_append, List.find?_eq_none.mpr fun a ha => by simp [no a ha], Option.none_or, List.find?_cons]
    simp only [yes]
  rw [e2] at z
  exact z
theorem row_more (xs as : List Str) (a : Str) : rowOf xs (as ++ [a]) = rowOf xs as * xs.length + xs.idxOf a := by
  unfold rowOf
  rw [List.foldl_append]
  rfl
theorem row_lt' {xs : List Str} : ∀ (as : List Str) (r : Nat), (∀ a ∈ as, a ∈ xs) → as.foldl (fun r a => r * xs.length + xs.idxOf a) r < (r + 1) * xs.length ^ as.length
  | [], r, _ => by simp
  | a :: rest, r, h => by
    have h1 : xs.idxOf a < xs.length := List.idxOf_lt_length_of_mem (h a List.mem_cons_self)
    have ih := row_lt' rest (r * xs.length + xs.idxOf a) fun b hb => h b (List.mem_cons_of_mem _ hb)
    rw [List.foldl_cons, List.length_cons, Nat.pow_succ]
    refine Nat.lt_of_lt_of_le ih ?_
    rw [Nat.mul_comm (xs.length ^ rest.length) xs.length, ← Nat.mul_assoc]
    refine Nat.mul_le_mul_right _ ?_
    rw [Nat.add_mul, Nat.one_mul]
    omega
theorem row_lt {xs as : List Str} (h : ∀ a ∈ as, a ∈ xs) : rowOf xs as < xs.length ^ as.length := by
  have z := row_lt' as 0 h
  rw [Nat.zero_add, Nat.one_mul] at z
  exact z
theorem idx_at {xs : List Str} (nd : xs.Nodup) {a : Str} (h : a ∈ xs) : valV (plK xs) (Sum.inr a) = some (.int (xs.idxOf a : Nat)) := by
  have hi : xs.idxOf a < xs.length := List.idxOf_lt_length_of_mem h
  have z := pl_in nd hi
  rw [List.getElem_idxOf] at z
  exact z
theorem op_idx {os : List Opn} {o : Opn} (h : o ∈ os) : ∃ j, j < os.length ∧ os.getD j o0 = o := by
  obtain ⟨j, hj, e⟩ := List.mem_iff_getElem.mp h
  exact ⟨j, hj, by rw [List.getD_eq_getElem?_getD, List.getElem?_eq_getElem hj]; exact e⟩
theorem ar_at {os : List Opn} (nd : (os.map (·.1)).Nodup) {o : Opn} (h : o ∈ os) : valV (arK os) (Sum.inr o.1) = some (.int (o.2.1 : Int)) := by
  obtain ⟨j, hj, e⟩ := op_idx h
  have z := val_at (n := os.length) (k := fun i => Sum.inr (os.getD i o0).1) (v := fun i => V.int ((os.getD i o0).2.1 : Int)) (fun i j hi hj e => sign_ne nd hi hj e) hj
  rw [e] at z
  exact z
theorem ar_no {os : List Opn} {y : Str} (h : ∀ o ∈ os, o.1 ≠ y) : valV (arK os) (Sum.inr y) = none := by
  refine val_no fun i hi e => ?_
  have e := Sum.inr.inj e
  rw [List.getD_eq_getElem?_getD, List.getElem?_eq_getElem hi] at e
  exact h _ (List.getElem_mem hi) e
theorem tb_at {os : List Opn} {ls : List Addr} (nd : (os.map (·.1)).Nodup) (hl : ls.length = os.length) {o : Opn} (h : o ∈ os) : ∃ (j : Nat) (l : Addr), valV (tbK os ls) (Sum.inr o.1) = some (.ref l) ∧ ls[j]? = some l ∧ os.getD j o0 = o := by
  obtain ⟨j, hj, e⟩ := op_idx h
  have z := val_at (n := os.length) (k := fun i => Sum.inr (os.getD i o0).1) (v := fun i => V.ref (ls.getD i 0)) (fun i j hi hj e => sign_ne nd hi hj e) hj
  rw [e] at z
  have hj2 : j < ls.length := by omega
  have z : valV (tbK os ls) (Sum.inr o.1) = some (.ref (ls.getD j 0)) := z
  exact ⟨j, ls[j], by rw [z, List.getD_eq_getElem?_getD, List.getElem?_eq_getElem hj2]; rfl, List.getElem?_eq_getElem hj2, e⟩
section
variable {P : Program} {w : World} {K : PySem.W.Frag} {mg : Str → Option Value} {base : Heap} {Ca Cc Cm Cs fm qm cm fs qs cs : Addr} {dm ds : FuncData}
def spVal (K : PySem.W.Frag) (C Cc Cm Cs : Addr) : Sp := fun vs H Q E => ∃ (x l : Addr) (sg : Str) (as xs : List Str) (os : List Opn), vs = [.ref x, .str sg, .ref l] ∧ AlgAt C x xs os H ∧ (SqL K H l (as.map V.str) ∨ SqT K H l (as.map V.str)) ∧ as.length ≤ 1000 ∧ WfA xs os ∧ Wee sg ∧ (∀ a ∈ as, Wee a) ∧
  match valOut xs os sg as with
  | .ok v => Q (.str v) H
  | .sign => RaiseNm Cs sg H E
  | .count => E (.ref Cc) none H
  | .member a => RaiseNm Cm a H E
theorem raise_nm {nm : Str} {C : Addr} {H : Hp} {E : XK} (hw : Wee nm) (k : RaiseNm C nm H E) : ∀ a, H a = none → spNm C (.ref a :: ([.str nm] ++ [])) (upd H a (exo a C none))
    (fun v H2 => v = .non ∧ ∃ (d : Addr) (fs : List (Str × V)), H2 a = some (exo a C (some d)) ∧ H2 d = some (exd d fs) ∧ H d = none ∧ E (.ref C) (some d) (upd (del H2 a) d (.xd fs))) (fun _ _ _ => False) := fun a na => by
  refine ⟨a, nm, rfl, hw, upd_same, fun dx hd ne => ⟨rfl, dx, [("name", .str nm)], upd_same, by rw [upd_ne ne, upd_same], (same_upd na).free hd, k dx _ ((same_upd na).free hd) (fun b o q => ?_) upd_same⟩⟩
  have nb : b ≠ a := ne_of_none q na
  have nd : b ≠ dx := ne_of_none (same_upd na _ _ q) hd
  rw [upd_ne nd]
  unfold del
  rw [if_neg nb, upd_ne nb, upd_ne nd, upd_ne nb]
  exact q
abbrev s_Algebra_value : Stmt := inClass (top 16) 3
abbrev N_Algebra_value : List Str := ["self", "sign", "arguments", "row", "name"]
theorem sc_Algebra_value : FnScope N_Algebra_value ["self", "sign", "arguments"] (defScope s_Algebra_value) := ⟨rfl, rfl, rfl, by decide +kernel, rfl, by decide +kernel, by decide +kernel⟩
theorem ok_value {C f : Addr} {fd fh : FuncData} {fa : Addr} (F : Fun K "value" "Algebra.value" s_Algebra_value f fd) (T : Blt mg) (c : AlgC K C) (U : ErrC P K mg Ca Cc Cm Cs fm qm cm fs qs cs dm ds) (mh : Meth K C "__contains__" fa) (F_has : FnOk P w K mg base (L2.CX P w) 1 fa fh ["self", "name"] (spHasM C)) (b_has : Binds K fh ["self", "name"] []) :
    FnOk P w K mg base (L2.CX P w) 3 f fd ["self", "sign", "arguments"] (spVal K C Cc Cm Cs) := by
  have F_mb : FnOk P w K mg base (L2.CX P w) 1 fm dm ["self", "name"] (spNm Cm) := init_UnknownMember U.xm U.nm
  have F_sg : FnOk P w K mg base (L2.CX P w) 1 fs ds ["self", "name"] (spNm Cs) := init_UnknownSign U.xs U.ns
  refine F.okX sc_Algebra_value (fun vs H Q E h => ?_) (fun cdv A outer s H vs Q E hr h => ?_)
  · obtain ⟨x, l, sg, as, xs, os, rfl, _⟩ := h
    rfl
  · obtain ⟨x, l, sg, as, xs, os, rfl, al, hl, la, wf, ws, wa, k⟩ := h
    have hu := hu_of hr
    have hu64 := hu64_of hr
    refine ⟨_, (pss_cons (ps_if (pt_cmp (pc_dnotin hu (pv 1) (pe_fld (pv 0) rfl))) (pss_one (ps_raise rfl (takes_of rfl rfl rfl rfl) (U.xs.pmk F_sg (hr.mono (by decide)) (by rfl) (pa_cons (pv 1) pa_nil)))) pss_nil)
      (pss_cons (ps_if (pt_cmpR op_ne (pe_callB (call_lenK K) (by rfl) T.len (by decide +kernel) (pa_cons (pv 2) pa_nil)) (pe_dget hu (pe_fld (pv 0) rfl) (pv 1) (fun _ _ => rfl)) (nomark _)) (pss_one (ps_raise rfl (takes_of rfl rfl rfl rfl) (U.xc.pmk (by rfl)))) pss_nil)
      (pss_cons (ps_set (i := 3) sc_Algebra_value.nd rfl (Or.inl rfl) (pe_int))
      (pss_cons (ps_for (passes_of rfl) rfl (by exact pi_seq K (pv 2)) (pg_name (i := 4) sc_Algebra_value.nd rfl (Or.inl rfl)) (pss_cons (ps_if (pt_cmpR (op_hasNot F_has (hr.mono (by decide)) b_has passL) (pv 4) (pv 0) rfl) (pss_one (ps_raise rfl (takes_of rfl rfl rfl rfl) (U.xm.pmk F_mb (hr.mono (by decide)) (by rfl) (pa_cons (pv 4) pa_nil)))) pss_nil)
      (pss_one (ps_set (i := 3) sc_Algebra_value.nd rfl (Or.inl rfl) (pe_op op_add (pe_op op_mul (pv 3) (pe_callB (call_lenK K) (by rfl) T.len (by decide +kernel) (pa_cons (pe_fld (pv 0) rfl) pa_nil))) (pe_dget hu (pe_fld (pv 0) rfl) (pv 4) (fun _ _ => rfl)))))))
      (pss_one (ps_ret (pe_ix (ix_listK K) (pe_dget hu (pe_fld (pv 0) rfl) (pv 1) (fun _ _ => rfl)) (pv 3) (fun _ _ => rfl)))))))), ?_⟩
    obtain ⟨dx, t, n, p, r, b, ss, ls, h1, h2, h3, h4, h5, h6, h7, h8, h9, h10⟩ := id al
    have l64 := wf.l64
    have l1 := wf.l1
    have hla : (as.map V.str).length = as.length := List.length_map _
    have hlx : (xs.map V.str).length = xs.length := List.length_map _
    refine ⟨_, rfl, _, rfl, x, C, dx, _, _, rfl, h1, c.cl, c.n4, rfl, r, _, rfl, DGet.k (k := Sum.inr sg) h7, _, rfl, ?_⟩
    unfold valOut at k
    cases hf : os.find? (fun o => o.1 == sg) with
    | none =>
      rw [hf] at k
      have no : ∀ o ∈ os, o.1 ≠ sg := fun o ho e => by
        have := List.find?_eq_none.mp hf o ho
        simp [e] at this
      rw [ar_no no]
      exact if_true_of rfl ⟨_, rfl, by show 1 ≤ 1000; decide, raise_nm ws k⟩
    | some o =>
      rw [hf] at k
      dsimp only at k
      have ho : o ∈ os := List.mem_of_find?_eq_some hf
      have es : o.1 = sg := by simpa using List.find?_some hf
      subst es
      rw [ar_at wf.no ho]
      refine if_false_of rfl ?_
      have g7 : DGet H r (kV (Sum.inr o.1)) (some (.int (o.2.1 : Int))) := by
        have z := DGet.k (k := Sum.inr o.1) h7
        rw [ar_at wf.no ho] at z
        exact z
      refine ⟨_, rfl, l, _, rfl, hl, _, rfl, x, C, dx, _, _, rfl, h1, c.cl, c.n4, rfl, _, rfl, r, _, rfl, g7, rfl, _, rfl, ?_⟩
      by_cases hne : as.length = o.2.1
      · rw [if_neg (by rw [hne]; simp)] at k
        refine if_false_of (by rw [hla, hne]; simp) ?_
        obtain ⟨ar, gsz, gel⟩ := wf.va o ho
        have pw : ∀ i, i ≤ as.length → xs.length ^ i ≤ 262144 := fun i hi => pow_le64 l64 (by omega)
        rcases hl with hl | hl <;> first | (refine ⟨_, rfl, l, rfl, .inl ⟨⟨_, hl⟩, ?_⟩⟩; obtain ⟨G, gG, w⟩ : ∃ G : Hp → Prop, G H ∧ Walk (Itl K l) (as.map V.str).length G (YAt (as.map V.str)) := ⟨fun H => SqL K H l _, hl, walk_list⟩) | (refine ⟨_, rfl, l, rfl, .inr ⟨⟨_, hl⟩, ?_⟩⟩; obtain ⟨G, gG, w⟩ : ∃ G : Hp → Prop, G H ∧ Walk (Itt K l) (as.map V.str).length G (YAt (as.map V.str)) := ⟨fun H => SqT K H l _, hl, walk_tup⟩)
        all_goals
          refine for_it w (Pv := fun i σ' H' => H' = H ∧ (∃ v, σ' = [some (.ref x), some (.str o.1), some (.ref l), some (.int (rowOf xs (as.take i) : Nat)), v]) ∧ ∀ a ∈ as.take i, a ∈ xs)
            ⟨rfl, ⟨none, rfl⟩, fun a h => by simp at h⟩ (fun i σ' H' _ p => p.1 ▸ gG) (fun i v σ' H' H2 hi p y => ?_) (fun σ' H' p => ?_)
          · obtain ⟨eH, ⟨v0, rfl⟩, hin⟩ := p
            have eH2 := y.1.trans eH
            have hi := y.2
            clear y
            subst H2
            subst H'
            have hi2 : i < as.length := by rw [← hla]; exact (List.getElem?_eq_some_iff.mp hi).1
            rw [List.getElem?_map, List.getElem?_eq_getElem hi2] at hi
            obtain rfl : V.str as[i] = v := Option.some.inj hi
            have hm : as[i] ∈ as := List.getElem_mem hi2
            have et : as.take (i + 1) = as.take i ++ [as[i]] := by rw [List.take_add_one, List.getElem?_eq_getElem hi2]; rfl
            refine gN ⟨_, rfl, _, rfl, x, C, dx, _, rfl, h1, mh, ⟨x, as[i], xs, os, rfl, al, wf.nd, _, rfl, _, rfl, ?_⟩⟩
            by_cases hx : as[i] ∈ xs
            · refine if_false_of (by rw [decide_eq_true hx]; rfl) ?_
              have lt := row_lt hin
              rw [List.length_take, Nat.min_eq_left (by omega)] at lt
              have := pw i (by omega)
              have g6 : DGet H p (kV (Sum.inr as[i])) (some (.int (xs.idxOf as[i] : Nat))) := by
                have z := DGet.k (k := Sum.inr as[i]) h6
                rw [idx_at wf.nd hx] at z
                exact z
              refine ⟨_, rfl, _, rfl, x, C, dx, _, _, rfl, h1, c.cl, c.n2, rfl, n, _, rfl, .inl (SqL.of h5), _, _, rfl, rfl, .inl ⟨by omega, by omega⟩, _, rfl, x, C, dx, _, _, rfl, h1, c.cl, c.n3, rfl, _, rfl, p, _, rfl, g6, _, _, rfl, rfl, ?_⟩
              refine gN ⟨rfl, ⟨some (.str as[i]), ?_⟩, fun a ha => ?_⟩
              · rw [et, row_more, hlx, Int.natCast_add, Int.natCast_mul]
                rfl
              · rw [et] at ha
                rcases List.mem_append.mp ha with z | z
                · exact hin a z
                · rw [List.mem_singleton.mp z]
                  exact hx
            · refine if_true_of (by rw [decide_eq_false hx]; rfl) ⟨_, rfl, by show 1 ≤ 1000; decide, raise_nm (wa _ hm) ?_⟩
              have fd : as.find? (fun a => !xs.contains a) = some as[i] := by
                exact find_first (p := fun a => !xs.contains a) hi2 (fun a ha => by simp [hin a ha]) (by simp [hx])
              rw [fd] at k
              exact k
          · obtain ⟨eH, ⟨v0, rfl⟩, hin⟩ := p
            subst H'
            rw [hla, List.take_length] at hin ⊢
            obtain ⟨j, tl, g1, g2, g3⟩ := tb_at wf.no h9 ho
            have g8 : DGet H b (kV (Sum.inr o.1)) (some (.ref tl)) := by
              have z := DGet.k (k := Sum.inr o.1) h8
              rw [g1] at z
              exact z
            have ht := h10 j tl g2
            rw [g3] at ht
            have lt := row_lt hin
            have lt2 : rowOf xs as < o.2.2.length := by rw [gsz, ← hne]; exact lt
            have fn : as.find? (fun a => !xs.contains a) = none := List.find?_eq_none.mpr fun a ha => by simp [hin a ha]
            rw [fn] at k
            have ev : o.2.2.getD (rowOf xs as) Str.empty = o.2.2[rowOf xs as] := getD_at lt2
            rw [ev] at k
            exact ⟨_, rfl, x, C, dx, _, _, rfl, h1, c.cl, c.n5, rfl, _, rfl, b, _, rfl, g8, _, rfl, tl, _, _, .str o.2.2[rowOf xs as], rfl, rfl, SqL.of ht, atI_nat (by rw [List.getElem?_map, List.getElem?_eq_getElem lt2]; rfl), k⟩
      · rw [if_pos hne] at k
        exact if_true_of (by rw [hla]; simp; omega) k
end
end K43


set_option Elab.async false
set_option linter.all false
set_option maxRecDepth 100000
set_option maxHeartbeats 4000000
namespace K43
open PySem PySem.Spec PyProof.Rows L2 Evl NdefX SX
/-! ### texts as lists of signs -/
theorem cut_nat (cs : List Nat) (i j : Nat) (hij : i ≤ j) : cutS (S cs) (some (i : Int)) (some (j : Int)) = S ((cs.drop i).take (j - i)) := by
  unfold cutS
  have e : (S cs).cps.toList = cs := rfl
  have l : (S cs).length = cs.length := S_len cs
  rw [HT.sIx_nat, HT.sIx_nat, e, l]
  show (⟨_⟩ : Str) = ⟨_⟩
  congr 2
  by_cases h : i ≤ cs.length
  · rw [Nat.min_eq_left h]
    by_cases h2 : j ≤ cs.length
    · rw [Nat.min_eq_left h2]
    · rw [Nat.min_eq_right (by omega), List.take_of_length_le (by rw [List.length_drop]; omega), List.take_of_length_le (by rw [List.length_drop]; omega)]
  · rw [Nat.min_eq_right (show cs.length ≤ i by omega), List.drop_eq_nil_of_le (Nat.le_refl _), List.drop_eq_nil_of_le (show cs.length ≤ i by omega)]
    simp
theorem cut_at {cs pre tl : List Nat} (e : cs = pre ++ tl) (k : Nat) : cutS (S cs) (some (pre.length : Int)) (some ((pre.length : Int) + (k : Int))) = S (tl.take k) := by
  subst e
  rw [show ((pre.length : Int) + (k : Int)) = ((pre.length + k : Nat) : Int) by omega, cut_nat _ _ _ (by omega), show pre.length + k - pre.length = k by omega]
  congr 2
  exact List.drop_left
theorem cut1 {cs pre tl : List Nat} (e : cs = pre ++ tl) : cutS (S cs) (some (pre.length : Int)) (some ((pre.length : Int) + 1)) = S (tl.take 1) := cut_at e 1
theorem S_inj {a b : List Nat} (h : S a = S b) : a = b := by
  have e : (S a).cps.toList = (S b).cps.toList := by rw [h]
  exact e
theorem S_app (a b : List Nat) : S a ++ S b = S (a ++ b) := by
  show (⟨_⟩ : Str) = ⟨_⟩
  congr 1
  exact List.append_toArray a b
theorem strS (x : Str) : x = S x.cps.toList := by
  show x = ⟨_⟩
  rw [Array.toArray_toList]
/-- " " * n -/
theorem op_repS {X : Cx} : OpR X (binaryOp .Mult) (fun x y H Q => ∃ (c : Nat) (n : Nat), x = .str (S [c]) ∧ y = .int (n : Int) ∧ n ≤ 1000 ∧ Q (.str (S (List.replicate n c))) H) := by
  intro pins s σ H x y v u Q I rx ry h
  obtain ⟨c, n, rfl, rfl, hn, q⟩ := h
  obtain ⟨t, rfl⟩ := rx
  obtain ⟨t', rfl⟩ := ry
  have l1 : (S [c]).length = 1 := rfl
  refine P.mul_str ?_ (fun _ _ => ?_) (fun _ _ => ?_) ?_
  · rw [decide_eq_false (by omega), decide_eq_false (by omega)]
    rfl
  · rw [l1]
    have : (1 : Int) ≤ (2 ^ 63 - 1) / (n : Int) := by
      rw [Int.le_ediv_iff_mul_le (by omega)]
      omega
    omega
  · rw [l1]
    rw [Int.toNat_natCast]
    exact decide_eq_false (by rw [sizeLine_eq]; omega)
  · have rep : (List.replicate n (S [c]).cps).foldl (· ++ ·) #[] = (S (List.replicate n c)).cps := by
      have key : ∀ (m : Nat) (a : List Nat), (List.replicate m (#[c] : Array Nat)).foldl (· ++ ·) a.toArray = (a ++ List.replicate m c).toArray := by
        intro m
        induction m with
        | zero => intro a; simp
        | succ m ih =>
          intro a
          rw [List.replicate_succ, List.foldl_cons, List.append_toArray a [c], ih, List.replicate_succ, List.append_assoc]
          rfl
      exact key n []
    by_cases h0 : (n : Int) < 1
    · rw [if_pos h0]
      obtain rfl : n = 0 := by omega
      exact ⟨by decide, .str (S []), H, I.tok _, ⟨_, rfl⟩, q⟩
    · rw [if_neg h0]
      by_cases h1 : n = 1
      · subst h1
        rw [if_pos (by rfl)]
        exact ⟨.str (S [c]), H, I, ⟨_, rfl⟩, q⟩
      · rw [if_neg (by rw [l1]; simp; omega)]
        rw [Int.toNat_natCast, rep]
        exact ⟨by
          show (S (List.replicate n c)).length ≤ _
          rw [S_len, List.length_replicate, sizeLine_eq]
          omega, .str (S (List.replicate n c)), H, I.tok _, ⟨_, rfl⟩, q⟩
/-! ### words -/
structure Word (w : List Nat) : Prop where
  lo : 1 ≤ w.length
  hi : w.length ≤ 12
  all : ∀ c ∈ w, c ∈ abc9.cps.toList
  hd : w.getD 0 0 ∈ abc.cps.toList
theorem word_S {w : List Nat} : wordB (S w) = true ↔ Word w := by
  unfold wordB plainB
  have l : (S w).length = w.length := S_len w
  have sz : (S w).cps.size = w.length := S_len w
  have g : ∀ i, (S w).cps.getD i 0 = w.getD i 0 := fun i => by
    show (w.toArray).getD i 0 = _
    simp [Array.getD_eq_getD_getElem?, List.getD_eq_getElem?_getD]
  rw [l, sz]
  simp only [Bool.and_eq_true, decide_eq_true_eq, List.all_eq_true, List.mem_map, List.mem_range, g, id]
  constructor
  · rintro ⟨⟨⟨h1, h2⟩, h3⟩, h4⟩
    refine ⟨h1, h2, fun c hc => ?_, h4⟩
    obtain ⟨i, hi, rfl⟩ := List.mem_iff_getElem.mp hc
    have z := h3 _ ⟨i, hi, rfl⟩
    rw [decide_eq_true_eq, List.getD_eq_getElem?_getD, List.getElem?_eq_getElem hi] at z
    exact z
  · rintro ⟨h1, h2, h3, h4⟩
    refine ⟨⟨⟨h1, h2⟩, ?_⟩, h4⟩
    rintro b ⟨i, hi, rfl⟩
    rw [decide_eq_true_eq, List.getD_eq_getElem?_getD, List.getElem?_eq_getElem hi]
    exact h3 _ (List.getElem_mem hi)
theorem Word.pre {w : List Nat} (h : Word w) {j : Nat} (h1 : 1 ≤ j) : Word (w.take j) := by
  have lo := h.lo
  have hi := h.hi
  refine ⟨by rw [List.length_take]; omega, by rw [List.length_take]; omega, fun c hc => h.all c (List.mem_of_mem_take hc), ?_⟩
  have e : (w.take j).getD 0 0 = w.getD 0 0 := by
    cases w with
    | nil => cases lo
    | cons c r =>
      cases j with
      | zero => cases h1
      | succ j => rfl
  rw [e]
  exact h.hd
theorem abc_sub : ∀ c ∈ abc.cps.toList, c ∈ abc9.cps.toList := by decide +kernel
theorem no_sign : 32 ∉ abc9.cps.toList ∧ 40 ∉ abc9.cps.toList ∧ 41 ∉ abc9.cps.toList ∧ 44 ∉ abc9.cps.toList := by decide +kernel
theorem abc9_lt : ∀ c ∈ abc9.cps.toList, c < 0x110000 := by decide +kernel
/-! ### terms -/
inductive Tm where
  | v (w : List Nat)
  | f (w : List Nat) (ps : List Tm)
mutual
/-- the text of a term -/
def txt : Tm → List Nat
  | .v w => w
  | .f w ps => w ++ 40 :: (TL.joinL [44, 32] (txtL ps) ++ [41])
def txtL : List Tm → List (List Nat)
  | [] => []
  | t :: r => txt t :: txtL r
end
mutual
def dep : Tm → Nat
  | .v _ => 0
  | .f _ ps => depL ps + 1
def depL : List Tm → Nat
  | [] => 0
  | t :: r => max (dep t) (depL r)
end
mutual
/-- as long as its text with blanks may be -/
def cost : Tm → Nat
  | .v w => w.length + 14
  | .f w ps => w.length + 30 + costL ps
def costL : List Tm → Nat
  | [] => 0
  | t :: r => cost t + 2 + costL r
end
mutual
/-- all its words are words -/
def okT : Tm → Prop
  | .v w => Word w
  | .f w ps => Word w ∧ okL ps
def okL : List Tm → Prop
  | [] => True
  | t :: r => okT t ∧ okL r
end
def bl (n : Nat) : List Nat := List.replicate n 32
mutual
/-- a text with blanks behind its words and signs -/
inductive Spl : Tm → List Nat → Prop
  | v {w : List Nat} {n : Nat} : Word w → Spl (.v w) (w ++ bl n)
  | f0 {w : List Nat} {n m k : Nat} : Word w → Spl (.f w []) (w ++ (bl n ++ 40 :: (bl m ++ 41 :: bl k)))
  | f {w s r : List Nat} {t : Tm} {ts : List Tm} {n m k : Nat} : Word w → Spl t s → Rm ts r → Spl (.f w (t :: ts)) (w ++ (bl n ++ 40 :: (bl m ++ (s ++ (r ++ 41 :: bl k)))))
inductive Rm : List Tm → List Nat → Prop
  | nil : Rm [] []
  | cons {t : Tm} {ts : List Tm} {s r : List Nat} {n : Nat} : Spl t s → Rm ts r → Rm (t :: ts) (44 :: (bl n ++ (s ++ r)))
end
mutual
/-- a term in the heap -/
inductive TmAt (H : Hp) : V → Tm → Prop
  | v {w : List Nat} : TmAt H (.str (S w)) (.v w)
  | f {a : Addr} {w : List Nat} {vs : List V} {ps : List Tm} : H a = some (.tup (.str (S w) :: vs)) → TmsAt H vs ps → TmAt H (.ref a) (.f w ps)
inductive TmsAt (H : Hp) : List V → List Tm → Prop
  | nil : TmsAt H [] []
  | cons {x : V} {t : Tm} {vs : List V} {ps : List Tm} : TmAt H x t → TmsAt H vs ps → TmsAt H (x :: vs) (t :: ps)
end
/-- all tuples stand -/
def Tups (H H' : Hp) : Prop := ∀ a xs, H a = some (.tup xs) → H' a = some (.tup xs)
theorem Tups.trans {H H1 H2 : Hp} (a : Tups H H1) (b : Tups H1 H2) : Tups H H2 := fun x xs h => b x xs (a x xs h)
theorem Tups.of {H H' : Hp} (e : Same H H') : Tups H H' := fun a xs h => e _ _ h
theorem Tups.but {d L : Addr} {H H' : Hp} (b : But d L H H') (s : Src d L H) : Tups H H' := fun a xs h => by
  obtain ⟨cs, l, m, t, g1, g2, _⟩ := s.ex
  exact b a _ h (ne_of h g1 fun z => nomatch z) (ne_of h g2 fun z => nomatch z)
theorem Tups.put {H : Hp} {p : Addr} {ys : List V} {u : HO} (h : H p = some (.lst ys)) : Tups H (upd H p u) := fun a xs q => by
  rw [upd_ne (ne_of q h fun z => nomatch z)]
  exact q
mutual
theorem TmAt.keep {H H' : Hp} (e : Tups H H') : ∀ {x : V} {t : Tm}, TmAt H x t → TmAt H' x t
  | _, _, .v => .v
  | _, _, .f h r => .f (e _ _ h) (TmsAt.keep e r)
theorem TmsAt.keep {H H' : Hp} (e : Tups H H') : ∀ {vs : List V} {ps : List Tm}, TmsAt H vs ps → TmsAt H' vs ps
  | _, _, .nil => .nil
  | _, _, .cons h r => .cons (TmAt.keep e h) (TmsAt.keep e r)
end
theorem TmsAt.len {H : Hp} : ∀ {vs : List V} {ps : List Tm}, TmsAt H vs ps → vs.length = ps.length
  | _, _, .nil => rfl
  | _, _, .cons _ r => congrArg (· + 1) r.len
theorem TmsAt.app {H : Hp} : ∀ {vs us : List V} {ps qs : List Tm}, TmsAt H vs ps → TmsAt H us qs → TmsAt H (vs ++ us) (ps ++ qs)
  | _, _, _, _, .nil, s => s
  | _, _, _, _, .cons h r, s => .cons h (r.app s)
theorem TmsAt.at_ {H : Hp} : ∀ {vs : List V} {ps : List Tm} {i : Nat} {x : V}, TmsAt H vs ps → vs[i]? = some x → ∃ t, ps[i]? = some t ∧ TmAt H x t
  | _, _, 0, _, .cons h _, e => ⟨_, rfl, by cases e; exact h⟩
  | _, _, i + 1, _, .cons _ r, e => r.at_ e
theorem bl_add (n m : Nat) : bl n ++ bl m = bl (n + m) := List.replicate_append_replicate
theorem bl_len (n : Nat) : (bl n).length = n := List.length_replicate
theorem Spl.word {t : Tm} {s : List Nat} (h : Spl t s) : ∃ c r, s = c :: r ∧ c ∈ abc.cps.toList := by
  have key : ∀ {w : List Nat} (x : List Nat), Word w → ∃ c r, w ++ x = c :: r ∧ c ∈ abc.cps.toList := fun {w} x hw => by
    cases w with
    | nil => cases hw.lo
    | cons c r => exact ⟨c, _, rfl, hw.hd⟩
  cases h with
  | v hw => exact key _ hw
  | f0 hw => exact key _ hw
  | f hw => exact key _ hw
end K43


set_option Elab.async false
set_option linter.all false
set_option maxRecDepth 100000
set_option maxHeartbeats 4000000
namespace K43
open PySem PySem.Spec PyProof.Rows L2 Evl NdefX SX StX
/-- [e for ..] whose items turn the heap, by an invariant of the items so far -/
theorem lc_inv {J : It} {n : Nat} {G : Hp → Prop} {Y : Nat → Hp → V → Hp → Prop} {wi : TI} {g : TG} {te : TE} {vs : List Nat} {σ : L2.St} {H H1 : Hp} {Q : VK} (Iv : Nat → List V → Hp → Prop) (hl : ∀ R : It → Hp → Prop, R J H1 → wi σ H R) (w : Walk J n G Y) (hn : n ≤ 50000)
    (h0 : ∀ D, H1 D = none → Iv 0 [] (upd H1 D (.lst []))) (hG : ∀ i acc H', Iv i acc H' → G H') (hyE : ∀ i H' x H2, Y i H' x H2 → H2 = H')
    (hs : ∀ i x H' acc, i < n → acc.length = i → Iv i acc H' → Y i H' x H' → ∀ R : VK, (∀ y H4, (∀ D us, H1 D = none → H' D = some (.lst us) → H4 D = some (.lst us) ∧ ∀ u, Iv (i + 1) (acc ++ [y]) (upd H4 D u)) → R y H4) → g x (wipe σ vs) H' fun σ2 H3 => wipe σ2 vs = wipe σ vs ∧ te σ2 H3 R)
    (hg : ∀ x H2 (N M : L2.St → Hp → Prop), (∀ σ2 H3, N σ2 H3 → M σ2 H3) → g x (wipe σ vs) H2 N → g x (wipe σ vs) H2 M)
    (q : ∀ D H' acc, H1 D = none → acc.length = n → Iv n acc H' → H' D = some (.lst acc) → Q (.ref D) H') : tLc wi g tYes te vs σ H Q := by
  refine hl _ fun D hD => ?_
  refine lc_it w (tt := tYes) (Pv := fun i H' => ∃ acc, acc.length = i ∧ H' D = some (.lst acc) ∧ Iv i acc H') ⟨[], rfl, upd_same, h0 D hD⟩ (fun i H' _ p => by obtain ⟨acc, _, _, z⟩ := p; exact hG i acc H' z) (fun i x H' H2 hi p y => ?_) (fun H' p => by obtain ⟨acc, a, b, z⟩ := p; exact q D H' acc hD a z b)
  obtain ⟨acc, la, hD', iv⟩ := p
  obtain rfl := hyE i H' x H2 y
  refine hg x H2 _ _ ?_ (hs i x H2 acc hi la iv y (fun y' H4 => ∃ acc', H4 D = some (.lst acc') ∧ acc'.length < sizeLine ∧ ∃ acc2, acc2.length = i + 1 ∧ (upd H4 D (.lst (acc' ++ [y']))) D = some (.lst acc2) ∧ Iv (i + 1) acc2 (upd H4 D (.lst (acc' ++ [y'])))) fun y' H4 z => ?_)
  · exact fun σ2 H3 z => ⟨z.1, by unfold tYes; dsimp only; rw [if_pos rfl]; exact z.2⟩
  obtain ⟨z1, z2⟩ := z D acc hD hD'
  exact ⟨acc, z1, by rw [sizeLine_eq]; omega, acc ++ [y'], by rw [List.length_append, la]; rfl, upd_same, z2 _⟩
theorem Src.put {d L D : Addr} {H H1 : Hp} {u : HO} (s : Src d L H) (h : H1 D = none) (s1 : Src d L H1) : Src d L (upd H D u) := by
  obtain ⟨a, b⟩ := s1.d_ne h
  obtain ⟨cs, l, m, t, h1, h2, h3⟩ := s.ex
  exact ⟨cs, l, m, t, by rw [upd_ne a]; exact h1, by rw [upd_ne b]; exact h2, h3⟩
theorem But.free {d L D : Addr} {H H1 : Hp} (b : But d L H H1) (s : Src d L H1) (h : H1 D = none) : H D = none := by
  obtain ⟨x, y⟩ := s.d_ne h
  cases e : H D with
  | none => rfl
  | some o => rw [b _ _ e x.symm y.symm] at h; cases h
theorem lc_bind {wi : TI} {g : TG} {te : TE} {vs : List Nat} {σ : L2.St} {H : Hp} {Q : VK} {cond : It → Hp → Prop} (hw : ∀ R : It → Hp → Prop, (∀ J H1, cond J H1 → R J H1) → wi σ H R) (h : ∀ J H1, cond J H1 → tLc (fun _ _ R => R J H1) g tYes te vs σ H Q) : tLc wi g tYes te vs σ H Q := hw _ fun J H1 c => h J H1 c
theorem abc9_at {i : Nat} (h : i < 36) : ∃ c, abc9.cps[i]? = some c ∧ c ∈ abc9.cps.toList ∧ (i < 26 → c ∈ abc.cps.toList) := by
  have all : ∀ i, i < 36 → (abc9.cps[i]?).isSome = true ∧ abc9.cps.getD i 0 ∈ abc9.cps.toList ∧ (i < 26 → abc9.cps.getD i 0 ∈ abc.cps.toList) := by decide +kernel
  obtain ⟨a, b, c⟩ := all i h
  cases e : abc9.cps[i]? with
  | none => rw [e] at a; cases a
  | some x =>
    have g : abc9.cps.getD i 0 = x := by rw [Array.getD_eq_getD_getElem?, e]; rfl
    rw [g] at b c
    exact ⟨x, rfl, b, c⟩


theorem for_bind {wi : TI} {g : TG} {tb : TS} {D : Ends} {σ : L2.St} {H : Hp} {cond : It → Hp → Prop} (hw : ∀ R : It → Hp → Prop, (∀ J H1, cond J H1 → R J H1) → wi σ H R) (h : ∀ J H1, cond J H1 → tFor (fun _ _ R => R J H1) g tb D σ H) : tFor wi g tb D σ H := hw _ fun J H1 c => h J H1 c
theorem seq_go {t u : TS} {D : Ends} {σ : L2.St} {H : Hp} (h : t { D with nx := u D } σ H) : tSeq t u D σ H := h
theorem dig_at : ∀ m, m < 10 → abc9.cps[26 + m]? = some (48 + m) ∧ 48 + m ∈ abc9.cps.toList := by decide +kernel
/-- the name with the number i -/
structure NameOk (sh i : Nat) (u : List Nat) : Prop where
  lo : 3 ≤ u.length
  all : ∀ x ∈ u, x ∈ abc9.cps.toList
  hd : u.getD 0 0 ∈ abc.cps.toList
  d1 : u.getD 1 0 = 48 + (sh + 37 * i) % 100 / 10
  d2 : u.getD 2 0 = 48 + (sh + 37 * i) % 100 % 10
theorem NameOk.more {sh i : Nat} {u : List Nat} (h : NameOk sh i u) {c : Nat} (hc : c ∈ abc9.cps.toList) : NameOk sh i (u ++ [c]) := by
  have lo := h.lo
  have g : ∀ k, k < 3 → (u ++ [c]).getD k 0 = u.getD k 0 := fun k hk => by
    rw [List.getD_eq_getElem?_getD, List.getD_eq_getElem?_getD, List.getElem?_append_left (by omega)]
  refine ⟨by rw [List.length_append]; show 3 ≤ _ + 1; omega, fun x hx => ?_, by rw [g 0 (by decide)]; exact h.hd, by rw [g 1 (by decide)]; exact h.d1, by rw [g 2 (by decide)]; exact h.d2⟩
  rcases List.mem_append.mp hx with z | z
  · exact h.all x z
  · rw [List.mem_singleton.mp z]
    exact hc
theorem NameOk.ne {sh i j : Nat} {u v : List Nat} (h : NameOk sh i u) (g : NameOk sh j v) (hi : i < 100) (hj : j < 100) (hij : i ≠ j) : u ≠ v := fun e => by
  subst e
  have a := h.d1.symm.trans g.d1
  have b := h.d2.symm.trans g.d2
  omega
theorem names_nd {sh : Nat} {us : List (List Nat)} (h : ∀ i u, us[i]? = some u → NameOk sh i u) (hl : us.length ≤ 100) : us.Nodup := by
  refine List.pairwise_iff_getElem.mpr fun i j hi hj hij => ?_
  exact (h i _ (List.getElem?_eq_getElem hi)).ne (h j _ (List.getElem?_eq_getElem hj)) (by omega) (by omega) (by omega)
section
variable {P : Program} {w : World} {K : PySem.W.Frag} {mg : Str → Option Value} {base : Heap}
/-- names that are words, all unlike -/
structure Names (us : List (List Nat)) : Prop where
  wd : ∀ u ∈ us, Word u
  nd : us.Nodup
  l3 : ∀ u ∈ us, 3 ≤ u.length
  dg : ∀ u ∈ us, u.getD 1 0 < 58
def spNamesL : Sp := fun vs H Q _ => ∃ (d L : Addr) (n : Nat), vs = [.ref d, .int (n : Int)] ∧ Src d L H ∧ n ≤ 7 ∧ ∀ us l H', us.length = n → Names us → H l = none → H' l = some (.lst (us.map fun u => V.str (S u))) → Src d L H' → But d L H H' → Q (.ref l) H'
abbrev s__law_names : Stmt := top 34
abbrev N__law_names : List Str := ["source", "many", "signs", "shift", "long", "names", "k", "number", "name", "n"]
theorem sc__law_names : FnScope N__law_names ["source", "many"] (defScope s__law_names) := ⟨rfl, rfl, rfl, by decide +kernel, rfl, by decide +kernel, by decide +kernel⟩
theorem ok_lnames {f : Addr} {fd : FuncData} (F : Fun K "_law_names" "_law_names" s__law_names f fd) (T : Blt mg) (c__law_pick : Cal P w K mg base 1 "_law_pick" ["source", "many"] spPick) : FnOk P w K mg base CX0 2 f fd ["source", "many"] spNamesL := by
  refine F.ok sc__law_names (fun vs H Q E h => ?_) (fun cdv A outer s H vs Q E hr h => ?_)
  · obtain ⟨d, L, n, rfl, _⟩ := h
    rfl
  · obtain ⟨d, L, n, rfl, S0, hn, k⟩ := h
    refine ⟨_, (pss_cons (ps_set (i := 2) sc__law_names.nd rfl (Or.inl rfl) (pe_str))
      (pss_cons (ps_set (i := 3) sc__law_names.nd rfl (Or.inl rfl) (pe_cal c__law_pick (hr.mono (by decide)) (by rfl) (pa_cons (pv 0) (pa_cons (pe_int) pa_nil))))
      (pss_cons (ps_set (i := 4) sc__law_names.nd rfl (Or.inl rfl) (pe_cmpR op_eq (pe_cal c__law_pick (hr.mono (by decide)) (by rfl) (pa_cons (pv 0) (pa_cons (pe_int) pa_nil))) (pe_int) (nomark _)))
      (pss_cons (ps_set (i := 5) sc__law_names.nd rfl (Or.inl rfl) (pe_lst pa_nil))
      (pss_cons (ps_for PassesOwn.never rfl (pi_range1 (by rfl) T.range (pa_cons (pv 1) pa_nil)) (pg_name (i := 6) sc__law_names.nd rfl (Or.inl rfl)) (pss_cons (ps_set (i := 7) sc__law_names.nd rfl (Or.inl rfl) (pe_op op_mod (pe_callTy call_int1 (by rfl) T.int (by decide +kernel) (pa_cons (pe_op op_add (pv 3) (pe_op op_mul (pe_int) (pv 6))) pa_nil)) (pe_int)))
      (pss_cons (ps_set (i := 8) sc__law_names.nd rfl (Or.inl rfl) (pe_op op_add_str (pe_op op_add_str (pe_item_str (pv 2) (pe_cal c__law_pick (hr.mono (by decide)) (by rfl) (pa_cons (pv 0) (pa_cons (pe_int) pa_nil))) (fun _ _ => rfl)) (pe_item_str (pv 2) (pe_op op_add (pe_int) (pe_op op_fdiv (pv 7) (pe_int))) (fun _ _ => rfl))) (pe_item_str (pv 2) (pe_op op_add (pe_int) (pe_op op_mod (pe_callTy call_int1 (by rfl) T.int (by decide +kernel) (pa_cons (pv 7) pa_nil)) (pe_int))) (fun _ _ => rfl))))
      (pss_cons (ps_for PassesOwn.never rfl (pi_range1 (by rfl) T.range (pa_cons (pe_ifExp (pt_val (pv 4)) (pe_op op_pow (pe_cal c__law_pick (hr.mono (by decide)) (by rfl) (pa_cons (pv 0) (pa_cons (pe_int) pa_nil))) (pe_int)) (pe_int)) pa_nil)) (pg_name (i := 9) sc__law_names.nd rfl (Or.inl rfl)) (pss_one (ps_set (i := 8) sc__law_names.nd rfl (Or.inl rfl) (pe_op op_add_str (pv 8) (pe_item_str (pv 2) (pe_cal c__law_pick (hr.mono (by decide)) (by rfl) (pa_cons (pv 0) (pa_cons (pe_int) pa_nil))) (fun _ _ => rfl))))))
      (pss_one (ps_expr (pe_bm PySem.F.plainAttrs_list PySem.F.slot_list_append PySem.F.type_list_append mt_append (pv 5) (pa_cons (pv 8) pa_nil))))))))
      (pss_one (ps_ret (pv 5)))))))), ?_⟩
    have lS : ∀ x : List Nat, (S x).length = x.length := fun x => S_len x
    refine ⟨_, rfl, d, L, 100, rfl, S0, by decide, fun r H1 r0 r1 S1 b1 => ?_⟩
    obtain ⟨sh, rfl⟩ := Int.eq_ofNat_of_zero_le r0
    refine gN ?_
    refine ⟨_, rfl, d, L, 4, rfl, S1, by decide, fun rl H2 l0 l1 S2 b2 => ⟨rfl, gN ?_⟩⟩
    refine ⟨by show 0 ≤ sizeLine; decide, fun l nl => ?_⟩
    obtain ⟨H3, eG, e3, hl⟩ := put_new (o := .lst []) nl
    refine gN ?_
    rw [eG]
    clear eG
    have S3 := S2.same e3
    have b03 : But d L H H3 := b1.trans (b2.trans (But.of_same e3))
    have nl0 : H l = none := But.free (b1.trans b2) S2 nl
    obtain ⟨dl, Ll⟩ := S2.d_ne nl
    refine ⟨_, rfl, (n : Int), rfl, by omega, by omega, for_range (lo := 0) (n := ((n : Int)).toNat) (fun j σ' H' => ∃ (us : List (List Nat)) (v6 v7 v8 v9 : Option V), σ' = [some (.ref d), some (.int (n : Int)), some (.str abc9), some (.int (sh : Int)), some (.bl (decide (V.int rl = V.int 0))), some (.ref l), v6, v7, v8, v9] ∧ us.length = j ∧ (∀ i u, us[i]? = some u → NameOk sh i u ∧ u.length ≤ 12) ∧ H' l = some (.lst (us.map fun u => V.str (S u))) ∧ Src d L H' ∧ But d L H H')
      ⟨[], none, none, none, none, rfl, rfl, (fun i u h => by cases h), hl, S3, b03⟩ (fun j σ' H' hj p => ?_) (fun σ' H' p => ?_)⟩
    · obtain ⟨us, v6, v7, v8, v9, rfl, lus, hus, hl', S', b'⟩ := p
      rw [Int.toNat_natCast] at hj
      refine gN ?_
      refine ⟨_, rfl, _, rfl, 37, _, rfl, rfl, .inl ⟨by decide, by decide⟩, _, _, rfl, rfl, .inl ⟨_, rfl, _, 100, rfl, rfl, (by show (0 : Int) < 100; decide), gN ?_⟩⟩
      have en : ((sh : Int) + 37 * (0 + (j : Int))) % 100 = (((sh + 37 * j) % 100 : Nat) : Int) := by omega
      rw [show (fun i j : Int => V.int (i % j)) ((sh : Int) + 37 * (0 + (j : Int))) 100 = V.int (((sh + 37 * j) % 100 : Nat) : Int) from congrArg V.int en]
      have m100 : (sh + 37 * j) % 100 < 100 := Nat.mod_lt _ (by decide)
      obtain ⟨g1, g2⟩ := dig_at ((sh + 37 * j) % 100 / 10) (by omega)
      obtain ⟨g3, g4⟩ := dig_at ((sh + 37 * j) % 100 % 10) (by omega)
      refine ⟨_, rfl, _, rfl, d, L, 26, rfl, S', by decide, fun r H4 r0 r1 S4 b4 => ?_⟩
      obtain ⟨i, rfl⟩ := Int.eq_ofNat_of_zero_le r0
      obtain ⟨c, hc, hc9, hca⟩ := abc9_at (i := i) (by omega)
      refine ⟨abc9, (i : Int), c, rfl, rfl, by omega, by omega, by show (i : Int) < 36; omega, hc, ?_⟩
      have ln : (S [48]).length = 1 := rfl
      refine ⟨_, rfl, _, rfl, _, 10, rfl, rfl, ⟨by omega, by decide⟩, _, _, rfl, rfl, abc9, ((26 + (sh + 37 * j) % 100 / 10 : Nat) : Int), 48 + (sh + 37 * j) % 100 / 10, rfl, congrArg V.int (by omega), by omega, by omega, by show _ < (36 : Int); omega, g1, _, _, rfl, rfl, by show 1 + 1 ≤ sizeLine; decide, ?_⟩
      refine ⟨_, rfl, _, rfl, .inl ⟨_, rfl, _, 10, rfl, rfl, (by show (0 : Int) < 10; decide), _, _, rfl, rfl, abc9, ((26 + (sh + 37 * j) % 100 % 10 : Nat) : Int), 48 + (sh + 37 * j) % 100 % 10, rfl, congrArg V.int (by omega), by omega, by omega, by show _ < (36 : Int); omega, g3, _, _, rfl, rfl, by show 2 + 1 ≤ sizeLine; decide, gN ?_⟩⟩
      have e3 : (⟨#[c]⟩ : Str) ++ ⟨#[48 + (sh + 37 * j) % 100 / 10]⟩ ++ ⟨#[48 + (sh + 37 * j) % 100 % 10]⟩ = S [c, 48 + (sh + 37 * j) % 100 / 10, 48 + (sh + 37 * j) % 100 % 10] := rfl
      rw [e3]
      have b04 := b'.trans b4
      have hl4 := b4 _ _ hl' dl.symm Ll.symm
      have nm0 : NameOk sh j [c, 48 + (sh + 37 * j) % 100 / 10, 48 + (sh + 37 * j) % 100 % 10] := ⟨Nat.le_refl _, fun x hx => by
        simp only [List.mem_cons, List.not_mem_nil, or_false] at hx
        rcases hx with rfl | rfl | rfl
        · exact hc9
        · exact g2
        · exact g4, hca (by omega), rfl, rfl⟩
      dsimp only
      refine seq_go (t := tFor _ _ _) ?_
      refine for_bind (cond := fun J H5 => ∃ m : Nat, m ≤ 9 ∧ J = Itr 0 m ∧ Src d L H5 ∧ But d L H4 H5) (fun R r => ?_) (fun J H5 c => ?_)
      · refine ⟨_, rfl, _, rfl, ?_⟩
        by_cases hb : V.int rl = V.int 0
        · refine if_true_of (decide_eq_true hb) ?_
          refine ⟨_, rfl, d, L, 4, rfl, S4, by decide, fun q H5 q0 q1 S5 b5 => ⟨q, 2, rfl, rfl, ⟨by decide, by decide, by omega⟩, ?_⟩⟩
          obtain ⟨q, rfl⟩ := Int.eq_ofNat_of_zero_le q0
          have hq : q = 0 ∨ q = 1 ∨ q = 2 ∨ q = 3 := by omega
          rcases hq with rfl | rfl | rfl | rfl
          · exact ⟨0, rfl, by decide, by decide, r _ _ ⟨0, by decide, rfl, S5, b5⟩⟩
          · exact ⟨1, rfl, by decide, by decide, r _ _ ⟨1, by decide, rfl, S5, b5⟩⟩
          · exact ⟨4, rfl, by decide, by decide, r _ _ ⟨4, by decide, rfl, S5, b5⟩⟩
          · exact ⟨9, rfl, by decide, by decide, r _ _ ⟨9, by decide, rfl, S5, b5⟩⟩
        · exact if_false_of (decide_eq_false hb) ⟨0, rfl, by decide, by decide, r _ _ ⟨0, by decide, rfl, S4, But.refl⟩⟩
      obtain ⟨m, hm, rfl, S5, b5⟩ := c
      refine for_range (lo := 0) (n := m) (fun j2 σ' H6 => ∃ (u : List Nat) (v9 : Option V), σ' = [some (.ref d), some (.int (n : Int)), some (.str abc9), some (.int (sh : Int)), some (.bl (decide (V.int rl = V.int 0))), some (.ref l), some (.int (0 + (j : Int))), some (.int (((sh + 37 * j) % 100 : Nat) : Int)), some (.str (S u)), v9] ∧ NameOk sh j u ∧ u.length = 3 + j2 ∧ Src d L H6 ∧ But d L H4 H6)
        ⟨_, v9, rfl, nm0, rfl, S5, b5⟩ (fun j2 σ' H6 hj2 p => ?_) (fun σ' H6 p => ?_)
      · obtain ⟨u, v9, rfl, nm, lu, S6, b6⟩ := p
        refine gN ⟨_, rfl, _, rfl, _, rfl, d, L, 36, rfl, S6, by decide, fun r H7 r0 r1 S7 b7 => ?_⟩
        obtain ⟨i4, rfl⟩ := Int.eq_ofNat_of_zero_le r0
        obtain ⟨c4, hc4, hc49, _⟩ := abc9_at (i := i4) (by omega)
        refine ⟨abc9, (i4 : Int), c4, rfl, rfl, by omega, by omega, by show (i4 : Int) < 36; omega, hc4, _, _, rfl, rfl, by rw [S_len, sizeLine_eq]; show _ + 1 ≤ _; omega, gN ?_⟩
        have e : S u ++ (⟨#[c4]⟩ : Str) = S (u ++ [c4]) := S_app u [c4]
        exact ⟨u ++ [c4], some (.int (0 + (j2 : Int))), by rw [← e]; rfl, nm.more hc49, by rw [List.length_append, lu]; rfl, S7, b6.trans b7⟩
      · obtain ⟨u, v9, rfl, nm, lu, S6, b6⟩ := p
        have hl6 := b6 _ _ hl4 dl.symm Ll.symm
        refine ⟨_, rfl, .inl ⟨rfl, _, SqL.of hl6⟩, _, rfl, l, _, _, rfl, rfl, hl6, by rw [List.length_map, sizeLine_eq]; omega, ?_⟩
        refine ⟨us ++ [u], _, _, _, _, rfl, by rw [List.length_append, lus]; rfl, fun i u' hu => ?_, by rw [upd_same, List.map_append]; rfl, Src.put S6 nl S2, (b04.trans b6).new nl0⟩
        by_cases hi : i < us.length
        · rw [List.getElem?_append_left hi] at hu
          exact hus i u' hu
        · rw [List.getElem?_append_right (by omega)] at hu
          cases hk : i - us.length with
          | zero =>
            rw [hk] at hu
            injection hu with hu
            subst hu
            obtain rfl : i = j := by omega
            exact ⟨nm, by omega⟩
          | succ z => rw [hk] at hu; cases hu
    · obtain ⟨us, v6, v7, v8, v9, rfl, lus, hus, hl', S', b'⟩ := p
      rw [Int.toNat_natCast] at lus
      refine ⟨_, rfl, k us l H' lus ⟨fun u hu => ?_, names_nd (fun i u h => (hus i u h).1) (by omega), fun u hu => ?_, fun u hu => ?_⟩ nl0 hl' S' b'⟩
      rotate_left
      · obtain ⟨i, hi⟩ := List.mem_iff_getElem?.mp hu
        exact (hus i u hi).1.lo
      · obtain ⟨i, hi⟩ := List.mem_iff_getElem?.mp hu
        rw [(hus i u hi).1.d1]
        omega
      obtain ⟨i, hi⟩ := List.mem_iff_getElem?.mp hu
      obtain ⟨a, b⟩ := hus i u hi
      have := a.lo
      exact ⟨by omega, b, a.all, a.hd⟩
end
end K43


set_option Elab.async false
set_option linter.all false
set_option maxRecDepth 100000
set_option maxHeartbeats 4000000
namespace K43
open PySem PySem.Spec PyProof.Rows L2 Evl NdefX SX StX
abbrev iV : Nat → V := fun i => V.int (i : Int)
/-- all rows of places, in order -/
def tupN (n : Nat) : Nat → List (List Nat)
  | 0 => [[]]
  | k + 1 => (tupN n k).flatMap fun r => (List.range n).map fun x => r ++ [x]
def RowsI (H0 H : Hp) (D : Addr) (rows : List (List Nat)) : Prop := ∃ ps : List Addr, H D = some (.lst (ps.map V.ref)) ∧ Paired (fun p (r : List Nat) => H p = some (.lst (r.map iV)) ∧ H0 p = none) ps rows
theorem paired_app {α β : Type} {R : α → β → Prop} : ∀ {l : List α} {m : List β} {l' : List α} {m' : List β}, Paired R l m → Paired R l' m' → Paired R (l ++ l') (m ++ m')
  | _, _, _, _, .nil, s => s
  | _, _, _, _, .cons r t, s => .cons r (paired_app t s)
theorem paired_of {α β : Type} {R : α → β → Prop} {d : β} : ∀ {l : List α} {m : List β}, l.length = m.length → (∀ (j : Nat) a, l[j]? = some a → R a (m.getD j d)) → Paired R l m
  | [], [], _, _ => .nil
  | [], _ :: _, h, _ => by simp at h
  | _ :: _, [], h, _ => by simp at h
  | a :: l, b :: m, h, f => .cons (f 0 a rfl) (paired_of (d := d) (by simpa using h) fun j x e => by simpa using f (j + 1) x (by simpa using e))
theorem fm_len (n : Nat) (f : List Nat → Nat → List Nat) : ∀ l : List (List Nat), (l.flatMap fun r => (List.range n).map (f r)).length = l.length * n
  | [] => by simp
  | r :: l => by
    rw [List.flatMap_cons, List.length_append, List.length_map, fm_len n f l, List.length_cons, Nat.succ_mul, List.length_range]
    omega
theorem tupN_len (n : Nat) : ∀ k, (tupN n k).length = n ^ k
  | 0 => rfl
  | k + 1 => by
    show ((tupN n k).flatMap fun r => (List.range n).map fun x => r ++ [x]).length = _
    rw [fm_len n (fun r x => r ++ [x]), tupN_len n k, Nat.pow_succ]
theorem tupN_row (n : Nat) : ∀ k, ∀ r ∈ tupN n k, r.length = k ∧ ∀ x ∈ r, x < n
  | 0, r, h => by
    rw [List.mem_singleton.mp h]
    exact ⟨rfl, fun x hx => by cases hx⟩
  | k + 1, r, h => by
    obtain ⟨q, hq, h⟩ := List.mem_flatMap.mp h
    obtain ⟨x, hx, rfl⟩ := List.mem_map.mp h
    obtain ⟨a, b⟩ := tupN_row n k q hq
    refine ⟨by rw [List.length_append, a]; rfl, fun y hy => ?_⟩
    rcases List.mem_append.mp hy with z | z
    · exact b y z
    · rw [List.mem_singleton.mp z]
      exact List.mem_range.mp hx
theorem pow_le36 {n k : Nat} (hn : n ≤ 6) (hk : k ≤ 2) : n ^ k ≤ 36 := by
  have hh : k = 0 ∨ k = 1 ∨ k = 2 := by omega
  rcases hh with rfl | rfl | rfl
  · simp
  · rw [Nat.pow_one]; omega
  · rw [Nat.pow_two]
    have := Nat.mul_le_mul hn hn
    omega
section
variable {P : Program} {w : World} {K : PySem.W.Frag} {mg : Str → Option Value} {base : Heap}
def spRows : Sp := fun vs H Q _ => ∃ n k : Nat, vs = [.int (n : Int), .int (k : Int)] ∧ n ≤ 6 ∧ k ≤ 2 ∧ ∀ D H', H D = none → Same H H' → RowsI H H' D (tupN n k) → Q (.ref D) H'
abbrev s__law_rows : Stmt := top 35
abbrev N__law_rows : List Str := ["many", "arity", "found", "k", "longer", "row", "place"]
theorem sc__law_rows : FnScope N__law_rows ["many", "arity"] (defScope s__law_rows) := ⟨rfl, rfl, rfl, by decide +kernel, rfl, by decide +kernel, by decide +kernel⟩
theorem ok_rows {f : Addr} {fd : FuncData} (F : Fun K "_law_rows" "_law_rows" s__law_rows f fd) (T : Blt mg) : FnOk P w K mg base CX0 1 f fd ["many", "arity"] spRows := by
  refine F.ok sc__law_rows (fun vs H Q E h => ?_) (fun cdv A outer s H vs Q E hr h => ?_)
  · obtain ⟨n, k, rfl, _⟩ := h
    rfl
  · obtain ⟨n, ar, rfl, ln, la, k⟩ := h
    refine ⟨_, (pss_cons (ps_set (i := 2) sc__law_rows.nd rfl (Or.inl rfl) (pe_lst (pa_cons (pe_lst pa_nil) pa_nil)))
      (pss_cons (ps_for PassesOwn.never rfl (pi_range1 (by rfl) T.range (pa_cons (pv 1) pa_nil)) (pg_name (i := 3) sc__law_rows.nd rfl (Or.inl rfl)) (pss_cons (ps_set (i := 4) sc__law_rows.nd rfl (Or.inl rfl) (pe_lst pa_nil))
      (pss_cons (ps_for PassesOwn.never rfl (pi_list (pv 2)) (pg_name (i := 5) sc__law_rows.nd rfl (Or.inr rfl)) (pss_one (ps_set (i := 4) sc__law_rows.nd rfl (Or.inl rfl) (pe_op op_cat (pv 4) (pe_lc (own := [("place", 6)]) (g := gName 6) (by rfl) sc__law_rows.nd (pi_range1 (by rfl) T.range (pa_cons (pv 0) pa_nil)) (blkOk_by (own := [("place", 6)]) (N := N__law_rows) (sc := defScope s__law_rows) (by decide +kernel)) (fun _ _ _ _ _ => pg_name (i := 6) sc__law_rows.nd rfl (Or.inl rfl)) (fun _ _ _ _ _ => pts_nil) (fun _ _ _ _ _ => pe_op op_cat (pv 5) (pe_lst (pa_cons (pv 6) pa_nil))))))))
      (pss_one (ps_set (i := 2) sc__law_rows.nd rfl (Or.inl rfl) (pv 4))))))
      (pss_one (ps_ret (pv 2))))), ?_⟩
    refine ⟨by show 0 ≤ sizeLine; decide, fun p0 n0 => ?_⟩
    obtain ⟨H1, eG, s1, h1⟩ := put_new (o := .lst []) n0
    rw [eG]
    clear eG
    refine ⟨by show 1 ≤ sizeLine; decide, fun l0 nl0 => ?_⟩
    obtain ⟨H2, eG, s2, h2⟩ := put_new (o := .lst [.ref p0]) nl0
    refine gN ?_
    rw [eG]
    clear eG
    refine ⟨_, rfl, (ar : Int), rfl, by omega, by omega, for_range (lo := 0) (n := ((ar : Int)).toNat) (fun j σ' H' => ∃ (l : Addr) (v3 v4 v5 : Option V), σ' = [some (.int (n : Int)), some (.int (ar : Int)), some (.ref l), v3, v4, v5, none] ∧ Same H H' ∧ H l = none ∧ RowsI H H' l (tupN n j))
      ⟨l0, none, none, none, rfl, s1.trans s2, s1.free nl0, [p0], h2, .cons ⟨s2 _ _ h1, n0⟩ .nil⟩ (fun j σ' H' hj p => ?_) (fun σ' H' p => ?_)⟩
    · obtain ⟨l, v3, v4, v5, rfl, s3, nl, ps, hl, pr⟩ := p
      rw [Int.toNat_natCast] at hj
      have hps : ps.length = n ^ j := by rw [Paired.length pr, tupN_len]
      have hpw := pow_le36 ln (show j ≤ 2 by omega)
      refine gN ⟨by show 0 ≤ sizeLine; decide, fun m0 nm0 => ?_⟩
      obtain ⟨H4, eG, s4, h4⟩ := put_new (o := .lst []) nm0
      refine gN ?_
      rw [eG]
      clear eG
      have s34 := s3.trans s4
      refine ⟨_, rfl, l, rfl, ⟨_, SqL.of (s4 _ _ hl)⟩, for_list (K := K) (a := l) (xs := ps.map V.ref) (fun i σ' H' => ∃ (m : Addr) (v5 : Option V), σ' = [some (.int (n : Int)), some (.int (ar : Int)), some (.ref l), some (.int (0 + (j : Int))), some (.ref m), v5, none] ∧ Same H4 H' ∧ H m = none ∧ RowsI H H' m (((tupN n j).take i).flatMap fun r => (List.range n).map fun x => r ++ [x]))
        ⟨m0, v5, rfl, Same.refl _, s3.free nm0, [], h4, .nil⟩ (fun i σ' H' _ p => by obtain ⟨_, _, _, e, _⟩ := p; exact SqL.of (e _ _ (s4 _ _ hl))) (fun i v σ' H' hi p => ?_) (fun σ' H' p => ?_)⟩
      · obtain ⟨m, v5, rfl, e5, nm, qs, hm, pq⟩ := p
        have hi2 : i < ps.length := by
          have := (List.getElem?_eq_some_iff.mp hi).1
          rw [List.length_map] at this
          exact this
        obtain ⟨p, hp, rfl⟩ : ∃ p, ps[i]? = some p ∧ v = .ref p := by
          rw [List.getElem?_map, List.getElem?_eq_getElem hi2] at hi
          exact ⟨ps[i], List.getElem?_eq_getElem hi2, (Option.some.inj hi).symm⟩
        obtain ⟨r, hr2, hpr⟩ := paired_get pr hp
        have hp5 := e5 _ _ (s4 _ _ hpr.1)
        have lr2 : r.length = j := (tupN_row n j r (List.mem_of_getElem? hr2)).1
        refine gN ⟨_, rfl, ?_⟩
        refine lc_new (J := Itr 0 n) (H1 := H') (g := gName 6) (fun b => .lst ((r ++ [b]).map iV)) (fun R r => ⟨_, rfl, (n : Int), rfl, by omega, by omega, by rw [Int.toNat_natCast]; exact r⟩) walk_range (by omega) (fun H2 e => trivial) (fun b H2 y H3 _ z => z.1 ▸ Same.refl _) (fun b y H6 H7 hb e6 z R q => ?_) (fun _ _ _ _ h z => gn_mono h z) (fun D H6 ws hD e6 hws hd hw => ?_)
        · obtain ⟨rfl, hy⟩ := z
          have hy : y = .int (b : Int) := hy.trans (by show V.int (0 + (b : Int)) = _; rw [Int.zero_add])
          subst hy
          refine gN ⟨rfl, _, rfl, _, rfl, by show 1 ≤ sizeLine; decide, fun o1 no1 => ?_⟩
          obtain ⟨H8, eG, s8, h8⟩ := put_new (o := .lst [.int (b : Int)]) no1
          rw [eG]
          clear eG
          refine ⟨p, o1, _, _, rfl, rfl, s8 _ _ (e6 _ _ hp5), h8, by rw [List.length_map, lr2, sizeLine_eq]; show j + 1 ≤ _; omega, fun w nw => ?_⟩
          refine q w _ (s8.free nw) (s8.trans (same_upd nw)) ?_
          rw [upd_same, List.map_append]
          rfl
        · have l1 : qs.length = i * n := by
            rw [Paired.length pq, fm_len n (fun r x => r ++ [x]), List.length_take, tupN_len]
            rw [Nat.min_eq_left (by omega)]
          have l2 : i * n ≤ 36 * 6 := Nat.mul_le_mul (by omega) ln
          refine ⟨m, D, _, _, rfl, rfl, e6 _ _ hm, hd, by rw [List.length_map, List.length_map, l1, hws, sizeLine_eq]; omega, fun z nz => ?_⟩
          rw [← List.map_append]
          obtain ⟨H9, eG, s9, h9⟩ := put_new (o := .lst ((qs ++ ws).map V.ref)) nz
          refine gN ?_
          rw [eG]
          clear eG
          have hz : H z = none := s34.free (e5.free (e6.free nz))
          refine ⟨z, _, rfl, (e5.trans e6).trans s9, hz, qs ++ ws, h9, ?_⟩
          rw [List.take_add_one, hr2, List.flatMap_append]
          refine paired_app (Paired.mapP pq fun _ _ q => ⟨s9 _ _ (e6 _ _ q.1), q.2⟩) ?_
          have one : (Option.toList (some r)).flatMap (fun r => (List.range n).map fun x => r ++ [x]) = (List.range n).map fun x => r ++ [x] := by simp
          rw [one]
          refine paired_of (d := []) (by rw [hws, List.length_map, List.length_range]) fun b y hy => ?_
          have hb : b < n := by
            have := (List.getElem?_eq_some_iff.mp hy).1
            rw [hws] at this
            exact this
          rw [List.getD_eq_getElem?_getD, List.getElem?_map, List.getElem?_range hb]
          exact ⟨s9 _ _ (hw b y hy).2, s34.free (e5.free (hw b y hy).1)⟩
      · obtain ⟨m, v5, rfl, e5, nm, hR⟩ := p
        have e : (ps.map V.ref).length = (tupN n j).length := by rw [List.length_map]; exact Paired.length pr
        rw [e, List.take_length] at hR
        exact ⟨_, rfl, m, _, _, _, rfl, s34.trans e5, nm, hR⟩
    · obtain ⟨l, v3, v4, v5, rfl, s3, nl, hR⟩ := p
      rw [Int.toNat_natCast] at hR
      exact ⟨_, rfl, k l H' nl s3 hR⟩
end
end K43


set_option Elab.async false
set_option linter.all false
set_option maxRecDepth 100000
set_option maxHeartbeats 4000000
namespace K43
open PySem PySem.Spec PyProof.Rows L2 Evl NdefX SX StX
/-- a comprehension whose items are places -/
theorem lc_pl {J : It} {m : Nat} {G : Hp → Prop} {Y : Nat → Hp → V → Hp → Prop} {wi : TI} {g : TG} {te : TE} {vs : List Nat} {σ : L2.St} {H H1 : Hp} {Q : VK} {d L : Addr} {n : Nat} (S1 : Src d L H1) (hl : ∀ R : It → Hp → Prop, R J H1 → wi σ H R) (w : Walk J m G Y) (hm : m ≤ 40000)
    (hG : ∀ H', But d L H1 H' → G H') (hyE : ∀ i H' x H2, Y i H' x H2 → H2 = H')
    (hs : ∀ i x H', i < m → Src d L H' → But d L H1 H' → Y i H' x H' → ∀ R : VK, (∀ (z : Nat) H4, z < n → Src d L H4 → But d L H' H4 → R (.int (z : Int)) H4) → g x (wipe σ vs) H' fun σ2 H3 => wipe σ2 vs = wipe σ vs ∧ te σ2 H3 R)
    (hg : ∀ x H2 (N M : L2.St → Hp → Prop), (∀ σ2 H3, N σ2 H3 → M σ2 H3) → g x (wipe σ vs) H2 N → g x (wipe σ vs) H2 M)
    (q : ∀ (D : Addr) (H' : Hp) (pl : List Nat), H1 D = none → pl.length = m → (∀ z ∈ pl, z < n) → H' D = some (.lst (pl.map iV)) → Src d L H' → But d L H1 H' → Q (.ref D) H') : tLc wi g tYes te vs σ H Q := by
  refine lc_inv (J := J) (H1 := H1) (fun i acc H' => Src d L H' ∧ But d L H1 H' ∧ ∃ pl : List Nat, acc = pl.map iV ∧ ∀ z ∈ pl, z < n) hl w (by omega)
    (fun D hD => ⟨Src.put S1 hD S1, But.refl.new hD, [], rfl, fun _ h => by cases h⟩) (fun i acc H' iv => hG H' iv.2.1) hyE (fun i x H' acc hi la iv y R r => ?_) hg (fun D H' acc nD la iv hD => ?_)
  · obtain ⟨S', b', pl, rfl, hpl⟩ := iv
    refine hs i x H' hi S' b' y R fun z H4 hz S4 b4 => r _ H4 fun D us nD hus => ?_
    obtain ⟨e1, e2⟩ := S1.d_ne nD
    refine ⟨b4 _ _ hus e1.symm e2.symm, fun u => ⟨Src.put S4 nD S1, (b'.trans b4).new nD, pl ++ [z], by rw [List.map_append]; rfl, fun x hx => ?_⟩⟩
    rcases List.mem_append.mp hx with h | h
    · exact hpl x h
    · rw [List.mem_singleton.mp h]
      exact hz
  · obtain ⟨S', b', pl, rfl, hpl⟩ := iv
    rw [List.length_map] at la
    exact q D H' pl nD la hpl hD S' b'
section
variable {P : Program} {w : World} {K : PySem.W.Frag} {mg : Str → Option Value} {base : Heap}
theorem lc_rw {te : TE} {Q : VK} {σ : L2.St} {H2 : Hp} {d L : Addr} {n : Nat} (S2 : Src d L H2) (h1 : σ[1]? = some (some (.int (n : Int)))) (n6 : n ≤ 6) (hw : ∀ x, wipe ((wipe σ [4]).set 4 (some x)) [4] = wipe σ [4])
    (hs : ∀ (p : Addr) (r : List Nat) H', r ∈ tupN n 2 → Src d L H' → But d L H2 H' → H' p = some (.lst (r.map iV)) → ∀ R : VK, (∀ (z : Nat) H4, z < n → Src d L H4 → But d L H' H4 → R (.int (z : Int)) H4) → te ((wipe σ [4]).set 4 (some (.ref p))) H' R)
    (q : ∀ (D : Addr) (H' : Hp) (pl : List Nat), H2 D = none → pl.length = n ^ 2 → (∀ z ∈ pl, z < n) → H' D = some (.lst (pl.map iV)) → Src d L H' → But d L H2 H' → Q (.ref D) H') : tLc (iList K (tCall spRows [] E0 (tCons (tVar 1) (tCons (tC (.int 2)) tNil)))) (gName 4) tYes te [4] σ H2 Q := by
  refine lc_bind (cond := fun J H3 => ∃ (D0 : Addr) (ps : List Addr), J = Itl K D0 ∧ Same H2 H3 ∧ H2 D0 = none ∧ H3 D0 = some (.lst (ps.map V.ref)) ∧ Paired (fun p (r : List Nat) => H3 p = some (.lst (r.map iV)) ∧ H2 p = none) ps (tupN n 2)) (fun R r => ?_) (fun J H3 c => ?_)
  · refine ⟨_, h1, n, 2, rfl, n6, by decide, fun D H' nD e hR => ?_⟩
    obtain ⟨ps, hD, pr⟩ := hR
    exact ⟨D, rfl, ⟨_, SqL.of hD⟩, r _ _ ⟨D, ps, rfl, e, nD, hD, pr⟩⟩
  · obtain ⟨D0, ps, rfl, e, nD0, hD0, pr⟩ := c
    have S3 := S2.same e
    have lps : ps.length = n ^ 2 := by rw [Paired.length pr, tupN_len]
    have l36 := pow_le36 n6 (show 2 ≤ 2 by decide)
    obtain ⟨x1, x2⟩ := S2.d_ne nD0
    refine lc_pl (n := n) (d := d) (L := L) (H1 := H3) (g := gName 4) S3 (fun R r => r) (walk_list (xs := ps.map V.ref)) (by rw [List.length_map]; omega) (fun H' b => SqL.of (b _ _ hD0 x1.symm x2.symm)) (fun i H' x H2 z => z.1) (fun i y H' hi S' b' z R r => ?_) (fun _ _ _ _ h z => gn_mono h z) (fun D H' pl nD lpl hpl hD S' b' => ?_)
    · obtain ⟨_, hy⟩ := z
      rw [List.getElem?_map, Option.map_eq_some_iff] at hy
      obtain ⟨p, hp, rfl⟩ := hy
      obtain ⟨rw', hr', hpr, hpn⟩ := paired_get pr hp
      obtain ⟨y1, y2⟩ := S2.d_ne hpn
      refine gN ⟨hw _, ?_⟩
      exact hs p rw' H' (List.mem_of_getElem? hr') S' ((But.of_same e).trans b') (b' _ _ hpr y1.symm y2.symm) R r
    · rw [List.length_map, lps] at lpl
      exact q D H' pl (e.free nD) lpl hpl hD S' ((But.of_same e).trans b')
theorem sum_cast : ∀ r : List Nat, (r.map fun (i : Nat) => (i : Int)).sum = (r.sum : Int)
  | [] => rfl
  | a :: r => by
    rw [List.map_cons, List.sum_cons, sum_cast r, List.sum_cons]
    omega
theorem ret_two {te : TE} {D : Ends} {σ : L2.St} {H : Hp} {i : Int} (h : te σ H fun v H1 => 2 ≤ sizeLine ∧ ∀ l, H1 l = none → D.rt (.ref l) (upd H1 l (.lst [.int i, v]))) : tRet (tLst (tCons (tC (.int i)) (tCons te tNil))) D σ H := h
theorem in012 : ∀ p : Nat, p < 10 → inV (.int (p : Int)) [.int 0, .int 1, .int 2] = decide (p < 3) := by decide +kernel
/-- a drawn operation -/
def spOp : Sp := fun vs H Q _ => ∃ (d L : Addr) (n : Nat), vs = [.ref d, .int (n : Int)] ∧ Src d L H ∧ 1 ≤ n ∧ n ≤ 6 ∧ ∀ (R l : Addr) (ar : Nat) (pl : List Nat) H', H R = none → H l = none → H' R = some (.lst [.int (ar : Int), .ref l]) → H' l = some (.lst (pl.map iV)) → ar ≤ 2 → pl.length = n ^ ar → (∀ z ∈ pl, z < n) → Src d L H' → But d L H H' → Q (.ref R) H'
abbrev s__law_operation : Stmt := top 36
abbrev N__law_operation : List Str := ["source", "many", "pick", "every", "row", "place"]
theorem sc__law_operation : FnScope N__law_operation ["source", "many"] (defScope s__law_operation) := ⟨rfl, rfl, rfl, by decide +kernel, rfl, by decide +kernel, by decide +kernel⟩
theorem ok_op {f : Addr} {fd : FuncData} (F : Fun K "_law_operation" "_law_operation" s__law_operation f fd) (T : Blt mg) (c__law_pick : Cal P w K mg base 1 "_law_pick" ["source", "many"] spPick) (c__law_rows : Cal P w K mg base 1 "_law_rows" ["many", "arity"] spRows) : FnOk P w K mg base CX0 2 f fd ["source", "many"] spOp := by
  refine F.ok sc__law_operation (fun vs H Q E h => ?_) (fun cdv A outer s H vs Q E hr h => ?_)
  · obtain ⟨d, L, n, rfl, _⟩ := h
    rfl
  · obtain ⟨d, L, n, rfl, S0, n1, n6, k⟩ := h
    refine ⟨_, (pss_cons (ps_set (i := 2) sc__law_operation.nd rfl (Or.inl rfl) (pe_cal c__law_pick (hr.mono (by decide)) (by rfl) (pa_cons (pv 0) (pa_cons (pe_int) pa_nil))))
      (pss_cons (ps_set (i := 3) sc__law_operation.nd rfl (Or.inl rfl) (pe_listRg rfl (by rfl) T.list (prg_1 (by rfl) T.range (pv 1))))
      (pss_cons (ps_if (pt_cmpR (op_inK K) (pv 2) (pe_lst (pa_cons (pe_int) (pa_cons (pe_int) (pa_cons (pe_int) pa_nil)))) rfl) (pss_one (ps_ret (pe_lst (pa_cons (pe_int) (pa_cons (pe_lc (own := [("row", 4)]) (g := gName 4) (by rfl) sc__law_operation.nd (pi_list (pe_cal c__law_rows (hr.mono (by decide)) (by rfl) (pa_cons (pv 1) (pa_cons (pe_int) pa_nil)))) (blkOk_by (own := [("row", 4)]) (N := N__law_operation) (sc := defScope s__law_operation) (by decide +kernel)) (fun _ _ _ _ _ => pg_name (i := 4) sc__law_operation.nd rfl (Or.inl rfl)) (fun _ _ _ _ _ => pts_nil) (fun _ _ _ _ _ => pe_cal c__law_pick (hr.mono (by decide)) (by rfl) (pa_cons (pv 0) (pa_cons (pv 1) pa_nil)))) pa_nil))))) pss_nil)
      (pss_cons (ps_if (pt_cmpR op_eq (pv 2) (pe_int) (nomark _)) (pss_one (ps_ret (pe_lst (pa_cons (pe_int) (pa_cons (pe_lc (own := [("row", 4)]) (g := gName 4) (by rfl) sc__law_operation.nd (pi_list (pe_cal c__law_rows (hr.mono (by decide)) (by rfl) (pa_cons (pv 1) (pa_cons (pe_int) pa_nil)))) (blkOk_by (own := [("row", 4)]) (N := N__law_operation) (sc := defScope s__law_operation) (by decide +kernel)) (fun _ _ _ _ _ => pg_name (i := 4) sc__law_operation.nd rfl (Or.inl rfl)) (fun _ _ _ _ _ => pts_nil) (fun _ _ _ _ _ => pe_callB (cr_maxK K rfl) (by rfl) T.max (by decide +kernel) (pa_cons (pv 4) pa_nil))) pa_nil))))) pss_nil)
      (pss_cons (ps_if (pt_cmpR op_eq (pv 2) (pe_int) (nomark _)) (pss_one (ps_ret (pe_lst (pa_cons (pe_int) (pa_cons (pe_lc (own := [("row", 4)]) (g := gName 4) (by rfl) sc__law_operation.nd (pi_list (pe_cal c__law_rows (hr.mono (by decide)) (by rfl) (pa_cons (pv 1) (pa_cons (pe_int) pa_nil)))) (blkOk_by (own := [("row", 4)]) (N := N__law_operation) (sc := defScope s__law_operation) (by decide +kernel)) (fun _ _ _ _ _ => pg_name (i := 4) sc__law_operation.nd rfl (Or.inl rfl)) (fun _ _ _ _ _ => pts_nil) (fun _ _ _ _ _ => pe_callB (cr_minK K rfl) (by rfl) T.min (by decide +kernel) (pa_cons (pv 4) pa_nil))) pa_nil))))) pss_nil)
      (pss_cons (ps_if (pt_cmpR op_eq (pv 2) (pe_int) (nomark _)) (pss_one (ps_ret (pe_lst (pa_cons (pe_int) (pa_cons (pe_lc (own := [("row", 4)]) (g := gName 4) (by rfl) sc__law_operation.nd (pi_list (pe_cal c__law_rows (hr.mono (by decide)) (by rfl) (pa_cons (pv 1) (pa_cons (pe_int) pa_nil)))) (blkOk_by (own := [("row", 4)]) (N := N__law_operation) (sc := defScope s__law_operation) (by decide +kernel)) (fun _ _ _ _ _ => pg_name (i := 4) sc__law_operation.nd rfl (Or.inl rfl)) (fun _ _ _ _ _ => pts_nil) (fun _ _ _ _ _ => pe_op op_mod (pe_callB (cr_sumK K rfl) (by rfl) T.sum (by decide +kernel) (pa_cons (pv 4) pa_nil)) (pv 1))) pa_nil))))) pss_nil)
      (pss_cons (ps_if (pt_cmpR op_eq (pv 2) (pe_int) (nomark _)) (pss_one (ps_ret (pe_lst (pa_cons (pe_int) (pa_cons (pe_lc (own := [("row", 4)]) (g := gName 4) (by rfl) sc__law_operation.nd (pi_list (pe_cal c__law_rows (hr.mono (by decide)) (by rfl) (pa_cons (pv 1) (pa_cons (pe_int) pa_nil)))) (blkOk_by (own := [("row", 4)]) (N := N__law_operation) (sc := defScope s__law_operation) (by decide +kernel)) (fun _ _ _ _ _ => pg_name (i := 4) sc__law_operation.nd rfl (Or.inl rfl)) (fun _ _ _ _ _ => pts_nil) (fun _ _ _ _ _ => pe_ix (ix_listK K) (pv 4) (pe_int) (fun _ _ => rfl))) pa_nil))))) pss_nil)
      (pss_cons (ps_if (pt_cmpR op_eq (pv 2) (pe_int) (nomark _)) (pss_one (ps_ret (pe_lst (pa_cons (pe_int) (pa_cons (pe_lc (own := [("place", 5)]) (g := gName 5) (by rfl) sc__law_operation.nd (pi_list (pv 3)) (blkOk_by (own := [("place", 5)]) (N := N__law_operation) (sc := defScope s__law_operation) (by decide +kernel)) (fun _ _ _ _ _ => pg_name (i := 5) sc__law_operation.nd rfl (Or.inl rfl)) (fun _ _ _ _ _ => pts_nil) (fun _ _ _ _ _ => pe_op op_mod (pe_callTy call_int1 (by rfl) T.int (by decide +kernel) (pa_cons (pe_op op_add (pv 5) (pe_int)) pa_nil)) (pv 1))) pa_nil))))) pss_nil)
      (pss_cons (ps_if (pt_cmpR op_eq (pv 2) (pe_int) (nomark _)) (pss_one (ps_ret (pe_lst (pa_cons (pe_int) (pa_cons (pe_lc (own := [("place", 5)]) (g := gName 5) (by rfl) sc__law_operation.nd (pi_list (pv 3)) (blkOk_by (own := [("place", 5)]) (N := N__law_operation) (sc := defScope s__law_operation) (by decide +kernel)) (fun _ _ _ _ _ => pg_name (i := 5) sc__law_operation.nd rfl (Or.inl rfl)) (fun _ _ _ _ _ => pts_nil) (fun _ _ _ _ _ => pe_cal c__law_pick (hr.mono (by decide)) (by rfl) (pa_cons (pv 0) (pa_cons (pv 1) pa_nil)))) pa_nil))))) pss_nil)
      (pss_one (ps_ret (pe_lst (pa_cons (pe_int) (pa_cons (pe_lst (pa_cons (pe_cal c__law_pick (hr.mono (by decide)) (by rfl) (pa_cons (pv 0) (pa_cons (pv 1) pa_nil))) pa_nil)) pa_nil)))))))))))))), ?_⟩
    refine ⟨_, rfl, d, L, 10, rfl, S0, by decide, fun r H1 r0 r1 S1 b1 => gN ?_⟩
    obtain ⟨p, rfl⟩ := Int.eq_ofNat_of_zero_le r0
    refine ⟨_, rfl, _, rfl, ⟨by omega, by omega⟩, fun ev nev => ?_⟩
    obtain ⟨H2, eG, e2, hev⟩ := put_new (o := .lst (rgV 0 (n : Int))) nev
    refine gN ?_
    rw [eG]
    clear eG
    have S2 := S1.same e2
    have b2 := b1.trans (But.of_same e2)
    -- the way out of the ways with rows
    have out : ∀ (ar : Nat) (H3 H' : Hp) (D : Addr) (pl : List Nat), Src d L H3 → But d L H H3 → H3 D = none → ar ≤ 2 → pl.length = n ^ ar → (∀ z ∈ pl, z < n) → H' D = some (.lst (pl.map iV)) → Src d L H' → But d L H3 H' → 2 ≤ sizeLine ∧ ∀ l, H' l = none → Q (.ref l) (upd H' l (.lst [.int (ar : Int), .ref D])) := fun ar H3 H' D pl S3 b3 nD har lpl hpl hD S' b' => ⟨by decide, fun l nl => by
      obtain ⟨H4, eG, e4, hl⟩ := put_new (o := .lst [.int (ar : Int), .ref D]) nl
      rw [eG]
      exact k l D ar pl H4 (But.free (b3.trans b') S' nl) (But.free b3 S3 nD) hl (e4 _ _ hD) har lpl hpl (S'.same e4) ((b3.trans b').trans (But.of_same e4))⟩
    refine ⟨_, rfl, by show 3 ≤ sizeLine; decide, fun l nl => ?_⟩
    obtain ⟨H3, eG, e3, hl⟩ := put_new (o := .lst [V.int 0, .int 1, .int 2]) nl
    rw [eG]
    clear eG
    have S3 := S2.same e3
    have b3 := b2.trans (But.of_same e3)
    refine ⟨l, _, rfl, .inl (SqL.of hl), rfl, rfl, _, rfl, ?_⟩
    rw [show (if false = true then !inV (V.int (p : Int)) [.int 0, .int 1, .int 2] else inV (V.int (p : Int)) [.int 0, .int 1, .int 2]) = decide (p < 3) from in012 p (by omega)]
    by_cases h0 : p < 3
    · refine if_true_of (decide_eq_true h0) ?_
      refine ret_two ?_
      refine lc_rw (K := K) (n := n) S3 rfl n6 (fun _ => rfl) (fun p r H' hr S' b' hp R q => ?_) (fun D H' pl nD lpl hpl hD S' b' => ?_)
      · exact ⟨_, rfl, _, rfl, d, L, _, rfl, S', by omega, fun z H4 z0 z1 S4 b4 => by
          obtain ⟨z, rfl⟩ := Int.eq_ofNat_of_zero_le z0
          exact q z H4 (by omega) S4 b4⟩
      · exact out 2 H3 H' D pl S3 b3 nD (by decide) lpl hpl hD S' b'
    refine if_false_of (decide_eq_false h0) ?_
    have sqi : ∀ {H' : Hp} {p : Addr} {r : List Nat}, H' p = some (.lst (r.map iV)) → SqL K H' p ((r.map fun (i : Nat) => (i : Int)).map V.int) := fun h => SqL.of (by rw [h, List.map_map]; rfl)
    have mem : ∀ {r : List Nat} {m : Int}, (∀ x ∈ r, x < n) → m ∈ (r.map fun (i : Nat) => (i : Int)) → ∃ z : Nat, m = (z : Int) ∧ z < n := fun hr hm => by
      obtain ⟨z, hz, rfl⟩ := List.mem_map.mp hm
      exact ⟨z, rfl, hr z hz⟩
    have ne : ∀ (a b : Nat), ¬ a = b → decide (V.int (a : Int) = V.int (b : Int)) = false := fun a b h => decide_eq_false fun z => h (by have z := V.int.inj z; omega)
    by_cases h3 : p = 3
    · refine ⟨_, rfl, rfl, _, rfl, if_true_of (decide_eq_true (by rw [h3]; rfl)) ?_⟩
      refine ret_two ?_
      refine lc_rw (K := K) (n := n) S3 rfl n6 (fun _ => rfl) (fun p r H' hr S' b' hp R q => ?_) (fun D H' pl nD lpl hpl hD S' b' => out 2 H3 H' D pl S3 b3 nD (by decide) lpl hpl hD S' b')
      obtain ⟨lr, ar⟩ := tupN_row n 2 r hr
      refine ⟨_, rfl, p, _, rfl, sqi hp, by rw [List.length_map]; omega, fun m hm _ => ?_⟩
      obtain ⟨z, rfl, hz⟩ := mem ar hm
      exact q z H' hz S' But.refl
    refine ⟨_, rfl, rfl, _, rfl, if_false_of (ne p 3 h3) ?_⟩
    by_cases h4 : p = 4
    · refine ⟨_, rfl, rfl, _, rfl, if_true_of (decide_eq_true (by rw [h4]; rfl)) ?_⟩
      refine ret_two ?_
      refine lc_rw (K := K) (n := n) S3 rfl n6 (fun _ => rfl) (fun p r H' hr S' b' hp R q => ?_) (fun D H' pl nD lpl hpl hD S' b' => out 2 H3 H' D pl S3 b3 nD (by decide) lpl hpl hD S' b')
      obtain ⟨lr, ar⟩ := tupN_row n 2 r hr
      refine ⟨_, rfl, p, _, rfl, sqi hp, by rw [List.length_map]; omega, fun m hm _ => ?_⟩
      obtain ⟨z, rfl, hz⟩ := mem ar hm
      exact q z H' hz S' But.refl
    refine ⟨_, rfl, rfl, _, rfl, if_false_of (ne p 4 h4) ?_⟩
    by_cases h5 : p = 5
    · refine ⟨_, rfl, rfl, _, rfl, if_true_of (decide_eq_true (by rw [h5]; rfl)) ?_⟩
      refine ret_two ?_
      refine lc_rw (K := K) (n := n) S3 rfl n6 (fun _ => rfl) (fun p r H' hr S' b' hp R q => ?_) (fun D H' pl nD lpl hpl hD S' b' => out 2 H3 H' D pl S3 b3 nD (by decide) lpl hpl hD S' b')
      refine ⟨_, rfl, p, _, rfl, sqi hp, _, rfl, _, _, rfl, rfl, (by show (0 : Int) < n; omega), ?_⟩
      rw [show (fun i j : Int => V.int (i % j)) (r.map fun (i : Nat) => (i : Int)).sum (n : Int) = V.int ((r.sum % n : Nat) : Int) from congrArg V.int (by rw [sum_cast, Int.natCast_emod])]
      exact q _ H' (Nat.mod_lt _ (by omega)) S' But.refl
    refine ⟨_, rfl, rfl, _, rfl, if_false_of (ne p 5 h5) ?_⟩
    by_cases h6 : p = 6
    · refine ⟨_, rfl, rfl, _, rfl, if_true_of (decide_eq_true (by rw [h6]; rfl)) ?_⟩
      refine ret_two ?_
      refine lc_rw (K := K) (n := n) S3 rfl n6 (fun _ => rfl) (fun p r H' hr S' b' hp R q => ?_) (fun D H' pl nD lpl hpl hD S' b' => out 2 H3 H' D pl S3 b3 nD (by decide) lpl hpl hD S' b')
      obtain ⟨lr, ar⟩ := tupN_row n 2 r hr
      match r, lr, ar, hp with
      | [a, b], _, ar, hp => exact ⟨_, rfl, p, _, 0, .int (a : Int), rfl, rfl, SqL.of hp, rfl, q a H' (ar a (by simp)) S' But.refl⟩
    refine ⟨_, rfl, rfl, _, rfl, if_false_of (ne p 6 h6) ?_⟩
    have hev3 := e3 _ _ hev
    obtain ⟨x1, x2⟩ := S1.d_ne nev
    have lrg : (rgV 0 (n : Int)).length = n := by rw [rgV_length]; omega
    by_cases h7 : p = 7
    · refine ⟨_, rfl, rfl, _, rfl, if_true_of (decide_eq_true (by rw [h7]; rfl)) ?_⟩
      refine ret_two ?_
      refine lc_pl (n := n) (d := d) (L := L) (J := Itl K ev) (H1 := H3) (g := gName 5) S3 (fun R r => ⟨_, rfl, ev, rfl, ⟨_, SqL.of hev3⟩, r⟩) (walk_list (xs := rgV 0 (n : Int))) (by omega) (fun H' b => SqL.of (b _ _ hev3 x1.symm x2.symm)) (fun i H' x H2 z => z.1) (fun i y H' hi S' b' z R r => ?_) (fun _ _ _ _ h z => gn_mono h z) (fun D H' pl nD lpl hpl hD S' b' => out 1 H3 H' D pl S3 b3 nD (by decide) (by rw [lpl, lrg, Nat.pow_one]) hpl hD S' b')
      obtain ⟨_, hy⟩ := z
      rw [lrg] at hi
      unfold rgV at hy
      rw [List.getElem?_map, List.getElem?_range (by omega)] at hy
      injection hy with hy
      subst hy
      refine gN ⟨rfl, _, rfl, _, _, rfl, rfl, .inl ⟨_, rfl, _, rfl, _, _, rfl, rfl, (by show (0 : Int) < n; omega), ?_⟩⟩
      rw [show (fun i j : Int => V.int (i % j)) (0 + (i : Int) + 1) (n : Int) = V.int (((i + 1) % n : Nat) : Int) from congrArg V.int (by rw [Int.natCast_emod]; congr 1; omega)]
      exact r _ H' (Nat.mod_lt _ (by omega)) S' But.refl
    refine ⟨_, rfl, rfl, _, rfl, if_false_of (ne p 7 h7) ?_⟩
    by_cases h8 : p = 8
    · refine ⟨_, rfl, rfl, _, rfl, if_true_of (decide_eq_true (by rw [h8]; rfl)) ?_⟩
      refine ret_two ?_
      refine lc_pl (n := n) (d := d) (L := L) (J := Itl K ev) (H1 := H3) (g := gName 5) S3 (fun R r => ⟨_, rfl, ev, rfl, ⟨_, SqL.of hev3⟩, r⟩) (walk_list (xs := rgV 0 (n : Int))) (by omega) (fun H' b => SqL.of (b _ _ hev3 x1.symm x2.symm)) (fun i H' x H2 z => z.1) (fun i y H' hi S' b' z R r => ?_) (fun _ _ _ _ h z => gn_mono h z) (fun D H' pl nD lpl hpl hD S' b' => out 1 H3 H' D pl S3 b3 nD (by decide) (by rw [lpl, lrg, Nat.pow_one]) hpl hD S' b')
      exact gN ⟨rfl, _, rfl, _, rfl, d, L, _, rfl, S', by omega, fun z H4 z0 z1 S4 b4 => by
          obtain ⟨z, rfl⟩ := Int.eq_ofNat_of_zero_le z0
          exact r z H4 (by omega) S4 b4⟩
    refine ⟨_, rfl, rfl, _, rfl, if_false_of (ne p 8 h8) ?_⟩
    unfold tNext
    dsimp only
    refine ret_two ?_
    refine ⟨_, rfl, _, rfl, d, L, _, rfl, S3, by omega, fun z H4 z0 z1 S4 b4 => ?_⟩
    obtain ⟨z, rfl⟩ := Int.eq_ofNat_of_zero_le z0
    refine ⟨by show 1 ≤ sizeLine; decide, fun l2 nl2 => ?_⟩
    obtain ⟨H5, eG, e5, hl2⟩ := put_new (o := .lst [.int (z : Int)]) nl2
    rw [eG]
    clear eG
    exact out 0 H3 H5 l2 [z] S3 b3 (But.free b4 S4 nl2) (by decide) (by simp) (fun y hy => by rw [List.mem_singleton.mp hy]; omega) hl2 (S4.same e5) (b4.trans (But.of_same e5))
end
end K43


set_option Elab.async false
set_option linter.all false
set_option maxRecDepth 100000
set_option maxHeartbeats 4000000
namespace K43
open PySem PySem.Spec PyProof.Rows L2 Evl NdefX SX StX
/-- an operation by places: its sign, its arity, its values -/
abbrev Dop : Type := List Nat × Nat × List Nat
structure GoodD (us : List (List Nat)) (os : List Dop) : Prop where
  n1 : 1 ≤ us.length
  n6 : us.length ≤ 6
  nm : Names us
  sg : Names (os.map (·.1))
  l5 : os.length ≤ 5
  va : ∀ o ∈ os, o.2.1 ≤ 2 ∧ o.2.2.length = us.length ^ o.2.1 ∧ ∀ z ∈ o.2.2, z < us.length
def algD (M Sg Vl : Addr) : List (Key × V) := [(Sum.inr "members", .ref M), (Sum.inr "signs", .ref Sg), (Sum.inr "values", .ref Vl)]
theorem alg_m {M Sg Vl : Addr} : valV (algD M Sg Vl) (Sum.inr "members" : Key) = some (.ref M) := valV_pos rfl
theorem alg_s {M Sg Vl : Addr} : valV (algD M Sg Vl) (Sum.inr "signs" : Key) = some (.ref Sg) := (valV_neg (kne (by decide +kernel))).trans (valV_pos rfl)
theorem alg_v {M Sg Vl : Addr} : valV (algD M Sg Vl) (Sum.inr "values" : Key) = some (.ref Vl) := (valV_neg (kne (by decide +kernel))).trans ((valV_neg (kne (by decide +kernel))).trans (valV_pos rfl))
theorem merge_alg {M Sg Vl : Addr} : mergeK [] (algD M Sg Vl) = algD M Sg Vl := by
  unfold mergeK algD
  simp only [List.foldl_cons, List.foldl_nil]
  rw [putK_new (kvs := []) _ rfl, List.nil_append, putK_new _ ((valV_neg (kne (by decide +kernel))).trans rfl)]
  simp only [List.nil_append, List.cons_append]
  rw [putK_new _ ((valV_neg (kne (by decide +kernel))).trans ((valV_neg (kne (by decide +kernel))).trans rfl))]
  rfl
section
variable {H : Hp} {D M Sg Vl : Addr} (h : H D = some (.dK (algD M Sg Vl)))
include h
theorem dg_m : DGet H D (.str "members") (some (.ref M)) := by rw [← alg_m (M := M) (Sg := Sg) (Vl := Vl)]; exact DGet.k (k := Sum.inr "members") h
theorem dg_s : DGet H D (.str "signs") (some (.ref Sg)) := by rw [← alg_s (M := M) (Sg := Sg) (Vl := Vl)]; exact DGet.k (k := Sum.inr "signs") h
theorem dg_v : DGet H D (.str "values") (some (.ref Vl)) := by rw [← alg_v (M := M) (Sg := Sg) (Vl := Vl)]; exact DGet.k (k := Sum.inr "values") h
end
/-- a drawn algebra, made behind H0 -/
def DrawAt (H0 H : Hp) (D : Addr) (us : List (List Nat)) (os : List Dop) : Prop := ∃ (M Sg Vl : Addr) (ss vl : List Addr), H D = some (.dK (algD M Sg Vl)) ∧ H M = some (.lst (us.map fun u => V.str (S u))) ∧ H Sg = some (.lst (ss.map V.ref)) ∧ Paired (fun s (o : Dop) => H s = some (.tup [.str (S o.1), .int (o.2.1 : Int)]) ∧ H0 s = none) ss os ∧
  H Vl = some (.lst (vl.map V.ref)) ∧ Paired (fun l (o : Dop) => H l = some (.lst (o.2.2.map iV)) ∧ H0 l = none) vl os ∧ H0 D = none ∧ H0 M = none ∧ H0 Sg = none ∧ H0 Vl = none
theorem DrawAt.but {d L D : Addr} {H0 H H' : Hp} {us : List (List Nat)} {os : List Dop} (h : DrawAt H0 H D us os) (b : But d L H H') (s : Src d L H0) : DrawAt H0 H' D us os := by
  obtain ⟨M, Sg, Vl, ss, vl, h1, h2, h3, h4, h5, h6, n1, n2, n3, n4⟩ := h
  have go : ∀ {a o}, H a = some o → H0 a = none → H' a = some o := fun {a o} q n => by
    obtain ⟨x, y⟩ := s.d_ne n
    exact b _ _ q x.symm y.symm
  exact ⟨M, Sg, Vl, ss, vl, go h1 n1, go h2 n2, go h3 n3, Paired.mapP h4 fun _ _ q => ⟨go q.1 q.2, q.2⟩, go h5 n4, Paired.mapP h6 fun _ _ q => ⟨go q.1 q.2, q.2⟩, n1, n2, n3, n4⟩
theorem neg_in (x : V) : inV (.int (-1)) [.int (-1), x] = true := rfl
theorem flat_rep (c : Nat) (x : V) : (List.replicate c [x]).flatten = List.replicate c x := by
  induction c with
  | zero => rfl
  | succ n ih => rw [List.replicate_succ, List.flatten_cons, ih, List.replicate_succ]; rfl
theorem due_at : ∀ r : Nat, r < 8 → ∃ c : Nat, c ≤ 3 ∧ atI [V.int 1, .int 2, .int 3, .int 1, .int 2, .int 3, .int 2, .int 0] (r : Int) = some (.int (c : Int)) := fun r h => by
  have hh : r = 0 ∨ r = 1 ∨ r = 2 ∨ r = 3 ∨ r = 4 ∨ r = 5 ∨ r = 6 ∨ r = 7 := by omega
  rcases hh with rfl | rfl | rfl | rfl | rfl | rfl | rfl | rfl
  · exact ⟨1, by decide, rfl⟩
  · exact ⟨2, by decide, rfl⟩
  · exact ⟨3, by decide, rfl⟩
  · exact ⟨1, by decide, rfl⟩
  · exact ⟨2, by decide, rfl⟩
  · exact ⟨3, by decide, rfl⟩
  · exact ⟨2, by decide, rfl⟩
  · exact ⟨0, by decide, rfl⟩
theorem paired_snoc {α β : Type} {R : α → β → Prop} {l : List α} {m : List β} {a : α} {b : β} (h : Paired R l m) (r : R a b) : Paired R (l ++ [a]) (m ++ [b]) := paired_app h (.cons r .nil)
section
variable {P : Program} {w : World} {K : PySem.W.Frag} {mg : Str → Option Value} {base : Heap}
def spAlgD : Sp := fun vs H Q _ => ∃ (d L : Addr) (n : Nat), vs = [.ref d, .int (n : Int), .non] ∧ Src d L H ∧ 1 ≤ n ∧ n ≤ 6 ∧ ∀ D us os H', us.length ≤ n → GoodD us os → DrawAt H H' D us os → Src d L H' → But d L H H' → Q (.ref D) H'
abbrev s__law_algebra : Stmt := top 37
abbrev N__law_algebra : List Str := ["source", "most", "signs", "many", "found", "due", "names", "pair", "k", "drawn", "n"]
theorem sc__law_algebra : FnScope N__law_algebra ["source", "most", "signs"] (defScope s__law_algebra) := ⟨rfl, rfl, rfl, by decide +kernel, rfl, by decide +kernel, by decide +kernel⟩
theorem ok_algd {f : Addr} {fd : FuncData} (F : Fun K "_law_algebra" "_law_algebra" s__law_algebra f fd) (T : Blt mg) (c__law_pick : Cal P w K mg base 1 "_law_pick" ["source", "many"] spPick) (c__law_rows : Cal P w K mg base 1 "_law_rows" ["many", "arity"] spRows) (c__law_names : Cal P w K mg base 2 "_law_names" ["source", "many"] spNamesL) (c__law_operation : Cal P w K mg base 2 "_law_operation" ["source", "many"] spOp) : FnOk P w K mg base CX0 3 f fd ["source", "most", "signs"] spAlgD := by
  refine F.ok sc__law_algebra (fun vs H Q E h => ?_) (fun cdv A outer s H vs Q E hr h => ?_)
  · obtain ⟨d, L, n, rfl, _⟩ := h
    rfl
  · obtain ⟨d, L, most, rfl, S0, m1, m6, k⟩ := h
    have hu := hu_of hr
    refine ⟨_, (pss_cons (ps_set (i := 3) sc__law_algebra.nd rfl (Or.inl rfl) (pe_op op_add (pe_int) (pe_cal c__law_pick (hr.mono (by decide)) (by rfl) (pa_cons (pv 0) (pa_cons (pv 1) pa_nil)))))
      (pss_cons (ps_set (i := 4) sc__law_algebra.nd rfl (Or.inl rfl) (pe_disp (pps_cons (pe_str) (pe_cal c__law_names (hr.mono (by decide)) (by rfl) (pa_cons (pv 0) (pa_cons (pv 3) pa_nil))) (pps_cons (pe_str) (pe_lst pa_nil) (pps_cons (pe_str) (pe_lst pa_nil) pps_nil))) (by rfl) (by rfl) (fun z => by cases z) (by decide)))
      (pss_cons (ps_set (i := 5) sc__law_algebra.nd rfl (Or.inl rfl) (pe_op op_rep (pe_lst (pa_cons (pe_un un_neg pe_int) pa_nil)) (pe_ifExp (pt_cmpR op_isN (pv 2) (pe_non) (nomark _)) (pe_ix (ix_listK K) (pe_lst (pa_cons (pe_int) (pa_cons (pe_int) (pa_cons (pe_int) (pa_cons (pe_int) (pa_cons (pe_int) (pa_cons (pe_int) (pa_cons (pe_int) (pa_cons (pe_int) pa_nil))))))))) (pe_cal c__law_pick (hr.mono (by decide)) (by rfl) (pa_cons (pv 0) (pa_cons (pe_int) pa_nil))) (fun _ _ => rfl)) (pe_int))))
      (pss_cons (ps_set (i := 6) sc__law_algebra.nd rfl (Or.inl rfl) (pe_cal c__law_names (hr.mono (by decide)) (by rfl) (pa_cons (pv 0) (pa_cons (pe_callB (call_lenK K) (by rfl) T.len (by decide +kernel) (pa_cons (pv 5) pa_nil)) pa_nil))))
      (pss_cons (ps_for PassesOwn.never rfl (pi_list (pe_ifExp (pt_cmpR op_isN (pv 2) (pe_non) (nomark _)) (pe_lst pa_nil) (pv 2))) (pg_name (i := 7) sc__law_algebra.nd rfl (Or.inl rfl)) (pss_cons (ps_expr (pe_bm PySem.F.plainAttrs_list PySem.F.slot_list_append PySem.F.type_list_append mt_append (pv 5) (pa_cons (pe_ix (ix_listK K) (pv 7) (pe_int) (fun _ _ => rfl)) pa_nil)))
      (pss_one (ps_expr (pe_bm PySem.F.plainAttrs_list PySem.F.slot_list_append PySem.F.type_list_append mt_append (pv 6) (pa_cons (pe_ix (ix_listK K) (pv 7) (pe_int) (fun _ _ => rfl)) pa_nil))))))
      (pss_cons (ps_for PassesOwn.never rfl (pi_range1 (by rfl) T.range (pa_cons (pe_callB (call_lenK K) (by rfl) T.len (by decide +kernel) (pa_cons (pv 5) pa_nil)) pa_nil)) (pg_name (i := 8) sc__law_algebra.nd rfl (Or.inl rfl)) (pss_cons (ps_set (i := 9) sc__law_algebra.nd rfl (Or.inl rfl) (pe_cal c__law_operation (hr.mono (by decide)) (by rfl) (pa_cons (pv 0) (pa_cons (pv 3) pa_nil))))
      (pss_cons (ps_for PassesOwn.never rfl (pi_range1 (by rfl) T.range (pa_cons (pe_int) pa_nil)) (pg_name (i := 10) sc__law_algebra.nd rfl (Or.inl rfl)) (pss_cons (ps_if (pt_cmpR (op_inK K) (pe_ix (ix_listK K) (pv 5) (pv 8) (fun _ _ => rfl)) (pe_lst (pa_cons (pe_un un_neg pe_int) (pa_cons (pe_ix (ix_listK K) (pv 9) (pe_int) (fun _ _ => rfl)) pa_nil))) rfl) (pss_one (ps_break)) pss_nil)
      (pss_one (ps_set (i := 9) sc__law_algebra.nd rfl (Or.inl rfl) (pe_cal c__law_operation (hr.mono (by decide)) (by rfl) (pa_cons (pv 0) (pa_cons (pv 3) pa_nil)))))))
      (pss_cons (ps_if (pt_cmpR (op_notInK K) (pe_ix (ix_listK K) (pv 5) (pv 8) (fun _ _ => rfl)) (pe_lst (pa_cons (pe_un un_neg pe_int) (pa_cons (pe_ix (ix_listK K) (pv 9) (pe_int) (fun _ _ => rfl)) pa_nil))) rfl) (pss_one (ps_set (i := 9) sc__law_algebra.nd rfl (Or.inl rfl) (pe_lst (pa_cons (pe_ix (ix_listK K) (pv 5) (pv 8) (fun _ _ => rfl)) (pa_cons (pe_op op_rep (pe_lst (pa_cons (pe_int) pa_nil)) (pe_callB (call_lenK K) (by rfl) T.len (by decide +kernel) (pa_cons (pe_cal c__law_rows (hr.mono (by decide)) (by rfl) (pa_cons (pv 3) (pa_cons (pe_ix (ix_listK K) (pv 5) (pv 8) (fun _ _ => rfl)) pa_nil))) pa_nil))) pa_nil))))) pss_nil)
      (pss_cons (ps_expr (pe_bm PySem.F.plainAttrs_list PySem.F.slot_list_append PySem.F.type_list_append mt_append (pe_dget hu (pv 4) (pe_str) (fun _ _ => rfl)) (pa_cons (pe_tup (pa_cons (pe_ix (ix_listK K) (pv 6) (pv 8) (fun _ _ => rfl)) (pa_cons (pe_ix (ix_listK K) (pv 9) (pe_int) (fun _ _ => rfl)) pa_nil))) pa_nil)))
      (pss_one (ps_expr (pe_bm PySem.F.plainAttrs_list PySem.F.slot_list_append PySem.F.type_list_append mt_append (pe_dget hu (pv 4) (pe_str) (fun _ _ => rfl)) (pa_cons (pe_ix (ix_listK K) (pv 9) (pe_int) (fun _ _ => rfl)) pa_nil)))))))))
      (pss_one (ps_ret (pv 4))))))))), ?_⟩
    refine ⟨_, rfl, _, rfl, d, L, most, rfl, S0, by omega, fun r H1 r0 r1 S1 b1 => ⟨_, _, rfl, rfl, ?_⟩⟩
    obtain ⟨q, rfl⟩ := Int.eq_ofNat_of_zero_le r0
    obtain ⟨n, hn, n1, n6, nm⟩ : ∃ n : Nat, (1 : Int) + (q : Int) = (n : Int) ∧ 1 ≤ n ∧ n ≤ 6 ∧ n ≤ most := ⟨1 + q, by omega, by omega, by omega, by omega⟩
    refine gN ?_
    rw [show (fun i j : Int => V.int (i + j)) 1 (q : Int) = V.int (n : Int) from congrArg V.int hn]
    -- the dict
    intro p np
    obtain ⟨H2, eG, e2, hp2⟩ := put_new (o := .dK []) np
    rw [eG]
    clear eG
    refine ⟨_, rfl, _, rfl, d, L, n, rfl, S1.same e2, by omega, fun us M H3 lus nus nM hM S3 b3 => ?_⟩
    have np3 := np
    obtain ⟨dp, Lp⟩ := S1.d_ne np
    have hp3 := b3 _ _ hp2 dp.symm Lp.symm
    refine ⟨by show 0 ≤ sizeLine; decide, fun Sg nSg => ?_⟩
    obtain ⟨H4, eG, e4, hSg⟩ := put_new (o := .lst []) nSg
    rw [eG]
    clear eG
    refine ⟨by show 0 ≤ sizeLine; decide, fun Vl nVl => ?_⟩
    obtain ⟨H5, eG, e5, hVl⟩ := put_new (o := .lst []) nVl
    rw [eG]
    clear eG
    have hp5 := e5 _ _ (e4 _ _ hp3)
    have hM5 := e5 _ _ (e4 _ _ hM)
    have hSg5 := e5 _ _ hSg
    refine ⟨hp5, algD M Sg Vl, rfl, by show 3 ≤ 15; decide, ?_⟩
    rw [merge_alg]
    have S5 := (S3.same e4).same e5
    have np1 : H p = none := But.free b1 S1 np
    have b5 : But d L H H5 := b1.trans ((But.of_same e2).trans (b3.trans ((But.of_same e4).trans (But.of_same e5))))
    have b4 : But d L H H4 := b1.trans ((But.of_same e2).trans (b3.trans (But.of_same e4)))
    have b30 : But d L H H3 := b1.trans ((But.of_same e2).trans b3)
    have nM1 : H M = none := But.free (b1.trans (But.of_same e2)) (S1.same e2) nM
    have nSg1 : H Sg = none := But.free b30 S3 nSg
    have nVl1 : H Vl = none := But.free b4 (S3.same e4) nVl
    have MSg : M ≠ Sg := ne_of_none hM nSg
    have MVl : M ≠ Vl := ne_of_none (e4 _ _ hM) nVl
    have SgVl : Sg ≠ Vl := ne_of_none hSg nVl
    have pM : p ≠ M := ne_of_none hp2 nM
    have pSg : p ≠ Sg := ne_of_none hp3 nSg
    have pVl : p ≠ Vl := ne_of_none (e4 _ _ hp3) nVl
    have S6 : Src d L (upd H5 p (.dK (algD M Sg Vl))) := Src.put S5 np S1
    have b6 : But d L H (upd H5 p (.dK (algD M Sg Vl))) := b5.new np1
    obtain ⟨H6, eG, hp6, hM6, hSg6, hVl6⟩ : ∃ H6, upd H5 p (.dK (algD M Sg Vl)) = H6 ∧ H6 p = some (.dK (algD M Sg Vl)) ∧ H6 M = some (.lst (us.map fun u => V.str (S u))) ∧ H6 Sg = some (.lst []) ∧ H6 Vl = some (.lst []) := ⟨_, rfl, upd_same, by rw [upd_ne pM.symm]; exact hM5, by rw [upd_ne pSg.symm]; exact hSg5, by rw [upd_ne pVl.symm]; exact hVl⟩
    rw [eG] at S6 b6
    rw [eG]
    clear eG
    refine gN ?_
    -- due
    refine ⟨_, rfl, by show 1 ≤ sizeLine; decide, fun a na => ?_⟩
    obtain ⟨H7, eG, e7, ha⟩ := put_new (o := .lst [.int (-1)]) na
    rw [eG]
    clear eG
    refine ⟨_, rfl, rfl, _, rfl, if_true_of rfl ?_⟩
    refine ⟨by show 8 ≤ sizeLine; decide, fun a8 na8 => ?_⟩
    obtain ⟨H8, eG, e8, ha8⟩ := put_new (o := .lst [V.int 1, .int 2, .int 3, .int 1, .int 2, .int 3, .int 2, .int 0]) na8
    rw [eG]
    clear eG
    have S8 := (S6.same e7).same e8
    have b8 := b6.trans ((But.of_same e7).trans (But.of_same e8))
    refine ⟨_, rfl, d, L, 8, rfl, S8, by decide, fun r H9 r0 r1 S9 b9 => ?_⟩
    obtain ⟨q, rfl⟩ := Int.eq_ofNat_of_zero_le r0
    obtain ⟨c, hc, hat⟩ := due_at q (by omega)
    obtain ⟨da, La⟩ := S6.d_ne na
    obtain ⟨da8, La8⟩ := (S6.same e7).d_ne na8
    have ha8' := b9 _ _ ha8 da8.symm La8.symm
    have ha' := b9 _ _ (e8 _ _ ha) da.symm La.symm
    refine ⟨_, _, _, _, rfl, rfl, SqL.of ha8', hat, ?_⟩
    refine ⟨a, (c : Int), [.int (-1)], rfl, rfl, ha', by omega, by omega, by rw [sizeLine_eq]; show 1 * _ ≤ _; omega, fun Du nDu => ?_⟩
    rw [flat_rep, Int.toNat_natCast]
    obtain ⟨H10, eG, e10, hDu⟩ := put_new (o := .lst (List.replicate c (V.int (-1)))) nDu
    rw [eG]
    clear eG
    have S10 := S9.same e10
    have b10 := b8.trans (b9.trans (But.of_same e10))
    have b610 : But d L H6 H10 := (But.of_same (e7.trans e8)).trans (b9.trans (But.of_same e10))
    refine gN ?_
    have lrep : (List.replicate c (V.int (-1))).length = c := List.length_replicate
    refine ⟨_, rfl, _, rfl, _, _, rfl, .inl (SqL.of hDu), d, L, (List.replicate c (V.int (-1))).length, rfl, S10, by omega, fun ns N H11 lns nns nN hN S11 b11 => ?_⟩
    rw [lrep] at lns
    refine gN ?_
    have keep : ∀ {x o} {Ha Hb : Hp}, H x = none → But d L Ha Hb → Ha x = some o → Hb x = some o := fun {x o Ha Hb} nx b hx => by
      obtain ⟨y, z⟩ := S0.d_ne nx
      exact b _ _ hx y.symm z.symm
    have nDu0 : H Du = none := But.free (b8.trans b9) S9 nDu
    have nN0 : H N = none := But.free b10 S10 nN
    have b11' := b10.trans b11
    have b611 := b610.trans b11
    have SgDu : Du ≠ Sg := (ne_of_none (keep nSg1 ((But.of_same (e7.trans e8)).trans b9) hSg6) nDu).symm
    have VlDu : Du ≠ Vl := (ne_of_none (keep nVl1 ((But.of_same (e7.trans e8)).trans b9) hVl6) nDu).symm
    have SgN : N ≠ Sg := (ne_of_none (keep nSg1 b610 hSg6) nN).symm
    have VlN : N ≠ Vl := (ne_of_none (keep nVl1 b610 hVl6) nN).symm
    refine ⟨_, rfl, rfl, _, rfl, if_true_of rfl ?_⟩
    refine ⟨by show 0 ≤ sizeLine; decide, fun z nz => ?_⟩
    obtain ⟨H12, eG, e12, hz⟩ := put_new (o := .lst []) nz
    rw [eG]
    clear eG
    refine ⟨z, rfl, ⟨_, SqL.of hz⟩, for_list (K := K) (a := z) (xs := []) (fun i σ' H' => σ' = [some (.ref d), some (.int (most : Int)), some .non, some (.int (n : Int)), some (.ref p), some (.ref Du), some (.ref N), none, none, none, none] ∧ H' = H12) ⟨rfl, rfl⟩ (fun i σ' H' _ p => by rw [p.2]; exact SqL.of hz) (fun i v σ' H' hi p => by cases hi) (fun σ' H' p => ?_)⟩
    obtain ⟨rfl, rfl⟩ := p
    have S12 := S11.same e12
    have b12 := b11'.trans (But.of_same e12)
    have b612 := b611.trans (But.of_same e12)
    have hDu12 := keep nDu0 (b11.trans (But.of_same e12)) hDu
    have hN12 := e12 _ _ hN
    refine ⟨_, rfl, _, _, rfl, .inl (SqL.of hDu12), _, rfl, by omega, by rw [lrep]; omega, ?_⟩
    refine for_range (lo := 0) (n := ((List.replicate c (V.int (-1))).length : Int).toNat) (fun j σ' H' => ∃ (ss vl : List Addr) (os : List Dop) (v8 v9 v10 : Option V), σ' = [some (.ref d), some (.int (most : Int)), some .non, some (.int (n : Int)), some (.ref p), some (.ref Du), some (.ref N), none, v8, v9, v10] ∧ os.map (·.1) = ns.take j ∧ (∀ o ∈ os, o.2.1 ≤ 2 ∧ o.2.2.length = us.length ^ o.2.1 ∧ ∀ z ∈ o.2.2, z < us.length) ∧
      H' Sg = some (.lst (ss.map V.ref)) ∧ Paired (fun s (o : Dop) => H' s = some (.tup [.str (S o.1), .int (o.2.1 : Int)]) ∧ H s = none) ss os ∧ H' Vl = some (.lst (vl.map V.ref)) ∧ Paired (fun l (o : Dop) => H' l = some (.lst (o.2.2.map iV)) ∧ H l = none ∧ l ≠ Sg ∧ l ≠ Vl) vl os ∧ H' p = some (.dK (algD M Sg Vl)) ∧ H' M = some (.lst (us.map fun u => V.str (S u))) ∧ H' Du = some (.lst (List.replicate c (V.int (-1)))) ∧ H' N = some (.lst (ns.map fun u => V.str (S u))) ∧ Src d L H' ∧ But d L H H')
      ⟨[], [], [], none, none, none, rfl, by rw [List.take_zero]; rfl, (fun o h => by cases h), keep nSg1 b612 hSg6, .nil, keep nVl1 b612 hVl6, .nil, keep np1 b612 hp6, keep nM1 b612 hM6, hDu12, hN12, S12, b12⟩ (fun j σ' H' hj p => ?_) (fun σ' H' p => ?_)
    · obtain ⟨ss, vl, os, v8, v9, v10, rfl, hos, hva, gSg, pss, gVl, pvl, gp, gM, gDu, gN', S', b'⟩ := p
      rw [Int.toNat_natCast, lrep] at hj
      have los : os.length = j := by
        have := congrArg List.length hos
        rw [List.length_map, List.length_take, lns, Nat.min_eq_left (by omega)] at this
        exact this
      refine gN ?_
      refine ⟨_, rfl, _, rfl, d, L, n, rfl, S', n1, n6, fun R l ar pl H1' nR nl hR hl har lpl hpl S1' b1' => gN ?_⟩
      have sSg := keep nSg1 b1' gSg
      have sVl := keep nVl1 b1' gVl
      have sp' := keep np1 b1' gp
      have sM := keep nM1 b1' gM
      have sDu := keep nDu0 b1' gDu
      have sN := keep nN0 b1' gN'
      have lSg : l ≠ Sg := (ne_of_none gSg nl).symm
      have lVl : l ≠ Vl := (ne_of_none gVl nl).symm
      have RSg : R ≠ Sg := (ne_of_none gSg nR).symm
      have RVl : R ≠ Vl := (ne_of_none gVl nR).symm
      have nl0 : H l = none := But.free b' S' nl
      have nR0 : H R = none := But.free b' S' nR
      have atk : ∀ {α : Type} {xs : List α} {v : α}, xs[j]? = some v → atI xs (0 + (j : Int)) = some v := fun {α xs v} h => by rw [Int.zero_add]; exact atI_nat h
      have dueAt : atI (List.replicate c (V.int (-1))) (0 + (j : Int)) = some (V.int (-1)) := atk (by rw [List.getElem?_replicate, if_pos hj])
      obtain ⟨u, hu2⟩ : ∃ u, ns[j]? = some u := ⟨_, List.getElem?_eq_getElem (by omega)⟩
      refine ⟨40, rfl, by decide, by decide, for_range (lo := 0) (n := (40 : Int).toNat) (fun i σ' H' => i = 0 ∧ H' = H1' ∧ σ' = [some (.ref d), some (.int (most : Int)), some .non, some (.int (n : Int)), some (.ref p), some (.ref Du), some (.ref N), none, some (.int (0 + (j : Int))), some (.ref R), v10]) ⟨rfl, rfl, rfl⟩ (fun i σ' H' hi p => ?_) (fun σ' H' p => by have := p.1; cases this)⟩
      obtain ⟨rfl, rfl, rfl⟩ := p
      refine gN ?_
      refine ⟨_, rfl, _, rfl, Du, _, _, _, rfl, rfl, SqL.of sDu, dueAt, _, rfl, _, rfl, R, _, _, _, rfl, rfl, SqL.of hR, rfl, by show 2 ≤ sizeLine; decide, fun z nz => ?_⟩
      obtain ⟨H2', eG, e2', hz⟩ := put_new (o := .lst [.int (-1), .int (ar : Int)]) nz
      rw [eG]
      clear eG
      refine ⟨z, _, rfl, .inl (SqL.of hz), rfl, rfl, _, rfl, if_true_of rfl ?_⟩
      show tSeq _ _ _ _ _
      refine ⟨_, rfl, _, rfl, Du, _, _, _, rfl, rfl, SqL.of (e2' _ _ sDu), dueAt, _, rfl, _, rfl, R, _, _, _, rfl, rfl, SqL.of (e2' _ _ hR), rfl, by show 2 ≤ sizeLine; decide, fun z2 nz2 => ?_⟩
      obtain ⟨H3', eG, e3', hz2⟩ := put_new (o := .lst [.int (-1), .int (ar : Int)]) nz2
      rw [eG]
      clear eG
      refine ⟨z2, _, rfl, .inl (SqL.of hz2), rfl, rfl, _, rfl, if_false_of rfl ?_⟩
      have e23 := e2'.trans e3'
      show tSeq _ _ _ _ _
      refine ⟨_, rfl, p, _, rfl, dg_s (e23 _ _ sp'), .inl ⟨rfl, _, SqL.of (e23 _ _ sSg)⟩, _, rfl, _, rfl, N, _, _, _, rfl, rfl, SqL.of (e23 _ _ sN), atk (by rw [List.getElem?_map, hu2]; rfl), _, rfl, R, _, _, _, rfl, rfl, SqL.of (e23 _ _ hR), rfl, by show 2 ≤ sizeLine; decide, fun t nt => ?_⟩
      obtain ⟨H4', eG, e4', ht⟩ := put_new (o := .tup [.str (S u), .int (ar : Int)]) nt
      rw [eG]
      clear eG
      have e24 := e23.trans e4'
      refine ⟨Sg, _, _, rfl, rfl, e24 _ _ sSg, by rw [List.length_map, Paired.length pss, los, sizeLine_eq]; omega, ?_⟩
      have S4' := S1'.same e24
      have b4' := (b'.trans b1').trans (But.of_same e24)
      have nt0 : H t = none := But.free ((b'.trans b1').trans (But.of_same e23)) (S1'.same e23) nt
      have tSg : t ≠ Sg := (ne_of_none (e23 _ _ sSg) nt).symm
      have tVl : t ≠ Vl := (ne_of_none (e23 _ _ sVl) nt).symm
      obtain ⟨H5', eG⟩ : ∃ H5', upd H4' Sg (.lst (ss.map V.ref ++ [.ref t])) = H5' := ⟨_, rfl⟩
      have on5 : ∀ {x o}, x ≠ Sg → H4' x = some o → H5' x = some o := fun {x o} hx h => by rw [← eG, upd_ne hx]; exact h
      have at5 : H5' Sg = some (.lst (ss.map V.ref ++ [.ref t])) := by rw [← eG]; exact upd_same
      have S5' : Src d L H5' := by rw [← eG]; exact Src.put S4' nSg1 S0
      have b5' : But d L H H5' := by rw [← eG]; exact b4'.new nSg1
      rw [eG]
      clear eG
      refine ⟨_, rfl, p, _, rfl, dg_v (on5 pSg (e24 _ _ sp')), .inl ⟨rfl, _, SqL.of (on5 SgVl.symm (e24 _ _ sVl))⟩, _, rfl, R, _, _, _, rfl, rfl, SqL.of (on5 RSg (e24 _ _ hR)), rfl, Vl, _, _, rfl, rfl, on5 SgVl.symm (e24 _ _ sVl), by rw [List.length_map, Paired.length pvl, los, sizeLine_eq]; omega, ?_⟩
      have on6 : ∀ {x o u}, x ≠ Sg → x ≠ Vl → H4' x = some o → upd H5' Vl u x = some o := fun {x o u} hx hy h => by rw [upd_ne hy]; exact on5 hx h
      refine ⟨ss ++ [t], vl ++ [l], os ++ [(u, ar, pl)], _, _, _, rfl, ?_, ?_, by rw [upd_ne SgVl, at5, List.map_append]; rfl, paired_snoc (Paired.mapP pss fun a o q => ⟨on6 (ne_of q.1 gSg fun z => nomatch z) (ne_of q.1 gVl fun z => nomatch z) (e24 _ _ (keep q.2 b1' q.1)), q.2⟩) ⟨on6 tSg tVl ht, nt0⟩, by rw [upd_same, List.map_append]; rfl,
        paired_snoc (Paired.mapP pvl fun a o q => ⟨on6 q.2.2.1 q.2.2.2 (e24 _ _ (keep q.2.1 b1' q.1)), q.2⟩) ⟨on6 lSg lVl (e24 _ _ hl), nl0, lSg, lVl⟩, on6 pSg pVl (e24 _ _ sp'), on6 MSg MVl (e24 _ _ sM), on6 SgDu VlDu (e24 _ _ sDu), on6 SgN VlN (e24 _ _ sN), Src.put S5' nVl1 S0, b5'.new nVl1⟩
      · rw [List.map_append, hos, List.take_add_one, hu2]
        rfl
      · intro o ho
        rcases List.mem_append.mp ho with h | h
        · exact hva o h
        · rw [List.mem_singleton.mp h]
          rw [lus]
          exact ⟨har, lpl, hpl⟩
    · obtain ⟨ss, vl, os, v8, v9, v10, rfl, hos, hva, gSg, pss, gVl, pvl, gp, gM, gDu, gN', S', b'⟩ := p
      rw [Int.toNat_natCast, lrep, ← lns, List.take_length] at hos
      refine ⟨_, rfl, k p us os H' (by omega) ⟨by omega, by omega, nus, by rw [hos]; exact nns, ?_, hva⟩ ⟨M, Sg, Vl, ss, vl, gp, gM, gSg, pss, gVl, Paired.mapP pvl fun a o q => ⟨q.1, q.2.1⟩, np1, nM1, nSg1, nVl1⟩ S' b'⟩
      have := congrArg List.length hos
      rw [List.length_map] at this
      omega
end
end K43


set_option Elab.async false
set_option linter.all false
set_option maxRecDepth 100000
set_option maxHeartbeats 4000000
namespace K43
open PySem PySem.Spec PyProof.Rows L2 Evl NdefX SX StX
theorem range_map {α β : Type} (l : List α) (d : α) (f : α → β) : (List.range l.length).map (fun i => f (l.getD i d)) = l.map f := by
  refine List.ext_getElem (by simp) fun i h1 h2 => ?_
  have hi : i < l.length := by simpa using h1
  rw [List.getElem_map, List.getElem_range, List.getElem_map, List.getD_eq_getElem?_getD, List.getElem?_eq_getElem hi]
  rfl
/-- an operation by names -/
def opS (us : List (List Nat)) (o : Dop) : Opn := (S o.1, o.2.1, o.2.2.map fun z => S (us.getD z []))
theorem nd_S {l : List (List Nat)} (h : l.Nodup) : (l.map S).Nodup := List.pairwise_map.mpr (List.Pairwise.imp (fun hne e => hne (S_inj e)) h)
theorem word_plain {x : Str} (h : wordB x = true) : plainB x = true := by
  unfold wordB at h
  rw [Bool.and_eq_true] at h
  exact h.1
theorem GoodD.m {us : List (List Nat)} {os : List Dop} (g : GoodD us os) : GoodM (us.map S) := by
  refine ⟨by rw [List.length_map]; exact g.n1, by rw [List.length_map]; exact g.n6, fun x hx => ?_, nd_S g.nm.nd⟩
  obtain ⟨u, hu, rfl⟩ := List.mem_map.mp hx
  exact word_plain (word_S.mpr (g.nm.wd u hu))
theorem GoodD.o {us : List (List Nat)} {os : List Dop} (g : GoodD us os) : GoodO (us.map S) (os.map (opS us)) := by
  refine ⟨by rw [List.length_map]; exact g.l5, fun x hx => ?_, ?_, fun x hx => ?_⟩
  · obtain ⟨o, ho, rfl⟩ := List.mem_map.mp hx
    exact word_S.mpr (g.sg.wd _ (List.mem_map.mpr ⟨o, ho, rfl⟩))
  · have := nd_S g.sg.nd
    rw [List.map_map] at this ⊢
    exact this
  · obtain ⟨o, ho, rfl⟩ := List.mem_map.mp hx
    obtain ⟨a, b, c⟩ := g.va o ho
    refine ⟨a, ?_, fun y hy => ?_⟩
    · show (List.map _ _).length = _
      rw [List.length_map, List.length_map]
      exact b
    · obtain ⟨z, hz, rfl⟩ := List.mem_map.mp hy
      refine List.mem_map.mpr ⟨us.getD z [], ?_, rfl⟩
      rw [List.getD_eq_getElem?_getD, List.getElem?_eq_getElem (c z hz)]
      exact List.getElem_mem _
theorem strs_map (us : List (List Nat)) : (us.map fun u => V.str (S u)) = (us.map S).map V.str := by rw [List.map_map]; rfl
theorem seq_asg {te : TE} {g : TG} {u : TS} {D : Ends} {σ : L2.St} {H : Hp} (h : te σ H fun v H1 => g v σ H1 (u D)) : tSeq (tAsg te g) u D σ H := h
section
variable {P : Program} {w : World} {K : PySem.W.Frag} {mg : Str → Option Value} {base : Heap}
def spTold (K : PySem.W.Frag) : Sp := fun vs H Q _ => ∃ (H0 : Hp) (D : Addr) (us : List (List Nat)) (os : List Dop), vs = [.ref D] ∧ DrawAt H0 H D us os ∧ GoodD us os ∧ ∀ b H', H b = none → Same H H' → OpsAt K H' b (os.map (opS us)) → Q (.ref b) H'
abbrev s__law_told : Stmt := top 38
abbrev N__law_told : List Str := ["algebra", "found", "k", "values", "place"]
theorem sc__law_told : FnScope N__law_told ["algebra"] (defScope s__law_told) := ⟨rfl, rfl, rfl, by decide +kernel, rfl, by decide +kernel, by decide +kernel⟩
theorem ok_told {f : Addr} {fd : FuncData} (F : Fun K "_law_told" "_law_told" s__law_told f fd) (T : Blt mg) : FnOk P w K mg base CX0 1 f fd ["algebra"] (spTold K) := by
  refine F.ok sc__law_told (fun vs H Q E h => ?_) (fun cdv A outer s H vs Q E hr h => ?_)
  · obtain ⟨H0, D, us, os, rfl, _⟩ := h
    rfl
  · obtain ⟨H0, D, us, os, rfl, dr, gd, k⟩ := h
    have hu := hu_of hr
    refine ⟨_, (pss_cons (ps_set (i := 1) sc__law_told.nd rfl (Or.inl rfl) (pe_lst pa_nil))
      (pss_cons (ps_for PassesOwn.never rfl (pi_range1 (by rfl) T.range (pa_cons (pe_callB (call_lenK K) (by rfl) T.len (by decide +kernel) (pa_cons (pe_dget hu (pv 0) (pe_str) (fun _ _ => rfl)) pa_nil)) pa_nil)) (pg_name (i := 2) sc__law_told.nd rfl (Or.inl rfl)) (pss_cons (ps_setLc (i := 3) (own := [("place", 4)]) (g := gName 4) (by rfl) sc__law_told.nd rfl rfl (sw_true rfl rfl rfl (by decide +kernel)) (pi_list (pe_ix (ix_listK K) (pe_dget hu (pv 0) (pe_str) (fun _ _ => rfl)) (pv 2) (fun _ _ => rfl))) (blkOk_by (own := [("place", 4)]) (N := N__law_told) (sc := defScope s__law_told) (by decide +kernel)) (fun _ _ _ _ _ => pg_name (i := 4) sc__law_told.nd rfl (Or.inl rfl)) (fun _ _ _ _ _ => pts_nil) (fun _ _ _ _ _ => pe_ix (ix_listK K) (pe_dget hu (pv 0) (pe_str) (fun _ _ => rfl)) (pv 4) (fun _ _ => rfl)))
      (pss_one (ps_expr (pe_bm PySem.F.plainAttrs_list PySem.F.slot_list_append PySem.F.type_list_append mt_append (pv 1) (pa_cons (pe_tup (pa_cons (pe_ix (ix_tupK K) (pe_ix (ix_listK K) (pe_dget hu (pv 0) (pe_str) (fun _ _ => rfl)) (pv 2) (fun _ _ => rfl)) (pe_int) (fun _ _ => rfl)) (pa_cons (pe_ix (ix_tupK K) (pe_ix (ix_listK K) (pe_dget hu (pv 0) (pe_str) (fun _ _ => rfl)) (pv 2) (fun _ _ => rfl)) (pe_int) (fun _ _ => rfl)) (pa_cons (pv 3) pa_nil)))) pa_nil))))))
      (pss_one (ps_ret (pv 1))))), ?_⟩
    obtain ⟨M, Sg, Vl, ss, vl, h1, h2, h3, h4, h5, h6, _⟩ := dr
    have l5 := gd.l5
    have lss : ss.length = os.length := Paired.length h4
    have lvl : vl.length = os.length := Paired.length h6
    refine ⟨by show 0 ≤ sizeLine; decide, fun F nF => ?_⟩
    obtain ⟨H1, eG, e1, hF⟩ := put_new (o := .lst []) nF
    rw [eG]
    clear eG
    refine gN ⟨_, rfl, D, _, rfl, dg_s (e1 _ _ h1), _, _, rfl, .inl (SqL.of (e1 _ _ h3)), _, rfl, by omega, by rw [List.length_map, lss]; omega, ?_⟩
    refine for_range (lo := 0) (n := ((ss.map V.ref).length : Int).toNat) (fun j σ' H' => ∃ (ts : List Addr) (v2 v3 : Option V), σ' = [some (.ref D), some (.ref F), v2, v3, none] ∧ Same H H' ∧ H' F = some (.lst (ts.map V.ref)) ∧ Paired (fun t (o : Opn) => ∃ va, H' t = some (.tup [.str o.1, .int (o.2.1 : Int), .ref va]) ∧ H' va = some (.lst (o.2.2.map V.str)) ∧ va ≠ F) ts ((os.map (opS us)).take j))
      ⟨[], none, none, rfl, e1, hF, by rw [List.take_zero]; exact .nil⟩ (fun j σ' H' hj p => ?_) (fun σ' H' p => ?_)
    · obtain ⟨ts, v2, v3, rfl, e, gF, pt⟩ := p
      rw [Int.toNat_natCast, List.length_map, lss] at hj
      have lts : ts.length = j := by rw [Paired.length pt, List.length_take, List.length_map, Nat.min_eq_left (by omega)]
      have atk : ∀ {α : Type} {xs : List α} {v : α}, xs[j]? = some v → atI xs (0 + (j : Int)) = some v := fun {α xs v} h => by rw [Int.zero_add]; exact atI_nat h
      obtain ⟨sj, hsj⟩ : ∃ t, ss[j]? = some t := ⟨_, List.getElem?_eq_getElem (by omega)⟩
      obtain ⟨vj, hvj⟩ : ∃ t, vl[j]? = some t := ⟨_, List.getElem?_eq_getElem (by omega)⟩
      obtain ⟨o, ho, hso, _⟩ := paired_get h4 hsj
      obtain ⟨o', ho', hvo, _⟩ := paired_get h6 hvj
      obtain rfl : o = o' := by rw [ho] at ho'; exact Option.some.inj ho'
      obtain ⟨z1, z2, z3⟩ := gd.va o (List.mem_of_getElem? ho)
      have n6 := gd.n6
      have lo : o.2.2.length ≤ 36 := by rw [z2]; exact pow_le36 n6 z1
      have atS : (ss.map V.ref)[j]? = some (.ref sj) := by rw [List.getElem?_map, hsj]; rfl
      have atV : (vl.map V.ref)[j]? = some (.ref vj) := by rw [List.getElem?_map, hvj]; rfl
      refine gN ?_
      refine seq_asg ?_
      refine lc_use (J := Itl K vj) (H1 := H') (g := gName 4) (fun i => .str (S (us.getD (o.2.2.getD i 0) []))) (fun R r => ⟨_, rfl, D, _, rfl, dg_v (e _ _ h1), _, rfl, Vl, _, _, _, rfl, rfl, SqL.of (e _ _ h5), atk atV, vj, rfl, ⟨_, SqL.of (e _ _ hvo)⟩, r⟩) (walk_list (xs := o.2.2.map iV)) (by rw [List.length_map]; omega) (fun H2 e2 => SqL.of (e2 _ _ (e _ _ hvo))) (fun i H2 y H3 _ z => z.1 ▸ Same.refl _) (fun i y H2 H3 hi e2 z R q => ?_) (fun _ _ _ _ h z => gn_mono h z) (fun va H2 nva e2 hva => ?_)
      · obtain ⟨rfl, hy⟩ := z
        rw [List.length_map] at hi
        rw [List.getElem?_map, List.getElem?_eq_getElem hi] at hy
        obtain rfl : y = iV o.2.2[i] := (Option.some.inj hy).symm
        have hlt := z3 _ (List.getElem_mem hi)
        refine gN ⟨rfl, _, rfl, D, _, rfl, dg_m (e2 _ _ (e _ _ h1)), _, rfl, M, _, _, _, rfl, rfl, SqL.of (e2 _ _ (e _ _ h2)), atI_nat (j := o.2.2[i]) (v := .str (S (us.getD (o.2.2.getD i 0) []))) ?_, q _ (Same.refl _)⟩
        rw [List.getElem?_map, List.getElem?_eq_getElem hlt, List.getD_eq_getElem?_getD, List.getD_eq_getElem?_getD, List.getElem?_eq_getElem hi]
        show some _ = some (V.str (S (us[o.2.2[i]]?.getD [])))
        rw [List.getElem?_eq_getElem hlt]
        rfl
      · rw [List.length_map, range_map o.2.2 0 fun z => V.str (S (us.getD z []))] at hva
        refine gN ?_
        have e02 := e.trans e2
        have vaF : va ≠ F := (ne_of_none gF nva).symm
        refine ⟨_, rfl, .inl ⟨rfl, _, SqL.of (e2 _ _ gF)⟩, _, rfl, D, _, rfl, dg_s (e02 _ _ h1), _, rfl, Sg, _, _, _, rfl, rfl, SqL.of (e02 _ _ h3), atk atS, sj, _, _, _, rfl, rfl, .inl (.inl (e02 _ _ hso)), rfl, ?_⟩
        refine ⟨_, rfl, D, _, rfl, dg_s (e02 _ _ h1), _, rfl, Sg, _, _, _, rfl, rfl, SqL.of (e02 _ _ h3), atk atS, sj, _, _, _, rfl, rfl, .inl (.inl (e02 _ _ hso)), rfl, ?_⟩
        refine ⟨_, rfl, by show 3 ≤ sizeLine; decide, fun t nt => ?_⟩
        obtain ⟨H4, eG, e4, ht⟩ := put_new (o := .tup [.str (S o.1), .int (o.2.1 : Int), .ref va]) nt
        rw [eG]
        clear eG
        refine ⟨F, _, _, rfl, rfl, e4 _ _ (e2 _ _ gF), by rw [List.length_map, lts, sizeLine_eq]; omega, ?_⟩
        have tF : t ≠ F := (ne_of_none (e2 _ _ gF) nt).symm
        have on : ∀ {x ob u}, x ≠ F → H4 x = some ob → upd H4 F u x = some ob := fun {x ob u} hx h => by rw [upd_ne hx]; exact h
        refine ⟨ts ++ [t], _, _, rfl, fun x ob q => on (ne_of_none q nF) (e4 _ _ (e02 _ _ q)), by rw [upd_same, List.map_append]; rfl, ?_⟩
        have tk : (os.map (opS us)).take (j + 1) = (os.map (opS us)).take j ++ [opS us o] := by
          rw [List.take_add_one, List.getElem?_map, ho]
          rfl
        rw [tk]
        refine paired_snoc (Paired.mapP pt fun a x q => ?_) ⟨va, on tF ht, on vaF (e4 _ _ ?_), vaF⟩
        · obtain ⟨v, q1, q2, q3⟩ := q
          exact ⟨v, on (ne_of q1 gF fun z => nomatch z) (e4 _ _ (e2 _ _ q1)), on q3 (e4 _ _ (e2 _ _ q2)), q3⟩
        · rw [hva]
          show _ = some (HO.lst ((List.map _ _).map V.str))
          rw [List.map_map]
          rfl
    · obtain ⟨ts, v2, v3, rfl, e, gF, pt⟩ := p
      rw [Int.toNat_natCast, List.length_map, lss, List.take_of_length_le (by rw [List.length_map]; omega)] at pt
      refine ⟨_, rfl, k F H' nF e ⟨ts, SqL.of gF, Paired.mapP pt fun a o q => ?_⟩⟩
      obtain ⟨va, q1, q2, _⟩ := q
      exact ⟨va, .inl (.inl q1), SqL.of q2⟩
end
end K43


set_option Elab.async false
set_option linter.all false
set_option maxRecDepth 100000
set_option maxHeartbeats 4000000
namespace K43
open PySem PySem.Spec PyProof.Rows L2 Evl NdefX SX StX
/-- the place of a row -/
def spotN (n : Nat) (row : List Nat) : Nat := row.foldl (fun r x => r * n + x) 0
theorem spot_more (n : Nat) (row : List Nat) (x : Nat) : spotN n (row ++ [x]) = spotN n row * n + x := by
  unfold spotN
  rw [List.foldl_append]
  rfl
theorem spot_lt' {n : Nat} : ∀ (row : List Nat) (r : Nat), (∀ a ∈ row, a < n) → row.foldl (fun r x => r * n + x) r < (r + 1) * n ^ row.length
  | [], r, _ => by simp
  | a :: rest, r, h => by
    have h1 := h a List.mem_cons_self
    have ih := spot_lt' rest (r * n + a) fun b hb => h b (List.mem_cons_of_mem _ hb)
    rw [List.foldl_cons, List.length_cons, Nat.pow_succ]
    refine Nat.lt_of_lt_of_le ih ?_
    rw [Nat.mul_comm (n ^ rest.length) n, ← Nat.mul_assoc]
    refine Nat.mul_le_mul_right _ ?_
    rw [Nat.add_mul, Nat.one_mul]
    omega
theorem spot_lt {n : Nat} {row : List Nat} (h : ∀ a ∈ row, a < n) : spotN n row < n ^ row.length := by
  have z := spot_lt' row 0 h
  rw [Nat.zero_add, Nat.one_mul] at z
  exact z
section
variable {P : Program} {w : World} {K : PySem.W.Frag} {mg : Str → Option Value} {base : Heap}
def spMadeD (C : Addr) : Sp := fun vs H Q _ => ∃ (H0 : Hp) (D : Addr) (us : List (List Nat)) (os : List Dop) (X : Addr → Prop), vs = [.ref D] ∧ DrawAt H0 H D us os ∧ GoodD us os ∧ (∀ a, X a → H a ≠ none) ∧ ∀ x H', H x = none → Same H H' → AlgX X C x (us.map S) (os.map (opS us)) H' → Q (.ref x) H'
abbrev s__law_made : Stmt := top 39
abbrev N__law_made : List Str := ["algebra"]
theorem sc__law_made : FnScope N__law_made ["algebra"] (defScope s__law_made) := ⟨rfl, rfl, rfl, by decide +kernel, rfl, by decide +kernel, by decide +kernel⟩
theorem ok_madeD {CA f : Addr} {fd : FuncData} (F : Fun K "_law_made" "_law_made" s__law_made f fd) (T : Blt mg) (gA : mg "Algebra" = some (.ref CA)) (c__law_told : Cal P w K mg base 1 "_law_told" ["algebra"] (spTold K)) (MA : Mkr P w K mg base 4 "Algebra" CA ["self", "members", "operations"] (spAlg K CA)) : FnOk P w K mg base CX0 6 f fd ["algebra"] (spMadeD CA) := by
  refine F.ok sc__law_made (fun vs H Q E h => ?_) (fun cdv A outer s H vs Q E hr h => ?_)
  · obtain ⟨H0, D, us, os, X, rfl, _⟩ := h
    rfl
  · obtain ⟨H0, D, us, os, X, rfl, dr, gd, al, k⟩ := h
    have hu := hu_of hr
    refine ⟨_, (pss_one (ps_ret (pe_mkr (E := E0) MA (hr.mono (by decide)) (by rfl) passL (pa_cons (pe_callTy (call_listK K) (by rfl) T.list (by decide +kernel) (pa_cons (pe_dget hu (pv 0) (pe_str) (fun _ _ => rfl)) pa_nil)) (pa_cons (pe_cal c__law_told (hr.mono (by decide)) (by rfl) (pa_cons (pv 0) pa_nil)) pa_nil))))), ?_⟩
    have dr' := dr
    obtain ⟨M, Sg, Vl, ss, vl, h1, h2, h3, h4, h5, h6, n1, n2, n3, n4⟩ := dr
    refine ⟨_, rfl, D, _, rfl, dg_m h1, M, _, rfl, .inl (SqL.of h2), fun l nl => ?_⟩
    obtain ⟨H1, eG, e1, hl⟩ := put_new (o := .lst (us.map fun u => V.str (S u))) nl
    rw [eG]
    clear eG
    have dr1 : DrawAt H0 H1 D us os := ⟨M, Sg, Vl, ss, vl, e1 _ _ h1, e1 _ _ h2, e1 _ _ h3, Paired.mapP h4 fun _ _ q => ⟨e1 _ _ q.1, q.2⟩, e1 _ _ h5, Paired.mapP h6 fun _ _ q => ⟨e1 _ _ q.1, q.2⟩, n1, n2, n3, n4⟩
    refine ⟨_, rfl, H0, D, us, os, rfl, dr1, gd, fun b H2 nb e2 hb x dx nx ndx ne => ?_⟩
    rw [strs_map] at hl
    have hx : ∀ {y o}, H2 y = some o → upd (upd H2 dx (.own x)) x (.ins CA dx []) y = some o := fun {y o} q => by
      rw [upd_ne (ne_of_none q nx), upd_ne (ne_of_none q ndx)]
      exact q
    have es : Same H2 (upd (upd H2 dx (.own x)) x (.ins CA dx [])) := fun y o q => hx q
    have k3 : Dl.Kp X H (upd (upd H2 dx (.own x)) x (.ins CA dx [])) := ((Dl.Kp.same e1).trans (.same e2)).trans (.same es)
    refine ⟨x, l, b, dx, us.map S, os.map (opS us), X, rfl, upd_same, SqL.of (hx (e2 _ _ hl)), hb.same es, gd.m, gd.o, (fun a z => k3.b a (al a z)), (fun z => al x z (e1.free (e2.free nx))), fun H3 off ax => ⟨rfl, k x H3 (e1.free (e2.free nx)) (fun y o q => off y o (hx (e2 _ _ (e1 _ _ q))) (ne_of_none (e2 _ _ (e1 _ _ q)) nx)) ax⟩⟩
def spAt (K : PySem.W.Frag) : Sp := fun vs H Q _ => ∃ (H0 : Hp) (D R : Addr) (k : Nat) (us : List (List Nat)) (os : List Dop) (o : Dop) (row : List Nat), vs = [.ref D, .int (k : Int), .ref R] ∧ DrawAt H0 H D us os ∧ GoodD us os ∧ os[k]? = some o ∧ H R = some (.lst (row.map iV)) ∧ row.length = o.2.1 ∧ (∀ x ∈ row, x < us.length) ∧ Q (.int ((o.2.2.getD (spotN us.length row) 0 : Nat) : Int)) H
abbrev s__law_at : Stmt := top 40
abbrev N__law_at : List Str := ["algebra", "k", "row", "spot", "place"]
theorem sc__law_at : FnScope N__law_at ["algebra", "k", "row"] (defScope s__law_at) := ⟨rfl, rfl, rfl, by decide +kernel, rfl, by decide +kernel, by decide +kernel⟩
theorem ok_at {f : Addr} {fd : FuncData} (F : Fun K "_law_at" "_law_at" s__law_at f fd) (T : Blt mg) : FnOk P w K mg base CX0 1 f fd ["algebra", "k", "row"] (spAt K) := by
  refine F.ok sc__law_at (fun vs H Q E h => ?_) (fun cdv A outer s H vs Q E hr h => ?_)
  · obtain ⟨H0, D, R, k, us, os, o, row, rfl, _⟩ := h
    rfl
  · obtain ⟨H0, D, R, k, us, os, o, row, rfl, dr, gd, ho, hR, lr, ar, q⟩ := h
    have hu := hu_of hr
    refine ⟨_, (pss_cons (ps_set (i := 3) sc__law_at.nd rfl (Or.inl rfl) (pe_int))
      (pss_cons (ps_for PassesOwn.never rfl (pi_list (pv 2)) (pg_name (i := 4) sc__law_at.nd rfl (Or.inl rfl)) (pss_one (ps_set (i := 3) sc__law_at.nd rfl (Or.inl rfl) (pe_op op_add (pe_op op_mul (pv 3) (pe_callB (call_lenK K) (by rfl) T.len (by decide +kernel) (pa_cons (pe_dget hu (pv 0) (pe_str) (fun _ _ => rfl)) pa_nil))) (pv 4)))))
      (pss_one (ps_ret (pe_ix (ix_listK K) (pe_ix (ix_listK K) (pe_dget hu (pv 0) (pe_str) (fun _ _ => rfl)) (pv 1) (fun _ _ => rfl)) (pv 3) (fun _ _ => rfl)))))), ?_⟩
    obtain ⟨M, Sg, Vl, ss, vl, h1, h2, h3, h4, h5, h6, n1, n2, n3, n4⟩ := dr
    have n1' := gd.n1
    have n6 := gd.n6
    obtain ⟨z1, z2, z3⟩ := gd.va o (List.mem_of_getElem? ho)
    have lo : o.2.2.length ≤ 36 := by rw [z2]; exact pow_le36 n6 z1
    have small : ∀ i, i ≤ row.length → spotN us.length (row.take i) < us.length ^ (row.take i).length := fun i _ => spot_lt fun a h => ar a (List.mem_of_mem_take h)
    refine gN ⟨_, rfl, R, rfl, ⟨_, SqL.of hR⟩, for_list (K := K) (a := R) (xs := row.map iV) (fun i σ' H' => ∃ v4, σ' = [some (.ref D), some (.int (k : Int)), some (.ref R), some (.int (spotN us.length (row.take i) : Nat)), v4] ∧ H' = H) ⟨none, rfl, rfl⟩ (fun i σ' H' _ p => by obtain ⟨_, _, rfl⟩ := p; exact SqL.of hR) (fun i v σ' H' hi p => ?_) (fun σ' H' p => ?_)⟩
    · obtain ⟨v4, rfl, rfl⟩ := p
      have hi2 : i < row.length := by
        have := (List.getElem?_eq_some_iff.mp hi).1
        rw [List.length_map] at this
        exact this
      rw [List.getElem?_map, List.getElem?_eq_getElem hi2] at hi
      obtain rfl : v = iV row[i] := (Option.some.inj hi).symm
      have s1 := small i (by omega)
      have l2 : (row.take i).length ≤ 2 := by rw [List.length_take]; omega
      have s2 := pow_le36 n6 l2
      refine gN ⟨_, rfl, _, rfl, D, _, rfl, dg_m h1, M, _, rfl, .inl (SqL.of h2), _, _, rfl, rfl, ?_, _, rfl, _, _, rfl, rfl, ?_⟩
      · rw [List.length_map]
        unfold CMul
        exact .inr ⟨by omega, by omega⟩
      · refine gN ⟨some (iV row[i]), ?_, rfl⟩
        rw [List.take_add_one, List.getElem?_eq_getElem hi2]
        show _ = [_, _, _, some (V.int (spotN us.length (row.take i ++ [row[i]]) : Nat)), _]
        rw [spot_more]
        show [_, _, _, some (V.int _), _] = _
        rw [List.length_map]
        push_cast
        rfl
    · obtain ⟨v4, rfl, rfl⟩ := p
      rw [List.length_map, List.take_length]
      have lvl : vl.length = os.length := Paired.length h6
      have hk : k < os.length := (List.getElem?_eq_some_iff.mp ho).1
      obtain ⟨vj, hvj⟩ : ∃ t, vl[k]? = some t := ⟨_, List.getElem?_eq_getElem (by omega)⟩
      obtain ⟨o', ho', hvo, _⟩ := paired_get h6 hvj
      obtain rfl : o = o' := by rw [ho] at ho'; exact Option.some.inj ho'
      have lt : spotN us.length row < o.2.2.length := by rw [z2, ← lr]; exact spot_lt ar
      refine ⟨_, rfl, D, _, rfl, dg_v h1, _, rfl, Vl, _, _, _, rfl, rfl, SqL.of h5, atI_nat (by rw [List.getElem?_map, hvj]; rfl), _, rfl, vj, _, _, _, rfl, rfl, SqL.of hvo, atI_nat (v := .int ((o.2.2.getD (spotN us.length row) 0 : Nat) : Int)) ?_, q⟩
      rw [List.getElem?_map, List.getElem?_eq_getElem lt, List.getD_eq_getElem?_getD, List.getElem?_eq_getElem lt]
      rfl
end
end K43


set_option Elab.async false
set_option linter.all false
set_option maxRecDepth 100000
set_option maxHeartbeats 4000000
namespace K43
open PySem PySem.Spec PyProof.Rows L2 Evl NdefX SX StX Dl
/-! the draws, told as plain data -/
def namDa (us : List (List Nat)) : Da := .lst (us.map fun u => .str (S u))
def sgnDa (os : List Dop) : Da := .lst (os.map fun o => .tup [.str (S o.1), .int (o.2.1 : Int)])
def valDa (os : List Dop) : Da := .lst (os.map fun o => .lst (o.2.2.map fun (z : Nat) => .int (z : Int)))
theorem word_wee {u : List Nat} (h : Word u) : Wee (S u) := by
  have := h.hi
  exact ⟨by rw [S_len]; omega, fun c hc => abc9_lt c (h.all c hc)⟩
abbrev kyM : Key := Sum.inr ("members" : Str)
abbrev kyS : Key := Sum.inr ("signs" : Str)
abbrev kyV : Key := Sum.inr ("values" : Str)
def algDa (us : List (List Nat)) (os : List Dop) : Da := .dct [(kyM, namDa us), (kyS, sgnDa os), (kyV, valDa os)]
theorem look_m {a b c : Da} : look [(kyM, a), (kyS, b), (kyV, c)] kyM = some a := by
  unfold look
  rw [List.find?_cons, show decide (kyM = kyM) = true from decide_eq_true rfl]
  rfl
theorem look_s {a b c : Da} : look [(kyM, a), (kyS, b), (kyV, c)] kyS = some b := by
  unfold look
  simp only [List.find?_cons, show decide (kyM = kyS) = false from decide_eq_false (kne (by decide +kernel)), show decide (kyS = kyS) = true from decide_eq_true rfl]
  rfl
theorem look_v {a b c : Da} : look [(kyM, a), (kyS, b), (kyV, c)] kyV = some c := by
  unfold look
  simp only [List.find?_cons, show decide (kyM = kyV) = false from decide_eq_false (kne (by decide +kernel)), show decide (kyS = kyV) = false from decide_eq_false (kne (by decide +kernel)), show decide (kyV = kyV) = true from decide_eq_true rfl]
  rfl
theorem kp_but {d L : Addr} {H H' : Hp} (S : Src d L H') (b : But d L H H') : Kp (srY d L) H H' := ⟨fun a o h n => b a o h (fun z => n (.inl z)) fun z => n (.inr z), fun a h => by
  obtain ⟨cs, l, m, t, g1, g2, _⟩ := S.ex
  by_cases c : a = d
  · rw [c, g1]
    exact fun z => nomatch z
  · by_cases c2 : a = L
    · rw [c2, g2]
      exact fun z => nomatch z
    · cases e : H a with
      | none => exact absurd e h
      | some o => rw [b a o e c c2]; exact fun z => nomatch z⟩
theorem rps_nam {X : Addr → Prop} {H : Hp} (us : List (List Nat)) : Rps X H (us.map fun u => V.str (S u)) (us.map fun u => Da.str (S u)) := by
  induction us with
  | nil => exact .nil
  | cons u r ih => exact .cons (.str _) ih
theorem rps_iv {X : Addr → Prop} {H : Hp} (us : List Nat) : Rps X H (us.map iV) (us.map fun (z : Nat) => Da.int (z : Int)) := by
  induction us with
  | nil => exact .nil
  | cons u r ih => exact .cons (.int _) ih
theorem rps_nam_inv {X : Addr → Prop} {H : Hp} : ∀ {us : List (List Nat)} {vs : List V}, Rps X H vs (us.map fun u => Da.str (S u)) → vs = us.map fun u => V.str (S u)
  | [], _, .nil => rfl
  | _ :: _, _, .cons a r => by cases a; rw [rps_nam_inv r]; rfl
theorem rps_iv_inv {X : Addr → Prop} {H : Hp} : ∀ {us : List Nat} {vs : List V}, Rps X H vs (us.map fun (z : Nat) => Da.int (z : Int)) → vs = us.map iV
  | [], _, .nil => rfl
  | _ :: _, _, .cons a r => by cases a; rw [rps_iv_inv r]; rfl
/-- H at X alone -/
noncomputable def rsH (X : Addr → Prop) (H : Hp) : Hp := fun a => open Classical in if X a then H a else none
theorem rsH_no {X : Addr → Prop} {H : Hp} {a : Addr} (h : ¬ X a) : rsH X H a = none := if_neg h
theorem rsH_at {X : Addr → Prop} {H : Hp} {a : Addr} (h : X a) : rsH X H a = H a := if_pos h
theorem sgn_rps {X : Addr → Prop} {H H0 : Hp} (al : ∀ a, X a → H0 a ≠ none) {ss : List Addr} {os : List Dop} (h : Paired (fun s (o : Dop) => H s = some (.tup [.str (S o.1), .int (o.2.1 : Int)]) ∧ H0 s = none) ss os) : Rps X H (ss.map V.ref) (os.map fun o => Da.tup [.str (S o.1), .int (o.2.1 : Int)]) := by
  induction h with
  | nil => exact .nil
  | cons r _ ih => exact .cons (.tup r.1 (fun z => al _ z r.2) (.cons (.str _) (.cons (.int _) .nil))) ih
theorem val_rps {X : Addr → Prop} {H H0 : Hp} (al : ∀ a, X a → H0 a ≠ none) {ss : List Addr} {os : List Dop} (h : Paired (fun s (o : Dop) => H s = some (.lst (o.2.2.map iV)) ∧ H0 s = none) ss os) : Rps X H (ss.map V.ref) (os.map fun o => Da.lst (o.2.2.map fun (z : Nat) => .int (z : Int))) := by
  induction h with
  | nil => exact .nil
  | cons r _ ih => exact .cons (.lst r.1 (fun z => al _ z r.2) (rps_iv _)) ih
theorem draw_rp {X : Addr → Prop} {H0 H : Hp} {D : Addr} {us : List (List Nat)} {os : List Dop} (al : ∀ a, X a → H0 a ≠ none) (h : DrawAt H0 H D us os) : Rp X H (.ref D) (algDa us os) := by
  obtain ⟨M, Sg, Vl, ss, vl, h1, h2, h3, h4, h5, h6, n1, n2, n3, n4⟩ := h
  exact .dct h1 (fun z => al D z n1) (.cons (.lst h2 (fun z => al _ z n2) (rps_nam us)) (.cons (.lst h3 (fun z => al _ z n3) (sgn_rps al h4)) (.cons (.lst h5 (fun z => al _ z n4) (val_rps al h6)) .nil)))
theorem sgn_inv {X : Addr → Prop} {H : Hp} : ∀ {os : List Dop} {vs : List V}, Rps X H vs (os.map fun o => Da.tup [.str (S o.1), .int (o.2.1 : Int)]) → ∃ ss, vs = ss.map V.ref ∧ Paired (fun s (o : Dop) => H s = some (.tup [.str (S o.1), .int (o.2.1 : Int)]) ∧ rsH X H s = none) ss os
  | [], _, .nil => ⟨[], rfl, .nil⟩
  | _ :: _, _, .cons a r => by
    obtain ⟨ss, rfl, h⟩ := sgn_inv r
    cases a with
    | tup a n q =>
      cases q with
      | cons q1 q2 =>
        cases q2 with
        | cons q2 q3 =>
          cases q3
          cases q1
          cases q2
          exact ⟨_ :: ss, rfl, .cons ⟨a, rsH_no n⟩ h⟩
theorem val_inv {X : Addr → Prop} {H : Hp} : ∀ {os : List Dop} {vs : List V}, Rps X H vs (os.map fun o => Da.lst (o.2.2.map fun (z : Nat) => .int (z : Int))) → ∃ ss, vs = ss.map V.ref ∧ Paired (fun s (o : Dop) => H s = some (.lst (o.2.2.map iV)) ∧ rsH X H s = none) ss os
  | [], _, .nil => ⟨[], rfl, .nil⟩
  | _ :: _, _, .cons a r => by
    obtain ⟨ss, rfl, h⟩ := val_inv r
    cases a with
    | lst a n q =>
      rw [rps_iv_inv q] at a
      exact ⟨_ :: ss, rfl, .cons ⟨a, rsH_no n⟩ h⟩
theorem rp_draw {X : Addr → Prop} {H : Hp} {v : V} {us : List (List Nat)} {os : List Dop} (h : Rp X H v (algDa us os)) : ∃ D, v = .ref D ∧ DrawAt (rsH X H) H D us os := by
  cases h with
  | dct h1 m1 r =>
    cases r with
    | cons a r =>
      cases r with
      | cons b r =>
        cases r with
        | cons c r =>
          cases r
          cases a with
          | lst a m2 ra =>
            rw [rps_nam_inv ra] at a
            cases b with
            | lst b m3 rb =>
              obtain ⟨ss, e1, p1⟩ := sgn_inv rb
              cases c with
              | lst c m4 rc =>
                obtain ⟨vl, e2, p2⟩ := val_inv rc
                rw [e1] at b
                rw [e2] at c
                exact ⟨_, rfl, _, _, _, ss, vl, h1, a, b, p1, c, p2, rsH_no m1, rsH_no m2, rsH_no m3, rsH_no m4⟩
def PNames (ds : List Da) (R : Da → Prop) : Prop := ∃ n : Nat, n ≤ 7 ∧ ds = [.int (n : Int)] ∧ R = fun r => ∃ us, us.length = n ∧ Names us ∧ r = namDa us
def PAlg (ds : List Da) (R : Da → Prop) : Prop := ∃ n : Nat, 1 ≤ n ∧ n ≤ 6 ∧ ds = [.int (n : Int), .non] ∧ R = fun r => ∃ us os, us.length ≤ n ∧ GoodD us os ∧ r = algDa us os
/-- an algebra of the class at C -/
def alDa (C : Addr) (xs : List Str) (os : List Opn) : Da := .ext fun v H => ∃ x, v = .ref x ∧ AlgAt C x xs os H
def PMade (C : Addr) (ds : List Da) (d : Da) : Prop := ∃ us os, GoodD us os ∧ ds = [algDa us os] ∧ d = alDa C (us.map S) (os.map (opS us))
theorem alg_rp {X : Addr → Prop} {C x : Addr} {xs : List Str} {os : List Opn} {H : Hp} (h : AlgX X C x xs os H) : Rp X H (.ref x) (alDa C xs os) := .ext fun H' k => ⟨x, rfl, (h.kp k).at⟩
theorem rp_alg {X : Addr → Prop} {C : Addr} {xs : List Str} {os : List Opn} {H : Hp} {v : V} (h : Rp X H v (alDa C xs os)) : ∃ x, v = .ref x ∧ AlgAt C x xs os H := by
  cases h with
  | ext h => exact h H .refl
section
variable {P : Program} {w : World} {K : PySem.W.Frag} {mg : Str → Option Value} {base : Heap} {CX : CXT} {k : Nat} {f C : Addr} {fd : FuncData} {ps : List Str}
theorem names_s (F : FnOk P w K mg base CX k f fd ps spNamesL) : FnOk P w K mg base CX k f fd ps (spS PNames) := F.imp fun vs H Q E h => by
  obtain ⟨d, L, X, vs', ds, R, rfl, s, xd, xl, al, r, ⟨n, hn, rfl, rfl⟩, q⟩ := h
  cases r with
  | cons a r =>
    cases r
    cases a
    exact ⟨d, L, n, rfl, s, hn, fun us l H' e nm nl hl s' b => q _ H' _ ⟨us, e, nm, rfl⟩ (kp_but s' b) s' (.lst hl (fun z => al l z nl) (rps_nam us))⟩
theorem algd_s (F : FnOk P w K mg base CX k f fd ps spAlgD) : FnOk P w K mg base CX k f fd ps (spS PAlg) := F.imp fun vs H Q E h => by
  obtain ⟨d, L, X, vs', ds, R, rfl, s, xd, xl, al, r, ⟨n, h1, h6, rfl, rfl⟩, q⟩ := h
  cases r with
  | cons a r =>
    cases r with
    | cons b r =>
      cases r
      cases a
      cases b
      exact ⟨d, L, n, rfl, s, h1, h6, fun D us os H' hu gd dr s' b => q _ H' _ ⟨us, os, hu, gd, rfl⟩ (kp_but s' b) s' (draw_rp al dr)⟩
theorem made_p (F : FnOk P w K mg base CX k f fd ps (spMadeD C)) : FnOk P w K mg base CX k f fd ps (spP (PMade C)) := F.imp fun vs H Q E h => by
  obtain ⟨X, ds, d, al, r, ⟨us, os, gd, rfl, rfl⟩, q⟩ := h
  cases r with
  | cons a r =>
    cases r
    obtain ⟨D, rfl, dr⟩ := rp_draw a
    exact ⟨_, D, us, os, X, rfl, dr, gd, al, fun x H' nx e ax => q _ H' e (alg_rp ax)⟩
end
end K43


set_option Elab.async false
set_option linter.all false
set_option maxRecDepth 100000
set_option maxHeartbeats 4000000
namespace K43
open PySem PySem.Spec PyProof.Rows L2 Evl NdefX SX StX Dl
/-! all tuples of some length -/
local macro_rules | `(tactic| walk_at "sr") => `(tactic| first | assumption | (refine Wd.Sr.vw ?_; walk_at "sr") | (refine Wd.Sr.own ?_; walk_at "sr") | (refine Wd.Sr.lp ?_; walk_at "sr"))
local macro_rules | `(tactic| walk_at "d1") => `(tactic| first
  | with_reducible refine wn_seq ?_
  | with_reducible refine wn_ret ?_
  | with_reducible refine wn_retN ?_
  | with_reducible refine wn_next ?_
  | with_reducible refine wn_cont ?_
  | with_reducible refine wn_break ?_
  | with_reducible refine wn_asg ?_
  | with_reducible refine wn_asgG ?_
  | with_reducible refine wn_drop ?_
  | ((with_reducible refine we_varX ?d ?hv ?_); (case hv => exact rfl))
  | with_reducible refine we_c ?_
  | with_reducible refine we_op ?_
  | with_reducible refine we_un ?_
  | with_reducible refine we_if ?_
  | with_reducible refine we_tup ?_
  | with_reducible refine we_lst ?_
  | with_reducible refine we_tl ?_
  | with_reducible refine we_slT ?_
  | with_reducible refine we_slL ?_
  | with_reducible refine we_revL ?_
  | with_reducible refine we_chain ?_
  | with_reducible refine we_andV ?_
  | with_reducible refine we_orV ?_
  | with_reducible refine we_notV ?_
  | with_reducible refine we_dget ?_
  | with_reducible refine we_din ?_
  | with_reducible refine we_dnin ?_
  | with_reducible refine we_dget2 ?_
  | with_reducible refine we_joined ?_
  | with_reducible refine we_fmt ?_
  | with_reducible refine wj_nil ?_
  | with_reducible refine wj_cons ?_
  | with_reducible refine we_call ?_
  | ((with_reducible refine we_pickX ?dd ?ll ?hs ?_); (case hs => walk_at "sr"))
  | with_reducible refine we_cb ?_
  | with_reducible refine wa_nil ?_
  | with_reducible refine wa_cons ?_
  | with_reducible refine wo_none ?_
  | with_reducible refine wo_some ?_
  | with_reducible refine wt_yes ?_
  | with_reducible refine wt_test ?_
  | with_reducible refine wt_B ?_
  | with_reducible refine wt_not ?_
  | with_reducible refine wt_and ?_
  | with_reducible refine wt_or ?_
  | with_reducible refine wt_truK ?_
  | with_reducible refine w2_I0 ⟨_, _, rfl, rfl, ?_⟩
  | with_reducible refine w2_eqI ⟨_, _, rfl, rfl, ?_⟩
  | with_reducible refine w2_eqS ⟨_, _, rfl, rfl, ?_⟩
  | with_reducible refine w2_neI ⟨_, _, rfl, rfl, ?_⟩
  | with_reducible refine w2_neS ⟨_, _, rfl, rfl, ?_⟩
  | with_reducible refine w2_adS ?_
  | with_reducible refine w2_isN ?_
  | with_reducible refine w2_notN ?_
  | ((with_reducible refine w2_inBX ?_); (refine ⟨_, rfl, ?_⟩))
  | with_reducible refine w2_inS ?_
  | ((with_reducible refine w2_ixL ?_); (refine ⟨_, _, _, rfl, rfl, rfl, ?_⟩))
  | ((with_reducible refine w2_ixT ?_); (refine ⟨_, _, _, rfl, rfl, rfl, ?_⟩))
  | ((with_reducible refine w2_ixL ?_); (refine ⟨_, _, _, rfl, rfl, atI_nat (j := 0) rfl, ?_⟩))
  | ((with_reducible refine w2_ixT ?_); (refine ⟨_, _, _, rfl, rfl, atI_nat (j := 0) rfl, ?_⟩))
  | with_reducible refine w2_ixL ?_
  | with_reducible refine w2_ixT ?_
  | ((with_reducible refine w2_cat ?_); (refine ⟨_, _, rfl, rfl, ?_⟩))
  | ((with_reducible refine w2_catT ?_); (refine ⟨_, _, rfl, rfl, (fun z => nomatch z), ?_⟩))
  | with_reducible refine w2_catT ?_
  | with_reducible refine w2_rep ?_
  | ((with_reducible refine wc_len ?_); (refine ⟨_, _, rfl, .inl rfl, ?_⟩))
  | ((with_reducible refine wc_len ?_); (refine ⟨_, _, rfl, .inr rfl, ?_⟩))
  | ((with_reducible refine wc_list ?_); (refine ⟨_, _, rfl, .inl rfl, ?_⟩))
  | ((with_reducible refine wc_list ?_); (refine ⟨_, _, rfl, .inr rfl, ?_⟩))
  | ((with_reducible refine wc_tup ?_); (refine ⟨_, _, rfl, .inl rfl, ?_⟩))
  | ((with_reducible refine wc_tup ?_); (refine ⟨_, _, rfl, .inr rfl, ?_⟩))
  | ((with_reducible refine wc_lenS ?_); (refine ⟨_, rfl, ?_⟩))
  | ((with_reducible refine wc_lenD ?_); (refine ⟨_, rfl, ?_⟩))
  | with_reducible refine w2_ixS ?_
  | with_reducible refine w2_inC ?_
  | with_reducible refine w2_ninC ?_
  | with_reducible refine wc_sum ?_
  | with_reducible refine wc_max ?_
  | with_reducible refine wc_min ?_
  | with_reducible refine wc_all ?_
  | with_reducible refine wc_any ?_
  | ((with_reducible refine wc_isi2 ?_); (refine ⟨_, _, _, _, rfl, rfl, rfl, ?_⟩))
  | with_reducible refine wc_int ⟨_, rfl, ?_⟩
  | with_reducible refine wc_abs ⟨_, rfl, ?_⟩
  | with_reducible refine wi_list ?_
  | with_reducible refine wi_tup ?_
  | with_reducible refine wi_rng1 ?_
  | with_reducible refine wi_rng2 ?_
  | with_reducible refine wi_enum ?_
  | with_reducible refine wi_zip ?_
  | with_reducible refine wi_str ?_
  | ((refine if_true_of ?hh ?_); (case hh => rfl))
  | ((refine if_false_of ?hh ?_); (case hh => rfl))
  | refine ⟨_, _, _, rfl, rfl, look_m, ?_⟩
  | refine ⟨_, _, _, rfl, rfl, look_s, ?_⟩
  | refine ⟨_, _, _, rfl, rfl, look_v, ?_⟩
  | refine ⟨Nat.le_of_ble_eq_true rfl, ?_⟩
  | refine ⟨_, rfl, ?_⟩
  | refine ⟨_, _, rfl, ?_⟩)
local macro_rules | `(tactic| walk_at "gs") => `(tactic| repeat walk_at "d1")
local macro_rules | `(tactic| walk_at "go") => `(tactic| repeat (first | walk_at "d1" | with_reducible refine wn_if ?_))

def tupD (xs : List Da) : Nat → List (List Da)
  | 0 => [[]]
  | n + 1 => (tupD xs n).flatMap fun r => xs.map fun x => r ++ [x]
theorem tup_len (xs : List Da) : ∀ n, (tupD xs n).length = xs.length ^ n
  | 0 => rfl
  | n + 1 => by
    have key : ∀ l : List (List Da), (l.flatMap fun r => xs.map fun x => r ++ [x]).length = l.length * xs.length := by
      intro l
      induction l with
      | nil => simp
      | cons a r ih => rw [List.flatMap_cons, List.length_append, ih, List.length_map, List.length_cons, Nat.add_mul, Nat.one_mul, Nat.add_comm]
    show ((tupD xs n).flatMap fun r => xs.map fun x => r ++ [x]).length = _
    rw [key, tup_len xs n, Nat.pow_succ]
theorem tup_mem {xs : List Da} : ∀ {n : Nat} {r : List Da}, r ∈ tupD xs n → r.length = n ∧ ∀ x ∈ r, x ∈ xs
  | 0, r, h => by rw [List.mem_singleton.mp h]; exact ⟨rfl, fun x h => by cases h⟩
  | n + 1, r, h => by
    obtain ⟨a, ha, h⟩ := List.mem_flatMap.mp h
    obtain ⟨x, hx, rfl⟩ := List.mem_map.mp h
    obtain ⟨h1, h2⟩ := tup_mem ha
    refine ⟨by rw [List.length_append, h1]; rfl, fun y hy => ?_⟩
    rcases List.mem_append.mp hy with hy | hy
    · exact h2 y hy
    · rw [List.mem_singleton.mp hy]; exact hx
end K43


set_option Elab.async false
set_option linter.all false
set_option maxRecDepth 100000
set_option maxHeartbeats 4000000
namespace K43
open PySem PySem.Spec PyProof.Rows L2 Evl NdefX SX StX Dl
/-! an algebra's fields as data -/
theorem tb_inj {os : List Opn} {ls ls' : List Addr} (h : tbK os ls = tbK os ls') (l1 : ls.length = os.length) (l2 : ls'.length = os.length) : ls = ls' := by
  refine List.ext_getElem (by omega) fun i h1 h2 => ?_
  have e : (tbK os ls)[i]? = (tbK os ls')[i]? := by rw [h]
  unfold tbK at e
  rw [List.getElem?_map, List.getElem?_map, List.getElem?_range (by omega)] at e
  have e := congrArg (·.2) (Option.some.inj e)
  have e : V.ref (ls.getD i 0) = V.ref (ls'.getD i 0) := e
  rw [List.getD_eq_getElem?_getD, List.getD_eq_getElem?_getD, List.getElem?_eq_getElem h1, List.getElem?_eq_getElem h2] at e
  exact V.ref.inj e
theorem alg_off {X : Addr → Prop} {H : Hp} {C : Addr} {xs : List Str} {os : List Opn} {v : V} (h : Rp X H v (alDa C xs os)) : ∃ (x dx t n p r b : Addr) (ss ls : List Addr), v = .ref x ∧ (H x = some (.ins C dx (flds t n p r b)) ∧ H t = some (.tup (ss.map V.ref)) ∧ ss.length = os.length ∧
    (∀ (j : Nat) s, ss[j]? = some s → H s = some (.tup [.str (os.getD j o0).1, .int ((os.getD j o0).2.1 : Int)])) ∧ H n = some (.lst (xs.map V.str)) ∧ H p = some (.dK (plK xs)) ∧ H r = some (.dK (arK os)) ∧ H b = some (.dK (tbK os ls)) ∧
    ls.length = os.length ∧ ∀ (j : Nat) l, ls[j]? = some l → H l = some (.lst ((os.getD j o0).2.2.map V.str))) ∧ ¬ X t ∧ ¬ X n ∧ ¬ X p ∧ ¬ X r ∧ ¬ X b ∧ (∀ s ∈ ss, ¬ X s) ∧ ∀ l ∈ ls, ¬ X l := by
  cases h with
  | ext h =>
    obtain ⟨x, rfl, dx, t, n, p, r, b, ss, ls, h1, h2, h3, h4, h5, h6, h7, h8, h9, h10⟩ := h H .refl
    have key : ∀ a o, H a = some o → (∀ C dx fs, o ≠ .ins C dx fs) → (∀ H' : Hp, H' a = some (.rng 0 0) → (∀ c u, H c = some u → c ≠ a → H' c = some u) → (H' t = some (.tup (ss.map V.ref)) → ∀ s ∈ ss, ∃ u, H' s = some (.tup u)) → (H' b = some (.dK (tbK os ls)) → ∀ l ∈ ls, ∃ u, H' l = some (.lst u)) →
        (∃ u, H' t = some (.tup u)) → (∃ u, H' n = some (.lst u)) → (∃ u, H' p = some (.dK u)) → (∃ u, H' r = some (.dK u)) → (∃ u, H' b = some (.dK u)) → False) → ¬ X a := fun a o ha ni no hx => by
      have ne : x ≠ a := fun e => by rw [e] at h1; rw [ha] at h1; exact ni _ _ _ (Option.some.inj h1)
      have kk : Kp X H (upd H a (.rng 0 0)) := Kp.refl.upd hx
      obtain ⟨x', e, dx', t', n', p', r', b', ss', ls', g1, g2, g3, g4, g5, g6, g7, g8, g9, g10⟩ := h _ kk
      cases e
      rw [upd_ne ne, h1] at g1
      cases g1
      refine no _ upd_same (fun c u hc n => by rw [upd_ne n]; exact hc) (fun ht s hs => ?_) (fun hb l hl => ?_) ⟨_, g2⟩ ⟨_, g5⟩ ⟨_, g6⟩ ⟨_, g7⟩ ⟨_, g8⟩
      · rw [ht] at g2
        have e := HO.tup.inj (Option.some.inj g2)
        have es : ss = ss' := (List.map_inj_right fun a b h => V.ref.inj h).mp e
        subst es
        obtain ⟨j, hj⟩ := List.mem_iff_getElem?.mp hs
        exact ⟨_, g4 j s hj⟩
      · rw [hb] at g8
        have e := tb_inj (HO.dK.inj (Option.some.inj g8)) h9 g9
        subst e
        obtain ⟨j, hj⟩ := List.mem_iff_getElem?.mp hl
        exact ⟨_, g10 j l hj⟩
    have nt : ¬ X t := key t _ h2 (fun _ _ _ z => nomatch z) fun H' ha _ _ _ q _ _ _ _ => by obtain ⟨u, q⟩ := q; rw [ha] at q; cases q
    have nn : ¬ X n := key n _ h5 (fun _ _ _ z => nomatch z) fun H' ha _ _ _ _ q _ _ _ => by obtain ⟨u, q⟩ := q; rw [ha] at q; cases q
    have np : ¬ X p := key p _ h6 (fun _ _ _ z => nomatch z) fun H' ha _ _ _ _ _ q _ _ => by obtain ⟨u, q⟩ := q; rw [ha] at q; cases q
    have nr : ¬ X r := key r _ h7 (fun _ _ _ z => nomatch z) fun H' ha _ _ _ _ _ _ q _ => by obtain ⟨u, q⟩ := q; rw [ha] at q; cases q
    have nb : ¬ X b := key b _ h8 (fun _ _ _ z => nomatch z) fun H' ha _ _ _ _ _ _ _ q => by obtain ⟨u, q⟩ := q; rw [ha] at q; cases q
    refine ⟨x, dx, t, n, p, r, b, ss, ls, rfl, ⟨h1, h2, h3, h4, h5, h6, h7, h8, h9, h10⟩, nt, nn, np, nr, nb, fun s hs hx => ?_, fun l hl hx => ?_⟩
    · obtain ⟨j, hj⟩ := List.mem_iff_getElem?.mp hs
      refine key s _ (h4 j s hj) (fun _ _ _ z => nomatch z) (fun H' ha keep q1 _ _ _ _ _ _ => ?_) hx
      by_cases c : t = s
      · exact nt (c ▸ hx)
      · obtain ⟨u, z⟩ := q1 (keep _ _ h2 c) s hs
        rw [ha] at z
        cases z
    · obtain ⟨j, hj⟩ := List.mem_iff_getElem?.mp hl
      refine key l _ (h10 j l hj) (fun _ _ _ z => nomatch z) (fun H' ha keep _ q2 _ _ _ _ _ => ?_) hx
      by_cases c : b = l
      · exact nb (c ▸ hx)
      · obtain ⟨u, z⟩ := q2 (keep _ _ h8 c) l hl
        rw [ha] at z
        cases z
/-- the fields' data -/
def sgDa (os : List Opn) : Da := .tup (os.map fun o => .tup [.str o.1, .int (o.2.1 : Int)])
def nmDa (xs : List Str) : Da := .lst (xs.map .str)
def plDa (xs : List Str) : Da := .dct ((List.range xs.length).map fun i => (Sum.inr (xs.getD i Str.empty), .int (i : Int)))
def tbDa (os : List Opn) : Da := .dct ((List.range os.length).map fun i => (Sum.inr (os.getD i o0).1, .lst ((os.getD i o0).2.2.map .str)))
theorem rps_str {X : Addr → Prop} {H : Hp} : ∀ xs : List Str, Rps X H (xs.map V.str) (xs.map Da.str)
  | [] => .nil
  | _ :: r => .cons (.str _) (rps_str r)
theorem rpk_map {X : Addr → Prop} {H : Hp} {α : Type} {key : α → Key} {g : α → V} {f : α → Da} : ∀ l : List α, (∀ a ∈ l, Rp X H (g a) (f a)) → Rpk X H (l.map fun a => (key a, g a)) (l.map fun a => (key a, f a))
  | [], _ => .nil
  | a :: r, h => .cons (h a List.mem_cons_self) (rpk_map r fun b hb => h b (List.mem_cons_of_mem _ hb))
theorem alg_flds {X : Addr → Prop} {H : Hp} {C : Addr} {xs : List Str} {os : List Opn} {v : V} (h : Rp X H v (alDa C xs os)) : ∃ (x dx t n p r b : Addr), v = .ref x ∧ H x = some (.ins C dx (flds t n p r b)) ∧ Rp X H (.ref t) (sgDa os) ∧ Rp X H (.ref n) (nmDa xs) ∧ Rp X H (.ref p) (plDa xs) ∧ Rp X H (.ref b) (tbDa os) := by
  obtain ⟨x, dx, t, n, p, r, b, ss, ls, rfl, ⟨h1, h2, h3, h4, h5, h6, h7, h8, h9, h10⟩, nt, nn, np, nr, nb, ns, nl⟩ := alg_off h
  refine ⟨x, dx, t, n, p, r, b, rfl, h1, .tup h2 nt ?_, .lst h5 nn (rps_str xs), .dct h6 np (rpk_map _ fun i _ => .int _), .dct h8 nb (rpk_map _ fun i hi => ?_)⟩
  · have all : ∀ (ss : List Addr) (os : List Opn), ss.length = os.length → (∀ (j : Nat) s, ss[j]? = some s → Rp X H (.ref s) (.tup [.str (os.getD j o0).1, .int ((os.getD j o0).2.1 : Int)])) → Rps X H (ss.map V.ref) (os.map fun o => .tup [.str o.1, .int (o.2.1 : Int)]) := by
      intro ss
      induction ss with
      | nil =>
        intro os hl _
        cases os with
        | nil => exact .nil
        | cons _ _ => cases hl
      | cons s r ih =>
        intro os hl hj
        cases os with
        | nil => cases hl
        | cons o os => exact .cons (hj 0 s rfl) (ih os (Nat.succ.inj hl) fun j s h => hj (j + 1) s h)
    exact all ss os h3 fun j s hj => .tup (h4 j s hj) (ns s (List.mem_of_getElem? hj)) (.cons (.str _) (.cons (.int _) .nil))
  · have hi := List.mem_range.mp hi
    have hl : ls[i]? = some (ls.getD i 0) := by rw [List.getD_eq_getElem?_getD, List.getElem?_eq_getElem (by omega)]; rfl
    exact .lst (h10 i _ hl) (nl _ (List.mem_of_getElem? hl)) (rps_str _)
/-- a field's data by its name -/
def fldD (xs : List Str) (os : List Opn) (f : Str) : Option Da := if f = "signature" then some (sgDa os) else if f = "_names" then some (nmDa xs) else if f = "_places" then some (plDa xs) else if f = "_tables" then some (tbDa os) else none
section
variable {W : Wd} {ρ : List En} {K : PySem.W.Frag} {te : TE} {Φ : Da → Prop} {C : Addr}
theorem we_sig (c : AlgC K C) (h : WE W te ρ fun x => ∃ xs os, x = alDa C xs os ∧ Φ (sgDa os)) : WE W (tFld K te "signature") ρ Φ := fun σ H s Q q =>
  h σ H s _ fun v H1 x ⟨xs, os, e, f⟩ k1 j1 r1 => by
    subst e
    obtain ⟨x, dx, t, n, p, r, b, rfl, h1, ra, rb, rc, rd⟩ := alg_flds r1
    exact ⟨x, C, dx, _, _, rfl, h1, c.cl, c.n1, rfl, q _ _ _ f k1 j1 ra⟩
theorem we_plc (c : AlgC K C) (h : WE W te ρ fun x => ∃ xs os, x = alDa C xs os ∧ Φ (plDa xs)) : WE W (tFld K te "_places") ρ Φ := fun σ H s Q q =>
  h σ H s _ fun v H1 x ⟨xs, os, e, f⟩ k1 j1 r1 => by
    subst e
    obtain ⟨x, dx, t, n, p, r, b, rfl, h1, ra, rb, rc, rd⟩ := alg_flds r1
    exact ⟨x, C, dx, _, _, rfl, h1, c.cl, c.n3, rfl, q _ _ _ f k1 j1 rc⟩
theorem we_tbl (c : AlgC K C) (h : WE W te ρ fun x => ∃ xs os, x = alDa C xs os ∧ Φ (tbDa os)) : WE W (tFld K te "_tables") ρ Φ := fun σ H s Q q =>
  h σ H s _ fun v H1 x ⟨xs, os, e, f⟩ k1 j1 r1 => by
    subst e
    obtain ⟨x, dx, t, n, p, r, b, rfl, h1, ra, rb, rc, rd⟩ := alg_flds r1
    exact ⟨x, C, dx, _, _, rfl, h1, c.cl, c.n5, rfl, q _ _ _ f k1 j1 rd⟩
theorem we_nms (c : AlgC K C) (h : WE W te ρ fun x => ∃ xs os, x = alDa C xs os ∧ Φ (nmDa xs)) : WE W (tFld K te "_names") ρ Φ := fun σ H s Q q =>
  h σ H s _ fun v H1 x ⟨xs, os, e, f⟩ k1 j1 r1 => by
    subst e
    obtain ⟨x, dx, t, n, p, r, b, rfl, h1, ra, rb, rc, rd⟩ := alg_flds r1
    exact ⟨x, C, dx, _, _, rfl, h1, c.cl, c.n2, rfl, q _ _ _ f k1 j1 rb⟩
end
theorem look_map {α : Type} {l : List α} {key : α → Key} {f : α → Da} (nd : (l.map key).Nodup) {a : α} (h : a ∈ l) : look (l.map fun a => (key a, f a)) (key a) = some (f a) := by
  induction l with
  | nil => cases h
  | cons b r ih =>
    rw [List.map_cons, List.nodup_cons] at nd
    unfold look at ih ⊢
    rw [List.map_cons, List.find?_cons]
    rcases List.mem_cons.mp h with rfl | h
    · rw [show decide ((key a, f a).1 = key a) = true from decide_eq_true rfl]
      rfl
    · have ne : key b ≠ key a := fun z => nd.1 (z ▸ List.mem_map.mpr ⟨a, h, rfl⟩)
      rw [show decide ((key b, f b).1 = key a) = false from decide_eq_false ne]
      exact ih nd.2 h
theorem look_pl {xs : List Str} (nd : xs.Nodup) {i : Nat} (h : i < xs.length) : look ((List.range xs.length).map fun i => ((Sum.inr (xs.getD i Str.empty) : Key), Da.int (i : Int))) (Sum.inr (xs.getD i Str.empty)) = some (.int (i : Int)) := by
  refine look_map (key := fun i => Sum.inr (xs.getD i Str.empty)) (f := fun i => Da.int (i : Int)) ?_ (List.mem_range.mpr h)
  have e : (List.range xs.length).map (fun i => (Sum.inr (xs.getD i Str.empty) : Key)) = xs.map Sum.inr := by
    refine List.ext_getElem (by simp) fun i h1 h2 => ?_
    rw [List.getElem_map, List.getElem_map, List.getElem_range, List.getD_eq_getElem?_getD, List.getElem?_eq_getElem (by simpa using h2)]
    rfl
  rw [e]
  exact List.Pairwise.map _ (fun a b hab h => hab (Sum.inr.inj h)) nd
theorem look_tb {os : List Opn} (nd : (os.map (·.1)).Nodup) {o : Opn} (h : o ∈ os) : look ((List.range os.length).map fun i => ((Sum.inr (os.getD i o0).1 : Key), Da.lst ((os.getD i o0).2.2.map .str))) (Sum.inr o.1) = some (.lst (o.2.2.map .str)) := by
  obtain ⟨i, hi, e⟩ := List.mem_iff_getElem.mp h
  have eo : os.getD i o0 = o := by rw [List.getD_eq_getElem?_getD, List.getElem?_eq_getElem hi, e]; rfl
  have z := look_map (l := List.range os.length) (key := fun i => (Sum.inr (os.getD i o0).1 : Key)) (f := fun i => Da.lst ((os.getD i o0).2.2.map .str)) (a := i) ?_ (List.mem_range.mpr hi)
  · rw [eo] at z
    exact z
  · have e2 : (List.range os.length).map (fun i => (Sum.inr (os.getD i o0).1 : Key)) = (os.map (·.1)).map Sum.inr := by
      refine List.ext_getElem (by simp) fun i h1 h2 => ?_
      rw [List.getElem_map, List.getElem_map, List.getElem_map, List.getElem_range, List.getD_eq_getElem?_getD, List.getElem?_eq_getElem (by simpa using h2)]
      rfl
    rw [e2]
    exact List.Pairwise.map _ (fun a b hab h => hab (Sum.inr.inj h)) nd
end K43


set_option Elab.async false
set_option linter.all false
set_option maxRecDepth 100000
set_option maxHeartbeats 4000000
namespace K43
open PySem PySem.Spec PyProof.Rows L2 Evl NdefX SX StX Dl
/-- a member's name by its place -/
def mS (us : List (List Nat)) (p : Nat) : Str := S (us.getD p [])
theorem mS_inj {us : List (List Nat)} (nd : us.Nodup) {p q : Nat} (hp : p < us.length) (hq : q < us.length) (h : mS us p = mS us q) : p = q := by
  unfold mS at h
  have h := S_inj h
  rw [List.getD_eq_getElem?_getD, List.getD_eq_getElem?_getD, List.getElem?_eq_getElem hp, List.getElem?_eq_getElem hq] at h
  have h : us[p] = us[q] := h
  exact (List.getElem_inj nd).mp h
end K43


set_option Elab.async false
set_option linter.all false
set_option maxRecDepth 100000
set_option maxHeartbeats 4000000
namespace K43
open PySem PySem.Spec PyProof.Rows L2 Evl NdefX SX StX Dl
/-! an algebra's methods as data -/
local macro_rules | `(tactic| walk_at "sr") => `(tactic| first | assumption | (refine Wd.Sr.vw ?_; walk_at "sr") | (refine Wd.Sr.own ?_; walk_at "sr") | (refine Wd.Sr.lp ?_; walk_at "sr"))
local macro_rules | `(tactic| walk_at "d1") => `(tactic| first
  | with_reducible refine wn_seq ?_
  | with_reducible refine wn_ret ?_
  | with_reducible refine wn_retN ?_
  | with_reducible refine wn_next ?_
  | with_reducible refine wn_cont ?_
  | with_reducible refine wn_break ?_
  | with_reducible refine wn_asg ?_
  | with_reducible refine wn_asgG ?_
  | with_reducible refine wn_drop ?_
  | ((with_reducible refine we_varX ?d ?hv ?_); (case hv => exact rfl))
  | with_reducible refine we_c ?_
  | with_reducible refine we_op ?_
  | with_reducible refine we_un ?_
  | with_reducible refine we_if ?_
  | with_reducible refine we_tup ?_
  | with_reducible refine we_lst ?_
  | with_reducible refine we_tl ?_
  | with_reducible refine we_slT ?_
  | with_reducible refine we_slL ?_
  | with_reducible refine we_revL ?_
  | with_reducible refine we_chain ?_
  | with_reducible refine we_andV ?_
  | with_reducible refine we_orV ?_
  | with_reducible refine we_notV ?_
  | with_reducible refine we_dget ?_
  | with_reducible refine we_din ?_
  | with_reducible refine we_dnin ?_
  | with_reducible refine we_dget2 ?_
  | with_reducible refine we_joined ?_
  | with_reducible refine we_fmt ?_
  | with_reducible refine wj_nil ?_
  | with_reducible refine wj_cons ?_
  | with_reducible refine we_call ?_
  | ((with_reducible refine we_pickX ?dd ?ll ?hs ?_); (case hs => walk_at "sr"))
  | with_reducible refine we_cb ?_
  | with_reducible refine wa_nil ?_
  | with_reducible refine wa_cons ?_
  | with_reducible refine wo_none ?_
  | with_reducible refine wo_some ?_
  | with_reducible refine wt_yes ?_
  | with_reducible refine wt_test ?_
  | with_reducible refine wt_B ?_
  | with_reducible refine wt_not ?_
  | with_reducible refine wt_and ?_
  | with_reducible refine wt_or ?_
  | with_reducible refine wt_truK ?_
  | with_reducible refine w2_I0 ⟨_, _, rfl, rfl, ?_⟩
  | with_reducible refine w2_eqI ⟨_, _, rfl, rfl, ?_⟩
  | with_reducible refine w2_eqS ⟨_, _, rfl, rfl, ?_⟩
  | with_reducible refine w2_neI ⟨_, _, rfl, rfl, ?_⟩
  | with_reducible refine w2_neS ⟨_, _, rfl, rfl, ?_⟩
  | with_reducible refine w2_adS ?_
  | with_reducible refine w2_isN ?_
  | with_reducible refine w2_notN ?_
  | ((with_reducible refine w2_inBX ?_); (refine ⟨_, rfl, ?_⟩))
  | with_reducible refine w2_inS ?_
  | ((with_reducible refine w2_ixL ?_); (refine ⟨_, _, _, rfl, rfl, rfl, ?_⟩))
  | ((with_reducible refine w2_ixT ?_); (refine ⟨_, _, _, rfl, rfl, rfl, ?_⟩))
  | ((with_reducible refine w2_ixL ?_); (refine ⟨_, _, _, rfl, rfl, atI_nat (j := 0) rfl, ?_⟩))
  | ((with_reducible refine w2_ixT ?_); (refine ⟨_, _, _, rfl, rfl, atI_nat (j := 0) rfl, ?_⟩))
  | with_reducible refine w2_ixL ?_
  | with_reducible refine w2_ixT ?_
  | ((with_reducible refine w2_cat ?_); (refine ⟨_, _, rfl, rfl, ?_⟩))
  | ((with_reducible refine w2_catT ?_); (refine ⟨_, _, rfl, rfl, (fun z => nomatch z), ?_⟩))
  | with_reducible refine w2_catT ?_
  | with_reducible refine w2_rep ?_
  | ((with_reducible refine wc_len ?_); (refine ⟨_, _, rfl, .inl rfl, ?_⟩))
  | ((with_reducible refine wc_len ?_); (refine ⟨_, _, rfl, .inr rfl, ?_⟩))
  | ((with_reducible refine wc_list ?_); (refine ⟨_, _, rfl, .inl rfl, ?_⟩))
  | ((with_reducible refine wc_list ?_); (refine ⟨_, _, rfl, .inr rfl, ?_⟩))
  | ((with_reducible refine wc_tup ?_); (refine ⟨_, _, rfl, .inl rfl, ?_⟩))
  | ((with_reducible refine wc_tup ?_); (refine ⟨_, _, rfl, .inr rfl, ?_⟩))
  | ((with_reducible refine wc_lenS ?_); (refine ⟨_, rfl, ?_⟩))
  | ((with_reducible refine wc_lenD ?_); (refine ⟨_, rfl, ?_⟩))
  | with_reducible refine w2_ixS ?_
  | with_reducible refine w2_inC ?_
  | with_reducible refine w2_ninC ?_
  | with_reducible refine wc_sum ?_
  | with_reducible refine wc_max ?_
  | with_reducible refine wc_min ?_
  | with_reducible refine wc_all ?_
  | with_reducible refine wc_any ?_
  | ((with_reducible refine wc_isi2 ?_); (refine ⟨_, _, _, _, rfl, rfl, rfl, ?_⟩))
  | with_reducible refine wc_int ⟨_, rfl, ?_⟩
  | with_reducible refine wc_abs ⟨_, rfl, ?_⟩
  | with_reducible refine wi_list ?_
  | with_reducible refine wi_tup ?_
  | with_reducible refine wi_rng1 ?_
  | with_reducible refine wi_rng2 ?_
  | with_reducible refine wi_enum ?_
  | with_reducible refine wi_zip ?_
  | with_reducible refine wi_str ?_
  | ((refine if_true_of ?hh ?_); (case hh => rfl))
  | ((refine if_false_of ?hh ?_); (case hh => rfl))
  | refine ⟨_, _, _, rfl, rfl, look_m, ?_⟩
  | refine ⟨_, _, _, rfl, rfl, look_s, ?_⟩
  | refine ⟨_, _, _, rfl, rfl, look_v, ?_⟩
  | refine ⟨Nat.le_of_ble_eq_true rfl, ?_⟩
  | refine ⟨_, rfl, ?_⟩
  | refine ⟨_, _, rfl, ?_⟩)
local macro_rules | `(tactic| walk_at "gs") => `(tactic| repeat walk_at "d1")
local macro_rules | `(tactic| walk_at "go") => `(tactic| repeat (first | walk_at "d1" | with_reducible refine wn_if ?_))

section
variable {W : Wd} {ρ : List En} {K : PySem.W.Frag} {te ta tb : TE} {t : TA} {Φ : Da → Prop} {C : Addr} {m : Str} {x y : Da}
theorem alg_ins {X : Addr → Prop} {H : Hp} {v : V} {xs : List Str} {os : List Opn} (h : Rp X H v (alDa C xs os)) : ∃ x dx t n p r b, v = .ref x ∧ H x = some (.ins C dx (flds t n p r b)) := by
  obtain ⟨x, dx, t, n, p, r, b, e, h1, _⟩ := alg_flds h
  exact ⟨x, dx, t, n, p, r, b, e, h1⟩
theorem we_methP {P : List Da → Da → Prop} {E : XK} (hm : ∀ t n p r b, (flds t n p r b).lookup m = none) (h : WE W ta ρ fun x => ∃ xs os, x = alDa C xs os ∧ WA W t ρ fun ds => ∃ d, P (x :: ds) d ∧ Φ d) : WE W (tMeth C m (spP P) [] E ta t) ρ Φ := fun σ H s Q q =>
  h σ H s _ fun v H1 x ⟨xs, os, e, h1⟩ k1 j1 r1 => by
    subst e
    obtain ⟨x, dx, t1, n, p, r, b, rfl, hx⟩ := alg_ins r1
    refine ⟨x, dx, _, rfl, hx, hm _ _ _ _ _, h1 σ H1 (s.step k1 j1) _ fun vs H2 ds ⟨d, p, f⟩ k2 j2 r2 => ?_⟩
    rw [List.append_nil]
    exact ⟨W.X, _, d, fun a z => k2.b a (k1.b a (s.al a z)), .cons (r1.kp (k2.sub W.y)) r2, p, fun v H' e r => q v H' d f ((k1.trans k2).trans (.same e)) (W.jsame e j2) r⟩
theorem ww_methN {P : List Da → Da → Prop} {E : XK} (hm : ∀ t n p r b, (flds t n p r b).lookup m = none) (h : WE W ta ρ fun x => ∃ xs os, x = alDa C xs os ∧ WA W t ρ fun ds => ∃ d, P (x :: ds) d ∧ Φ d) : WW W (tMeth C m (spN P) [] E ta t) ρ Φ := fun σ H s Q q =>
  h σ H s _ fun v H1 x ⟨xs, os, e, h1⟩ k1 j1 r1 => by
    subst e
    obtain ⟨x, dx, t1, n, p, r, b, rfl, hx⟩ := alg_ins r1
    refine ⟨x, dx, _, rfl, hx, hm _ _ _ _ _, h1 σ H1 (s.step k1 j1) _ fun vs H2 ds ⟨d, p, f⟩ k2 j2 r2 => ?_⟩
    rw [List.append_nil]
    exact ⟨W.X, _, d, fun a z => k2.b a (k1.b a (s.al a z)), .cons (r1.kp (k2.sub W.y)) r2, p, fun l H' nl e o => q l H' d f (k1.free (k2.free nl)) ((k1.trans k2).trans (.same e)) (W.jsame e j2) o⟩
theorem we_methX {P : List Da → Ot → Prop} {E : XK} (hm : ∀ t n p r b, (flds t n p r b).lookup m = none) (h : WE W ta ρ fun x => ∃ xs os, x = alDa C xs os ∧ WA W t ρ fun ds => ∃ o, P (x :: ds) o ∧ match o with | .ret d => Φ d | .ex C fs => ∀ H1, Kp W.Y W.h0 H1 → W.J H1 → Exc W.X H1 C fs E) : WE W (tMeth C m (spX P) [] E ta t) ρ Φ := fun σ H s Q q =>
  h σ H s _ fun v H1 x ⟨xs, os, e, h1⟩ k1 j1 r1 => by
    subst e
    obtain ⟨x, dx, t1, n, p, r, b, rfl, hx⟩ := alg_ins r1
    refine ⟨x, dx, _, rfl, hx, hm _ _ _ _ _, h1 σ H1 (s.step k1 j1) _ fun vs H2 ds ⟨o, p, f⟩ k2 j2 r2 => ?_⟩
    rw [List.append_nil]
    refine ⟨W.X, _, o, fun a z => k2.b a (k1.b a (s.al a z)), .cons (r1.kp (k2.sub W.y)) r2, p, ?_⟩
    cases o with
    | ret d => exact fun v H' e r => q v H' d f ((k1.trans k2).trans (.same e)) (W.jsame e j2) r
    | ex C fs => exact f H2 ((s.k0.trans k1).trans k2) j2
/-- x in y, y an algebra -/
theorem w2_has {f : Addr} {P : List Da → Da → Prop} {E : XK} {g : Bool → Bool} (hm : Meth K C "__contains__" f) (h : ∃ xs os b, y = alDa C xs os ∧ P [y, x] (.bl b) ∧ Φ (.bl (g b))) : W2 W (rHas K f (spP P) E g) x y Φ := fun v u H al j rx ry Q q => by
  obtain ⟨xs, os, b, rfl, p, f⟩ := h
  obtain ⟨x, dx, t1, n, p1, r, b1, rfl, hx⟩ := alg_ins ry
  exact ⟨x, C, dx, _, rfl, hx, hm, W.X, _, _, al, .cons ry (.cons rx .nil), p, fun v H' e rv => by
    cases rv
    exact ⟨b, rfl, q _ H' _ f (.same e) (W.jsame e j) (.bl _)⟩⟩
/-- len of an algebra -/
theorem wc_lenI {f : Addr} {P : List Da → Da → Prop} {E : XK} {zs : List Da} (hm : Meth K C "__len__" f) (h : ∃ xs os n, zs = [alDa C xs os] ∧ P zs (.int (n : Nat)) ∧ n < 2 ^ 63 ∧ Φ (.int (n : Nat))) : WC W (rLenI K f (spP P) E) zs Φ := fun vs H al j r Q q => by
  obtain ⟨xs, os, n, rfl, p, ln, f⟩ := h
  cases r with
  | cons ry r =>
    cases r
    obtain ⟨x, dx, t1, n1, p1, r, b1, rfl, hx⟩ := alg_ins ry
    exact ⟨x, C, dx, _, rfl, hx, hm, W.X, _, _, al, .cons ry .nil, p, fun v H' e rv => by
      cases rv
      exact ⟨n, rfl, ln, q _ H' _ f (.same e) (W.jsame e j) (.int _)⟩⟩
/-- == and != of algebras -/
theorem w2_cmpI {f : Addr} {P : List Da → Da → Prop} {E : XK} {g : Bool → Bool} (hc : CmpC K C f) (hn : PySem.W.notFirst K C (.ref C) = true) (h : ∃ xs os xs' os' b, x = alDa C xs os ∧ y = alDa C xs' os' ∧ P [x, y] (.bl b) ∧ Φ (.bl (g b))) : W2 W (rCmpI K f (spP P) E g) x y Φ := fun v u H al j rx ry Q q => by
  obtain ⟨xs, os, xs', os', b, rfl, rfl, p, f⟩ := h
  obtain ⟨x, dx, t1, n, p1, r, b1, rfl, hx⟩ := alg_ins rx
  obtain ⟨y, dy, t2, n2, p2, r2, b2, rfl, hy⟩ := alg_ins ry
  exact ⟨x, C, dx, _, y, C, dy, _, rfl, rfl, hx, hy, .inl ⟨hc, hn, W.X, _, _, al, .cons rx (.cons ry .nil), p, fun v H' e rv => by
    cases rv
    exact ⟨b, rfl, q _ H' _ f (.same e) (W.jsame e j) (.bl _)⟩⟩⟩
end
def PMem (C : Addr) (ds : List Da) (d : Da) : Prop := ∃ xs os, ds = [alDa C xs os] ∧ d = nmDa xs
def PLenA (C : Addr) (ds : List Da) (d : Da) : Prop := ∃ (xs : List Str) (os : List Opn), ds = [alDa C xs os] ∧ d = .int (xs.length : Nat)
def PHas (C : Addr) (ds : List Da) (d : Da) : Prop := ∃ (xs : List Str) (os : List Opn) (nm : Str), xs.Nodup ∧ ds = [alDa C xs os, .str nm] ∧ d = .bl (decide (nm ∈ xs))
section
variable {P : Program} {w : World} {K : PySem.W.Frag} {mg : Str → Option Value} {base : Heap} {CX : CXT} {k : Nat} {f : Addr} {fd : FuncData} {ps : List Str} {C Cc Cm Cs : Addr}
theorem mem_n (F : FnOk P w K mg base CX k f fd ps (spMem C)) : FnOk P w K mg base CX k f fd ps (spN (PMem C)) := F.imp fun vs H Q E h => by
  obtain ⟨X, ds, d, al, r, ⟨xs, os, rfl, rfl⟩, q⟩ := h
  cases r with
  | cons a r =>
    cases r
    obtain ⟨x, rfl, ax⟩ := rp_alg a
    exact ⟨x, xs, os, rfl, ax, fun l H' nl e hl => q l H' nl e ⟨_, hl, rps_str xs⟩⟩
theorem len_p (F : FnOk P w K mg base CX k f fd ps (spLen C)) : FnOk P w K mg base CX k f fd ps (spP (PLenA C)) := F.imp fun vs H Q E h => by
  obtain ⟨X, ds, d, al, r, ⟨xs, os, rfl, rfl⟩, q⟩ := h
  cases r with
  | cons a r =>
    cases r
    obtain ⟨x, rfl, ax⟩ := rp_alg a
    exact ⟨x, xs, os, rfl, ax, q _ H (Same.refl H) (.int _)⟩
theorem has_p (F : FnOk P w K mg base CX k f fd ps (spHasM C)) : FnOk P w K mg base CX k f fd ps (spP (PHas C)) := F.imp fun vs H Q E h => by
  obtain ⟨X, ds, d, al, r, ⟨xs, os, nm, nd, rfl, rfl⟩, q⟩ := h
  cases r with
  | cons a r =>
    cases r with
    | cons b r =>
      cases r
      cases b
      obtain ⟨x, rfl, ax⟩ := rp_alg a
      exact ⟨x, nm, xs, os, rfl, ax, nd, q _ H (Same.refl H) (.bl _)⟩
end
end K43


set_option Elab.async false
set_option linter.all false
set_option maxRecDepth 100000
set_option maxHeartbeats 4000000
namespace K43
open PySem PySem.Spec PyProof.Rows L2 Evl NdefX SX StX Dl
local macro_rules | `(tactic| walk_at "sr") => `(tactic| first | assumption | (refine Wd.Sr.vw ?_; walk_at "sr") | (refine Wd.Sr.own ?_; walk_at "sr") | (refine Wd.Sr.lp ?_; walk_at "sr"))
local macro_rules | `(tactic| walk_at "d1") => `(tactic| first
  | with_reducible refine wn_seq ?_
  | with_reducible refine wn_ret ?_
  | with_reducible refine wn_retN ?_
  | with_reducible refine wn_next ?_
  | with_reducible refine wn_cont ?_
  | with_reducible refine wn_break ?_
  | with_reducible refine wn_asg ?_
  | with_reducible refine wn_asgG ?_
  | with_reducible refine wn_drop ?_
  | ((with_reducible refine we_varX ?d ?hv ?_); (case hv => exact rfl))
  | with_reducible refine we_c ?_
  | with_reducible refine we_op ?_
  | with_reducible refine we_un ?_
  | with_reducible refine we_if ?_
  | with_reducible refine we_tup ?_
  | with_reducible refine we_lst ?_
  | with_reducible refine we_tl ?_
  | with_reducible refine we_slT ?_
  | with_reducible refine we_slL ?_
  | with_reducible refine we_revL ?_
  | with_reducible refine we_chain ?_
  | with_reducible refine we_andV ?_
  | with_reducible refine we_orV ?_
  | with_reducible refine we_notV ?_
  | with_reducible refine we_dget ?_
  | with_reducible refine we_din ?_
  | with_reducible refine we_dnin ?_
  | with_reducible refine we_dget2 ?_
  | with_reducible refine we_joined ?_
  | with_reducible refine we_fmt ?_
  | with_reducible refine wj_nil ?_
  | with_reducible refine wj_cons ?_
  | with_reducible refine we_call ?_
  | ((with_reducible refine we_pickX ?dd ?ll ?hs ?_); (case hs => walk_at "sr"))
  | with_reducible refine we_cb ?_
  | with_reducible refine wa_nil ?_
  | with_reducible refine wa_cons ?_
  | with_reducible refine wo_none ?_
  | with_reducible refine wo_some ?_
  | with_reducible refine wt_yes ?_
  | with_reducible refine wt_test ?_
  | with_reducible refine wt_B ?_
  | with_reducible refine wt_not ?_
  | with_reducible refine wt_and ?_
  | with_reducible refine wt_or ?_
  | with_reducible refine wt_truK ?_
  | with_reducible refine w2_I0 ⟨_, _, rfl, rfl, ?_⟩
  | with_reducible refine w2_eqI ⟨_, _, rfl, rfl, ?_⟩
  | with_reducible refine w2_eqS ⟨_, _, rfl, rfl, ?_⟩
  | with_reducible refine w2_neI ⟨_, _, rfl, rfl, ?_⟩
  | with_reducible refine w2_neS ⟨_, _, rfl, rfl, ?_⟩
  | with_reducible refine w2_adS ?_
  | with_reducible refine w2_isN ?_
  | with_reducible refine w2_notN ?_
  | ((with_reducible refine w2_inBX ?_); (refine ⟨_, rfl, ?_⟩))
  | with_reducible refine w2_inS ?_
  | ((with_reducible refine w2_ixL ?_); (refine ⟨_, _, _, rfl, rfl, rfl, ?_⟩))
  | ((with_reducible refine w2_ixT ?_); (refine ⟨_, _, _, rfl, rfl, rfl, ?_⟩))
  | ((with_reducible refine w2_ixL ?_); (refine ⟨_, _, _, rfl, rfl, atI_nat (j := 0) rfl, ?_⟩))
  | ((with_reducible refine w2_ixT ?_); (refine ⟨_, _, _, rfl, rfl, atI_nat (j := 0) rfl, ?_⟩))
  | with_reducible refine w2_ixL ?_
  | with_reducible refine w2_ixT ?_
  | ((with_reducible refine w2_cat ?_); (refine ⟨_, _, rfl, rfl, ?_⟩))
  | ((with_reducible refine w2_catT ?_); (refine ⟨_, _, rfl, rfl, (fun z => nomatch z), ?_⟩))
  | with_reducible refine w2_catT ?_
  | with_reducible refine w2_rep ?_
  | ((with_reducible refine wc_len ?_); (refine ⟨_, _, rfl, .inl rfl, ?_⟩))
  | ((with_reducible refine wc_len ?_); (refine ⟨_, _, rfl, .inr rfl, ?_⟩))
  | ((with_reducible refine wc_list ?_); (refine ⟨_, _, rfl, .inl rfl, ?_⟩))
  | ((with_reducible refine wc_list ?_); (refine ⟨_, _, rfl, .inr rfl, ?_⟩))
  | ((with_reducible refine wc_tup ?_); (refine ⟨_, _, rfl, .inl rfl, ?_⟩))
  | ((with_reducible refine wc_tup ?_); (refine ⟨_, _, rfl, .inr rfl, ?_⟩))
  | ((with_reducible refine wc_lenS ?_); (refine ⟨_, rfl, ?_⟩))
  | ((with_reducible refine wc_lenD ?_); (refine ⟨_, rfl, ?_⟩))
  | with_reducible refine w2_ixS ?_
  | with_reducible refine w2_inC ?_
  | with_reducible refine w2_ninC ?_
  | with_reducible refine wc_sum ?_
  | with_reducible refine wc_max ?_
  | with_reducible refine wc_min ?_
  | with_reducible refine wc_all ?_
  | with_reducible refine wc_any ?_
  | ((with_reducible refine wc_isi2 ?_); (refine ⟨_, _, _, _, rfl, rfl, rfl, ?_⟩))
  | with_reducible refine wc_int ⟨_, rfl, ?_⟩
  | with_reducible refine wc_abs ⟨_, rfl, ?_⟩
  | with_reducible refine wi_list ?_
  | with_reducible refine wi_tup ?_
  | with_reducible refine wi_rng1 ?_
  | with_reducible refine wi_rng2 ?_
  | with_reducible refine wi_enum ?_
  | with_reducible refine wi_zip ?_
  | with_reducible refine wi_str ?_
  | ((refine if_true_of ?hh ?_); (case hh => rfl))
  | ((refine if_false_of ?hh ?_); (case hh => rfl))
  | refine ⟨_, _, _, rfl, rfl, look_m, ?_⟩
  | refine ⟨_, _, _, rfl, rfl, look_s, ?_⟩
  | refine ⟨_, _, _, rfl, rfl, look_v, ?_⟩
  | refine ⟨Nat.le_of_ble_eq_true rfl, ?_⟩
  | refine ⟨_, rfl, ?_⟩
  | refine ⟨_, _, rfl, ?_⟩)
local macro_rules | `(tactic| walk_at "gs") => `(tactic| repeat walk_at "d1")
local macro_rules | `(tactic| walk_at "go") => `(tactic| repeat (first | walk_at "d1" | with_reducible refine wn_if ?_))

def PVal (C Cc Cm Cs : Addr) (ds : List Da) (o : Ot) : Prop := ∃ (xs : List Str) (os : List Opn) (sg : Str) (as : List Str) (y : Da), WfA xs os ∧ as.length ≤ 1000 ∧ Wee sg ∧ (∀ a ∈ as, Wee a) ∧ (y = .lst (as.map .str) ∨ y = .tup (as.map .str)) ∧ ds = [alDa C xs os, .str sg, y] ∧
  o = match valOut xs os sg as with | .ok v => .ret (.str v) | .sign => .ex Cs [("name", .str sg)] | .count => .ex Cc [] | .member a => .ex Cm [("name", .str a)]
section
variable {P : Program} {w : World} {K : PySem.W.Frag} {mg : Str → Option Value} {base : Heap} {CX : CXT} {k : Nat} {f : Addr} {fd : FuncData} {ps : List Str} {C Cc Cm Cs : Addr}
theorem exc_nm {X : Addr → Prop} {H : Hp} {nm : Str} {E : XK} (h : Exc X H C [("name", .str nm)] E) : RaiseNm C nm H E := fun d H' n e hd => h d _ H' n e hd (.cons ⟨rfl, .str _⟩ .nil)
theorem val_x (F : FnOk P w K mg base CX k f fd ps (spVal K C Cc Cm Cs)) : FnOk P w K mg base CX k f fd ps (spX (PVal C Cc Cm Cs)) := F.imp fun vs H Q E h => by
  obtain ⟨X, ds, o, al, r, ⟨xs, os, sg, as, y, wf, la, ws, wa, ey, rfl, rfl⟩, q⟩ := h
  cases r with
  | cons a r =>
    cases r with
    | cons b r =>
      cases r with
      | cons c r =>
        cases r
        cases b
        obtain ⟨x, rfl, ax⟩ := rp_alg a
        have hs : ∃ l, ‹V› = V.ref l ∧ (SqL K H l (as.map V.str) ∨ SqT K H l (as.map V.str)) := by
          rcases ey with rfl | rfl
          · cases c with
            | lst a n r => obtain rfl := r.strs; exact ⟨_, rfl, .inl (SqL.of a)⟩
          · cases c with
            | tup a n r => obtain rfl := r.strs; exact ⟨_, rfl, .inr (SqT.of a)⟩
        obtain ⟨l, rfl, hl⟩ := hs
        refine ⟨x, l, sg, as, xs, os, rfl, ax, hl, la, wf, ws, wa, ?_⟩
        cases hv : valOut xs os sg as with
        | ok v => rw [hv] at q; exact q _ H (Same.refl H) (.str _)
        | sign => rw [hv] at q; exact exc_nm q
        | count => rw [hv] at q; exact q H (Same.refl H)
        | member a => rw [hv] at q; exact exc_nm q
end
end K43


set_option Elab.async false
set_option linter.all false
set_option maxRecDepth 100000
set_option maxHeartbeats 4000000
namespace K43
open PySem PySem.Spec PyProof.Rows L2 Evl NdefX SX StX Dl
/-! members that are known -/
local macro_rules | `(tactic| walk_at "sr") => `(tactic| first | assumption | (refine Wd.Sr.vw ?_; walk_at "sr") | (refine Wd.Sr.own ?_; walk_at "sr") | (refine Wd.Sr.lp ?_; walk_at "sr"))
local macro_rules | `(tactic| walk_at "d1") => `(tactic| first
  | with_reducible refine wn_seq ?_
  | with_reducible refine wn_ret ?_
  | with_reducible refine wn_retN ?_
  | with_reducible refine wn_next ?_
  | with_reducible refine wn_cont ?_
  | with_reducible refine wn_break ?_
  | with_reducible refine wn_asg ?_
  | with_reducible refine wn_asgG ?_
  | with_reducible refine wn_drop ?_
  | ((with_reducible refine we_varX ?d ?hv ?_); (case hv => exact rfl))
  | with_reducible refine we_c ?_
  | with_reducible refine we_op ?_
  | with_reducible refine we_un ?_
  | with_reducible refine we_if ?_
  | with_reducible refine we_tup ?_
  | with_reducible refine we_lst ?_
  | with_reducible refine we_tl ?_
  | with_reducible refine we_slT ?_
  | with_reducible refine we_slL ?_
  | with_reducible refine we_revL ?_
  | with_reducible refine we_chain ?_
  | with_reducible refine we_andV ?_
  | with_reducible refine we_orV ?_
  | with_reducible refine we_notV ?_
  | with_reducible refine we_dget ?_
  | with_reducible refine we_din ?_
  | with_reducible refine we_dnin ?_
  | with_reducible refine we_dget2 ?_
  | with_reducible refine we_joined ?_
  | with_reducible refine we_fmt ?_
  | with_reducible refine wj_nil ?_
  | with_reducible refine wj_cons ?_
  | with_reducible refine we_call ?_
  | ((with_reducible refine we_pickX ?dd ?ll ?hs ?_); (case hs => walk_at "sr"))
  | with_reducible refine we_cb ?_
  | with_reducible refine wa_nil ?_
  | with_reducible refine wa_cons ?_
  | with_reducible refine wo_none ?_
  | with_reducible refine wo_some ?_
  | with_reducible refine wt_yes ?_
  | with_reducible refine wt_test ?_
  | with_reducible refine wt_B ?_
  | with_reducible refine wt_not ?_
  | with_reducible refine wt_and ?_
  | with_reducible refine wt_or ?_
  | with_reducible refine wt_truK ?_
  | with_reducible refine w2_I0 ⟨_, _, rfl, rfl, ?_⟩
  | with_reducible refine w2_eqI ⟨_, _, rfl, rfl, ?_⟩
  | with_reducible refine w2_eqS ⟨_, _, rfl, rfl, ?_⟩
  | with_reducible refine w2_neI ⟨_, _, rfl, rfl, ?_⟩
  | with_reducible refine w2_neS ⟨_, _, rfl, rfl, ?_⟩
  | with_reducible refine w2_adS ?_
  | with_reducible refine w2_isN ?_
  | with_reducible refine w2_notN ?_
  | ((with_reducible refine w2_inBX ?_); (refine ⟨_, rfl, ?_⟩))
  | with_reducible refine w2_inS ?_
  | ((with_reducible refine w2_ixL ?_); (refine ⟨_, _, _, rfl, rfl, rfl, ?_⟩))
  | ((with_reducible refine w2_ixT ?_); (refine ⟨_, _, _, rfl, rfl, rfl, ?_⟩))
  | ((with_reducible refine w2_ixL ?_); (refine ⟨_, _, _, rfl, rfl, atI_nat (j := 0) rfl, ?_⟩))
  | ((with_reducible refine w2_ixT ?_); (refine ⟨_, _, _, rfl, rfl, atI_nat (j := 0) rfl, ?_⟩))
  | with_reducible refine w2_ixL ?_
  | with_reducible refine w2_ixT ?_
  | ((with_reducible refine w2_cat ?_); (refine ⟨_, _, rfl, rfl, ?_⟩))
  | ((with_reducible refine w2_catT ?_); (refine ⟨_, _, rfl, rfl, (fun z => nomatch z), ?_⟩))
  | with_reducible refine w2_catT ?_
  | with_reducible refine w2_rep ?_
  | ((with_reducible refine wc_len ?_); (refine ⟨_, _, rfl, .inl rfl, ?_⟩))
  | ((with_reducible refine wc_len ?_); (refine ⟨_, _, rfl, .inr rfl, ?_⟩))
  | ((with_reducible refine wc_list ?_); (refine ⟨_, _, rfl, .inl rfl, ?_⟩))
  | ((with_reducible refine wc_list ?_); (refine ⟨_, _, rfl, .inr rfl, ?_⟩))
  | ((with_reducible refine wc_tup ?_); (refine ⟨_, _, rfl, .inl rfl, ?_⟩))
  | ((with_reducible refine wc_tup ?_); (refine ⟨_, _, rfl, .inr rfl, ?_⟩))
  | ((with_reducible refine wc_lenS ?_); (refine ⟨_, rfl, ?_⟩))
  | ((with_reducible refine wc_lenD ?_); (refine ⟨_, rfl, ?_⟩))
  | with_reducible refine w2_ixS ?_
  | with_reducible refine w2_inC ?_
  | with_reducible refine w2_ninC ?_
  | with_reducible refine wc_sum ?_
  | with_reducible refine wc_max ?_
  | with_reducible refine wc_min ?_
  | with_reducible refine wc_all ?_
  | with_reducible refine wc_any ?_
  | ((with_reducible refine wc_isi2 ?_); (refine ⟨_, _, _, _, rfl, rfl, rfl, ?_⟩))
  | with_reducible refine wc_int ⟨_, rfl, ?_⟩
  | with_reducible refine wc_abs ⟨_, rfl, ?_⟩
  | with_reducible refine wi_list ?_
  | with_reducible refine wi_tup ?_
  | with_reducible refine wi_rng1 ?_
  | with_reducible refine wi_rng2 ?_
  | with_reducible refine wi_enum ?_
  | with_reducible refine wi_zip ?_
  | with_reducible refine wi_str ?_
  | ((refine if_true_of ?hh ?_); (case hh => rfl))
  | ((refine if_false_of ?hh ?_); (case hh => rfl))
  | refine ⟨_, _, _, rfl, rfl, look_m, ?_⟩
  | refine ⟨_, _, _, rfl, rfl, look_s, ?_⟩
  | refine ⟨_, _, _, rfl, rfl, look_v, ?_⟩
  | refine ⟨Nat.le_of_ble_eq_true rfl, ?_⟩
  | refine ⟨_, rfl, ?_⟩
  | refine ⟨_, _, rfl, ?_⟩)
local macro_rules | `(tactic| walk_at "gs") => `(tactic| repeat walk_at "d1")
local macro_rules | `(tactic| walk_at "go") => `(tactic| repeat (first | walk_at "d1" | with_reducible refine wn_if ?_))

theorem wn_raiseNm {W : Wd} {ρ : List En} {te : TE} {C : Addr} {E : XK} (h : WE W te ρ fun x => ∃ nm, x = .str nm ∧ Wee nm ∧ ∀ H1, Kp W.Y W.h0 H1 → W.J H1 → Exc W.X H1 C [("name", .str nm)] E) : WN W (fun σ H => tMkO C (spNm C) [] (tCons te tNil) σ H fun cls d H' => E cls d H') ρ := fun σ H s =>
  h σ H s _ fun v H1 x ⟨nm, e, hw, f⟩ k1 j1 r1 => by
    subst e
    cases r1
    exact ⟨by show 1 ≤ 1000; decide, raise_nm hw (exc_nm (f H1 (s.k0.trans k1) j1))⟩
theorem kp_P {X : Addr → Prop} {H H1 : Hp} (k : Kp (wdP H X).Y (wdP H X).h0 H1) : Same H H1 := fun a o h => k.a a o h fun z => z
section
variable {P : Program} {w : World} {K : PySem.W.Frag} {mg : Str → Option Value} {base : Heap} {C Ca Cc Cm Cs fm qm cm fs qs cs : Addr} {dm dn : FuncData}
/-- the first name that is no member -/
def unkn (xs : List Str) (nms : List Str) : Option Str := nms.find? fun a => decide (a ∉ xs)
def PCk (C Cm : Addr) (ds : List Da) (o : Ot) : Prop := ∃ (xs : List Str) (os : List Opn) (nms : List Str) (y : Da), xs.Nodup ∧ (∀ a ∈ nms, Wee a) ∧ (y = .lst (nms.map .str) ∨ y = .tup (nms.map .str)) ∧ ds = [alDa C xs os, y] ∧ o = match unkn xs nms with | some a => .ex Cm [("name", .str a)] | none => .ret .non
abbrev s_check_known : Stmt := top 17
abbrev N_check_known : List Str := ["algebra", "names", "name"]
theorem sc_check_known : FnScope N_check_known ["algebra", "names"] (defScope s_check_known) := ⟨rfl, rfl, rfl, by decide +kernel, rfl, by decide +kernel, by decide +kernel⟩
theorem ok_ck {f fa : Addr} {fd fh : FuncData} (F : Fun K "check_known" "check_known" s_check_known f fd) (T : Blt mg) (c : AlgC K C) (U : ErrC P K mg Ca Cc Cm Cs fm qm cm fs qs cs dm dn) (mh : Meth K C "__contains__" fa) (F_has : FnOk P w K mg base (L2.CX P w) 1 fa fh ["self", "name"] (spP (PHas C))) (b_has : Binds K fh ["self", "name"] []) :
    FnOk P w K mg base (L2.CX P w) 3 f fd ["algebra", "names"] (spX (PCk C Cm)) := by
  have F_mb : FnOk P w K mg base (L2.CX P w) 1 fm dm ["self", "name"] (spNm Cm) := init_UnknownMember U.xm U.nm
  refine F.okX sc_check_known (fun vs H Q E h => ?_) (fun cdv A outer s H vs Q E hr h => ?_)
  · obtain ⟨X, ds, o, al, r, ⟨xs, os, nms, y, _, _, _, rfl, _⟩, q⟩ := h
    exact r.len
  · obtain ⟨X, ds, o, al, r, ⟨xs, os, nms, y, nd, we, ey, rfl, rfl⟩, q⟩ := h
    refine ⟨_, (pss_one (ps_for (passes_of rfl) rfl (by exact pi_seq K (pv 1)) (pg_name (i := 2) sc_check_known.nd rfl (Or.inl rfl)) (pss_one (ps_if (pt_cmpR (op_hasNot F_has (hr.mono (by decide)) b_has passL) (pv 2) (pv 0) rfl) (pss_one (ps_raise rfl (takes_of rfl rfl rfl rfl) (U.xm.pmk F_mb (hr.mono (by decide)) (by rfl) (pa_cons (pv 2) pa_nil)))) pss_nil)))), ?_⟩
    refine wn_start (W := wdP H X) [.da (alDa C xs os), .da y, .un] rfl rfl trivial al r ?_
    refine wn_for (S := [2]) (wi_seq (we_varX y rfl ?_))
    refine ⟨nms.map .str, ey, ?_⟩
    refine ⟨fun i ρ => ∃ e2, ρ = [.da (alDa C xs os), .da y, e2] ∧ ∀ a ∈ nms.take i, a ∈ xs, ⟨.un, rfl, fun a h => by cases h⟩, fun i x ρ' H1 hx hi => ?_, fun ρ' hi => ?_⟩
    · obtain ⟨e2, rfl, no⟩ := hi
      rw [List.getElem?_map, Option.map_eq_some_iff] at hx
      obtain ⟨a, ha, rfl⟩ := hx
      refine wg_name ?_
      with_reducible refine wn_if ?_
      walk_at "gs"
      refine w2_has mh ⟨xs, os, _, rfl, ⟨xs, os, a, nd, rfl, rfl⟩, ?_⟩
      walk_at "gs"
      by_cases hm : a ∈ xs
      · refine if_false_of (by rw [decide_eq_true hm]; rfl) ?_
        walk_at "gs"
        refine wn_to ⟨.da (.str a), rfl, fun b hb => ?_⟩
        rw [List.take_add_one, ha] at hb
        rcases List.mem_append.mp hb with hb | hb
        · exact no b hb
        · rw [List.mem_singleton.mp hb]; exact hm
      · refine if_true_of (by rw [decide_eq_false hm]; rfl) ?_
        have ef : unkn xs nms = some a := by
          obtain ⟨h1, h2⟩ := List.getElem?_eq_some_iff.mp ha
          unfold unkn
          rw [find_first h1 (fun b hb => decide_eq_false fun z => z (no b hb)) (by rw [h2]; exact decide_eq_true hm), h2]
        rw [ef] at q
        refine wn_raiseNm ?_
        walk_at "gs"
        exact ⟨we a (List.mem_of_getElem? ha), fun H1 k _ => Exc.same q (kp_P (X := X) k)⟩
    · obtain ⟨e2, rfl, no⟩ := hi
      rw [List.length_map, List.take_length] at no
      have ef : unkn xs nms = none := List.find?_eq_none.mpr fun a ha => by rw [decide_eq_false fun z => z (no a ha)]; decide
      rw [ef] at q
      intro σ H1 s
      exact q _ H1 (kp_P (X := X) s.k0) .non
end
end K43


set_option Elab.async false
set_option linter.all false
set_option maxRecDepth 100000
set_option maxHeartbeats 4000000
namespace K43
open PySem PySem.Spec PyProof.Rows L2 Evl NdefX SX StX Dl
/-! the law's rows and values as data -/
local macro_rules | `(tactic| walk_at "sr") => `(tactic| first | assumption | (refine Wd.Sr.vw ?_; walk_at "sr") | (refine Wd.Sr.own ?_; walk_at "sr") | (refine Wd.Sr.lp ?_; walk_at "sr"))
local macro_rules | `(tactic| walk_at "d1") => `(tactic| first
  | with_reducible refine wn_seq ?_
  | with_reducible refine wn_ret ?_
  | with_reducible refine wn_retN ?_
  | with_reducible refine wn_next ?_
  | with_reducible refine wn_cont ?_
  | with_reducible refine wn_break ?_
  | with_reducible refine wn_asg ?_
  | with_reducible refine wn_asgG ?_
  | with_reducible refine wn_drop ?_
  | ((with_reducible refine we_varX ?d ?hv ?_); (case hv => exact rfl))
  | with_reducible refine we_c ?_
  | with_reducible refine we_op ?_
  | with_reducible refine we_un ?_
  | with_reducible refine we_if ?_
  | with_reducible refine we_tup ?_
  | with_reducible refine we_lst ?_
  | with_reducible refine we_tl ?_
  | with_reducible refine we_slT ?_
  | with_reducible refine we_slL ?_
  | with_reducible refine we_revL ?_
  | with_reducible refine we_chain ?_
  | with_reducible refine we_andV ?_
  | with_reducible refine we_orV ?_
  | with_reducible refine we_notV ?_
  | with_reducible refine we_dget ?_
  | with_reducible refine we_din ?_
  | with_reducible refine we_dnin ?_
  | with_reducible refine we_dget2 ?_
  | with_reducible refine we_joined ?_
  | with_reducible refine we_fmt ?_
  | with_reducible refine wj_nil ?_
  | with_reducible refine wj_cons ?_
  | with_reducible refine we_call ?_
  | ((with_reducible refine we_pickX ?dd ?ll ?hs ?_); (case hs => walk_at "sr"))
  | with_reducible refine we_cb ?_
  | with_reducible refine wa_nil ?_
  | with_reducible refine wa_cons ?_
  | with_reducible refine wo_none ?_
  | with_reducible refine wo_some ?_
  | with_reducible refine wt_yes ?_
  | with_reducible refine wt_test ?_
  | with_reducible refine wt_B ?_
  | with_reducible refine wt_not ?_
  | with_reducible refine wt_and ?_
  | with_reducible refine wt_or ?_
  | with_reducible refine wt_truK ?_
  | with_reducible refine w2_I0 ⟨_, _, rfl, rfl, ?_⟩
  | with_reducible refine w2_eqI ⟨_, _, rfl, rfl, ?_⟩
  | with_reducible refine w2_eqS ⟨_, _, rfl, rfl, ?_⟩
  | with_reducible refine w2_neI ⟨_, _, rfl, rfl, ?_⟩
  | with_reducible refine w2_neS ⟨_, _, rfl, rfl, ?_⟩
  | with_reducible refine w2_adS ?_
  | with_reducible refine w2_isN ?_
  | with_reducible refine w2_notN ?_
  | ((with_reducible refine w2_inBX ?_); (refine ⟨_, rfl, ?_⟩))
  | with_reducible refine w2_inS ?_
  | ((with_reducible refine w2_ixL ?_); (refine ⟨_, _, _, rfl, rfl, rfl, ?_⟩))
  | ((with_reducible refine w2_ixT ?_); (refine ⟨_, _, _, rfl, rfl, rfl, ?_⟩))
  | ((with_reducible refine w2_ixL ?_); (refine ⟨_, _, _, rfl, rfl, atI_nat (j := 0) rfl, ?_⟩))
  | ((with_reducible refine w2_ixT ?_); (refine ⟨_, _, _, rfl, rfl, atI_nat (j := 0) rfl, ?_⟩))
  | with_reducible refine w2_ixL ?_
  | with_reducible refine w2_ixT ?_
  | ((with_reducible refine w2_cat ?_); (refine ⟨_, _, rfl, rfl, ?_⟩))
  | ((with_reducible refine w2_catT ?_); (refine ⟨_, _, rfl, rfl, (fun z => nomatch z), ?_⟩))
  | with_reducible refine w2_catT ?_
  | with_reducible refine w2_rep ?_
  | ((with_reducible refine wc_len ?_); (refine ⟨_, _, rfl, .inl rfl, ?_⟩))
  | ((with_reducible refine wc_len ?_); (refine ⟨_, _, rfl, .inr rfl, ?_⟩))
  | ((with_reducible refine wc_list ?_); (refine ⟨_, _, rfl, .inl rfl, ?_⟩))
  | ((with_reducible refine wc_list ?_); (refine ⟨_, _, rfl, .inr rfl, ?_⟩))
  | ((with_reducible refine wc_tup ?_); (refine ⟨_, _, rfl, .inl rfl, ?_⟩))
  | ((with_reducible refine wc_tup ?_); (refine ⟨_, _, rfl, .inr rfl, ?_⟩))
  | ((with_reducible refine wc_lenS ?_); (refine ⟨_, rfl, ?_⟩))
  | ((with_reducible refine wc_lenD ?_); (refine ⟨_, rfl, ?_⟩))
  | with_reducible refine w2_ixS ?_
  | with_reducible refine w2_inC ?_
  | with_reducible refine w2_ninC ?_
  | with_reducible refine wc_sum ?_
  | with_reducible refine wc_max ?_
  | with_reducible refine wc_min ?_
  | with_reducible refine wc_all ?_
  | with_reducible refine wc_any ?_
  | ((with_reducible refine wc_isi2 ?_); (refine ⟨_, _, _, _, rfl, rfl, rfl, ?_⟩))
  | with_reducible refine wc_int ⟨_, rfl, ?_⟩
  | with_reducible refine wc_abs ⟨_, rfl, ?_⟩
  | with_reducible refine wi_list ?_
  | with_reducible refine wi_tup ?_
  | with_reducible refine wi_rng1 ?_
  | with_reducible refine wi_rng2 ?_
  | with_reducible refine wi_enum ?_
  | with_reducible refine wi_zip ?_
  | with_reducible refine wi_str ?_
  | ((refine if_true_of ?hh ?_); (case hh => rfl))
  | ((refine if_false_of ?hh ?_); (case hh => rfl))
  | refine ⟨_, _, _, rfl, rfl, look_m, ?_⟩
  | refine ⟨_, _, _, rfl, rfl, look_s, ?_⟩
  | refine ⟨_, _, _, rfl, rfl, look_v, ?_⟩
  | refine ⟨Nat.le_of_ble_eq_true rfl, ?_⟩
  | refine ⟨_, rfl, ?_⟩
  | refine ⟨_, _, rfl, ?_⟩)
local macro_rules | `(tactic| walk_at "gs") => `(tactic| repeat walk_at "d1")
local macro_rules | `(tactic| walk_at "go") => `(tactic| repeat (first | walk_at "d1" | with_reducible refine wn_if ?_))

theorem fm_uni {α β γ : Type} (xs : List β) (g : α → β → γ) : ∀ l : List α, (l.flatMap fun r => xs.map (g r)).length = l.length * xs.length
  | [] => by simp
  | a :: r => by rw [List.flatMap_cons, List.length_append, fm_uni xs g r, List.length_map, List.length_cons, Nat.add_mul, Nat.one_mul, Nat.add_comm]
section
variable {P : Program} {w : World} {K : PySem.W.Frag} {mg : Str → Option Value} {base : Heap}
def PRw (ds : List Da) (d : Da) : Prop := ∃ n k : Nat, n ≤ 1000 ∧ k ≤ 10 ∧ (∀ j, j ≤ k → n ^ j ≤ 5000) ∧ ds = [.int (n : Int), .int (k : Int)] ∧ d = .lst ((tupD (rgD n) k).map .lst)
theorem ok_rowsD {f : Addr} {fd : FuncData} (F : Fun K "_law_rows" "_law_rows" s__law_rows f fd) (T : Blt mg) : FnOk P w K mg base CX0 1 f fd ["many", "arity"] (spP PRw) := by
  refine F.ok sc__law_rows (fun vs H Q E h => ?_) (fun cdv A outer s H vs Q E hr h => ?_)
  · obtain ⟨X, ds, d, al, r, ⟨n, k, _, _, _, rfl, _⟩, q⟩ := h
    exact r.len
  · obtain ⟨X, ds, d, al, r, ⟨n, k, hn, hk, hb, rfl, rfl⟩, q⟩ := h
    have lr : (rgD n).length = n := by unfold rgD; rw [List.length_map, List.length_range]
    refine ⟨_, (pss_cons (ps_set (i := 2) sc__law_rows.nd rfl (Or.inl rfl) (pe_lst (pa_cons (pe_lst pa_nil) pa_nil)))
      (pss_cons (ps_for PassesOwn.never rfl (pi_range1 (by rfl) T.range (pa_cons (pv 1) pa_nil)) (pg_name (i := 3) sc__law_rows.nd rfl (Or.inl rfl)) (pss_cons (ps_set (i := 4) sc__law_rows.nd rfl (Or.inl rfl) (pe_lst pa_nil))
      (pss_cons (ps_for PassesOwn.never rfl (pi_list (pv 2)) (pg_name (i := 5) sc__law_rows.nd rfl (Or.inr rfl)) (pss_one (ps_set (i := 4) sc__law_rows.nd rfl (Or.inl rfl) (pe_op op_cat (pv 4) (pe_lc (own := [("place", 6)]) (g := gName 6) (by rfl) sc__law_rows.nd (pi_range1 (by rfl) T.range (pa_cons (pv 0) pa_nil)) (blkOk_by (own := [("place", 6)]) (N := N__law_rows) (sc := defScope s__law_rows) (by decide +kernel)) (fun _ _ _ _ _ => pg_name (i := 6) sc__law_rows.nd rfl (Or.inl rfl)) (fun _ _ _ _ _ => pts_nil) (fun _ _ _ _ _ => pe_op op_cat (pv 5) (pe_lst (pa_cons (pv 6) pa_nil))))))))
      (pss_one (ps_set (i := 2) sc__law_rows.nd rfl (Or.inl rfl) (pv 4))))))
      (pss_one (ps_ret (pv 2))))), ?_⟩
    refine wn_start (W := wdP H X) [.da (.int (n : Int)), .da (.int (k : Int)), .un, .un, .un, .un, .un] rfl rfl trivial al r ?_
    walk_at "gs"
    refine wn_for (S := [3]) ?_
    walk_at "gs"
    refine ⟨by omega, by omega, fun i ρ => ∃ e3 e4 e5, ρ = [.da (.int (n : Int)), .da (.int (k : Int)), .da (.lst ((tupD (rgD n) i).map .lst)), e3, e4, e5, .un], ⟨.un, .un, .un, rfl⟩, fun i x ρ' H1 hx hi => ?_, fun ρ' hi => ?_⟩
    · obtain ⟨e3, e4, e5, rfl⟩ := hi
      have hik : i < k := by
        have := (List.getElem?_eq_some_iff.mp hx).1
        unfold rgD at this
        rw [List.length_map, List.length_range] at this
        omega
      have hl := hb i (by omega)
      have hl2 := hb (i + 1) (by omega)
      rw [← lr, ← tup_len] at hl
      rw [Nat.pow_succ, ← lr, ← tup_len, lr] at hl2
      refine wg_name ?_
      walk_at "gs"
      refine wn_for (S := [5]) ?_
      walk_at "gs"
      refine ⟨fun j ρ => ∃ e5, ρ = [.da (.int (n : Int)), .da (.int (k : Int)), .da (.lst ((tupD (rgD n) i).map .lst)), .da x, .da (.lst (((tupD (rgD n) i).take j).flatMap fun r => (rgD n).map fun x => .lst (r ++ [x]))), e5, .un], ⟨e5, rfl⟩, fun j y ρ' H2 hy hj => ?_, fun ρ' hj => ?_⟩
      · obtain ⟨e5, rfl⟩ := hj
        rw [List.getElem?_map, Option.map_eq_some_iff] at hy
        obtain ⟨r, hr2, rfl⟩ := hy
        have lr2 := (tup_mem (List.mem_of_getElem? hr2)).1
        have hj2 : j < (tupD (rgD n) i).length := (List.getElem?_eq_some_iff.mp hr2).1
        refine wg_name ?_
        walk_at "gs"
        refine (ww_lcT (S := [6]) (by decide) ?_).e
        walk_at "gs"
        refine ⟨by omega, by omega, Da, rgD n, id, fun x => .lst (r ++ [x]), by rw [Int.toNat_natCast, List.map_id], by omega, fun a D ha => wg_name ?_, ?_⟩
        · walk_at "gs"
          exact ⟨by rw [lr2]; show i + 1 ≤ _; omega, rfl⟩
        · walk_at "gs"
          have lf : (((tupD (rgD n) i).take j).flatMap fun r => (rgD n).map fun x => Da.lst (r ++ [x])).length = ((tupD (rgD n) i).take j).length * n := by rw [fm_uni, lr]
          have lj : ((tupD (rgD n) i).take j).length = j := by rw [List.length_take]; omega
          have mul : j * n ≤ (tupD (rgD n) i).length * n := Nat.mul_le_mul_right _ (by omega)
          refine ⟨by rw [lf, lj, List.length_map, lr]; omega, ?_⟩
          refine wn_to ⟨.da (.lst r), ?_⟩
          rw [List.take_add_one, hr2, List.flatMap_append]
          simp
      · obtain ⟨e5, rfl⟩ := hj
        rw [List.length_map, List.take_length]
        walk_at "gs"
        refine wn_to ⟨.da x, .da (.lst ((tupD (rgD n) i).flatMap fun r => (rgD n).map fun x => .lst (r ++ [x]))), e5, ?_⟩
        have e : (tupD (rgD n) (i + 1)).map Da.lst = (tupD (rgD n) i).flatMap fun r => (rgD n).map fun x => .lst (r ++ [x]) := by
          show ((tupD (rgD n) i).flatMap fun r => (rgD n).map fun x => r ++ [x]).map Da.lst = _
          rw [List.map_flatMap]
          congr 1
          funext r
          rw [List.map_map]
          rfl
        rw [e]
        rfl
    · obtain ⟨e3, e4, e5, rfl⟩ := hi
      have el : (rgD (k : Int).toNat).length = k := by unfold rgD; rw [List.length_map, List.length_range]; omega
      rw [el]
      walk_at "gs"
      exact rt_P q
def PAt (ds : List Da) (d : Da) : Prop := ∃ us os o, ∃ (k : Nat) (row : List Nat), GoodD us os ∧ os[k]? = some o ∧ row.length = o.2.1 ∧ (∀ x ∈ row, x < us.length) ∧ ds = [algDa us os, .int (k : Int), .lst (row.map fun (z : Nat) => .int (z : Int))] ∧ d = .int (o.2.2.getD (spotN us.length row) 0 : Nat)
theorem at_p {CX : CXT} {k : Nat} {f : Addr} {fd : FuncData} {ps : List Str} (F : FnOk P w K mg base CX k f fd ps (spAt K)) : FnOk P w K mg base CX k f fd ps (spP PAt) := F.imp fun vs H Q E h => by
  obtain ⟨X, ds, d, al, r, ⟨us, os, o, k, row, gd, ho, lr, hr, rfl, rfl⟩, q⟩ := h
  cases r with
  | cons a r =>
    cases r with
    | cons b r =>
      cases r with
      | cons c r =>
        cases r
        cases b
        obtain ⟨D, rfl, dr⟩ := rp_draw a
        cases c with
        | lst hc nc rc =>
          rw [rps_iv_inv rc] at hc
          exact ⟨_, D, _, k, us, os, o, row, rfl, dr, gd, ho, hc, lr, hr, q _ H (Same.refl H) (.int _)⟩
end
end K43


set_option Elab.async false
set_option linter.all false
set_option maxRecDepth 100000
set_option maxHeartbeats 4000000
namespace K43
open PySem PySem.Spec PyProof.Rows L2 Evl NdefX SX StX Dl
/-- a class of algebras, as isinstance sees it -/
structure AlgK (K : PySem.W.Frag) (C CA : Addr) : Prop where
  c : AlgC K C
  ha : PySem.W.findIn K (.ref C) "__class__" = some (some (.builtin "object.__class__"))
  hn : PySem.W.specialIn K (.builtin "object.__class__") "__get__" = some (some (.builtin "getset_descriptor.__get__"))
  ht : PySem.W.takesIn K (.builtin "object.__class__") = some true
  hm : PySem.W.mroIn K C (.type "object") = some true
  it : PySem.W.kitOne K (.ref C) (.ref CA) = some true
def sigD (os : List Opn) : PyData := .tuple (os.map fun o => .tuple [.str o.1, .int (o.2.1 : Int)])
def nmD (xs : List Str) : PyData := .list (xs.map .str)
section
variable {K : PySem.W.Frag} {H : Hp}
theorem paired_ofD {α β : Type} {R : α → β → Prop} {d : β} : ∀ {l : List α} {m : List β}, l.length = m.length → (∀ (j : Nat) a, l[j]? = some a → R a (m.getD j d)) → Paired R l m
  | [], [], _, _ => .nil
  | [], _ :: _, h, _ => by simp at h
  | _ :: _, [], h, _ => by simp at h
  | a :: l, b :: m, h, f => .cons (f 0 a rfl) (paired_ofD (d := d) (by simpa using h) fun j x e => by simpa using f (j + 1) x (by simpa using e))
theorem dp_sig {t : Addr} {ss : List Addr} {os : List Opn} (h : H t = some (.tup (ss.map V.ref))) (hl : ss.length = os.length) (hs : ∀ (j : Nat) s, ss[j]? = some s → H s = some (.tup [.str (os.getD j o0).1, .int ((os.getD j o0).2.1 : Int)])) : Dp K H (.ref t) (sigD os) := by
  refine .tup (SqT.of h) ?_
  have key : ∀ {ss : List Addr} {os : List Opn}, Paired (fun s (o : Opn) => H s = some (.tup [.str o.1, .int (o.2.1 : Int)])) ss os → DpAll K H (ss.map V.ref) (os.map fun o => .tuple [.str o.1, .int (o.2.1 : Int)]) := by
    intro ss os p
    induction p with
    | nil => exact .nil
    | cons a _ ih => exact .cons (.tup (SqT.of a) (.cons (.str _) (.cons (.int _) .nil))) ih
  exact key (paired_ofD (d := o0) hl hs)
theorem dp_nm {n : Addr} {xs : List Str} (h : H n = some (.lst (xs.map V.str))) : Dp K H (.ref n) (nmD xs) := by
  refine .lst (SqL.of h) ?_
  induction xs with
  | nil => exact .nil
  | cons x r ih =>
    have key : ∀ xs : List Str, DpAll K H (xs.map V.str) (xs.map PyData.str) := fun xs => by
      induction xs with
      | nil => exact .nil
      | cons x r ih => exact .cons (.str _) ih
    exact key _
end
section
variable {P : Program} {w : World} {K : PySem.W.Frag} {mg : Str → Option Value} {base : Heap}
/-- the law of ==, where it is known -/
def EqOut (xs ys : List Str) (os ps : List Opn) (Q : Bool → Prop) : Prop :=
  (xs = ys ∧ os = ps ∧ Q true) ∨ (PyData.eqv (sigD os) (sigD ps) = false ∧ Q false) ∨ (PyData.eqv (sigD os) (sigD ps) = true ∧ PyData.eqv (nmD xs) (nmD ys) = false ∧ Q false)
structure ShA (xs : List Str) (os : List Opn) : Prop where
  s : SeqAt.shaped (sigD os) = true
  n : SeqAt.shaped (nmD xs) = true
def spEqA (K : PySem.W.Frag) (CA : Addr) : Sp := fun vs H Q _ => ∃ (x y C C' : Addr) (xs ys : List Str) (os ps : List Opn), vs = [.ref x, .ref y] ∧ AlgK K C CA ∧ AlgK K C' CA ∧ AlgAt C x xs os H ∧ AlgAt C' y ys ps H ∧ GoodO xs os ∧ ShA xs os ∧ ShA ys ps ∧ EqOut xs ys os ps fun b => Q (.bl b) H
abbrev s_Algebra___eq__ : Stmt := inClass (top 16) 6
abbrev N_Algebra___eq__ : List Str := ["self", "other"]
theorem sc_Algebra___eq__ : FnScope N_Algebra___eq__ ["self", "other"] (defScope s_Algebra___eq__) := ⟨rfl, rfl, rfl, by decide +kernel, rfl, by decide +kernel, by decide +kernel⟩
theorem ok_eq {CA f : Addr} {fd : FuncData} (F : Fun K "__eq__" "Algebra.__eq__" s_Algebra___eq__ f fd) (T : Blt mg) (gA : mg "Algebra" = some (.ref CA)) : FnOk P w K mg base CX0 1 f fd ["self", "other"] (spEqA K CA) := by
  refine F.ok sc_Algebra___eq__ (fun vs H Q E h => ?_) (fun cdv A outer s H vs Q E hr h => ?_)
  · obtain ⟨x, y, C, C', xs, ys, os, ps, rfl, _⟩ := h
    rfl
  · obtain ⟨x, y, C, C', xs, ys, os, ps, rfl, c1, c2, al, bl, go, sh1, sh2, k⟩ := h
    have hu := hu_of hr
    have hu64 := hu64_of hr
    refine ⟨_, (pss_cons (ps_if (pt_not (pt_val (pe_callB (call_isiK' K) (by rfl) T.isinstance (by decide +kernel) (pa_cons (pv 1) (pa_cons (pe_gref rfl gA) pa_nil))))) (pss_one (ps_ret (pe_bl))) pss_nil)
      (pss_cons (ps_if (PW.pt (pw_or (pt_cmpR (op_neDK K hu64) (pe_fld (pv 0) rfl) (pe_fld (pv 1) rfl) (nomark _)) (pw_or1 (pt_cmpR (op_neDK K hu64) (pe_fld (pv 0) rfl) (pe_fld (pv 1) rfl) (nomark _))))) (pss_one (ps_ret (pe_bl))) pss_nil)
      (pss_one (ps_ret (pe_cmpR (op_eqV hu64) (pe_fld (pv 0) rfl) (pe_fld (pv 1) rfl) (nomark _)))))), ?_⟩
    obtain ⟨dx, t, n, p, r, b, ss, ls, h1, h2, h3, h4, h5, h6, h7, h8, h9, h10⟩ := al
    obtain ⟨ey, t', n', p', r', b', ss', ls', g1, g2, g3, g4, g5, g6, g7, g8, g9, g10⟩ := bl
    have e1 := dp_sig (K := K) h2 h3 h4
    have e2 := dp_sig (K := K) g2 g3 g4
    refine ⟨_, rfl, .ref y, _, _, _, true, rfl, ClsV.own CA, .base (.ins g1 c2.c.cl c2.ha c2.hn c2.ht c2.hm), c2.it, true, rfl, iteF ?_⟩
    refine ⟨_, rfl, x, C, dx, _, _, rfl, h1, c1.c.cl, c1.c.n1, rfl, _, rfl, y, C', ey, _, _, rfl, g1, c2.c.cl, c2.c.n1, rfl, sigD os, sigD ps, e1, e2, sh1.s, sh2.s, _, rfl, ?_⟩
    rcases k with ⟨rfl, rfl, k⟩ | ⟨ke, k⟩ | ⟨ke, kn, k⟩
    · have sg := SeqAt.eqv_refl (sigD os) (SeqAt.canLay_of_shaped sh1.s)
      have nm := SeqAt.eqv_refl (nmD xs) (SeqAt.canLay_of_shaped sh1.n)
      refine if_false_of (by rw [sg]; rfl) ⟨_, rfl, x, C, dx, _, _, rfl, h1, c1.c.cl, c1.c.n2, rfl, _, rfl, y, C', ey, _, _, rfl, g1, c2.c.cl, c2.c.n2, rfl, nmD xs, nmD xs, dp_nm h5, dp_nm g5, sh1.n, sh1.n, _, rfl, if_false_of (by rw [nm]; rfl) ?_⟩
      refine ⟨_, rfl, x, C, dx, _, _, rfl, h1, c1.c.cl, c1.c.n5, rfl, _, rfl, y, C', ey, _, _, rfl, g1, c2.c.cl, c2.c.n5, rfl, 2, by decide, .inr ⟨b, b', tbK os ls, tbK os ls', rfl, rfl, h8, g8, by simp [tbK], fun q hq => ?_⟩, k⟩
      obtain ⟨i, hi, rfl⟩ := List.mem_map.mp hq
      rw [List.mem_range] at hi
      have z := val_at (n := os.length) (k := fun i => Sum.inr (os.getD i o0).1) (v := fun i => V.ref (ls'.getD i 0)) (fun i j hi hj e => sign_ne go.nd hi hj e) hi
      have i1 : i < ls.length := by omega
      have i2 : i < ls'.length := by omega
      have l1 : ls[i]? = some (ls.getD i 0) := by rw [List.getD_eq_getElem?_getD, List.getElem?_eq_getElem i1]; rfl
      have l2 : ls'[i]? = some (ls'.getD i 0) := by rw [List.getD_eq_getElem?_getD, List.getElem?_eq_getElem i2]; rfl
      refine ⟨_, z, .inr (.inr (.inl ⟨_, _, _, _, rfl, rfl, SqL.of (h10 i _ l1), SqL.of (g10 i _ l2), ?_⟩))⟩
      generalize (os.getD i o0).2.2 = zs
      induction zs with
      | nil => exact .nil
      | cons s r ih => exact .cons (.inl ⟨rfl, rfl⟩) ih
    · exact if_true_of (by rw [ke]; rfl) k
    · exact if_false_of (by rw [ke]; rfl) ⟨_, rfl, x, C, dx, _, _, rfl, h1, c1.c.cl, c1.c.n2, rfl, _, rfl, y, C', ey, _, _, rfl, g1, c2.c.cl, c2.c.n2, rfl, nmD xs, nmD ys, dp_nm h5, dp_nm g5, sh1.n, sh2.n, _, rfl, if_true_of (by rw [kn]; rfl) k⟩
end
section
variable {P : Program} {w : World} {K : PySem.W.Frag} {mg : Str → Option Value} {base : Heap} {CX : CXT} {k : Nat} {f : Addr} {fd : FuncData} {ps : List Str} {C CA : Addr}
/-- an algebra and one like it -/
def PEq (K : PySem.W.Frag) (CA C : Addr) (ds : List Da) (d : Da) : Prop := ∃ (xs ys : List Str) (os ps : List Opn) (b : Bool), AlgK K C CA ∧ GoodO xs os ∧ ShA xs os ∧ ShA ys ps ∧ EqOut xs ys os ps (fun c => c = b) ∧ ds = [alDa C xs os, alDa C ys ps] ∧ d = .bl b
theorem eq_p (F : FnOk P w K mg base CX k f fd ps (spEqA K CA)) : FnOk P w K mg base CX k f fd ps (spP (PEq K CA C)) := F.imp fun vs H Q E h => by
  obtain ⟨X, ds, d, al, r, ⟨xs, ys, os, ps, b, ck, go, s1, s2, eo, rfl, rfl⟩, q⟩ := h
  cases r with
  | cons ra r =>
    cases r with
    | cons rb r =>
      cases r
      obtain ⟨x, rfl, ax⟩ := rp_alg ra
      obtain ⟨y, rfl, ay⟩ := rp_alg rb
      have fin : ∀ c, c = b → Q (.bl c) H := fun c e => e ▸ q _ H (Same.refl H) (.bl _)
      refine ⟨x, y, C, C, xs, ys, os, ps, rfl, ck, ck, ax, ay, go, s1, s2, ?_⟩
      rcases eo with ⟨e1, e2, e⟩ | ⟨e1, e⟩ | ⟨e1, e2, e⟩
      · exact .inl ⟨e1, e2, fin _ e⟩
      · exact .inr (.inl ⟨e1, fin _ e⟩)
      · exact .inr (.inr ⟨e1, e2, fin _ e⟩)
end
end K43


set_option Elab.async false
set_option linter.all false
set_option maxRecDepth 100000
set_option maxHeartbeats 4000000
/-! dict(zip(xs, ys)), whatever is walked -/
namespace Zp
open PySem PySem.Spec PyProof.Rows L2
section
variable {prog : Program} {w : World} {A : Around} {E : Value → Shared → Prop} {s : Shared} {z TI TO T i1 i2 : Addr} {fp1 fp2 : List Addr} {n1 n2 i : Nat} {P1 P2 : Nat → Value → Prop} {St1 St2 : Nat → Heap → Prop} {f : Bool} {oT : Obj}
/-- a turn of a zip whose pair is still out -/
theorem held_item {Q : Value → Shared → Prop} (S : ZipSep2 z TI TO i1 i2 fp1 fp2) (D1 : Draws prog w A i1 fp1 n1 P1 St1) (D2 : Draws prog w A i2 fp2 n2 P2 St2) (hz : IsZipHeld s.heap z TI TO T f) (hT : s.heap.get? T = some oT) (hTI : IsTupOf2 s.heap TI (.ref i1) (.ref i2)) (c1 : St1 i s.heap) (c2 : St2 i s.heap) (l1 : i < n1) (l2 : i < n2)
    (hQ : ∀ x1 x2 h' tk, P1 i x1 → P2 i x2 → IsZipHeld h' z TI TO T true → St1 (i + 1) h' → St2 (i + 1) h' → IsTupOf2 h' s.heap.objs.size x1 x2 → (∀ c o, c ≠ z → c ≠ i1 → c ≠ i2 → s.heap.get? c = some o → h'.get? c = some o) → Q (.ref s.heap.objs.size) { s with heap := h', toks := tk }) :
    wpAny (model prog w) A (Builtin.«zip.__next__» ⟨[.ref z], []⟩) (fun fin s' => ∃ v, fin = .done (.ret v) ∧ Q v s') E s := by
  obtain ⟨hp, gn, dr, tk0, os⟩ := s
  (show wpAny _ _ (field (.ref z) 2 >>= _) _ _ _); (refine wpAny_bind (wpAny_field hz rfl (x := .bool false) rfl ?_)); (show wpAny _ _ (field (.ref z) 3 >>= _) _ _ _); (refine wpAny_bind (wpAny_field hz rfl (x := .ref TI) rfl ?_)); (refine wpAny_bind (wpAny_seqItems hTI rfl ?_))
  (show wpAny _ _ (Builtin.SmallTypes.ownedTupleIsFree (.ref z) >>= _) _ _ _); (refine wpAny_bind (wpAny_tupleHeld_zip hz hT fun h1 hz1 hs1 => ?_)); (simp only [Bool.false_eq_true, if_false]); (refine wpAny_bind ?_); (rw [← Array.forIn_toList]); (simp only [List.forIn_cons, List.forIn_nil])
  (refine wpAny_bind (wpAny_bind (wpAny_holding ?_))); (show wpAny _ _ (Builtin.SmallTypes.nextOf (.ref i1) >>= _) _ _ _)
  refine wpAny_bind (D1.item i ⟨h1, gn, dr, tk0, os⟩ _ _ l1 (D1.over c1 hs1 S.zf1) fun x1 h2 tk1 p1 c1' hs2 => wpAny_pure (wpAny_pure ?_))
  (refine wpAny_bind (wpAny_bind (wpAny_holding ?_))); (show wpAny _ _ (Builtin.SmallTypes.nextOf (.ref i2) >>= _) _ _ _)
  refine wpAny_bind (D2.item i ⟨h2, gn, dr, tk1, os⟩ _ _ l2 (D2.over (D2.over c2 hs1 S.zf2) hs2 S.sep1_2) fun x2 h3 tk2 p2 c2' hs3 => wpAny_pure (wpAny_pure (wpAny_pure ?_)))
  (show wpAny _ _ (newTuple [x1, x2] >>= _) _ _ _); (refine wpAny_bind (wpAny_newTuple (wpAny_pure ⟨_, rfl, ?_⟩)))
  replace hs1 : Heap.SameBut z hp h1 := hs1
  replace hs2 : Heap.SameBut i1 h1 h2 := hs2
  replace hs3 : Heap.SameBut i2 h2 h3 := hs3
  have sz : h3.objs.size = hp.objs.size := hs3.1.trans (hs2.1.trans hs1.1)
  have all : ∀ c o, c ≠ z → c ≠ i1 → c ≠ i2 → hp.get? c = some o → (h3.push { cls := .type "tuple", data := .seq #[x1, x2] }).get? c = some o := fun c o a b d e => Heap.get?_push_of_some _ (hs3.extBut c o d (hs2.extBut c o b (hs1.extBut c o a e)))
  have keep : ∀ c o, h3.get? c = some o → (h3.push { cls := .type "tuple", data := .seq #[x1, x2] }).get? c = some o := fun c o e => Heap.get?_push_of_some _ e
  have zz : IsZipHeld h3 z TI TO T true := hs3.extBut _ _ S.zi2 (hs2.extBut _ _ S.zi1 hz1)
  have tt : IsTupOf2 (h3.push { cls := .type "tuple", data := .seq #[x1, x2] }) h3.objs.size x1 x2 := Heap.get?_push_size _ rfl
  show Q (.ref h3.objs.size) _
  rw [sz] at tt ⊢
  exact hQ x1 x2 _ tk2 p1 p2 (keep _ _ zz) (D1.frame _ _ _ (D1.over c1' hs3 S.sep2_1) fun b _ o e => keep b o e) (D2.frame _ _ _ c2' fun b _ o e => keep b o e) tt all
/-- its end -/
theorem held_end {Q : Fin → Shared → Prop} (S : ZipSep2 z TI TO i1 i2 fp1 fp2) (D1 : Draws prog w A i1 fp1 n1 P1 St1) (D2 : Draws prog w A i2 fp2 n2 P2 St2) (hz : IsZipHeld s.heap z TI TO T f) (hT : s.heap.get? T = some oT) (hTI : IsTupOf2 s.heap TI (.ref i1) (.ref i2)) (c1 : St1 i s.heap) (c2 : St2 i s.heap) (l1 : i ≤ n1) (l2 : i ≤ n2) (en : i = n1 ∨ i = n2)
    (hE : ∀ h' tk e, (∀ c o, c ≠ z → c ≠ i1 → c ≠ i2 → s.heap.get? c = some o → h'.get? c = some o) → (∃ o, h'.get? e = some o ∧ o.cls = .type "StopIteration") → E (.ref e) { s with heap := h', toks := tk }) :
    wpAny (model prog w) A (Builtin.«zip.__next__» ⟨[.ref z], []⟩) Q E s := by
  obtain ⟨hp, gn, dr, tk0, os⟩ := s
  (show wpAny _ _ (field (.ref z) 2 >>= _) _ _ _); (refine wpAny_bind (wpAny_field hz rfl (x := .bool false) rfl ?_)); (show wpAny _ _ (field (.ref z) 3 >>= _) _ _ _); (refine wpAny_bind (wpAny_field hz rfl (x := .ref TI) rfl ?_)); (refine wpAny_bind (wpAny_seqItems hTI rfl ?_))
  (show wpAny _ _ (Builtin.SmallTypes.ownedTupleIsFree (.ref z) >>= _) _ _ _); (refine wpAny_bind (wpAny_tupleHeld_zip hz hT fun h1 hz1 hs1 => ?_)); (simp only [Bool.false_eq_true, if_false]); (refine wpAny_bind ?_); (rw [← Array.forIn_toList]); (simp only [List.forIn_cons, List.forIn_nil])
  (refine wpAny_bind (wpAny_bind (wpAny_holding ?_))); (show wpAny _ _ (Builtin.SmallTypes.nextOf (.ref i1) >>= _) _ _ _)
  replace hs1 : Heap.SameBut z hp h1 := hs1
  by_cases q1 : i = n1
  · have c1' := D1.over c1 hs1 S.zf1
    rw [q1] at c1'
    exact wpAny_bind (D1.done ⟨h1, gn, dr, tk0, os⟩ _ _ c1' fun h2 e k ho => hE h2 tk0 e (fun c o a b _ q => k c o b (hs1.extBut c o a q)) ho)
  · have q2 : i = n2 := en.resolve_left q1
    refine wpAny_bind (D1.item i ⟨h1, gn, dr, tk0, os⟩ _ _ (Nat.lt_of_le_of_ne l1 q1) (D1.over c1 hs1 S.zf1) fun x1 h2 tk1 p1 c1' hs2 => wpAny_pure (wpAny_pure ?_))
    (refine wpAny_bind (wpAny_bind (wpAny_holding ?_))); (show wpAny _ _ (Builtin.SmallTypes.nextOf (.ref i2) >>= _) _ _ _)
    have c2' := D2.over (D2.over c2 hs1 S.zf2) hs2 S.sep1_2
    rw [q2] at c2'
    exact wpAny_bind (D2.done ⟨h2, gn, dr, tk1, os⟩ _ _ c2' fun h3 e k ho => hE h3 tk1 e (fun c o a b d q => k c o d (hs2.extBut c o b (hs1.extBut c o a q))) ho)
theorem held_nx {Q : Option Value → Shared → Prop} (S : ZipSep2 z TI TO i1 i2 fp1 fp2) (D1 : Draws prog w A.in1 i1 fp1 n1 P1 St1) (D2 : Draws prog w A.in1 i2 fp2 n2 P2 St2) (hz : IsZipHeld s.heap z TI TO T f) (hT : s.heap.get? T = some oT) (hTI : IsTupOf2 s.heap TI (.ref i1) (.ref i2)) (c1 : St1 i s.heap) (c2 : St2 i s.heap) (l1 : i < n1) (l2 : i < n2)
    (hQ : ∀ x1 x2 h' tk, P1 i x1 → P2 i x2 → IsZipHeld h' z TI TO T true → St1 (i + 1) h' → St2 (i + 1) h' → IsTupOf2 h' s.heap.objs.size x1 x2 → (∀ c o, c ≠ z → c ≠ i1 → c ≠ i2 → s.heap.get? c = some o → h'.get? c = some o) → Q (some (.ref s.heap.objs.size)) { s with heap := h', toks := tk }) : wpAny (model prog w) A (pyNext (.ref z)) Q E s := by
  have ty : s.TypeIs (.ref z) "zip" := ⟨_, hz, rfl⟩
  unfold pyNext
  exact wpAny_bind (wpAny_attempt (wpAny_callSpecial?_slot (name := Str.ofString "__next__") ty F.slot_zip_next (wpAny_call_entry F.slot_zip_next ty F.entry_zip_next (held_item S D1 D2 hz hT hTI c1 c2 l1 l2 fun x1 x2 h' tk a b c d e g k => wpAny_pure (hQ x1 x2 h' tk a b c d e g k)) (F.args_zip_next_1 _))))
theorem held_nxE {Q : Option Value → Shared → Prop} (S : ZipSep2 z TI TO i1 i2 fp1 fp2) (D1 : Draws prog w A.in1 i1 fp1 n1 P1 St1) (D2 : Draws prog w A.in1 i2 fp2 n2 P2 St2) (hz : IsZipHeld s.heap z TI TO T f) (hT : s.heap.get? T = some oT) (hTI : IsTupOf2 s.heap TI (.ref i1) (.ref i2)) (c1 : St1 i s.heap) (c2 : St2 i s.heap) (l1 : i ≤ n1) (l2 : i ≤ n2) (en : i = n1 ∨ i = n2)
    (hQ : ∀ h' tk, (∀ c o, c ≠ z → c ≠ i1 → c ≠ i2 → s.heap.get? c = some o → h'.get? c = some o) → Q none { s with heap := h', toks := tk }) : wpAny (model prog w) A (pyNext (.ref z)) Q E s := by
  have ty : s.TypeIs (.ref z) "zip" := ⟨_, hz, rfl⟩
  unfold pyNext
  exact wpAny_bind (wpAny_attempt (wpAny_callSpecial?_slot (name := Str.ofString "__next__") ty F.slot_zip_next (wpAny_call_entry F.slot_zip_next ty F.entry_zip_next (held_end S D1 D2 hz hT hTI c1 c2 l1 l2 en fun h' tk e k ⟨o, ho, hc⟩ => wpAny_bind (wpAny_isInstance (T := "StopIteration") (b := true) ⟨o, ho, hc⟩ isSubtype_stop (wpAny_pure (hQ h' tk k)))) (F.args_zip_next_1 _))))
end
section
variable {prog : Program} {w : World} {z TI TO i1 i2 : Addr} {fp1 fp2 : List Addr} {n1 n2 : Nat} {P1 P2 : Nat → Value → Prop} {St1 St2 : Nat → Heap → Prop}
/-- what zip walks, whoever asks -/
structure Dw (prog : Program) (w : World) (it : Addr) (fp : List Addr) (n : Nat) (P : Nat → Value → Prop) (St : Nat → Heap → Prop) : Prop where
  d : ∀ A : Around, A.handled = none → Draws prog w A it fp n P St
  f : ∀ i h h', St i h → (∀ b ∈ fp, ∀ o, h.get? b = some o → h'.get? b = some o) → St i h'
  e : ∀ i h, St i h → ∀ b ∈ fp, ∃ o, h.get? b = some o
theorem Dw.list (it l : Addr) (hne : l ≠ it) (items : Array Value) : Dw prog w it [it, l] items.size (fun i v => items[i]? = some v) (fun i h => h.IsListIter it l i ∧ h.IsList l items) where
  d := fun A hA => Draws.list hA it l hne items
  f := fun i h h' c k => ⟨c.1.at fun o e => k it (by simp) o e, c.2.at fun o e => k l (by simp) o e⟩
  e := fun i h c b hb => by
    obtain ⟨⟨o1, e1, _⟩, ⟨o2, e2, _⟩⟩ := c
    have hb : b = it ∨ b = l := by simpa using hb
    rcases hb with rfl | rfl
    · exact ⟨_, e1⟩
    · exact ⟨_, e2⟩
theorem Dw.tuple (it l : Addr) (hne : l ≠ it) (items : Array Value) : Dw prog w it [it, l] items.size (fun i v => items[i]? = some v) (fun i h => h.IsTupleIter it l i ∧ h.IsTuple l items) where
  d := fun A hA => Draws.tuple hA it l hne items
  f := fun i h h' c k => ⟨c.1.at fun o e => k it (by simp) o e, c.2.at fun o e => k l (by simp) o e⟩
  e := fun i h c b hb => by
    obtain ⟨⟨o1, e1, _⟩, ⟨o2, e2, _⟩⟩ := c
    have hb : b = it ∨ b = l := by simpa using hb
    rcases hb with rfl | rfl
    · exact ⟨_, e1⟩
    · exact ⟨_, e2⟩
/-- such a zip as the argument of dict -/
theorem arg (S : ZipSep2 z TI TO i1 i2 fp1 fp2) (D1 : Dw prog w i1 fp1 n1 P1 St1) (D2 : Dw prog w i2 fp2 n2 P2 St2) : PairArg prog w "zip" z (z :: TI :: TO :: (fp1 ++ fp2)) [z, TO, i1, i2] (min n1 n2) (fun i k v => P1 i k ∧ P2 i v) (fun h => IsZip h z TI TO .none ∧ IsTupOf2 h TI (.ref i1) (.ref i2) ∧ (∃ a b, IsTupOf2 h TO a b) ∧ St1 0 h ∧ St2 0 h) where
  type := fun s ok => ⟨_, ok.1, rfl⟩
  notDict := by decide
  keep := fun h h' ⟨a, b, ⟨x, y, c⟩, d, e⟩ k => ⟨k _ _ a, k _ _ b, ⟨x, y, k _ _ c⟩, D1.f _ _ _ d fun b _ => k b, D2.f _ _ _ e fun b _ => k b⟩
  there := fun h ⟨a, b, ⟨x, y, c⟩, d, e⟩ q hq => by
    rcases List.mem_cons.mp hq with rfl | hq
    · exact ⟨_, a⟩
    rcases List.mem_cons.mp hq with rfl | hq
    · exact ⟨_, b⟩
    rcases List.mem_cons.mp hq with rfl | hq
    · exact ⟨_, c⟩
    exact (List.mem_append.mp hq).elim (D1.e _ _ d q) (D2.e _ _ e q)
  sub := fun b hb => by
    have hb : b = z ∨ b = TO ∨ b = i1 ∨ b = i2 := by simpa using hb
    have m1 := S.mem1
    have m2 := S.mem2
    rcases hb with rfl | rfl | rfl | rfl <;> simp [m1, m2]
  noKeys := fun A s Q E hA ok h => getAttrOr_miss_zip ok.1 rfl rfl rfl zip_no_keys (by decide +kernel) hA h
  iter := fun A s d Q E hA ⟨hz, hTI, ⟨a, b, hTO⟩, c1, c2⟩ hd hdf h => by
    have nz : d ≠ z := fun e => hdf (by simp [e])
    have nTI : d ≠ TI := fun e => hdf (by simp [e])
    have nTO : d ≠ TO := fun e => hdf (by simp [e])
    have nf1 : d ∉ fp1 := fun e => hdf (by simp [e])
    have nf2 : d ∉ fp2 := fun e => hdf (by simp [e])
    have ni1 : d ≠ i1 := fun e => nf1 (e ▸ S.mem1)
    have ni2 : d ≠ i2 := fun e => nf2 (e ▸ S.mem2)
    refine wpAny_pyIter_zip hz (h z [z, TO, i1, i2] (fun i h => IsTupOf2 h TI (.ref i1) (.ref i2) ∧ St1 i h ∧ St2 i h ∧ ((IsZip h z TI TO .none ∧ ∃ a b, IsTupOf2 h TO a b) ∨ ∃ T f oT, IsZipHeld h z TI TO T f ∧ h.get? T = some oT ∧ T ≠ z ∧ T ≠ i1 ∧ T ≠ i2 ∧ T ≠ d)) s.heap s.toks ⟨?off, ?frame, ?item, ?done⟩ ⟨hTI, c1, c2, .inl ⟨hz, a, b, hTO⟩⟩ (fun _ _ e => e) fun b hb => .inl hb)
    case off => simp [nz, nTO, ni1, ni2]
    case frame =>
      rintro i g g' ⟨t, d1, d2, zz⟩ k
      refine ⟨k _ _ nTI.symm t, D1.f _ _ _ d1 fun b hb o => k b o fun e => nf1 (e ▸ hb), D2.f _ _ _ d2 fun b hb o => k b o fun e => nf2 (e ▸ hb), ?_⟩
      rcases zz with ⟨zz, a, b, u⟩ | ⟨T, f, oT, zz, u, r1, r2, r3, r4⟩
      · exact .inl ⟨k _ _ nz.symm zz, a, b, k _ _ nTO.symm u⟩
      · exact .inr ⟨T, f, oT, k _ _ nz.symm zz, k _ _ r4 u, r1, r2, r3, r4⟩
    case item =>
      rintro i s1 Q1 E1 hi ⟨t, d1, d2, zz⟩ hds hQ
      have lt : ∀ {c o}, s1.heap.get? c = some o → s1.heap.objs.size ≠ c := fun e => Nat.ne_of_gt (Heap.lt_size e)
      obtain ⟨_, e1⟩ := D1.e _ _ d1 _ S.mem1
      obtain ⟨_, e2⟩ := D2.e _ _ d2 _ S.mem2
      have k1 : i < n1 := by omega
      have k2 : i < n2 := by omega
      rcases zz with ⟨zz, a, b, u⟩ | ⟨T, f, oT, zz, u, r1, r2, r3, r4⟩
      · refine wpAny_pyNext_zipD2_item S (D1.d _ hA) (D2.d _ hA) zz t u d1 d2 k1 k2 fun x1 x2 h' tk p1 p2 b1 b2 b3 b4 b5 b6 k => hQ _ x1 x2 h' tk ⟨p1, p2⟩ (.inl ⟨_, b5, rfl, _, rfl⟩) ⟨k _ _ S.TIz S.TITO S.TIi1 S.TIi2 t, b3, b4, .inr ⟨s1.heap.objs.size, false, _, b1, b5, lt zz, lt e1, lt e2, Nat.ne_of_gt hds⟩⟩ fun c o hc e => ?_
        have hc : ¬ (c = z ∨ c = TO ∨ c = i1 ∨ c = i2) := by simpa using hc
        exact k c o (fun q => hc (.inl q)) (fun q => hc (.inr (.inl q))) (fun q => hc (.inr (.inr (.inl q)))) (fun q => hc (.inr (.inr (.inr q)))) e
      · refine held_nx S (D1.d _ hA) (D2.d _ hA) zz u t d1 d2 k1 k2 fun x1 x2 h' tk p1 p2 b1 b3 b4 b5 k => hQ _ x1 x2 h' tk ⟨p1, p2⟩ (.inl ⟨_, b5, rfl, _, rfl⟩) ⟨k _ _ S.TIz S.TIi1 S.TIi2 t, b3, b4, .inr ⟨T, true, oT, b1, k _ _ r1 r2 r3 u, r1, r2, r3, r4⟩⟩ fun c o hc e => ?_
        have hc : ¬ (c = z ∨ c = TO ∨ c = i1 ∨ c = i2) := by simpa using hc
        exact k c o (fun q => hc (.inl q)) (fun q => hc (.inr (.inr (.inl q)))) (fun q => hc (.inr (.inr (.inr q)))) e
    case done =>
      rintro s1 Q1 E1 ⟨t, d1, d2, zz⟩ hQ
      rcases zz with ⟨zz, a, b, u⟩ | ⟨T, f, oT, zz, u, r1, r2, r3, r4⟩
      · refine wpAny_pyNext_zipD2_end S (D1.d _ hA) (D2.d _ hA) zz t u d1 d2 (Nat.min_le_left _ _) (Nat.min_le_right _ _) (by omega) fun h' tk k => hQ h' tk fun c o hc e => ?_
        have hc : ¬ (c = z ∨ c = TO ∨ c = i1 ∨ c = i2) := by simpa using hc
        exact k c o (fun q => hc (.inl q)) (fun q => hc (.inr (.inl q))) (fun q => hc (.inr (.inr (.inl q)))) (fun q => hc (.inr (.inr (.inr q)))) e
      · refine held_nxE S (D1.d _ hA) (D2.d _ hA) zz u t d1 d2 (Nat.min_le_left _ _) (Nat.min_le_right _ _) (by omega) fun h' tk k => hQ h' tk fun c o hc e => ?_
        have hc : ¬ (c = z ∨ c = TO ∨ c = i1 ∨ c = i2) := by simpa using hc
        exact k c o (fun q => hc (.inl q)) (fun q => hc (.inr (.inr (.inl q)))) (fun q => hc (.inr (.inr (.inr q)))) e
end
end Zp


set_option Elab.async false
set_option linter.all false
set_option maxRecDepth 100000
set_option maxHeartbeats 4000000
/-! dict(zip(xs, ys)) as an expression -/
namespace Zp
open PySem PySem.Spec PyProof.Rows L2
/-- dict(zip(xs, ys)): xs a list of keys, ys a list or a tuple -/
def tZipD (K : PySem.W.Frag) (t : TA) : TE := fun σ H Q => t σ H fun vs H1 => ∃ (a b : Addr) (ks : List Key) (ys : List V), vs = [.ref a, .ref b] ∧ SqL K H1 a (ks.map kV) ∧ (SqL K H1 b ys ∨ SqT K H1 b ys) ∧ ∀ p, H1 p = none → Q (.ref p) (upd H1 p (.dK (mergeK [] (ks.zip ys))))
theorem key_rel {k : Key} {u : Value} (r : RelV (kV k) u) : keyIs k u = true := by
  cases k with
  | inl i => obtain ⟨t, rfl⟩ := r; exact keyIs_int i t
  | inr x => obtain ⟨t, rfl⟩ := r; exact keyIs_str x t
theorem kv_zip : ∀ {ks : List Key} {ys : List V} {us vs : List Value}, Vals (ks.map kV) us → Vals ys vs → KV (ks.zip ys) (ks.zip vs)
  | [], _, _, _, _, _ => .nil
  | _ :: _, [], _, _, _, .nil => .nil
  | k :: ks, y :: ys, _, _, .cons a r, .cons b q => .cons ⟨rfl, b⟩ (kv_zip r q)
theorem zip_at {ks : List Key} {us vs : List Value} (r : Vals (ks.map kV) us) {i : Nat} {k v : Value} (h1 : us[i]? = some k) (h2 : vs[i]? = some v) : ∃ key, (ks.zip vs)[i]? = some (key, v) ∧ keyIs key k = true := by
  have hl : i < us.length := (List.getElem?_eq_some_iff.mp h1).1
  have ll := r.length
  rw [List.length_map] at ll
  have hk : i < ks.length := by omega
  have hr := List.getElem?_eq_getElem hk
  obtain ⟨u, hu, ru⟩ := r.get (show (ks.map kV)[i]? = some (kV ks[i]) by rw [List.getElem?_map, hr]; rfl)
  rw [h1] at hu
  cases hu
  exact ⟨ks[i], by rw [List.getElem?_zip_eq_some]; exact ⟨hr, h2⟩, key_rel ru⟩
theorem far (c N : Nat) (h : c < N) : ¬ (c = N + 4 ∨ c = N + 3 ∨ c = N ∨ c = N + 1) := by omega
theorem pe_dictZip {X : Cx} {e e2 : Expr} {ta : TA} {p p2 pos pos2 : Pos} (K : PySem.W.Frag) (hg : Gl X "dict") (hm : X.mg "dict" = none) (hg2 : Gl X "zip") (hm2 : X.mg "zip" = none) (ha : PA X [e, e2] ta) (hc : X.calm = true := by rfl) (hK : X.K = K := by rfl)
    (hs : starEach [e, e2] X.env = (false, eval e X.env) :: starEach [e2] X.env := by rfl) (hpl : (backTo pos2 (starEach [e2] X.env)).any (·.1) = false := by rfl)
    (na : starEach [.Call (.Name "zip" p2) [e, e2] [] pos2] X.env = (false, eval (.Call (.Name "zip" p2) [e, e2] [] pos2) X.env) :: starEach [] X.env := by rfl) :
    PE X (.Call (.Name "dict" p) [.Call (.Name "zip" p2) [e, e2] [] pos2] [] pos) (tZipD K ta) := by
  subst hK
  refine ⟨fun pins s σ H Q I h => ?_⟩
  refine Call_ (ld_blt I hg hm boot_dict (callWith_type1 (args_cons (Call_ (ld_blt I hg2 hm2 boot_zip (callWith_type1 (thn (ha.run pos2 pins s σ H _ I h) fun us s1 ⟨vs, H1, I1, r1, q1⟩ => ?_) hs hpl))) na) na))
  obtain ⟨a, b, ks, ys, rfl, qx, qy, q⟩ := q1
  cases r1 with
  | cons ra r1 =>
    cases r1 with
    | cons rb r1 =>
      cases r1
      cases ra
      cases rb
      obtain ⟨us1, rv1, p1, _⟩ := I1.list qx
      have hd := I1.ok.hd hc
      have fin : ∀ {o2 : Obj} {us2 : List Value} {Hy : Heap → Prop} {St2 : Nat → Heap → Prop}, Vals ys us2 → Begins (.ref b) o2 Hy → Hy s1.heap → b < s1.heap.objs.size → Dw X.prog X.w (s1.heap.objs.size + 1) [s1.heap.objs.size + 1, b] us2.toArray.size (fun i v => us2.toArray[i]? = some v) St2 → (∀ h', h'.get? (s1.heap.objs.size + 1) = some o2 → (∀ c o, s1.heap.get? c = some o → h'.get? c = some o) → St2 0 h') →
          wpAny (model X.prog X.w) X.A (call (.type "zip") [.ref a, .ref b]) (fun v s₁ => wpAny (model X.prog X.w) X.A (spliced (backTo pos (starEach [] X.env))) (fun vs s₂ => wpAny (model X.prog X.w) X.A (call (.type "dict") (v :: vs)) (EP X pins σ Q) X.xe s₂) X.xe s₁) X.xe s1 := by
        intro o2 us2 Hy St2 rv2 B2 hy hb D2 st2
        refine zip_begins2 (begins_list a us1.toArray) B2 p1.isList hy fun h' hz hTI hTO g1 g2 sz hk => args_nil ?_
        have S := zip_sep2 (N := s1.heap.objs.size) (fp1 := [a]) (fp2 := [b]) (fun c hc => by rw [List.mem_singleton.mp hc]; exact p1.lt) (fun c hc => by rw [List.mem_singleton.mp hc]; exact hb)
        have D1 := Dw.list (prog := X.prog) (w := X.w) s1.heap.objs.size a (Nat.ne_of_lt p1.lt) us1.toArray
        have pl : h'.IsList a us1.toArray := p1.isList.at fun o e => hk _ o e
        have rel := kv_zip rv1 rv2
        have lz : (ks.zip us2).length = min us1.toArray.size us2.toArray.size := by
          have := rv1.length
          rw [List.length_map] at this
          simp [this]
        refine call_dict_pairs (knd := mixKind X.prog X.w) (kvs := ks.zip us2) (arg S D1 D2) hd ⟨hz, hTI, ⟨_, _, hTO⟩, ⟨⟨_, g1, rfl, rfl⟩, pl⟩, st2 h' g2 hk⟩ ⟨lz, fun i k v hr => ?_⟩ ?_ fun h2 tk d2 k2 => ?_
        · obtain ⟨e1, e2⟩ := hr
          exact zip_at rv1 (by simpa using e1) (by simpa using e2)
        · have := p1.isList
          have z1 := (I1.list qx).choose_spec.2.2
          have l1 := rv1.length
          have : us1.toArray.size ≤ sizeLine := by simp [← l1]; simpa using z1
          omega
        · have kk : ∀ c o, s1.heap.get? c = some o → h2.get? c = some o := fun c o e => by
            have lt := Heap.lt_size e
            refine k2 c o (fun m => ?_) (hk c o e)
            have m : c = s1.heap.objs.size + 4 ∨ c = s1.heap.objs.size + 3 ∨ c = s1.heap.objs.size ∨ c = s1.heap.objs.size + 1 := by simpa using m
            exact far c _ lt m
          have hz2 : (mergeK [] (ks.zip ys)).length ≤ sizeLine := by
            have z1 := (I1.list qx).choose_spec.2.2
            have h1 := length_mergeK (ks.zip ys) []
            rw [List.length_zip, List.length_nil] at h1
            rw [List.length_map] at z1
            omega
          have lo : s1.heap.objs.size ≤ h'.objs.size := by rw [sz]; exact Nat.le_add_right _ _
          have hsys : (h'.objs.size == sysModules) = false := beq_eq_false_iff_ne.mpr (Nat.ne_of_gt (Nat.lt_of_lt_of_le I1.big lo))
          exact ⟨.ref h'.objs.size, _, I1.laid (t' := tk) (o := .dK (mergeK [] (ks.zip ys))) kk lo (dk_new hz2 hsys (rel.merge .nil) d2), rfl, q _ (I1.hok.fresh lo)⟩
      rcases qy with qy | qy
      · obtain ⟨us2, rv2, p2, _⟩ := I1.list qy
        exact fin rv2 (begins_list b us2.toArray) p2.isList p2.lt (Dw.list _ b (Nat.ne_of_lt (Nat.lt_succ_of_lt p2.lt)) us2.toArray) fun h' g2 hk => ⟨⟨_, g2, rfl, rfl⟩, p2.isList.at fun o e => hk _ o e⟩
      · obtain ⟨us2, rv2, p2, _⟩ := I1.tuple qy
        have p2' : s1.heap.IsTuple b us2.toArray := p2
        have hlt : b < s1.heap.objs.size := by obtain ⟨o, e, _⟩ := id p2; exact Heap.lt_size e
        exact fin rv2 (begins_tuple b us2.toArray) p2' hlt (Dw.tuple _ b (Nat.ne_of_lt (Nat.lt_succ_of_lt hlt)) us2.toArray) fun h' g2 hk => ⟨⟨_, g2, rfl, rfl⟩, p2'.at fun o e => hk _ o e⟩
end Zp


set_option Elab.async false
set_option linter.all false
set_option maxRecDepth 100000
set_option maxHeartbeats 4000000
/-! step ranges, dict(zip(..)), new objects handed back, any two compared -/
namespace Dl
open PySem PySem.Spec PyProof.Rows L2
/-! what a def hands back, new where it is a list or a dict -/
def RpN (X : Addr → Prop) (H H' : Hp) (v : V) (d : Da) : Prop := match d with
  | .lst ds => ∃ l, v = .ref l ∧ H l = none ∧ ObD X H' l (.lst ds)
  | .dct ds => ∃ l, v = .ref l ∧ H l = none ∧ ObD X H' l (.dct ds)
  | d => Rp X H' v d
theorem RpN.rp {X : Addr → Prop} {H H' : Hp} {v : V} {d : Da} (al : ∀ a, X a → H a ≠ none) (h : RpN X H H' v d) : Rp X H' v d := by
  cases d with
  | lst ds => obtain ⟨l, rfl, n, o⟩ := h; exact o.rp fun z => al l z n
  | dct ds => obtain ⟨l, rfl, n, o⟩ := h; exact o.rp fun z => al l z n
  | _ => exact h
theorem RpN.ob {X : Addr → Prop} {H H' : Hp} {l : Addr} {d : Da} (n : H l = none) (o : ObD X H' l d) : RpN X H H' (.ref l) d := by
  cases d with
  | lst ds => exact ⟨l, rfl, n, o⟩
  | dct ds => exact ⟨l, rfl, n, o⟩
  | _ => exact o.elim
def isNew : Da → Bool
  | .lst _ => true
  | .dct _ => true
  | _ => false
theorem RpN.new {X : Addr → Prop} {H H' : Hp} {v : V} {d : Da} (e : isNew d = true) (h : RpN X H H' v d) : ∃ l, v = .ref l ∧ H l = none ∧ ObD X H' l d := by
  cases d with
  | lst ds => exact h
  | dct ds => exact h
  | _ => cases e
theorem RpN.old {X : Addr → Prop} {H H' : Hp} {v : V} {d : Da} (e : isNew d = false) (h : Rp X H' v d) : RpN X H H' v d := by
  cases d with
  | lst ds => cases e
  | dct ds => cases e
  | _ => exact h
/-- a def that returns something new, or a plain value, or raises -/
def spM (P : List Da → Ot → Prop) : Sp := fun vs H Q E => ∃ (X : Addr → Prop) (ds : List Da) (o : Ot), (∀ a, X a → H a ≠ none) ∧ Rps X H vs ds ∧ P ds o ∧ match o with
  | .ret d => ∀ v H', Same H H' → RpN X H H' v d → Q v H'
  | .ex C fs => Exc X H C fs E
def RtM (W : Wd) (R : VK) (d : Da) : Prop := ∀ v H, Kp W.Y W.h0 H → W.J H → RpN W.X0 W.h0 H v d → R v H
theorem rt_M {X : Addr → Prop} {H : Hp} {Q : VK} {d : Da} (q : ∀ v H', Same H H' → RpN X H H' v d → Q v H') : RtM (wdP H X) Q d := fun v H' k _ r => q v H' (fun a o h => k.a a o h fun z => z) r
theorem m_x {P : List Da → Ot → Prop} {vs : List V} {H : Hp} {Q : VK} {E : XK} (h : spX P vs H Q E) : spM P vs H Q E := by
  obtain ⟨X, ds, o, al, r, p, q⟩ := h
  refine ⟨X, ds, o, al, r, p, ?_⟩
  cases o with
  | ret d => exact fun v H' e rn => q v H' e (rn.rp al)
  | ex C fs => exact q
section
variable {W : Wd} {ρ : List En} {K : PySem.W.Frag} {te ta tb td ty : TE} {tt : TT} {Φ : Da → Prop} {t : TA} {D : Ends} {i : Nat} {x y : Da}
theorem wn_retW (h : WW W.vw te (ρ.map vwE) (RtM W D.rt)) : WN W (tRet te D) ρ := fun σ H s =>
  h σ H s.vw _ fun l H1 d f n k1 j1 o => f (.ref l) H1 (s.k0.trans k1) j1 (.ob (s.k0.free n) o)
theorem wn_retO (h : WE W.vw te (ρ.map vwE) fun d => isNew d = false ∧ RtM W D.rt d) : WN W (tRet te D) ρ := fun σ H s =>
  h σ H s.vw _ fun v H1 d ⟨e, f⟩ k1 j1 r1 => f v H1 (s.k0.trans k1) j1 (.old e r1)
theorem wn_retNM (h : RtM W D.rt .non) : WN W (tRetN D) ρ := fun σ H s => h _ H s.k0 s.j .non
/-- a local's own object handed back -/
theorem wn_retL {l : Addr} {e : En} {d : Da} (hi : ρ[i]? = some e) (hm : e.mut = some l) (hd : vwE e = .da d) (h : RtM W D.rt d) : WN W (tRet (tVar i) D) ρ := fun σ H s => by
  obtain ⟨ov, h1, g⟩ := s.get hi
  cases e with
  | un => cases hm
  | da d => cases hm
  | ml l' ds =>
    cases hm
    cases hd
    obtain ⟨rfl, lx, lx0, lh0, vs, hv, rv⟩ := g
    exact ⟨_, h1, h _ H s.k0 s.j ⟨l, rfl, lh0, vs, hv, rv.to (.sub fun a z => z.elim (W.s0 a) fun c => c ▸ lx)⟩⟩
  | md l' ds =>
    cases hm
    cases hd
    obtain ⟨rfl, lx, lx0, lh0, vs, hv, rv⟩ := g
    exact ⟨_, h1, h _ H s.k0 s.j ⟨l, rfl, lh0, vs, hv, rv.to (.sub fun a z => z.elim (W.s0 a) fun c => c ▸ lx)⟩⟩
theorem we_callM {P : List Da → Ot → Prop} {E : XK} (h : WA W t ρ fun ds => ∃ o, P ds o ∧ match o with | .ret d => Φ d | .ex C fs => ∀ H1, Kp W.Y W.h0 H1 → W.J H1 → Exc W.X H1 C fs E) : WE W (tCall (spM P) [] E t) ρ Φ := fun σ H s Q q =>
  h σ H s _ fun vs H1 ds ⟨o, p, f⟩ k1 j1 r1 => by
    rw [List.append_nil]
    refine ⟨W.X, ds, o, fun a z => k1.b a (s.al a z), r1, p, ?_⟩
    cases o with
    | ret d => exact fun v H' e r => q v H' d f (k1.trans (.same e)) (W.jsame e j1) (r.rp fun a z => k1.b a (s.al a z))
    | ex C fs => exact f H1 (s.k0.trans k1) j1
theorem ww_callM {P : List Da → Ot → Prop} {E : XK} (h : WA W t ρ fun ds => ∃ o, P ds o ∧ match o with | .ret d => isNew d = true ∧ Φ d | .ex C fs => ∀ H1, Kp W.Y W.h0 H1 → W.J H1 → Exc W.X H1 C fs E) : WW W (tCall (spM P) [] E t) ρ Φ := fun σ H s Q q =>
  h σ H s _ fun vs H1 ds ⟨o, p, f⟩ k1 j1 r1 => by
    rw [List.append_nil]
    refine ⟨W.X, ds, o, fun a z => k1.b a (s.al a z), r1, p, ?_⟩
    cases o with
    | ret d =>
      intro v H' e r
      obtain ⟨l, rfl, n, ob⟩ := r.new f.1
      exact q l H' d f.2 (k1.free n) (k1.trans (.same e)) (W.jsame e j1) ob
    | ex C fs => exact f H1 (s.k0.trans k1) j1
/-- what is new, with own objects looked at: a list of plain things -/
theorem rps_sca {X X' : Addr → Prop} {H : Hp} : ∀ {vs : List V} {ds : List Da}, Rps X H vs ds → (∀ x ∈ ds, scaD x) → Rps X' H vs ds
  | _, _, .nil, _ => .nil
  | _, _, .cons a r, h => .cons (a.sca (h _ List.mem_cons_self)) (rps_sca r fun x hx => h x (List.mem_cons_of_mem _ hx))
theorem ww_view (h : WW W.vw te (ρ.map vwE) fun d => (∃ ds, d = .lst ds ∧ ∀ x ∈ ds, scaD x) ∧ Φ d) : WW W te ρ Φ := fun σ H s Q q => h σ H s.vw Q fun l H' d ⟨⟨ds, e, sc⟩, f⟩ n k j o => by
  subst e
  obtain ⟨vs, hv, r⟩ := o
  exact q l H' _ f n k j ⟨vs, hv, rps_sca r sc⟩
/-- range(lo, hi, step) -/
theorem wi_rng3 {Φ : List Da → Prop} (h : WA W t ρ fun xs => ∃ (lo hi c : Int) (n : Nat), xs = [.int lo, .int hi, .int c] ∧ RgC lo hi c n ∧ Φ ((List.range n).map fun (i : Nat) => .int (lo + (i : Int) * c))) : WI W (iRng3 t) ρ Φ := fun σ H s R q =>
  h σ H s _ fun v H1 x ⟨lo, hi, c, n, e, ok, f⟩ k1 j1 r1 => by
    subst e
    cases r1 with
    | cons r1 r2 =>
      cases r2 with
      | cons r2 r3 =>
        cases r3 with
        | cons r3 r4 =>
          cases r4
          cases r1
          cases r2
          cases r3
          refine ⟨lo, hi, c, n, rfl, ok, q (Itc lo c n) H1 _ (fun _ => True) (fun i H x H' => i < n ∧ YFn (fun i => .int (lo + (i : Int) * c)) i H x H') f k1 j1 (by rw [List.length_map, List.length_range]; exact walk_rangeC.mono (fun _ _ => trivial) fun i H x H' hi _ y => ⟨hi, y⟩) (fun _ _ => trivial) fun i H2 x H3 k y => ?_⟩
          obtain ⟨hi, rfl, rfl⟩ := y
          refine ⟨Same.refl _, .int (lo + (i : Int) * c), ?_, fun X' _ t _ => .int _⟩
          rw [List.getElem?_map, List.getElem?_range hi]
          rfl
theorem rgC_pos {lo hi c : Int} {n : Nat} (h1 : -(2 ^ 30) ≤ lo) (h2 : lo < 2 ^ 30) (h3 : -(2 ^ 30) ≤ hi) (h4 : hi < 2 ^ 30) (c0 : 0 < c) (c1 : c < 1073741824) (e : Builtin.Range.rangeSize lo hi c = n) (hs : Builtin.Range.small lo hi c = true) : RgC lo hi c n := ⟨by omega, by omega, hs, e⟩
/-- dict(zip(xs, ys)) -/
theorem rpk_zip {X : Addr → Prop} {H : Hp} : ∀ {ks : List Key} {vs : List V} {ds : List Da}, Rps X H vs ds → Rpk X H (ks.zip vs) (ks.zip ds)
  | [], _, _, _ => .nil
  | _ :: _, _, _, .nil => .nil
  | k :: ks, _, _, .cons a r => .cons a (rpk_zip r)
theorem ww_dictZip (h : WA W t ρ fun xs => ∃ (ks : List Key) (z : Da) (ds : List Da), xs = [.lst (ks.map kD), z] ∧ (z = .lst ds ∨ z = .tup ds) ∧ Φ (.dct (mergeD [] (ks.zip ds)))) : WW W (Zp.tZipD K t) ρ Φ := fun σ H s Q q =>
  h σ H s _ fun vs H1 xs ⟨ks, z, ds, e, ez, f⟩ k1 j1 r1 => by
    subst e
    cases r1 with
    | cons r1 r2 =>
      cases r2 with
      | cons r2 r3 =>
        cases r3
        cases r1 with
        | lst a n r =>
          rw [rps_kD r] at a
          obtain ⟨b, us, rfl, hs, rr⟩ := seq_of (K := K) r2 ez
          exact ⟨_, b, ks, us, rfl, SqL.of a, hs, fun p hp => q p _ _ f (k1.free hp) (k1.trans (.new hp)) (W.jsame (same_upd hp) j1) ⟨_, upd_same, (rpk_merge _ _ (rpk_zip rr) .nil).to (to_own hp (.new hp))⟩⟩
/-- x.clear(), x an own dict -/
theorem wn_dclear {l : Addr} {kvs : List (Key × Da)} (hi : ρ[i]? = some (.md l kvs)) (h : WN W D.nx (ρ.set i (.md l []))) : WN W (tDrop (tBM0 K "dict" rDClear (tVar i)) D) ρ := fun σ H s => by
  obtain ⟨ov, h1, rfl, lx, lx0, lh0, vs, hv, rv⟩ := s.get hi
  exact ⟨_, h1, .inr (.inr (.inl ⟨rfl, .inl ⟨_, hv⟩⟩)), l, vs, rfl, rfl, hv, h σ _ (s.turn hi rfl rfl ⟨rfl, lx, lx0, lh0, _, upd_same, .nil⟩)⟩
/-- any two compared -/
def rNeA (K : PySem.W.Frag) : R2 := fun x y H Q => rNeDD K x y H Q ∨ rNeD K x y H Q
theorem op_neA {X : Cx} (K : PySem.W.Frag) (hu : X.A.units + 65 < cLine) (hu64 : X.A.units + 64 < cLine) (hK : X.K = K := by rfl) : OpR X (compareOp .NotEq) (rNeA K) := by
  intro pins s σ H x y v u Q I rx ry h
  rcases h with h | h
  · exact op_ne_dictDK K hu hK pins s σ H x y v u Q I rx ry h
  · exact op_neDK K hu64 hK pins s σ H x y v u Q I rx ry h
theorem w2_neA1 (f : W2 W (rNeDD K) x y Φ) : W2 W (rNeA K) x y Φ := fun v u H al j rx ry Q q => .inl (f v u H al j rx ry Q q)
theorem w2_neA2 (f : W2 W (rNeD K) x y Φ) : W2 W (rNeA K) x y Φ := fun v u H al j rx ry Q q => .inr (f v u H al j rx ry Q q)
end
end Dl


set_option Elab.async false
set_option linter.all false
set_option maxRecDepth 100000
set_option maxHeartbeats 4000000
namespace K43
open PySem PySem.Spec PyProof.Rows L2 Evl NdefX SX StX Dl
/-! ### all choices -/
def tupA {α : Type} (xs : List α) : Nat → List (List α)
  | 0 => [[]]
  | n + 1 => (tupA xs n).flatMap fun r => xs.map fun x => r ++ [x]
theorem tupD_A (xs : List Da) : ∀ n, tupD xs n = tupA xs n
  | 0 => rfl
  | n + 1 => by
    show (tupD xs n).flatMap _ = (tupA xs n).flatMap _
    rw [tupD_A xs n]
theorem tupA_map {α β : Type} (f : α → β) (xs : List α) : ∀ n, tupA (xs.map f) n = (tupA xs n).map (List.map f)
  | 0 => rfl
  | n + 1 => by
    show (tupA (xs.map f) n).flatMap _ = ((tupA xs n).flatMap _).map _
    rw [tupA_map f xs n, List.flatMap_map, List.map_flatMap]
    congr 1
    funext r
    rw [List.map_map, List.map_map]
    refine List.map_congr_left fun x _ => ?_
    show r.map f ++ [f x] = (r ++ [x]).map f
    rw [List.map_append]
    rfl
theorem tupA_mem {α : Type} {xs : List α} : ∀ {n : Nat} {r : List α}, r ∈ tupA xs n ↔ r.length = n ∧ ∀ x ∈ r, x ∈ xs
  | 0, r => by
    constructor
    · intro h
      rw [List.mem_singleton.mp h]
      exact ⟨rfl, fun x h => by cases h⟩
    · intro h
      rw [List.length_eq_zero_iff.mp h.1]
      exact List.mem_singleton.mpr rfl
  | n + 1, r => by
    constructor
    · intro h
      obtain ⟨a, ha, h⟩ := List.mem_flatMap.mp h
      obtain ⟨x, hx, rfl⟩ := List.mem_map.mp h
      obtain ⟨h1, h2⟩ := tupA_mem.mp ha
      refine ⟨by rw [List.length_append, h1]; rfl, fun y hy => ?_⟩
      rcases List.mem_append.mp hy with hy | hy
      · exact h2 y hy
      · rw [List.mem_singleton.mp hy]; exact hx
    · intro h
      have ne : r ≠ [] := fun e => by rw [e] at h; cases h.1
      rw [← List.dropLast_concat_getLast ne]
      refine List.mem_flatMap.mpr ⟨r.dropLast, tupA_mem.mpr ⟨by rw [List.length_dropLast]; omega, fun x hx => h.2 x ((List.dropLast_sublist r).subset hx)⟩, List.mem_map.mpr ⟨_, h.2 _ (List.getLast_mem ne), rfl⟩⟩
theorem tupA_len {α : Type} (xs : List α) (n : Nat) : (tupA xs n).length = xs.length ^ n := by
  have key : ∀ l : List (List α), (l.flatMap fun r => xs.map fun x => r ++ [x]).length = l.length * xs.length := fun l => fm_uni xs (fun r x => r ++ [x]) l
  induction n with
  | zero => rfl
  | succ n ih =>
    show ((tupA xs n).flatMap fun r => xs.map fun x => r ++ [x]).length = _
    rw [key, ih, Nat.pow_succ]
theorem tupA_ne {α : Type} {xs : List α} (h : 1 ≤ xs.length) (n : Nat) : 1 ≤ (tupA xs n).length := by
  rw [tupA_len]
  exact Nat.one_le_pow _ _ h
/-- members, as places -/
theorem mem_places (us : List (List Nat)) : (us.map S).map Da.str = (List.range us.length).map fun p => Da.str (mS us p) := by
  refine List.ext_getElem (by simp) fun i h1 h2 => ?_
  have hi : i < us.length := by simpa using h1
  simp only [List.getElem_map, List.getElem_range]
  unfold mS
  rw [List.getD_eq_getElem?_getD, List.getElem?_eq_getElem hi]
  rfl
end K43


set_option Elab.async false
set_option linter.all false
set_option maxRecDepth 100000
set_option maxHeartbeats 4000000
namespace K43
open PySem PySem.Spec PyProof.Rows L2 Evl NdefX SX StX Dl
/-! algebras of places, whoever made them; value() at members -/
local macro_rules | `(tactic| walk_at "sr") => `(tactic| first | assumption | (refine Wd.Sr.vw ?_; walk_at "sr") | (refine Wd.Sr.own ?_; walk_at "sr") | (refine Wd.Sr.lp ?_; walk_at "sr"))
local macro_rules | `(tactic| walk_at "d1") => `(tactic| first
  | with_reducible refine wn_seq ?_
  | with_reducible refine wn_ret ?_
  | with_reducible refine wn_retN ?_
  | with_reducible refine wn_next ?_
  | with_reducible refine wn_cont ?_
  | with_reducible refine wn_break ?_
  | with_reducible refine wn_asg ?_
  | with_reducible refine wn_asgG ?_
  | with_reducible refine wn_drop ?_
  | ((with_reducible refine we_varX ?d ?hv ?_); (case hv => exact rfl))
  | with_reducible refine we_c ?_
  | with_reducible refine we_op ?_
  | with_reducible refine we_un ?_
  | with_reducible refine we_if ?_
  | with_reducible refine we_tup ?_
  | with_reducible refine we_lst ?_
  | with_reducible refine we_tl ?_
  | with_reducible refine we_slT ?_
  | with_reducible refine we_slL ?_
  | with_reducible refine we_revL ?_
  | with_reducible refine we_chain ?_
  | with_reducible refine we_andV ?_
  | with_reducible refine we_orV ?_
  | with_reducible refine we_notV ?_
  | with_reducible refine we_dget ?_
  | with_reducible refine we_din ?_
  | with_reducible refine we_dnin ?_
  | with_reducible refine we_dget2 ?_
  | with_reducible refine we_joined ?_
  | with_reducible refine we_fmt ?_
  | with_reducible refine wj_nil ?_
  | with_reducible refine wj_cons ?_
  | with_reducible refine we_call ?_
  | ((with_reducible refine we_pickX ?dd ?ll ?hs ?_); (case hs => walk_at "sr"))
  | with_reducible refine we_cb ?_
  | with_reducible refine wa_nil ?_
  | with_reducible refine wa_cons ?_
  | with_reducible refine wo_none ?_
  | with_reducible refine wo_some ?_
  | with_reducible refine wt_yes ?_
  | with_reducible refine wt_test ?_
  | with_reducible refine wt_B ?_
  | with_reducible refine wt_not ?_
  | with_reducible refine wt_and ?_
  | with_reducible refine wt_or ?_
  | with_reducible refine wt_truK ?_
  | with_reducible refine w2_I0 ⟨_, _, rfl, rfl, ?_⟩
  | with_reducible refine w2_eqI ⟨_, _, rfl, rfl, ?_⟩
  | with_reducible refine w2_eqS ⟨_, _, rfl, rfl, ?_⟩
  | with_reducible refine w2_neI ⟨_, _, rfl, rfl, ?_⟩
  | with_reducible refine w2_neS ⟨_, _, rfl, rfl, ?_⟩
  | with_reducible refine w2_adS ?_
  | with_reducible refine w2_isN ?_
  | with_reducible refine w2_notN ?_
  | ((with_reducible refine w2_inBX ?_); (refine ⟨_, rfl, ?_⟩))
  | with_reducible refine w2_inS ?_
  | ((with_reducible refine w2_ixL ?_); (refine ⟨_, _, _, rfl, rfl, rfl, ?_⟩))
  | ((with_reducible refine w2_ixT ?_); (refine ⟨_, _, _, rfl, rfl, rfl, ?_⟩))
  | ((with_reducible refine w2_ixL ?_); (refine ⟨_, _, _, rfl, rfl, atI_nat (j := 0) rfl, ?_⟩))
  | ((with_reducible refine w2_ixT ?_); (refine ⟨_, _, _, rfl, rfl, atI_nat (j := 0) rfl, ?_⟩))
  | with_reducible refine w2_ixL ?_
  | with_reducible refine w2_ixT ?_
  | ((with_reducible refine w2_cat ?_); (refine ⟨_, _, rfl, rfl, ?_⟩))
  | ((with_reducible refine w2_catT ?_); (refine ⟨_, _, rfl, rfl, (fun z => nomatch z), ?_⟩))
  | with_reducible refine w2_catT ?_
  | with_reducible refine w2_rep ?_
  | ((with_reducible refine wc_len ?_); (refine ⟨_, _, rfl, .inl rfl, ?_⟩))
  | ((with_reducible refine wc_len ?_); (refine ⟨_, _, rfl, .inr rfl, ?_⟩))
  | ((with_reducible refine wc_list ?_); (refine ⟨_, _, rfl, .inl rfl, ?_⟩))
  | ((with_reducible refine wc_list ?_); (refine ⟨_, _, rfl, .inr rfl, ?_⟩))
  | ((with_reducible refine wc_tup ?_); (refine ⟨_, _, rfl, .inl rfl, ?_⟩))
  | ((with_reducible refine wc_tup ?_); (refine ⟨_, _, rfl, .inr rfl, ?_⟩))
  | ((with_reducible refine wc_lenS ?_); (refine ⟨_, rfl, ?_⟩))
  | ((with_reducible refine wc_lenD ?_); (refine ⟨_, rfl, ?_⟩))
  | with_reducible refine w2_ixS ?_
  | with_reducible refine w2_inC ?_
  | with_reducible refine w2_ninC ?_
  | with_reducible refine wc_sum ?_
  | with_reducible refine wc_max ?_
  | with_reducible refine wc_min ?_
  | with_reducible refine wc_all ?_
  | with_reducible refine wc_any ?_
  | ((with_reducible refine wc_isi2 ?_); (refine ⟨_, _, _, _, rfl, rfl, rfl, ?_⟩))
  | with_reducible refine wc_int ⟨_, rfl, ?_⟩
  | with_reducible refine wc_abs ⟨_, rfl, ?_⟩
  | with_reducible refine wi_list ?_
  | with_reducible refine wi_tup ?_
  | with_reducible refine wi_rng1 ?_
  | with_reducible refine wi_rng2 ?_
  | with_reducible refine wi_enum ?_
  | with_reducible refine wi_zip ?_
  | with_reducible refine wi_str ?_
  | ((refine if_true_of ?hh ?_); (case hh => rfl))
  | ((refine if_false_of ?hh ?_); (case hh => rfl))
  | refine ⟨_, _, _, rfl, rfl, look_m, ?_⟩
  | refine ⟨_, _, _, rfl, rfl, look_s, ?_⟩
  | refine ⟨_, _, _, rfl, rfl, look_v, ?_⟩
  | refine ⟨Nat.le_of_ble_eq_true rfl, ?_⟩
  | refine ⟨_, rfl, ?_⟩
  | refine ⟨_, _, rfl, ?_⟩)
local macro_rules | `(tactic| walk_at "gs") => `(tactic| repeat walk_at "d1")
local macro_rules | `(tactic| walk_at "go") => `(tactic| repeat (first | walk_at "d1" | with_reducible refine wn_if ?_))

/-- an algebra as the program wants it: few members, all unlike -/
structure GoodW (us : List (List Nat)) (os : List Dop) : Prop where
  n1 : 1 ≤ us.length
  n64 : us.length ≤ 64
  nd : us.Nodup
  wu : ∀ u ∈ us, Wee (S u)
  sd : (os.map (·.1)).Nodup
  ws : ∀ o ∈ os, Wee (S o.1)
  l : os.length ≤ 20
  va : ∀ o ∈ os, o.2.1 ≤ 2 ∧ o.2.2.length = us.length ^ o.2.1 ∧ ∀ z ∈ o.2.2, z < us.length
theorem GoodD.gw {us : List (List Nat)} {os : List Dop} (g : GoodD us os) : GoodW us os :=
  ⟨g.n1, Nat.le_trans g.n6 (by decide), g.nm.nd, fun u hu => word_wee (g.nm.wd u hu), g.sg.nd, fun o ho => word_wee (g.sg.wd _ (List.mem_map.mpr ⟨o, ho, rfl⟩)), Nat.le_trans g.l5 (by decide), g.va⟩
/-- a value, by places -/
def val (n : Nat) (o : Dop) (row : List Nat) : Nat := o.2.2.getD (spotN n row) 0
section
variable {us : List (List Nat)} {os : List Dop}
theorem ndS (nd : us.Nodup) : (us.map S).Nodup := List.Pairwise.map _ (fun a b hab h => hab (S_inj h)) nd
theorem mS_mem {p : Nat} (h : p < us.length) : mS us p ∈ us.map S := by
  unfold mS
  rw [List.getD_eq_getElem?_getD, List.getElem?_eq_getElem h]
  exact List.mem_map.mpr ⟨_, List.getElem_mem h, rfl⟩
theorem mS_wee (g : GoodW us os) {p : Nat} (h : p < us.length) : Wee (mS us p) := by
  unfold mS
  rw [List.getD_eq_getElem?_getD, List.getElem?_eq_getElem h]
  exact g.wu _ (List.getElem_mem h)
theorem mS_idx (nd : us.Nodup) {p : Nat} (h : p < us.length) : (us.map S).idxOf (mS us p) = p := by
  have hl : p < (us.map S).length := by rw [List.length_map]; exact h
  have e : mS us p = (us.map S)[p] := by
    unfold mS
    rw [List.getD_eq_getElem?_getD, List.getElem?_eq_getElem h, List.getElem_map]
    rfl
  rw [e, List.Nodup.idxOf_getElem (ndS nd)]
theorem idx_mS {a : Str} (h : a ∈ us.map S) : (us.map S).idxOf a < us.length ∧ mS us ((us.map S).idxOf a) = a := by
  have hl := List.idxOf_lt_length_of_mem h
  have hl2 : (us.map S).idxOf a < us.length := by rw [List.length_map] at hl; exact hl
  refine ⟨hl2, ?_⟩
  have e := List.getElem_idxOf hl
  rw [List.getElem_map] at e
  unfold mS
  rw [List.getD_eq_getElem?_getD, List.getElem?_eq_getElem hl2]
  exact e
theorem mem_mS : (us.map S).map Da.str = (List.range us.length).map fun p => Da.str (mS us p) := by
  refine List.ext_getElem (by simp) fun i h1 h2 => ?_
  have hi : i < us.length := by simpa using h1
  simp only [List.getElem_map, List.getElem_range]
  unfold mS
  rw [List.getD_eq_getElem?_getD, List.getElem?_eq_getElem hi]
  rfl
theorem val_lt (g : GoodW us os) {o : Dop} (ho : o ∈ os) {row : List Nat} (hl : row.length = o.2.1) (hr : ∀ x ∈ row, x < us.length) : val us.length o row < us.length := by
  have sp := spot_lt hr
  rw [hl, ← (g.va o ho).2.1] at sp
  unfold val
  rw [List.getD_eq_getElem?_getD, List.getElem?_eq_getElem sp]
  exact (g.va o ho).2.2 _ (List.getElem_mem sp)
theorem sd_S (g : GoodW us os) : ((os.map (opS us)).map (·.1)).Nodup := by
  rw [List.map_map]
  have e : ((fun o : Opn => o.1) ∘ opS us) = S ∘ fun o : Dop => o.1 := rfl
  rw [e, ← List.map_map]
  exact ndS g.sd
theorem GoodW.wf (g : GoodW us os) : WfA (us.map S) (os.map (opS us)) := by
  refine ⟨by rw [List.length_map]; exact g.n1, by rw [List.length_map]; exact g.n64, ndS g.nd, sd_S g, fun o2 ho2 => ?_⟩
  obtain ⟨o, ho, rfl⟩ := List.mem_map.mp ho2
  obtain ⟨a, b, c⟩ := g.va o ho
  refine ⟨Nat.le_trans a (by decide), by show (o.2.2.map _).length = _; rw [List.length_map, List.length_map]; exact b, fun y hy => ?_⟩
  obtain ⟨z, hz, rfl⟩ := List.mem_map.mp hy
  exact mS_mem (c z hz)
theorem row_spot (nd : us.Nodup) {row : List Nat} (h : ∀ x ∈ row, x < us.length) : rowOf (us.map S) (row.map (mS us)) = spotN us.length row := by
  have key : ∀ (row : List Nat) (r : Nat), (∀ x ∈ row, x < us.length) → (row.map (mS us)).foldl (fun r a => r * (us.map S).length + (us.map S).idxOf a) r = row.foldl (fun r x => r * us.length + x) r := by
    intro row
    induction row with
    | nil => exact fun _ _ => rfl
    | cons x t ih =>
      intro r h
      rw [List.map_cons, List.foldl_cons, List.foldl_cons, mS_idx nd (h x List.mem_cons_self), List.length_map]
      have := ih (r * us.length + x) fun y hy => h y (List.mem_cons_of_mem _ hy)
      rw [List.length_map] at this
      exact this
  exact key row 0 h
theorem find_opS (g : GoodW us os) {o : Dop} (ho : o ∈ os) : (os.map (opS us)).find? (fun p => p.1 == S o.1) = some (opS us o) := by
  obtain ⟨i, hi, e⟩ := List.mem_iff_getElem.mp ho
  have hl : i < (os.map (opS us)).length := by rw [List.length_map]; exact hi
  have ei : (os.map (opS us))[i] = opS us o := by rw [List.getElem_map, e]
  rw [find_first hl (fun a ha => ?_) (by rw [ei]; exact beq_self_eq_true _), ei]
  obtain ⟨j, hj, ea⟩ := List.mem_iff_getElem.mp ha
  rw [List.length_take] at hj
  rw [List.getElem_take] at ea
  have ne := List.pairwise_iff_getElem.mp (sd_S g) j i (by rw [List.length_map]; omega) (by rw [List.length_map]; exact hl) (by omega)
  have ea2 : opS us (os[j]'(by omega)) = a := by rw [← ea, List.getElem_map]
  have ei2 : opS us os[i] = opS us o := by rw [e]
  simp only [List.getElem_map] at ne
  rw [ea2, ei2] at ne
  exact beq_eq_false_iff_ne.mpr ne
theorem val_out (g : GoodW us os) {o : Dop} (ho : o ∈ os) {row : List Nat} (hl : row.length = o.2.1) (hr : ∀ x ∈ row, x < us.length) : valOut (us.map S) (os.map (opS us)) (S o.1) (row.map (mS us)) = .ok (mS us (val us.length o row)) := by
  unfold valOut
  rw [find_opS g ho]
  have h1 : (row.map (mS us)).length = (opS us o).2.1 := by rw [List.length_map]; exact hl
  have h2 : (row.map (mS us)).find? (fun a => !(us.map S).contains a) = none := List.find?_eq_none.mpr fun a ha z => by
    obtain ⟨x, hx, rfl⟩ := List.mem_map.mp ha
    have : (us.map S).contains (mS us x) = true := List.contains_iff_mem.mpr (mS_mem (hr x hx))
    rw [this] at z
    cases z
  dsimp only
  rw [if_neg (fun z => z h1), h2, row_spot g.nd hr]
  have sp := spot_lt hr
  rw [hl, ← (g.va o ho).2.1] at sp
  show Out.ok (((o.2.2.map fun z => S (us.getD z [])).getD (spotN us.length row) Str.empty)) = _
  unfold val mS
  rw [List.getD_eq_getElem?_getD, List.getElem?_map, List.getD_eq_getElem?_getD (l := o.2.2), List.getElem?_eq_getElem sp]
  rfl
/-- rows of members, told -/
def rwDa (us : List (List Nat)) (row : List Nat) : List Da := row.map fun p => .str (mS us p)
theorem val_p {C Cc Cm Cs : Addr} (g : GoodW us os) {o : Dop} (ho : o ∈ os) {row : List Nat} (hl : row.length = o.2.1) (hr : ∀ x ∈ row, x < us.length) {y : Da} (ey : y = .lst (rwDa us row) ∨ y = .tup (rwDa us row)) : PVal C Cc Cm Cs [alDa C (us.map S) (os.map (opS us)), .str (S o.1), y] (.ret (.str (mS us (val us.length o row)))) := by
  have a2 := (g.va o ho).1
  have e : rwDa us row = (row.map (mS us)).map Da.str := by unfold rwDa; rw [List.map_map]; rfl
  rw [e] at ey
  refine ⟨us.map S, os.map (opS us), S o.1, row.map (mS us), y, g.wf, by rw [List.length_map, hl]; omega, g.ws o ho, fun a ha => ?_, ey, rfl, ?_⟩
  · obtain ⟨x, hx, rfl⟩ := List.mem_map.mp ha
    exact mS_wee g (hr x hx)
  · rw [val_out g ho hl hr]
end
theorem rw_app (us : List (List Nat)) (a b : List Nat) : rwDa us (a ++ b) = rwDa us a ++ rwDa us b := List.map_append
theorem rw_len (us : List (List Nat)) (a : List Nat) : (rwDa us a).length = a.length := List.length_map _
theorem rw_tup (us : List (List Nat)) (ks : List Nat) (k : Nat) : tupD (rwDa us ks) k = (tupA ks k).map (rwDa us) := by
  unfold rwDa
  rw [tupD_A, tupA_map]
/-! ### what is made of members -/
inductive Ge (n : Nat) (os : List Dop) (ps : List Nat) : Nat → Prop
  | base {p : Nat} : p ∈ ps → Ge n os ps p
  | op {o : Dop} {row : List Nat} : o ∈ os → row.length = o.2.1 → (∀ x ∈ row, Ge n os ps x) → Ge n os ps (val n o row)
theorem Ge.sub {n : Nat} {os : List Dop} {ps : List Nat} {P : Nat → Prop} (b : ∀ p ∈ ps, P p) (c : ∀ o ∈ os, ∀ row : List Nat, row.length = o.2.1 → (∀ x ∈ row, P x) → P (val n o row)) : ∀ {x : Nat}, Ge n os ps x → P x := by
  intro x h
  induction h with
  | base h => exact b _ h
  | op ho hl _ ih => exact c _ ho _ hl ih
open Classical in
/-- the least part -/
noncomputable def clo (n : Nat) (os : List Dop) (ps : List Nat) : List Nat := (List.range n).filter fun p => decide (Ge n os ps p)
end K43


set_option Elab.async false
set_option linter.all false
set_option maxRecDepth 100000
set_option maxHeartbeats 4000000
namespace K43
open PySem PySem.Spec PyProof.Rows L2 Evl NdefX SX StX Dl
/-! the place of a text in a list -/
theorem we_indexS {W : Wd} {ρ : List En} {K : PySem.W.Frag} {te ta : TE} {Φ : Da → Prop} (h : WE W te ρ fun x => ∃ ss : List Str, x = .lst (ss.map .str) ∧ WE W ta ρ fun y => ∃ (s : Str) (j : Nat), y = .str s ∧ ss[j]? = some s ∧ (∀ m, m < j → ss[m]? ≠ some s) ∧ Φ (.int (j : Nat))) : WE W (tBM K "list" (rIndex K) te (tCons ta tNil)) ρ Φ := fun σ H s Q q =>
  h σ H s _ fun v H1 x ⟨ss, e, h1⟩ k1 j1 r1 => by
    subst e
    cases r1 with
    | lst a n rr =>
      obtain rfl := rr.strs
      refine ⟨.inl ⟨rfl, _, SqL.of a⟩, h1 σ H1 (s.step k1 j1) _ fun u H2 y ⟨z, j, ey, g1, g2, f⟩ k2 j2 r2 => ?_⟩
      subst ey
      cases r2
      have a2 := k2.a _ _ a fun z => n (W.y _ z)
      refine ⟨_, ss.map V.str, .str z, j, .str z, rfl, rfl, SqL.of a2, rfl, flatS ss, by rw [List.getElem?_map, g1]; rfl, by simp [eqV], fun m z' hm hz => ?_, q _ _ _ f (k1.trans k2) j2 (.int _)⟩
      rw [List.getElem?_map, Option.map_eq_some_iff] at hz
      obtain ⟨s', hs', rfl⟩ := hz
      have : s' ≠ z := fun e => g2 m hm (e ▸ hs')
      simp [eqV, this]
end K43


set_option Elab.async false
set_option linter.all false
set_option maxRecDepth 100000
set_option maxHeartbeats 4000000
namespace K43
open PySem PySem.Spec PyProof.Rows L2 Evl NdefX SX StX Dl
theorem pl_nam {us : List (List Nat)} (h : ∀ u ∈ us, Word u) : plD (namDa us) = true := plDs_map fun u hu => (word_wee (h u hu)).ok
theorem dp_namD (us : List (List Nat)) : dpD (namDa us) ≤ 1 := by
  show dpDs _ + 1 ≤ 1
  have : dpDs (us.map fun u => Da.str (S u)) ≤ 0 := dpDs_le fun a ha => by
    obtain ⟨u, _, rfl⟩ := List.mem_map.mp ha
    exact Nat.le_refl _
  omega
theorem pl_sgn {os : List Dop} (h : ∀ o ∈ os, Word o.1) : plD (sgnDa os) = true := plDs_map fun o ho => by
  show (PyData.strOk (S o.1) && (true && true)) = true
  rw [(word_wee (h o ho)).ok]
  rfl
theorem dp_sgnD (os : List Dop) : dpD (sgnDa os) ≤ 2 := by
  show dpDs _ + 1 ≤ 2
  have : dpDs (os.map fun o => Da.tup [.str (S o.1), .int (o.2.1 : Int)]) ≤ 1 := dpDs_le fun a ha => by
    obtain ⟨u, _, rfl⟩ := List.mem_map.mp ha
    exact Nat.le_refl _
  omega
theorem GoodD.w {us : List (List Nat)} {os : List Dop} (g : GoodD us os) : ∀ o ∈ os, Word o.1 := fun o ho => g.sg.wd _ (List.mem_map.mpr ⟨o, ho, rfl⟩)
theorem map_nil_iff {α β : Type} {f : α → β} {l : List α} : l.map f = [] ↔ l = [] := by cases l <;> simp
end K43


set_option Elab.async false
set_option linter.all false
set_option maxRecDepth 100000
set_option maxHeartbeats 4000000
namespace K43
open PySem PySem.Spec PyProof.Rows L2 Evl NdefX SX StX Dl
/-! a law's own promise -/
def spLaw (K : PySem.W.Frag) : Sp := fun vs H Q _ => ∃ (a : Addr) (ns : List Int), vs = [.ref a] ∧ SqL K H a (ns.map V.int) ∧ ns.length ≤ 63 ∧ ∀ H', Q (.bl true) H'
section
variable {W : Wd} {ρ : List En} {a b c u : TS} {D : Ends}
/-- what stands behind three statements, told once -/
theorem wn_seq3 (I : List En → Prop) (h2 : ∀ ρ', I ρ' → WN W (u D) ρ') (h1 : (∀ ρ', I ρ' → WN W (u D) ρ') → WN W (tSeq a (tSeq b (tSeq c u)) D) ρ) : WN W (tSeq a (tSeq b (tSeq c u)) D) ρ := h1 h2
end
end K43


set_option Elab.async false
set_option linter.all false
set_option maxRecDepth 100000
set_option maxHeartbeats 4000000
/-! a def that does one of some things -/
namespace Dl
open PySem PySem.Spec PyProof.Rows L2
/-- a def that returns one of some, or raises one of some -/
def spR (P : List Da → (Ot → Prop) → Prop) : Sp := fun vs H Q E => ∃ (X : Addr → Prop) (ds : List Da) (R : Ot → Prop), (∀ a, X a → H a ≠ none) ∧ Rps X H vs ds ∧ P ds R ∧ (∀ d, R (.ret d) → ∀ v H', Same H H' → Rp X H' v d → Q v H') ∧ ∀ C fs, R (.ex C fs) → Exc X H C fs E
section
variable {W : Wd} {ρ : List En} {Φ : Da → Prop} {t : TA}
theorem we_callR {P : List Da → (Ot → Prop) → Prop} {E : XK} (h : WA W t ρ fun ds => ∃ R, P ds R ∧ (∀ d, R (.ret d) → Φ d) ∧ ∀ C fs, R (.ex C fs) → ∀ H1, Kp W.Y W.h0 H1 → W.J H1 → Exc W.X H1 C fs E) : WE W (tCall (spR P) [] E t) ρ Φ := fun σ H s Q q =>
  h σ H s _ fun vs H1 ds ⟨R, p, f, g⟩ k1 j1 r1 => by
    rw [List.append_nil]
    exact ⟨W.X, ds, R, fun a z => k1.b a (s.al a z), r1, p, fun d hd v H' e r => q v H' d (f d hd) (k1.trans (.same e)) (W.jsame e j1) r, fun C fs hc => g C fs hc H1 (s.k0.trans k1) j1⟩
end
end Dl


set_option Elab.async false
set_option linter.all false
set_option maxRecDepth 100000
set_option maxHeartbeats 4000000
/-! try: a def called in the body, clauses that name what was raised -/
namespace Dl
open PySem PySem.Spec PyProof.Rows L2
section
variable {W : Wd} {ρ : List En} {Φ : Da → Prop} {t : TA} {te : TE} {D : Ends} {i : Nat} {Wx Wo : WX} {K : PySem.W.Frag}
theorem w2_neBl {x y : Da} (f : ∃ i j, x = .bl i ∧ y = .bl j ∧ Φ (.bl (!decide (i = j)))) : W2 W rNe x y Φ := fun v u H al j rx ry Q q => by
  obtain ⟨i, k, rfl, rfl, f⟩ := f
  cases rx
  cases ry
  refine ⟨rfl, ?_⟩
  have e : decide (V.bl i = V.bl k) = decide (i = k) := by rw [decide_eq_decide]; exact ⟨fun z => V.bl.inj z, fun z => z ▸ rfl⟩
  rw [e]
  exact q _ H _ f .refl j (.bl _)
theorem w2_eqBl {x y : Da} (f : ∃ i j, x = .bl i ∧ y = .bl j ∧ Φ (.bl (decide (i = j)))) : W2 W rEq x y Φ := fun v u H al j rx ry Q q => by
  obtain ⟨i, k, rfl, rfl, f⟩ := f
  cases rx
  cases ry
  refine ⟨rfl, ?_⟩
  have e : decide (V.bl i = V.bl k) = decide (i = k) := by rw [decide_eq_decide]; exact ⟨fun z => V.bl.inj z, fun z => z ▸ rfl⟩
  rw [e]
  exact q _ H _ f .refl j (.bl _)
/-- x = f(..) in a try's body -/
theorem wn_asgR {P : List Da → (Ot → Prop) → Prop} (h : WA W t ρ fun ds => ∃ R, P ds R ∧ (∀ d, R (.ret d) → WN W D.nx (ρ.set i (.da d))) ∧ ∀ C fs, R (.ex C fs) → ∀ σ H1, Sl W H1 σ ρ → Exc W.X H1 C fs (L2.WE Wx σ)) : WN W (tAsg (tCallS (spR P) (L2.WE Wx) t) (gName i) D) ρ := fun σ H s =>
  h σ H s _ fun vs H1 ds ⟨R, p, f, g⟩ k1 j1 r1 => ⟨W.X, ds, R, fun a z => k1.b a (s.al a z), r1, p, fun d hd v H' e r => f d hd _ H' ((s.step (k1.trans (.same e)) (W.jsame e j1)).setD i r), fun C fs hc => g C fs hc σ H1 (s.step k1 j1)⟩
theorem wn_asgX {P : List Da → Ot → Prop} (h : WA W t ρ fun ds => ∃ o, P ds o ∧ match o with | .ret d => WN W D.nx (ρ.set i (.da d)) | .ex C fs => ∀ σ H1, Sl W H1 σ ρ → Exc W.X H1 C fs (L2.WE Wx σ)) : WN W (tAsg (tCallS (spX P) (L2.WE Wx) t) (gName i) D) ρ := fun σ H s =>
  h σ H s _ fun vs H1 ds ⟨o, p, f⟩ k1 j1 r1 => ⟨W.X, ds, o, fun a z => k1.b a (s.al a z), r1, p, by
    cases o with
    | ret d => exact fun v H' e r => f _ H' ((s.step (k1.trans (.same e)) (W.jsame e j1)).setD i r)
    | ex C fs => exact f σ H1 (s.step k1 j1)⟩
/-- a call in a try's body, as a value -/
theorem we_callTX {P : List Da → Ot → Prop} (h : WA W t ρ fun ds => ∃ o, P ds o ∧ match o with | .ret d => Φ d | .ex C fs => ∀ σ H1, Sl W H1 σ ρ → Exc W.X H1 C fs (L2.WE Wx σ)) : WE W (tCallS (spX P) (L2.WE Wx) t) ρ Φ := fun σ H s Q q =>
  h σ H s _ fun vs H1 ds ⟨o, p, f⟩ k1 j1 r1 => ⟨W.X, ds, o, fun a z => k1.b a (s.al a z), r1, p, by
    cases o with
    | ret d => exact fun v H' e r => q v H' d f (k1.trans (.same e)) (W.jsame e j1) r
    | ex C fs => exact f σ H1 (s.step k1 j1)⟩
theorem we_callTM {P : List Da → Ot → Prop} (h : WA W t ρ fun ds => ∃ o, P ds o ∧ match o with | .ret d => Φ d | .ex C fs => ∀ σ H1, Sl W H1 σ ρ → Exc W.X H1 C fs (L2.WE Wx σ)) : WE W (tCallS (spM P) (L2.WE Wx) t) ρ Φ := fun σ H s Q q =>
  h σ H s _ fun vs H1 ds ⟨o, p, f⟩ k1 j1 r1 => ⟨W.X, ds, o, fun a z => k1.b a (s.al a z), r1, p, by
    cases o with
    | ret d => exact fun v H' e r => q v H' d f (k1.trans (.same e)) (W.jsame e j1) (r.rp fun a z => k1.b a (s.al a z))
    | ex C fs => exact f σ H1 (s.step k1 j1)⟩
theorem same_kp {X : Addr → Prop} {H H' : Hp} (e : Same H H') : Kp X H H' := .same e
/-- an error that carries fields -/
theorem exc_f {σ : L2.St} {H1 : Hp} {C : Addr} {fs : List (Str × Da)} (s : Sl W H1 σ ρ) (hf : fs ≠ []) (h : ∀ dx vs H', H' dx = some (.xd vs) → ¬ W.X dx → Fds W.X H' vs fs → Sl (W.lp H') H' σ ρ → Wx (.ref C) (some dx) σ H') : Exc W.X H1 C fs (L2.WE Wx σ) := by
  cases fs with
  | nil => exact absurd rfl hf
  | cons f fs => exact fun dx vs H' nh e hx r => h dx vs H' hx (fun z => s.al dx z nh) r ((s.step (.same e) (W.jsame e s.j)).lp .refl)
theorem exc_0 {σ : L2.St} {H1 : Hp} {C : Addr} (s : Sl W H1 σ ρ) (h : ∀ H', Sl W H' σ ρ → Wx (.ref C) none σ H') : Exc W.X H1 C [] (L2.WE Wx σ) := fun H' e => h H' (s.step (.same e) (W.jsame e s.j))
theorem mix_here {c cls : Value} {d : Option Addr} {t : Suit} {o : Option Nat} {r : List (Value × Option Nat × Suit)} {σ : L2.St} {H : Hp} (e : PySem.W.exmOne K cls c = some true) (h : ∀ a, H a = none → tClause t D a cls d σ H o) : wMix K Wo D ((c, o, t) :: r) cls d σ H := ⟨true, e, fun _ => h, fun z => nomatch z⟩
theorem mix_next {c cls : Value} {d : Option Addr} {t : Suit} {o : Option Nat} {r : List (Value × Option Nat × Suit)} {σ : L2.St} {H : Hp} (e : PySem.W.exmOne K cls c = some false) (h : wMix K Wo D r cls d σ H) : wMix K Wo D ((c, o, t) :: r) cls d σ H := ⟨false, e, fun z => (by cases z), fun _ => h⟩
theorem cl_as {cls : Value} {d : Option Addr} {t : Suit} {σ : L2.St} {H : Hp} {a : Addr} (s : Sl W H σ ρ) (h : WN W (t a cls d (gone i D)) (ρ.set i (.da (.adr a)))) : tClause t D a cls d σ H (some i) := h _ H (s.setD i (.adr a))
theorem cl_no {cls : Value} {d : Option Addr} {t : Suit} {σ : L2.St} {H : Hp} {a : Addr} (s : Sl W H σ ρ) (h : WN W (t a cls d D) ρ) : tClause t D a cls d σ H none := h _ H s
theorem wn_gone (h : WN W D.nx (ρ.set i .un)) : WN W (gone i D).nx ρ := fun σ H s => h _ H (s.set i (o := none) (e := .un) trivial (fun a z => by cases z))
theorem fds_look {X : Addr → Prop} {H : Hp} {f : Str} {d : Da} : ∀ {vs : List (Str × V)} {fs : List (Str × Da)}, Fds X H vs fs → fs.lookup f = some d → ∃ v, vs.lookup f = some v ∧ Rp X H v d
  | _, _, .nil, h => by cases h
  | (n, v) :: vs, (n', d') :: fs, .cons ⟨e, r⟩ q, h => by
    have e : n = n' := e
    subst e
    rw [List.lookup_cons] at h ⊢
    cases c : f == n with
    | true => rw [c] at h; cases h; exact ⟨v, rfl, r⟩
    | false => rw [c] at h; exact fds_look q h
/-- e.f, e what was raised -/
theorem we_xf {C dx a : Addr} {H' : Hp} {vs : List (Str × V)} {fs : List (Str × Da)} {f : Str} (d : Da) (hm : H' ∈ W.fs) (hd : H' dx = some (.xd vs)) (nx : ¬ W.X dx) (hf : Fds W.X H' vs fs) (hl : fs.lookup f = some d) (h : WE W te ρ fun x => x = .adr a ∧ Φ d) : WE W (tXf a (.ref C) (some dx) C f te) ρ Φ := fun σ H s Q q =>
  h σ H s _ fun v H1 x ⟨ex, f1⟩ k1 j1 r1 => by
    subst ex
    have kz : Kp W.Z H' H1 := (s.fr H' hm).trans (k1.sub fun a z => .inl z)
    have kx : Kp W.X H' H1 := kz.sub fun a z => z.elim (W.y a) (·.1)
    obtain ⟨v2, h2, r2⟩ := fds_look hf hl
    cases r1
    exact ⟨rfl, rfl, dx, vs, v2, rfl, kz.a _ _ hd (fun z => nx (z.elim (W.y dx) (·.1))), h2, q v2 H1 d f1 k1 j1 (r2.kp kx)⟩
end
end Dl


set_option Elab.async false
set_option linter.all false
set_option maxRecDepth 100000
set_option maxHeartbeats 4000000
/-! x.insert(n, e), x an own list -/
namespace Dl
open PySem PySem.Spec PyProof.Rows L2
def rIns : V → List V → Hp → VK → Prop := fun x vs H Q => ∃ (l : Addr) (xs : List V) (i : Int) (y : V), x = .ref l ∧ vs = [.int i, y] ∧ H l = some (.lst xs) ∧ xs.length < sizeLine ∧ 0 ≤ i ∧ i < 2 ^ 63 ∧ Q .non (upd H l (.lst (xs.take i.toNat ++ [y] ++ xs.drop i.toNat)))
theorem mt_ins {X : Cx} : MtR X "list.insert" rIns := mt_insert
section
variable {W : Wd} {ρ : List En} {K : PySem.W.Frag} {ta te : TE} {D : Ends} {i : Nat}
/-- a number, reckoned in the view -/
theorem we_viewI {Φ : Da → Prop} (h : WE W.vw te (ρ.map vwE) fun d => (∃ i : Int, d = .int i) ∧ Φ d) : WE W te ρ Φ := fun σ H s Q q => h σ H s.vw Q fun v H' d ⟨⟨i, e⟩, f⟩ k j r => q v H' d f k j (by subst e; cases r; exact .int _)
theorem wn_ins {l : Addr} {ds : List Da} (hi : ρ[i]? = some (.ml l ds)) (hl : ds.length ≤ 1000) (h : WE W ta ρ fun x => ∃ n : Nat, x = .int (n : Int) ∧ n ≤ ds.length ∧ WE W te ρ fun d => WN W D.nx (ρ.set i (.ml l (ds.take n ++ [d] ++ ds.drop n)))) : WN W (tDrop (tBM K "list" rIns (tVar i) (tCons ta (tCons te tNil))) D) ρ := fun σ H s => by
  obtain ⟨ov, h1, rfl, lx, lx0, lh0, vs, hv, rv⟩ := s.get hi
  refine ⟨_, h1, .inl ⟨rfl, _, SqL.of hv⟩, h σ H s _ fun u H1 x ⟨n, ex, hn, f⟩ k1 j1 r1 => f σ H1 (s.step k1 j1) _ fun v H2 d g k2 j2 r2 => ?_⟩
  subst ex
  cases r1
  have k12 := k1.trans k2
  have hv2 := k12.a _ _ hv fun z => lx0 (W.sy l z)
  have rv2 := rv.kp (k12.sub W.y)
  have kx : Kp W.X H2 (upd H2 l (.lst (vs.take n ++ [v] ++ vs.drop n))) := Kp.refl.upd lx
  refine ⟨l, vs, (n : Int), v, rfl, rfl, hv2, by rw [rv.len, sizeLine_eq]; omega, by omega, by omega, ?_⟩
  exact g σ _ (((s.step k1 j1).step k2 j2).turn hi rfl rfl ⟨rfl, lx, lx0, lh0, _, upd_same, (((rv2.take n).app (.one r2)).app (rv2.drop n)).kp kx⟩)
end
/-- a method of a built-in kind, K told (within a comprehension) -/
theorem pe_bmK {X : Cx} {ex : Expr} {T : String} {r : V → List V → Hp → VK → Prop} {to : TE} {t : TA} (K : PySem.W.Frag) (hK : X.K = K) (h : PE X ex (tBM X.K T r to t)) : PE X ex (tBM K T r to t) := hK ▸ h
end Dl


set_option Elab.async false
set_option linter.all false
set_option maxRecDepth 100000
set_option maxHeartbeats 4000000
/-! t[::-1], t a tuple -/
namespace L2
open PySem PySem.Spec PyProof.Rows HT
section
variable {prog : Program} {w : World} {A : Around} {E : Value → Shared → Prop} {s : Shared}
theorem rt_applied {sl : Addr} {vl vu vs : Value} {n : Nat} {Q : Int × Int × Nat → Shared → Prop} (hs : s.heap.IsSliceOf sl vl vu vs) (pl : IsPart vl none) (pu : IsPart vu none) (ps : IsPart vs (some (-1)))
    (h : Q ((n : Int) - 1, -1, n) s) : wpAny (model prog w) A (Builtin.Slice.sliceApplied (.ref sl) (pure (n : Int))) Q E s := by
  obtain ⟨os, hos, hcs, hds⟩ := id hs
  unfold Builtin.Slice.sliceApplied Builtin.Slice.sliceFields
  refine wpAny_bind (wpAny_bind (wpAny_field hos hds (x := vl) rfl (wpAny_bind (wpAny_field hos hds (x := vu) rfl (wpAny_bind (wpAny_field hos hds (x := vs) rfl (wpAny_pure ?_)))))))
  refine wpAny_bind (slicePart_ ps ?_)
  show wpAny _ _ (if ((-1 : Int) == 0) = true then _ else _) _ _ s
  rw [if_neg (by decide)]
  refine wpAny_bind (slicePart_ pl (wpAny_bind (slicePart_ pu (wpAny_bind (wpAny_pure ?_)))))
  show wpAny _ _ (match Builtin.Slice.sliceAdjust none none (-1) (n : Int) with | (lo, hi) => pure (lo, (-1 : Int), Builtin.Slice.slicePlaces lo hi (-1))) _ _ s
  have e1 : Builtin.Slice.sliceAdjust none none (-1) (n : Int) = ((n : Int) - 1, -1) := by
    simp [Builtin.Slice.sliceAdjust]
  have e2 : Builtin.Slice.slicePlaces ((n : Int) - 1) (-1) (-1) = n := by
    unfold Builtin.Slice.slicePlaces
    rw [if_neg (by decide)]
    by_cases c : (n : Int) - 1 > -1
    · rw [if_pos c]; simp
    · rw [if_neg c]; omega
  rw [e1]
  show wpAny _ _ (pure ((n : Int) - 1, (-1 : Int), Builtin.Slice.slicePlaces ((n : Int) - 1) (-1) (-1))) _ _ s
  rw [e2]
  exact wpAny_pure h
theorem rt_fm {α β : Type} {f g : α → Option β} : ∀ l : List α, (∀ x ∈ l, f x = g x) → l.filterMap f = l.filterMap g
  | [], _ => rfl
  | a :: r, h => by rw [List.filterMap_cons, List.filterMap_cons, h a List.mem_cons_self, rt_fm r fun x hx => h x (List.mem_cons_of_mem _ hx)]
theorem rt_pick (xs : List Value) : ((List.range xs.length).filterMap fun (k : Nat) => xs.toArray[(((xs.length : Int) - 1) + (k : Int) * -1).toNat]?) = xs.reverse := by
  have e : ∀ k ∈ List.range xs.length, xs.toArray[(((xs.length : Int) - 1) + (k : Int) * -1).toNat]? = some (xs.reverse.getD k .none) := fun k hk => by
    have hk := List.mem_range.mp hk
    have e1 : (((xs.length : Int) - 1) + (k : Int) * -1).toNat = xs.length - 1 - k := by omega
    rw [e1, List.getElem?_toArray, List.getD_eq_getElem?_getD, List.getElem?_reverse hk, List.getElem?_eq_getElem (by omega)]
    rfl
  have e2 : ((List.range xs.length).filterMap fun (k : Nat) => xs.toArray[(((xs.length : Int) - 1) + (k : Int) * -1).toNat]?) = (List.range xs.length).map fun k => xs.reverse.getD k .none := by
    rw [← List.filterMap_eq_map]
    exact rt_fm _ e
  rw [e2]
  refine List.ext_getElem (by simp) fun i h1 h2 => ?_
  rw [List.getElem_map, List.getElem_range, List.getD_eq_getElem?_getD, List.getElem?_eq_getElem h2]
  rfl
theorem rt_getItem {t sl : Addr} {items : List Value} {vl vu vs : Value} {Q : Value → Shared → Prop} (ht : IsTup s.heap t items.toArray) (hs : s.heap.IsSliceOf sl vl vu vs) (pl : IsPart vl none) (pu : IsPart vu none) (ps : IsPart vs (some (-1)))
    (h : Q (.ref s.heap.objs.size) { s with heap := s.heap.push { cls := .type "tuple", data := .seq items.reverse.toArray } })
    (hsz : items.length ≤ sizeLine) : wpAny (model prog w) A (getItem (.ref t) (.ref sl)) Q E s := by
  have htake : sizeOk (.seq items.reverse.toArray) := by
    show items.reverse.toArray.size ≤ sizeLine
    rw [List.size_toArray, List.length_reverse]
    omega
  obtain ⟨os, hos, hcs, hds⟩ := id hs
  have hTs : s.TypeIs (.ref sl) "slice" := ⟨os, hos, hcs⟩
  unfold getItem
  try with_reducible refine wpAny_holding ?_
  first | refine wpAny_bind (wpAny_pure ?_) | skip
  refine wpAny_bind (wpAny_sequenceKey ht.typeIs (by decide) ?_)
  refine wpAny_bind (wpAny_callSpecial?_slot (name := Str.ofString "__getitem__") ht.typeIs PyProof.Rows.slot_tuple_getitem
    (wpAny_call_entry PyProof.Rows.slot_tuple_getitem ht.typeIs entry_tuple_getitem ?_ (args_tuple_getitem _ _)))
  show wpAny _ _ (Builtin.Tuple.tupleItemsOf (.ref t) >>= _) _ _ s
  refine wpAny_bind (tupleItemsOf_ ht ?_)
  refine wpAny_bind (wpAny_typeOf hTs ?_)
  rw [if_pos (by decide)]
  refine wpAny_bind (rt_applied hs pl pu ps ?_)
  rw [List.size_toArray]
  have hno : ¬ ((((items.length : Int) - 1) == 0 && (-1 : Int) == 1 && items.length == items.length) = true) := by
    intro q
    rw [Bool.and_eq_true, Bool.and_eq_true] at q
    exact absurd q.1.2 (by decide)
  show wpAny _ _ (if (((items.length : Int) - 1) == 0 && (-1 : Int) == 1 && items.length == items.length) = true then _ else _) _ _ s
  rw [if_neg hno, rt_pick]
  first
    | exact wpAny_bind (m := Builtin.Tuple.tupleExact _) (wpAny_newObj_type (wpAny_pure ⟨_, rfl, wpAny_pure h⟩) htake)
    | exact wpAny_bind (m := Builtin.Tuple.tupleExact _) (wpAny_newObj_type (wpAny_bind (wpAny_pure (wpAny_pure ⟨_, rfl, wpAny_pure h⟩))) htake)
    | exact wpAny_bind (wpAny_bind (m := Builtin.Tuple.tupleExact _) (wpAny_newObj_type (wpAny_pure (wpAny_pure ⟨_, rfl, wpAny_pure h⟩)) htake))
    | exact wpAny_bind (wpAny_bind (m := Builtin.Tuple.tupleExact _) (wpAny_newObj_type (wpAny_pure ⟨_, rfl, wpAny_pure h⟩) htake))
end
section
variable {X : Cx}
def tRevT (K : PySem.W.Frag) (te : TE) : TE := fun σ H Q => te σ H fun x H1 => ∃ a xs, x = .ref a ∧ SqT K H1 a xs ∧ ∀ p, H1 p = none → Q (.ref p) (upd H1 p (.tup xs.reverse))
theorem pe_revT {e : Expr} {te : TE} {k : Nat} {p1 p2 p3 pos : Pos} (he : PE X e te) : PE X (.Subscript e (.Slice none none (some (.UnaryOp .USub (.Constant (.int 1) k p1) p2)) p3) pos) (tRevT X.K te) := by
  refine ⟨fun pins s σ H Q I h => ?_⟩
  refine Subscript_ (thn (he.run pins s σ H _ I h) fun v s1 ⟨x, H1, I1, r1, q1⟩ => ?_)
  obtain ⟨a, xs, ex, hx, q⟩ := q1
  subst ex
  cases r1
  have hst : PO X (some (.UnaryOp .USub (.Constant (.int 1) k p1) p2)) (tPart (tUn (rU fun i => .int (-i)) (tC (.int 1)))) := po_some (pe_un un_neg pe_int)
  refine wpAny_Slice (thn (po_none.run pins s1 σ H1 (fun o H2 => o = none ∧ H2 = H1) I1 ⟨rfl, rfl⟩) fun vl s2 ⟨l, H2, I2, pl, el, e2⟩ => ?_)
  subst el e2
  refine thn (po_none.run pins s2 σ H2 (fun o H3 => o = none ∧ H3 = H2) I2 ⟨rfl, rfl⟩) fun vu s3 ⟨u, H3, I3, pu, eu, e3⟩ => ?_
  subst eu e3
  refine thn (hst.run pins s3 σ H3 (fun o H4 => o = some (-1) ∧ H4 = H3) I3 ⟨1, rfl, -1, rfl, rfl, rfl⟩) fun vs s4 ⟨o, H4, I4, ps, eo, e4⟩ => ?_
  subst eo e4
  have I5 : Inv X pins σ H4 { s4 with heap := s4.heap.push { cls := .type "slice", data := .fields #[vl, vu, vs] } } := I4.kept (t' := s4.toks) fun b ob q => Heap.get?_push_of_some _ q
  obtain ⟨its, r, ht, hz⟩ := I5.tuple hx
  have hlen := r.length
  show wpAny (model X.prog X.w) X.A (subscriptTail e (.Slice none none (some (.UnaryOp .USub (.Constant (.int 1) k p1) p2)) p3) (.ref a) (.ref s4.heap.objs.size)) (EP X pins σ Q) X.xe { s4 with heap := s4.heap.push { cls := .type "slice", data := .fields #[vl, vu, vs] } }
  refine tail_any (ops := [.ref a, .ref s4.heap.objs.size]) ht.typeIs (PyProof.Rows.slot_tuple_getitem.lookup) ?_ (by with_unfolding_all rfl)
  refine rt_getItem ht (Heap.IsSliceOf.new _ vl vu vs) pl pu ps ?_ (by omega)
  refine ⟨.ref _, _, I5.laid (t' := s4.toks) (o := .tup xs.reverse) (fun b ob q => Heap.get?_push_of_some _ q) (Nat.le_refl _) ?_, rfl, q _ (I5.hok.fresh (Nat.le_refl _))⟩
  exact ⟨by rw [List.length_reverse]; exact hz, _, r.reverse, IsTup.new _ _⟩
end
end L2


set_option Elab.async false
set_option linter.all false
set_option maxRecDepth 100000
set_option maxHeartbeats 4000000
/-! enumerate of a tuple -/
namespace Ep
open PySem PySem.Spec PyProof.Rows L2
theorem newT (a : Addr) (items : Array Value) : Meets (Builtin.«enumerate.__new__» ⟨[.type "enumerate", .ref a], []⟩) (fun _ R s => s.heap.IsTuple a items ∧ R (.ok (.ret (.ref (s.heap.push { cls := .type "tuple_iterator", data := .fields #[.ref a, .int 0 0] }).objs.size))) { s with heap := (s.heap.push { cls := .type "tuple_iterator", data := .fields #[.ref a, .int 0 0] }).push { cls := .type "enumerate", data := .fields #[.none, .bool false, .ref s.heap.objs.size, rawInt 0, .none, .none] } }) := .of_wp fun prog w A R s q => by
  obtain ⟨hp, gn, dr, tk, os⟩ := s
  obtain ⟨ht, q⟩ := q
  have sb := sub_enumerate
  have go : ∀ {A' : Around} {E : Value → Shared → Prop} {Q : Value → Shared → Prop}, Q (.ref hp.objs.size) ⟨hp.push { cls := .type "tuple_iterator", data := .fields #[.ref a, .int 0 0] }, gn, dr, tk, os⟩ → wpAny (model prog w) A' (pyIter (.ref a)) Q E ⟨hp, gn, dr, tk, os⟩ := fun z => wpAny_pyIter_tuple (s := ⟨hp, gn, dr, tk, os⟩) ht z
  wp_walk using go
  refine wpAny_stack_any fun st => wpAny_pure ?_
  split
  · rename_i c _ _ _ _ _
    cases (c == Value.type "enumerate") <;> (wp_walk using go; exact ⟨_, rfl, q⟩)
  · (wp_walk using go); (exact ⟨_, rfl, q⟩)
section
variable {prog : Program} {w : World} {A : Around} {E : Value → Shared → Prop} {s : Shared}
theorem callT {a : Addr} {items : Array Value} {Q : Value → Shared → Prop} (ht : s.heap.IsTuple a items) (h : ∀ h', IsEnum h' (s.heap.objs.size + 1) s.heap.objs.size 0 .none → h'.IsTupleIter s.heap.objs.size a 0 → (∀ b o, s.heap.get? b = some o → h'.get? b = some o) → Q (.ref (s.heap.objs.size + 1)) { s with heap := h' }) : wpAny (model prog w) A (call (.type "enumerate") [.ref a]) Q E s := by
  refine callType_new F.called_enumerate (by decide) (F.typeCall_enumerate_1 _) (F.newCall_enumerate_1 _) (fun obj => F.args_object_init_2 obj _) F.entry_enumerate_new (newT a items) ⟨ht, ?_⟩
  have sz : (s.heap.push { cls := .type "tuple_iterator", data := .fields #[.ref a, .int 0 0] }).objs.size = s.heap.objs.size + 1 := Heap.size_push ..
  have he := Heap.get?_push_size (s.heap.push { cls := .type "tuple_iterator", data := .fields #[.ref a, .int 0 0] }) (o := { cls := .type "enumerate", data := .fields #[.none, .bool false, .ref s.heap.objs.size, rawInt 0, .none, .none] }) rfl
  show _ ∧ _
  rw [sz] at he ⊢
  exact ⟨⟨_, he, rfl⟩, h _ he ⟨_, Heap.get?_push_of_some _ (Heap.get?_push_size _ rfl), rfl, rfl⟩ fun b o x => Heap.get?_push_of_some _ (Heap.get?_push_of_some _ x)⟩
end
/-- the tuple at a as it stands at each turn, numbered -/
def ItT (K : PySem.W.Frag) (a : Addr) : It := ⟨fun i H => ∃ (xs : List V) (x : V), SqT K H a xs ∧ xs[i]? = some x, fun i H v H' => ∃ T x, v = .ref T ∧ H T = none ∧ H' = upd H T (.tup [.int (i : Nat), x]) ∧ ∀ xs, SqT K H a xs → xs[i]? = some x, fun i H => ∃ xs : List V, SqT K H a xs ∧ xs.length ≤ i⟩
theorem apart {e it a : Addr} (h1 : e ≠ it) (h2 : a ≠ e) : e ∉ [it, a] := fun z => by
  rcases List.mem_cons.mp z with z | z
  · exact h1 z
  · exact h2 (List.mem_singleton.mp z).symm
theorem turnT {P : Program} {w : World} {K : PySem.W.Frag} {elts : List Expr} {kk : Nat} {tpos : Pos} (a e it : Addr) : Turn P w K (.Tuple elts kk tpos) (ItT K a) [e, it] e (fun i h => (∃ old, IsEnum h e it ((i : Nat) : Int) old) ∧ h.IsTupleIter it a i ∧ e ≠ it ∧ a ≠ e ∧ a ≠ it) where
  mem := by simp
  obj := fun i h c b hb => by
    obtain ⟨⟨old, he⟩, ⟨o, ho, _, hd⟩, _⟩ := c
    have hb : b = e ∨ b = it := by simpa using hb
    rcases hb with rfl | rfl
    · exact ⟨_, he, fun v q => nomatch q⟩
    · exact ⟨o, ho, fun v q => by rw [hd] at q; cases q⟩
  keep := fun i h h' ⟨⟨old, he⟩, hi, n⟩ k => ⟨⟨old, k e (by simp) _ he⟩, hi.at fun o q => k it (by simp) o q, n⟩
  item := by
    intro X hP hw hK hc i pins s σ H E I hf ⟨⟨old, he⟩, hit, n1, n2, n3⟩ ⟨xs, x, hq, hx⟩
    subst hP hw hK
    obtain ⟨us, rv, p, _⟩ := I.tuple hq
    obtain ⟨u, hu, ru⟩ := rv.get hx
    have le1 : e < s.heap.objs.size := Heap.lt_size he
    have le2 : it < s.heap.objs.size := by obtain ⟨_, q, _⟩ := hit; exact Heap.lt_size q
    have hil : i < us.toArray.size := by
      have := (List.getElem?_eq_some_iff.mp hu).1
      simpa using this
    refine wpAny_pyNext_enum_itemD (Draws.tuple (prog := X.prog) (w := X.w) (A := X.A.in1) (I.ok.hd hc) it a n3 us.toArray) he ⟨hit, show s.heap.IsTuple a us.toArray from p⟩ hil n1 (apart n1 n2) fun y h' tk hy ho st hT sz hk => ?_
    have eu : y = u := by
      have hy : us.toArray[i]? = some y := hy
      have hu2 : us.toArray[i]? = some u := by simpa using hu
      exact Option.some.inj (hy.symm.trans hu2)
    subst eu
    refine ⟨_, rfl, wpAny_letOwnedTupleGo_enum (s := { s with heap := h', toks := tk + 1 }) ho fun h2 he2 sb => ?_⟩
    have hT2 := (sb.2 _ (Nat.ne_of_gt le1)).trans hT
    have new : ObjOk X.prog X.w (upd H s.heap.objs.size (.tup [.int (i : Nat), x])) h2 s.heap.objs.size (.tup [.int (i : Nat), x]) := ⟨by show 2 ≤ sizeLine; decide, [.int i tk, y], .cons ⟨_, rfl⟩ (.cons ru .nil), ⟨_, hT2, rfl, _, rfl⟩⟩
    have I1 := I.turnedNew (t' := tk + 1) (ch := [e, it]) (fun b ob hb q => (sb.2 b (fun z => hb (by simp [z]))).trans (hk b ob (fun z => hb (by simp [z])) (fun z => hb (by simp [z])) q)) hf (Nat.le_refl _) new
    refine ⟨.ref s.heap.objs.size, _, I1, rfl, ⟨_, x, rfl, I.hok.fresh (Nat.le_refl _), rfl, fun ys hy => by rw [I.tuple_inj hy hq]; exact hx⟩, ⟨⟨_, by rw [show ((i + 1 : Nat) : Int) = (i : Int) + 1 from by omega]; exact he2⟩, st.1.at fun o q => (sb.2 it n1.symm).trans q, n1, n2, n3⟩, fun b hb => ?_⟩
    have hb2 : b = e ∨ b = it := by simpa using hb
    have lt : b < s.heap.objs.size := by rcases hb2 with z | z <;> rw [z] <;> assumption
    rw [upd_ne (Nat.ne_of_lt lt)]
    exact (hf b hb).1
  done := by
    intro X hP hw hK hc i pins s σ H E I hf ⟨⟨old, he⟩, hit, n1, n2, n3⟩ ⟨xs, hq, hx⟩
    subst hP hw hK
    obtain ⟨us, rv, p, _⟩ := I.tuple hq
    obtain ⟨f0, f1, f2, f3, f4, f5⟩ := hf it (by simp)
    have none : us.toArray[i]? = none := by
      have := rv.length
      simp
      omega
    have D : Draws X.prog X.w X.A.in1 it [it, a] i (fun _ _ => True) (fun j h => j = i ∧ h.IsTupleIter it a i ∧ h.IsTuple a us.toArray) :=
      ⟨fun j h c => let ⟨o, ho, _⟩ := c.2.1; ⟨o, ho⟩, fun j h h' c k => ⟨c.1, c.2.1.at fun o q => k it (by simp) o q, c.2.2.at fun o q => k a (by simp) o q⟩, fun j s Q E hj c _ => absurd c.1 (Nat.ne_of_lt hj), fun s Q E c hE => wpAny_nextOf_tuple_end (A := X.A.in1) (I.ok.hd hc) c.2.1 c.2.2 none hE⟩
    exact wpAny_pyNext_enum_endD D he ⟨rfl, hit, p⟩ fun h' eb => ⟨rfl, I.turned (t' := s.toks) (fun b o hb q => eb b o hb q) f0 f1 f3 f4 f5⟩
  self := fun A i s Q E ⟨⟨_, he⟩, _⟩ h => wpAny_pyIter_enum he h
/-- enumerate of a list or a tuple -/
def iEnA (K : PySem.W.Frag) (ta : TA) : TI := fun σ H R => ta σ H fun vs H1 => ∃ a xs, vs = [.ref a] ∧ ((SqL K H1 a xs ∧ R (Ite K a) H1) ∨ (SqT K H1 a xs ∧ R (ItT K a) H1))
theorem pi_enA {X : Cx} {e : Expr} {ta : TA} {p pos tpos : Pos} {elts : List Expr} {kk : Nat} (K : PySem.W.Frag) (hg : Gl X "enumerate") (hm : X.mg "enumerate" = none) (ha : PA X [e] ta) (hs : starEach [e] X.env = [(false, eval e X.env)] := by rfl) (hK : X.K = K := by rfl) : PI X (.Tuple elts kk tpos) (.Call (.Name "enumerate" p) [e] [] pos) (iEnA K ta) := by
  subst hK
  refine ⟨fun pins s σ H R I h => Call_ (ld_blt I hg hm boot_enumerate (PyProof.Rows.callWith_type1 (thn (ha.run pos pins s σ H _ I h) fun us s1 ⟨vs, H1, I1, r1, q1⟩ => ?_) hs rfl))⟩
  obtain ⟨a, xs, rfl, q⟩ := q1
  cases r1 with
  | cons r rr =>
    cases rr
    cases r
    have new : ∀ b, b ∈ [s1.heap.objs.size + 1, s1.heap.objs.size] → FpOk X pins H1 b := fun b hb => by
      have hb : b = s1.heap.objs.size + 1 ∨ b = s1.heap.objs.size := by simpa using hb
      have le : s1.heap.objs.size ≤ b := by
        rcases hb with z | z <;> rw [z]
        · exact Nat.le_succ _
        · exact Nat.le_refl _
      exact I1.fpOk le (I1.hok.fresh le)
    rcases q with ⟨hq, q⟩ | ⟨hq, q⟩
    · obtain ⟨its, rv, p', _⟩ := I1.list hq
      refine call_enumerate_list p'.isList fun h' he hit _ hk => wpAny_pyIter_enum he ?_
      exact ⟨s1.heap.objs.size + 1, [s1.heap.objs.size + 1, s1.heap.objs.size], _, _, H1, rfl, I1.kept (t' := s1.toks) hk, turn_enum a (s1.heap.objs.size + 1) s1.heap.objs.size, ⟨⟨.none, he⟩, hit, Nat.succ_ne_self _⟩, new, q⟩
    · obtain ⟨its, rv, p', _⟩ := I1.tuple hq
      have hlt : a < s1.heap.objs.size := by obtain ⟨o, e, _⟩ := id p'; exact Heap.lt_size e
      refine callT (show s1.heap.IsTuple a its.toArray from p') fun h' he hit hk => wpAny_pyIter_enum he ?_
      exact ⟨s1.heap.objs.size + 1, [s1.heap.objs.size + 1, s1.heap.objs.size], _, _, H1, rfl, I1.kept (t' := s1.toks) hk, turnT a (s1.heap.objs.size + 1) s1.heap.objs.size, ⟨⟨.none, he⟩, hit, Nat.succ_ne_self _, Nat.ne_of_lt (Nat.lt_succ_of_lt hlt), Nat.ne_of_lt hlt⟩, new, q⟩
theorem walkT {K : PySem.W.Frag} {a : Addr} {xs : List V} : Walk (ItT K a) xs.length (fun H => SqT K H a xs) (YPair (fun i => some (.int (i : Nat))) (fun i => xs[i]?)) := by
  refine ⟨fun i _ hi q => ⟨xs, xs[i], q, by simp [hi]⟩, fun _ q => ⟨xs, q, Nat.le_refl _⟩, fun i H v H' _ q ⟨T, x, h1, h2, h3, h4⟩ => ⟨T, .int (i : Nat), x, h1, h2, h3, rfl, h4 xs q⟩⟩
end Ep
namespace Dl
open PySem PySem.Spec PyProof.Rows L2 Ep
theorem wi_enA {W : Wd} {ρ : List En} {K : PySem.W.Frag} {t : TA} {Φ : List Da → Prop} (h : WA W t ρ fun xs => ∃ y ds, xs = [y] ∧ (y = .lst ds ∨ y = .tup ds) ∧ Φ (enD ds)) : WI W (iEnA K t) ρ Φ := fun σ H s R q =>
  h σ H s _ fun v H1 x ⟨y, ds, e, ey, f⟩ k1 j1 r1 => by
    subst e
    cases r1 with
    | cons r1 r2 =>
      cases r2
      have go : ∀ {J : It} {vs : List V} {G : Hp → Prop}, Rps W.X H1 vs ds → Walk J vs.length G (YPair (fun i => some (.int (i : Nat))) (fun i => vs[i]?)) → (∀ H', Kp W.X H1 H' → G H') → R J H1 := fun {J vs G} r w hG => by
        have ll : (enD ds).length = vs.length := by unfold enD; rw [List.length_map, List.length_range, r.len]
        refine q J H1 _ G (fun i H x H' => i < vs.length ∧ YPair (fun i => some (.int (i : Nat))) (fun i => vs[i]?) i H x H') f k1 j1 (by rw [ll]; exact w.mono (fun _ h => h) fun i H x H' hi _ y => ⟨hi, y⟩) hG fun i H2 x H3 k y => ?_
        obtain ⟨hi, y⟩ := y
        have hd : i < ds.length := by rw [← r.len]; exact hi
        obtain ⟨e, z⟩ := pair_y (X := W.X) (H1 := H1) (d := .int (i : Int)) (e := ds.getD i .non) y (fun X' t v hv => by cases hv; exact .int _) (fun X' t v hv => by
          obtain ⟨d, h1, h2⟩ := r.at_ hv
          rw [List.getD_eq_getElem?_getD, h1]
          exact h2.to t)
        refine ⟨e, _, ?_, z⟩
        unfold enD
        rw [List.getElem?_map, List.getElem?_range hd]
        rfl
      rcases ey with rfl | rfl
      · cases r1 with
        | @lst a vs _ ha n r => exact ⟨a, vs, rfl, .inl ⟨SqL.of ha, go r walk_enum fun H' k => SqL.of (k.a _ _ ha n)⟩⟩
      · cases r1 with
        | @tup a vs _ ha n r => exact ⟨a, vs, rfl, .inr ⟨SqT.of ha, go r walkT fun H' k => SqT.of (k.a _ _ ha n)⟩⟩
end Dl


set_option Elab.async false
set_option linter.all false
set_option maxRecDepth 100000
set_option maxHeartbeats 4000000
/-! tuples cut and joined whatever they hold, data with truths, two names stored at once, x[i] = e -/
namespace Dl
open PySem PySem.Spec PyProof.Rows L2
section
variable {W : Wd} {ρ : List En} {K : PySem.W.Frag} {te ta tb : TE} {Φ : Da → Prop} {x y : Da} {D : Ends}
theorem cutD_whole {ds : List Da} {lo hi : Option Int} (h : HT.sIx ds.length 0 lo = 0 ∧ HT.sIx ds.length ds.length hi = ds.length) : cutD ds lo hi = ds := by
  unfold cutD
  rw [h.1, h.2]
  show ds.take _ = ds
  exact List.take_of_length_le (by omega)
theorem we_slA {tl th : TO} {Ψ : Da → Prop} (h : WE W te ρ fun x => WO W tl ρ fun lo => WO W th ρ fun hi => ∃ ds, x = .tup ds ∧ Ψ (.tup (cutD ds lo hi))) : WE W (tSl (rSlA K) te tl th) ρ Ψ := fun σ H s Q q =>
  h σ H s _ fun v H1 x h1 k1 j1 r1 => h1 σ H1 (s.step k1 j1) _ fun lo H2 h2 k2 j2 => h2 σ H2 ((s.step k1 j1).step k2 j2) _ fun hi H3 ⟨ds, e, f⟩ k3 j3 => by
    subst e
    have rr := (r1.kp (k2.sub W.y)).kp (k3.sub W.y)
    have k123 := (k1.trans k2).trans k3
    cases rr with
    | @tup a vs _ ha n r =>
      refine ⟨_, vs, rfl, SqT.of ha, fun hw => ?_, fun hw p hp => q _ _ _ f (k123.trans (.new hp)) (W.jsame (same_upd hp) j3) (rp_newT (fun a z => k123.b a (s.al a z)) hp (cut_rps r lo hi))⟩
      rw [r.len] at hw
      rw [cutD_whole hw] at f
      exact q _ _ _ f k123 j3 (.tup ha n r)
theorem w2_catA (f : ∃ xs ys, x = .tup xs ∧ y = .tup ys ∧ xs.length + ys.length ≤ 1000000 ∧ Φ (.tup (xs ++ ys))) : W2 W (rCatA K) x y Φ := fun v u H al j rx ry Q q => by
  obtain ⟨xs, ys, rfl, rfl, c, f⟩ := f
  cases rx with
  | tup a n r =>
    cases ry with
    | tup a2 n2 r2 =>
      refine ⟨_, _, _, _, rfl, rfl, SqT.of a, SqT.of a2, by rw [r.len, r2.len, sizeLine_eq]; omega, fun e => ?_, fun _ e => ?_, fun _ _ p hp => q _ _ _ f (.new hp) (W.jsame (same_upd hp) j) (rp_newT al hp (r.app r2))⟩
      · subst e
        cases r
        exact q _ _ _ f .refl j (.tup a2 n2 r2)
      · subst e
        cases r2
        rw [List.append_nil] at f
        exact q _ _ _ f .refl j (.tup a n r)
theorem we_revT {Ψ : Da → Prop} (h : WE W te ρ fun x => ∃ ds, x = .tup ds ∧ Ψ (.tup ds.reverse)) : WE W (tRevT K te) ρ Ψ := fun σ H s Q q =>
  h σ H s _ fun v H1 x ⟨ds, e, f⟩ k1 j1 r1 => by
    subst e
    cases r1 with
    | tup a n r => exact ⟨_, _, rfl, SqT.of a, fun p hp => q _ _ _ f (k1.trans (.new hp)) (W.jsame (same_upd hp) j1) (rp_newT (fun a z => k1.b a (s.al a z)) hp r.rev)⟩
/-! data with truths -/
mutual
def qD : Da → Bool
  | .non => true
  | .bl _ => true
  | .int _ => true
  | .str s => PyData.strOk s
  | .lst ds => qDs ds
  | .tup ds => qDs ds
  | _ => false
def qDs : List Da → Bool
  | [] => true
  | d :: r => qD d && qDs r
end
mutual
theorem rp_dq {X : Addr → Prop} {H : Hp} : ∀ {v : V} {d : Da}, Rp X H v d → qD d = true → Dp K H v (toPy d)
  | _, _, .non, _ => .non
  | _, _, .int i, _ => .int i
  | _, _, .str s, _ => .str s
  | _, _, .bl b, _ => .bl b
  | _, _, .lst a n r, h => .lst (SqL.of a) (rps_dq r h)
  | _, _, .tup a n r, h => .tup (SqT.of a) (rps_dq r h)
  | _, _, .ty b, h => by cases h
  | _, _, .adr b, h => by cases h
  | _, _, .ext b, h => by cases h
  | _, _, .dct a n b, h => by cases h
  | _, _, .dtt a n b, h => by cases h
theorem rps_dq {X : Addr → Prop} {H : Hp} : ∀ {v : List V} {d : List Da}, Rps X H v d → qDs d = true → DpAll K H v (toPys d)
  | _, _, .nil, _ => .nil
  | _, _, .cons a r, h => by
    have h : (qD _ && qDs _) = true := h
    rw [Bool.and_eq_true] at h
    exact .cons (rp_dq a h.1) (rps_dq r h.2)
end
mutual
theorem layq_of : ∀ d : Da, qD d = true → (toPy d).canLay0 = true
  | .non, _ => rfl
  | .bl _, _ => rfl
  | .int i, _ => rfl
  | .str s, h => by
    have h : PyData.strOk s = true := h
    simpa [toPy, PyData.canLay0] using h
  | .lst ds, h => by simpa [toPy, PyData.canLay0] using laysq_of ds h
  | .tup ds, h => by simpa [toPy, PyData.canLay0] using laysq_of ds h
  | .ty b, h => by cases h
  | .adr b, h => by cases h
  | .ext b, h => by cases h
  | .dct a, h => by cases h
  | .dtt a, h => by cases h
theorem laysq_of : ∀ d : List Da, qDs d = true → PyData.canLayAll0 (toPys d) = true
  | [], _ => by simp [toPys, PyData.canLayAll0]
  | d :: r, h => by
    have h : (qD d && qDs r) = true := h
    rw [Bool.and_eq_true] at h
    simp [toPys, PyData.canLayAll0, layq_of d h.1, laysq_of r h.2]
end
theorem shapedq_of {d : Da} (h : qD d = true) (l : dpD d ≤ 64) : SeqAt.shaped (toPy d) = true := by
  have := dep_of d
  have h2 := layq_of d h
  unfold SeqAt.shaped
  rw [h2, Bool.true_and, decide_eq_true (by omega)]
mutual
theorem eqvq_refl : ∀ a : Da, qD a = true → PyData.eqv (toPy a) (toPy a) = true
  | .non, _ => by simp [toPy, PyData.eqv]
  | .bl _, _ => by simp [toPy, PyData.eqv]
  | .int i, _ => by simp [toPy, PyData.eqv]
  | .str s, _ => by simp [toPy, PyData.eqv]
  | .lst ds, g => by simp [toPy, PyData.eqv, eqvqs_refl ds g]
  | .tup ds, g => by simp [toPy, PyData.eqv, eqvqs_refl ds g]
  | .ty b, h => by cases h
  | .adr b, h => by cases h
  | .ext b, h => by cases h
  | .dct a, h => by cases h
  | .dtt a, h => by cases h
theorem eqvqs_refl : ∀ a : List Da, qDs a = true → PyData.eqvAll (toPys a) (toPys a) = true
  | [], _ => by simp [toPys, PyData.eqvAll]
  | d :: r, h => by
    have h : (qD d && qDs r) = true := h
    rw [Bool.and_eq_true] at h
    simp [toPys, PyData.eqvAll, eqvq_refl d h.1, eqvqs_refl r h.2]
end
theorem qDs_of : ∀ {ds : List Da}, (∀ d ∈ ds, qD d = true) → qDs ds = true
  | [], _ => rfl
  | d :: r, h => by
    show (qD d && qDs r) = true
    rw [h d List.mem_cons_self, qDs_of fun x hx => h x (List.mem_cons_of_mem _ hx)]
    rfl
mutual
theorem qD_pl : ∀ {d : Da}, plD d = true → qD d = true
  | .non, _ => rfl
  | .int _, _ => rfl
  | .str _, h => h
  | .lst ds, h => qDs_pl (ds := ds) h
  | .tup ds, h => qDs_pl (ds := ds) h
  | .bl _, h => rfl
  | .ty b, h => by cases h
  | .adr b, h => by cases h
  | .ext b, h => by cases h
  | .dct a, h => by cases h
  | .dtt a, h => by cases h
theorem qDs_pl : ∀ {ds : List Da}, plDs ds = true → qDs ds = true
  | [], _ => rfl
  | d :: r, h => by
    have h : (plD d && plDs r) = true := h
    rw [Bool.and_eq_true] at h
    show (qD d && qDs r) = true
    rw [qD_pl h.1, qDs_pl h.2]
    rfl
end
/-- the same data, compared -/
theorem w2_neQ (f : qD x = true ∧ dpD x ≤ 64 ∧ y = x ∧ Φ (.bl false)) : W2 W (rNeD K) x y Φ := fun v u H al j rx ry Q q => by
  obtain ⟨h, l, rfl, f⟩ := f
  refine ⟨_, _, rp_dq rx h, rp_dq ry h, shapedq_of h l, shapedq_of h l, ?_⟩
  rw [eqvq_refl _ h]
  exact q _ _ _ f .refl j (.bl _)
/-- x not in a list of numbers -/
theorem w2_ninN (f : ∃ ns : List Int, y = .lst (ns.map .int) ∧ ((plD x = true ∧ dpD x ≤ 60 ∧ ∃ b : Bool, (b = true ↔ x ∈ ns.map Da.int) ∧ Φ (.bl (!b))) ∨ ∃ b, x = .bl b ∧ ∀ c, Φ (.bl c))) : W2 W (rNotInD K) x y Φ := fun v u H al j rx ry Q q => by
  obtain ⟨ns, rfl, f⟩ := f
  have qy : plD (.lst (ns.map .int)) = true := plDs_map fun _ _ => rfl
  have dy : dpD (.lst (ns.map .int)) ≤ 64 := by
    show dpDs _ + 1 ≤ 64
    have : dpDs (ns.map Da.int) ≤ 0 := dpDs_le fun a ha => by
      obtain ⟨_, _, rfl⟩ := List.mem_map.mp ha
      exact Nat.le_refl _
    omega
  have py : Dp K H u (.list (toPys (ns.map .int))) := by have := rp_dp (K := K) ry qy; simpa [toPy] using this
  have sy : SeqAt.shaped (.list (toPys (ns.map .int))) = true := by have := shaped_of qy dy; simpa [toPy] using this
  rcases f with ⟨h, l, b, hb, f⟩ | ⟨b, rfl, f⟩
  · refine ⟨_, _, rp_dp rx h, py, shaped_of h (by omega), sy, ?_⟩
    have e : ((toPys (ns.map .int)).any fun z => PyData.eqv z (toPy x)) = b := by
      rw [Bool.eq_iff_iff, hb]
      clear py sy qy dy ry
      induction ns with
      | nil => simp [toPys]
      | cons n r ih =>
        have e1 := eqv_iff (.int n) x rfl h
        simp only [List.map_cons, toPys, List.any_cons, Bool.or_eq_true, List.mem_cons]
        rw [e1]
        have ih : ((toPys (r.map .int)).any fun z => PyData.eqv z (toPy x)) = true ↔ x ∈ r.map Da.int := by
          clear e1 ih hb f
          induction r with
          | nil => simp [toPys]
          | cons n r ih =>
            have e1 := eqv_iff (.int n) x rfl h
            simp only [List.map_cons, toPys, List.any_cons, Bool.or_eq_true, List.mem_cons]
            rw [e1, ih]
            exact ⟨fun z => z.imp Eq.symm id, fun z => z.imp Eq.symm id⟩
        rw [ih]
        exact ⟨fun z => z.imp Eq.symm id, fun z => z.imp Eq.symm id⟩
    rw [e]
    exact q _ _ _ f .refl j (.bl _)
  · refine ⟨_, _, rp_dq rx rfl, py, shapedq_of rfl (Nat.zero_le _), sy, ?_⟩
    exact q _ _ _ (f _) .refl j (.bl _)
/-- a new list of two -/
theorem ww_cat (h : WE W ta ρ fun x => WE W tb ρ fun y => ∃ xs ys, x = .lst xs ∧ y = .lst ys ∧ xs.length + ys.length ≤ 1000000 ∧ Φ (.lst (xs ++ ys))) : WW W (tOp rCat ta tb) ρ Φ := fun σ H s Q q =>
  h σ H s _ fun v H1 x h1 k1 j1 r1 => h1 σ H1 (s.step k1 j1) _ fun u H2 y ⟨xs, ys, ex, ey, c, f⟩ k2 j2 r2 => by
    subst ex ey
    have k12 := k1.trans k2
    cases r1.kp (k2.sub W.y) with
    | lst a n r =>
      cases r2 with
      | lst a2 n2 r2 => exact ⟨_, _, _, _, rfl, rfl, a, a2, by rw [r.len, r2.len, sizeLine_eq]; omega, fun p hp => q p _ _ f (k12.free hp) (k12.trans (.new hp)) (W.jsame (same_upd hp) j2) ⟨_, upd_same, (r.app r2).to (to_own hp (.new hp))⟩⟩
/-- x[k], x an own list -/
theorem we_ixM {i : Nat} {l : Addr} {ds : List Da} (hi : ρ[i]? = some (.ml l ds)) (h : WE W ta ρ fun y => ∃ k d, y = .int k ∧ L2.atI ds k = some d ∧ Φ d) : WE W (tOp (rIxL K) (tVar i) ta) ρ Φ := fun σ H s Q q => by
  obtain ⟨ov, h1, rfl, lx, lx0, lh0, vs, hv, rv⟩ := s.get hi
  refine ⟨_, h1, h σ H s _ fun u H1 y ⟨k, d, ey, hk, f⟩ k1 j1 r1 => ?_⟩
  subst ey
  cases r1
  have hv1 := k1.a _ _ hv fun z => lx0 (W.sy l z)
  obtain ⟨v, e1, e2⟩ := (rv.kp (k1.sub W.y)).atI hk
  exact ⟨_, _, _, v, rfl, rfl, SqL.of hv1, e1, q _ _ _ f k1 j1 e2⟩
/-- list(range(n)) -/
theorem we_listRg (h : WE W te ρ fun x => ∃ n : Nat, x = .int (n : Int) ∧ n ≤ 1000000 ∧ Φ (.lst (rgD n))) : WE W (tLstRg (tRg1 te)) ρ Φ := fun σ H s Q q =>
  h σ H s _ fun v H1 x ⟨n, e, l, f⟩ k1 j1 r1 => by
    subst e
    cases r1
    refine ⟨(n : Int), rfl, RgOk.of_le (by omega) (by omega) (by omega) (by omega), fun p hp => ?_⟩
    have e1 : rgV 0 (n : Int) = ((List.range n).map fun (i : Nat) => (i : Int)).map V.int := by
      unfold rgV
      rw [List.map_map]
      have e : ((n : Int) - 0).toNat = n := by omega
      rw [e]
      refine List.map_congr_left fun i _ => ?_
      show V.int (0 + (i : Int)) = V.int (i : Int)
      rw [Int.zero_add]
    have e2 : rgD n = ((List.range n).map fun (i : Nat) => (i : Int)).map Da.int := by
      unfold rgD
      rw [List.map_map]
      rfl
    rw [e1]
    rw [e2] at f
    exact q _ _ _ f (k1.trans (.new hp)) (W.jsame (same_upd hp) j1) (rp_newL (fun a z => k1.b a (s.al a z)) hp (Rps.of_ints _))
/-- int(True) -/
theorem wc_intB {xs : List Da} (f : ∃ b : Bool, xs = [.bl b] ∧ Φ (.int (if b = true then 1 else 0))) : WC W (fun xs H Q => (∃ i, xs = [V.int i] ∧ Q (V.int i) H) ∨ ∃ k, xs = [V.bl k] ∧ Q (V.int (if k = true then 1 else 0)) H) xs Φ := fun vs H al j r Q q => by
  obtain ⟨i, rfl, f⟩ := f
  cases r with
  | cons r1 r2 =>
    cases r2
    cases r1
    exact .inr ⟨i, rfl, q _ H _ f .refl j (.int _)⟩
/-- a, b = x, y -/
theorem wn_par {i j : Nat} {t : TA} (h : WA W t ρ fun ds => ∃ a b, ds = [a, b] ∧ WN W D.nx ((ρ.set i (.da a)).set j (.da b))) : WN W (tPar i j t D) ρ := fun σ H s =>
  h σ H s _ fun vs H1 ds ⟨a, b, e, f⟩ k1 j1 r1 => by
    subst e
    cases r1 with
    | cons ra r1 =>
      cases r1 with
      | cons rb r1 =>
        cases r1
        exact ⟨_, _, rfl, f _ H1 (((s.step k1 j1).setD i ra).setD j rb)⟩
/-- x[k] = e, x an own list -/
theorem wn_set {i : Nat} {l : Addr} {ds : List Da} (hi : ρ[i]? = some (.ml l ds)) (h : WE W te ρ fun d => WE W ta ρ fun y => ∃ k : Nat, y = .int (k : Int) ∧ k < ds.length ∧ WN W D.nx (ρ.set i (.ml l (ds.set k d)))) : WN W (tAsg te (gSub (tVar i) ta rSetL) D) ρ := fun σ H s => by
  obtain ⟨ov, h1, rfl, lx, lx0, lh0, vs, hv, rv⟩ := s.get hi
  refine h σ H s _ fun v H1 d f k1 j1 r1 => ⟨_, h1, f σ H1 (s.step k1 j1) _ fun u H2 y ⟨k, ey, hk, g⟩ k2 j2 r2 => ?_⟩
  subst ey
  cases r2
  have k12 := k1.trans k2
  have hv2 := k12.a _ _ hv fun z => lx0 (W.sy l z)
  have rv2 := rv.kp (k12.sub W.y)
  have kx : Kp W.X H2 (upd H2 l (.lst (vs.set k v))) := Kp.refl.upd lx
  refine ⟨l, vs, _, k, rfl, rfl, hv2, ?_, g σ _ (((s.step k1 j1).step k2 j2).turn hi rfl rfl ⟨rfl, lx, lx0, lh0, _, upd_same, (rv2.set (r1.kp (k2.sub W.y)) k).kp kx⟩)⟩
  rw [rv.len]
  exact Evl.ixN_nat hk
end
end Dl
namespace L2
open PySem PySem.Spec PyProof.Rows
section
variable {X : Cx}
theorem sl_tupAK (K : PySem.W.Frag) (hK : X.K = K := by rfl) : SlR X (rSlA K) := hK ▸ sl_tupA
theorem op_catAK (K : PySem.W.Frag) (hK : X.K = K := by rfl) : OpR X (binaryOp .Add) (rCatA K) := hK ▸ op_catA
theorem op_ninAK (K : PySem.W.Frag) (hu : X.A.units + 65 < cLine) (hK : X.K = K := by rfl) : OpR X (compareOp .NotIn) (rNotInD K) := hK ▸ op_notInD hu
theorem pe_revTK {e : Expr} {te : TE} {k : Nat} {p1 p2 p3 pos : Pos} (K : PySem.W.Frag) (he : PE X e te) (hK : X.K = K := by rfl) : PE X (.Subscript e (.Slice none none (some (.UnaryOp .USub (.Constant (.int 1) k p1) p2)) p3) pos) (tRevT K te) := hK ▸ pe_revT he
end
end L2


set_option Elab.async false
set_option linter.all false
set_option maxRecDepth 100000
set_option maxHeartbeats 4000000
namespace K43
open PySem PySem.Spec PyProof.Rows L2 Evl NdefX SX StX Dl
/-! moves and steps as data; _placed, _moved -/
local macro_rules | `(tactic| walk_at "sr") => `(tactic| first | assumption | (refine Wd.Sr.vw ?_; walk_at "sr") | (refine Wd.Sr.own ?_; walk_at "sr") | (refine Wd.Sr.lp ?_; walk_at "sr"))
local macro_rules | `(tactic| walk_at "d1") => `(tactic| first
  | with_reducible refine wn_seq ?_
  | with_reducible refine wn_ret ?_
  | with_reducible refine wn_retN ?_
  | with_reducible refine wn_next ?_
  | with_reducible refine wn_cont ?_
  | with_reducible refine wn_break ?_
  | with_reducible refine wn_asg ?_
  | with_reducible refine wn_asgG ?_
  | with_reducible refine wn_drop ?_
  | ((with_reducible refine we_varX ?d ?hv ?_); (case hv => exact rfl))
  | with_reducible refine we_c ?_
  | with_reducible refine we_op ?_
  | with_reducible refine we_un ?_
  | with_reducible refine we_if ?_
  | with_reducible refine we_tup ?_
  | with_reducible refine we_lst ?_
  | with_reducible refine we_tl ?_
  | with_reducible refine we_slT ?_
  | with_reducible refine we_slL ?_
  | with_reducible refine we_revL ?_
  | with_reducible refine we_chain ?_
  | with_reducible refine we_andV ?_
  | with_reducible refine we_orV ?_
  | with_reducible refine we_notV ?_
  | with_reducible refine we_dget ?_
  | with_reducible refine we_din ?_
  | with_reducible refine we_dnin ?_
  | with_reducible refine we_dget2 ?_
  | with_reducible refine we_joined ?_
  | with_reducible refine we_fmt ?_
  | with_reducible refine wj_nil ?_
  | with_reducible refine wj_cons ?_
  | with_reducible refine we_call ?_
  | ((with_reducible refine we_pickX ?dd ?ll ?hs ?_); (case hs => walk_at "sr"))
  | with_reducible refine we_cb ?_
  | with_reducible refine wa_nil ?_
  | with_reducible refine wa_cons ?_
  | with_reducible refine wo_none ?_
  | with_reducible refine wo_some ?_
  | with_reducible refine wt_yes ?_
  | with_reducible refine wt_test ?_
  | with_reducible refine wt_B ?_
  | with_reducible refine wt_not ?_
  | with_reducible refine wt_and ?_
  | with_reducible refine wt_or ?_
  | with_reducible refine wt_truK ?_
  | with_reducible refine w2_I0 ⟨_, _, rfl, rfl, ?_⟩
  | with_reducible refine w2_eqI ⟨_, _, rfl, rfl, ?_⟩
  | with_reducible refine w2_eqS ⟨_, _, rfl, rfl, ?_⟩
  | with_reducible refine w2_neI ⟨_, _, rfl, rfl, ?_⟩
  | with_reducible refine w2_neS ⟨_, _, rfl, rfl, ?_⟩
  | with_reducible refine w2_adS ?_
  | with_reducible refine w2_isN ?_
  | with_reducible refine w2_notN ?_
  | ((with_reducible refine w2_inBX ?_); (refine ⟨_, rfl, ?_⟩))
  | with_reducible refine w2_inS ?_
  | ((with_reducible refine w2_ixL ?_); (refine ⟨_, _, _, rfl, rfl, rfl, ?_⟩))
  | ((with_reducible refine w2_ixT ?_); (refine ⟨_, _, _, rfl, rfl, rfl, ?_⟩))
  | ((with_reducible refine w2_ixL ?_); (refine ⟨_, _, _, rfl, rfl, atI_nat (j := 0) rfl, ?_⟩))
  | ((with_reducible refine w2_ixT ?_); (refine ⟨_, _, _, rfl, rfl, atI_nat (j := 0) rfl, ?_⟩))
  | with_reducible refine w2_ixL ?_
  | with_reducible refine w2_ixT ?_
  | ((with_reducible refine w2_cat ?_); (refine ⟨_, _, rfl, rfl, ?_⟩))
  | ((with_reducible refine w2_catT ?_); (refine ⟨_, _, rfl, rfl, (fun z => nomatch z), ?_⟩))
  | with_reducible refine w2_catT ?_
  | with_reducible refine w2_rep ?_
  | ((with_reducible refine wc_len ?_); (refine ⟨_, _, rfl, .inl rfl, ?_⟩))
  | ((with_reducible refine wc_len ?_); (refine ⟨_, _, rfl, .inr rfl, ?_⟩))
  | ((with_reducible refine wc_list ?_); (refine ⟨_, _, rfl, .inl rfl, ?_⟩))
  | ((with_reducible refine wc_list ?_); (refine ⟨_, _, rfl, .inr rfl, ?_⟩))
  | ((with_reducible refine wc_tup ?_); (refine ⟨_, _, rfl, .inl rfl, ?_⟩))
  | ((with_reducible refine wc_tup ?_); (refine ⟨_, _, rfl, .inr rfl, ?_⟩))
  | ((with_reducible refine wc_lenS ?_); (refine ⟨_, rfl, ?_⟩))
  | ((with_reducible refine wc_lenD ?_); (refine ⟨_, rfl, ?_⟩))
  | with_reducible refine w2_ixS ?_
  | with_reducible refine w2_inC ?_
  | with_reducible refine w2_ninC ?_
  | with_reducible refine wc_sum ?_
  | with_reducible refine wc_max ?_
  | with_reducible refine wc_min ?_
  | with_reducible refine wc_all ?_
  | with_reducible refine wc_any ?_
  | ((with_reducible refine wc_isi2 ?_); (refine ⟨_, _, _, _, rfl, rfl, rfl, ?_⟩))
  | with_reducible refine wc_int ⟨_, rfl, ?_⟩
  | with_reducible refine wc_abs ⟨_, rfl, ?_⟩
  | with_reducible refine wi_list ?_
  | with_reducible refine wi_tup ?_
  | with_reducible refine wi_rng1 ?_
  | with_reducible refine wi_rng2 ?_
  | with_reducible refine wi_enum ?_
  | with_reducible refine wi_zip ?_
  | with_reducible refine wi_str ?_
  | ((refine if_true_of ?hh ?_); (case hh => rfl))
  | ((refine if_false_of ?hh ?_); (case hh => rfl))
  | refine ⟨_, _, _, rfl, rfl, look_m, ?_⟩
  | refine ⟨_, _, _, rfl, rfl, look_s, ?_⟩
  | refine ⟨_, _, _, rfl, rfl, look_v, ?_⟩
  | refine ⟨Nat.le_of_ble_eq_true rfl, ?_⟩
  | refine ⟨_, rfl, ?_⟩
  | refine ⟨_, _, rfl, ?_⟩)
local macro_rules | `(tactic| walk_at "gs") => `(tactic| repeat walk_at "d1")
local macro_rules | `(tactic| walk_at "go") => `(tactic| repeat (first | walk_at "d1" | with_reducible refine wn_if ?_))

local macro_rules | `(tactic| walk_at "d1") => `(tactic| first | with_reducible refine we_slA ?_ | with_reducible refine wa_star ?_ | with_reducible refine wn_par ?_)
structure Mv where
  o : Dop
  pl : Nat
  row : List Nat
def mvDa (us : List (List Nat)) (m : Mv) : Da := .tup [.str (S m.o.1), .int (m.pl : Int), .tup (rwDa us m.row)]
structure OkM (us : List (List Nat)) (os : List Dop) (m : Mv) : Prop where
  o : m.o ∈ os
  pl : m.pl < m.o.2.1
  l : m.row.length = m.o.2.1 - 1
  r : ∀ x ∈ m.row, x < us.length
/-- what a move makes of a member -/
def mvR (m : Mv) (p : Nat) : List Nat := m.row.take m.pl ++ [p] ++ m.row.drop m.pl
def mvV (n : Nat) (p : Nat) (m : Mv) : Nat := val n m.o (mvR m p)
def mvsV (n : Nat) (ms : List Mv) (p : Nat) : Nat := ms.foldl (mvV n) p
section
variable {us : List (List Nat)} {os : List Dop}
theorem mvR_len {m : Mv} (h : OkM us os m) (p : Nat) : (mvR m p).length = m.o.2.1 := by
  have := h.pl
  have := h.l
  unfold mvR
  rw [List.length_append, List.length_append, List.length_take, List.length_drop]
  show min m.pl m.row.length + 1 + _ = _
  omega
theorem mvR_lt {m : Mv} (h : OkM us os m) {p : Nat} (hp : p < us.length) : ∀ x ∈ mvR m p, x < us.length := fun x hx => by
  unfold mvR at hx
  rcases List.mem_append.mp hx with hx | hx
  · rcases List.mem_append.mp hx with hx | hx
    · exact h.r x (List.mem_of_mem_take hx)
    · rw [List.mem_singleton.mp hx]; exact hp
  · exact h.r x (List.mem_of_mem_drop hx)
theorem mvV_lt (g : GoodW us os) {m : Mv} (h : OkM us os m) {p : Nat} (hp : p < us.length) : mvV us.length p m < us.length := val_lt g h.o (mvR_len h p) (mvR_lt h hp)
theorem mvsV_lt (g : GoodW us os) : ∀ {ms : List Mv} {p : Nat}, (∀ m ∈ ms, OkM us os m) → p < us.length → mvsV us.length ms p < us.length
  | [], _, _, hp => hp
  | m :: r, p, h, hp => mvsV_lt g (ms := r) (fun x hx => h x (List.mem_cons_of_mem _ hx)) (mvV_lt g (h m List.mem_cons_self) hp)
theorem rw_mvR (m : Mv) (p : Nat) : (rwDa us m.row).take m.pl ++ [.str (mS us p)] ++ (rwDa us m.row).drop m.pl = rwDa us (mvR m p) := by
  unfold rwDa mvR
  rw [List.map_append, List.map_append, List.map_take, List.map_drop]
  rfl
end
section
variable {P : Program} {w : World} {K : PySem.W.Frag} {mg : Str → Option Value} {base : Heap} {C Cc Cm Cs : Addr}
def PPd (ds : List Da) (d : Da) : Prop := ∃ (x : Da) (pl : Nat) (xs : List Da), xs.length ≤ 1000 ∧ ds = [x, .int (pl : Int), .tup xs] ∧ d = .tup (xs.take pl ++ [x] ++ xs.drop pl)
abbrev s__placed : Stmt := top 22
abbrev N__placed : List Str := ["name", "place", "others"]
theorem sc__placed : FnScope N__placed ["name", "place", "others"] (defScope s__placed) := ⟨rfl, rfl, rfl, by decide +kernel, rfl, by decide +kernel, by decide +kernel⟩
theorem ok_placed {f : Addr} {fd : FuncData} (F : Fun K "_placed" "_placed" s__placed f fd) (T : Blt mg) : FnOk P w K mg base CX0 1 f fd ["name", "place", "others"] (spP PPd) := by
  refine F.ok sc__placed (fun vs H Q E h => ?_) (fun cdv A outer s H vs Q E hr h => ?_)
  · obtain ⟨X, ds, d, al, r, ⟨x, pl, xs, _, rfl, _⟩, q⟩ := h
    exact r.len
  · obtain ⟨X, ds, d, al, r, ⟨x, pl, xs, lx, rfl, rfl⟩, q⟩ := h
    refine ⟨_, (pss_one (ps_ret (pe_tup (pa_star (pe_slice (sl_tupAK K) (pv 2) po_none (po_some (pv 1))) (pa_cons (pv 0) (pa_star (pe_slice (sl_tupAK K) (pv 2) (po_some (pv 1)) po_none) pa_nil)))))), ?_⟩
    refine wn_start (W := wdP H X) [.da x, .da (.int (pl : Int)), .da (.tup xs)] rfl rfl trivial al r ?_
    walk_at "gs"
    refine ⟨xs.take pl, .inr (by rw [cutD_takeG]), ?_⟩
    walk_at "gs"
    refine ⟨xs.drop pl, .inr (by rw [cutD_dropG]), ?_⟩
    walk_at "gs"
    have e : xs.take pl ++ x :: (xs.drop pl ++ []) = xs.take pl ++ [x] ++ xs.drop pl := by simp
    rw [e]
    refine ⟨?_, rt_P q⟩
    rw [List.length_append, List.length_append, List.length_take, List.length_drop]
    show min pl xs.length + 1 + _ ≤ _
    omega
def PMo (C : Addr) (ds : List Da) (d : Da) : Prop := ∃ us os ms p, GoodW us os ∧ (∀ m ∈ ms, OkM us os m) ∧ p < us.length ∧ ds = [alDa C (us.map S) (os.map (opS us)), .str (mS us p), .tup (ms.map (mvDa us))] ∧ d = .str (mS us (mvsV us.length ms p))
abbrev s__moved : Stmt := top 24
abbrev N__moved : List Str := ["algebra", "name", "moves", "sign", "place", "others"]
theorem sc__moved : FnScope N__moved ["algebra", "name", "moves"] (defScope s__moved) := ⟨rfl, rfl, rfl, by decide +kernel, rfl, by decide +kernel, by decide +kernel⟩
theorem ok_moved {f : Addr} {fd : FuncData} (F : Fun K "_moved" "_moved" s__moved f fd) (T : Blt mg) (c : AlgC K C) (c__placed : Cal P w K mg base 1 "_placed" ["name", "place", "others"] (spP PPd)) (m_value : Mtd P w K mg base 3 C "value" ["self", "sign", "arguments"] (spX (PVal C Cc Cm Cs))) : FnOk P w K mg base CX0 4 f fd ["algebra", "name", "moves"] (spP (PMo C)) := by
  refine F.ok sc__moved (fun vs H Q E h => ?_) (fun cdv A outer s H vs Q E hr h => ?_)
  · obtain ⟨X, ds, d, al, r, ⟨us, os, ms, p, _, _, _, rfl, _⟩, q⟩ := h
    exact r.len
  · obtain ⟨X, ds, d, al, r, ⟨us, os, ms, p, gd, hm, hp, rfl, rfl⟩, q⟩ := h
    refine ⟨_, (pss_cons (ps_for PassesOwn.never rfl (pi_tup (pv 2)) (pg_tup rfl (pgs_cons (pg_name (i := 3) sc__moved.nd rfl (Or.inl rfl)) (pgs_cons (pg_name (i := 4) sc__moved.nd rfl (Or.inl rfl)) (pgs_cons (pg_name (i := 5) sc__moved.nd rfl (Or.inl rfl)) pgs_nil)))) (pss_one (ps_set (i := 1) sc__moved.nd rfl (Or.inl rfl) (pe_mtd m_value (hr.mono (by decide)) (pv 0) (pa_cons (pv 3) (pa_cons (pe_cal c__placed (hr.mono (by decide)) (by rfl) (pa_cons (pv 1) (pa_cons (pv 4) (pa_cons (pv 5) pa_nil)))) pa_nil))))))
      (pss_one (ps_ret (pv 1)))), ?_⟩
    refine wn_start (W := wdP H X) [.da (alDa C (us.map S) (os.map (opS us))), .da (.str (mS us p)), .da (.tup (ms.map (mvDa us))), .un, .un, .un] rfl rfl trivial al r ?_
    walk_at "gs"
    refine wn_for (S := [3, 4, 5]) (wi_tup (we_varX _ rfl ?_))
    refine ⟨_, rfl, ?_⟩
    refine ⟨fun i ρ => ∃ e3 e4 e5, ρ = [.da (alDa C (us.map S) (os.map (opS us))), .da (.str (mS us (mvsV us.length (ms.take i) p))), .da (.tup (ms.map (mvDa us))), e3, e4, e5], ⟨.un, .un, .un, rfl⟩, fun i x ρ' H1 hx hi => ?_, fun ρ' hi => ?_⟩
    · obtain ⟨e3, e4, e5, rfl⟩ := hi
      rw [List.getElem?_map, Option.map_eq_some_iff] at hx
      obtain ⟨m, hx, rfl⟩ := hx
      have om := hm m (List.mem_of_getElem? hx)
      have hq : mvsV us.length (ms.take i) p < us.length := mvsV_lt gd (fun m h => hm m (List.mem_of_mem_take h)) hp
      have lr := om.l
      have la := (gd.va _ om.o).1
      refine wg_tup ⟨_, rfl, rfl, wgs_cons ⟨_, _, rfl, wg_name (wgs_cons ⟨_, _, rfl, wg_name (wgs_cons ⟨_, _, rfl, wg_name (wgs_nil rfl ?_)⟩)⟩)⟩⟩
      walk_at "d1"
      refine we_methX (P := PVal C Cc Cm Cs) (fun _ _ _ _ _ => by rfl) ?_
      walk_at "gs"
      refine ⟨_, ⟨_, m.pl, _, by rw [rw_len]; omega, rfl, rfl⟩, ?_⟩
      rw [rw_mvR]
      walk_at "gs"
      refine ⟨.ret _, val_p gd om.o (mvR_len om _) (mvR_lt om hq) (.inr rfl), ?_⟩
      refine wn_to ⟨.da (.str (S m.o.1)), .da (.int (m.pl : Int)), .da (.tup (rwDa us m.row)), ?_⟩
      have e : mvsV us.length (ms.take (i + 1)) p = val us.length m.o (mvR m (mvsV us.length (ms.take i) p)) := by
        rw [List.take_add_one, hx]
        unfold mvsV
        rw [List.foldl_append]
        rfl
      rw [e]
      rfl
    · obtain ⟨e3, e4, e5, rfl⟩ := hi
      rw [List.length_map, List.take_length]
      walk_at "gs"
      exact rt_P q
end
end K43


set_option Elab.async false
set_option linter.all false
set_option maxRecDepth 100000
set_option maxHeartbeats 4000000
namespace K43
open PySem PySem.Spec PyProof.Rows L2 Evl NdefX SX StX Dl
/-! what is a move, what is a step -/
local macro_rules | `(tactic| walk_at "sr") => `(tactic| first | assumption | (refine Wd.Sr.vw ?_; walk_at "sr") | (refine Wd.Sr.own ?_; walk_at "sr") | (refine Wd.Sr.lp ?_; walk_at "sr"))
local macro_rules | `(tactic| walk_at "d1") => `(tactic| first
  | with_reducible refine wn_seq ?_
  | with_reducible refine wn_ret ?_
  | with_reducible refine wn_retN ?_
  | with_reducible refine wn_next ?_
  | with_reducible refine wn_cont ?_
  | with_reducible refine wn_break ?_
  | with_reducible refine wn_asg ?_
  | with_reducible refine wn_asgG ?_
  | with_reducible refine wn_drop ?_
  | ((with_reducible refine we_varX ?d ?hv ?_); (case hv => exact rfl))
  | with_reducible refine we_c ?_
  | with_reducible refine we_op ?_
  | with_reducible refine we_un ?_
  | with_reducible refine we_if ?_
  | with_reducible refine we_tup ?_
  | with_reducible refine we_lst ?_
  | with_reducible refine we_tl ?_
  | with_reducible refine we_slT ?_
  | with_reducible refine we_slL ?_
  | with_reducible refine we_revL ?_
  | with_reducible refine we_chain ?_
  | with_reducible refine we_andV ?_
  | with_reducible refine we_orV ?_
  | with_reducible refine we_notV ?_
  | with_reducible refine we_dget ?_
  | with_reducible refine we_din ?_
  | with_reducible refine we_dnin ?_
  | with_reducible refine we_dget2 ?_
  | with_reducible refine we_joined ?_
  | with_reducible refine we_fmt ?_
  | with_reducible refine wj_nil ?_
  | with_reducible refine wj_cons ?_
  | with_reducible refine we_call ?_
  | ((with_reducible refine we_pickX ?dd ?ll ?hs ?_); (case hs => walk_at "sr"))
  | with_reducible refine we_cb ?_
  | with_reducible refine wa_nil ?_
  | with_reducible refine wa_cons ?_
  | with_reducible refine wo_none ?_
  | with_reducible refine wo_some ?_
  | with_reducible refine wt_yes ?_
  | with_reducible refine wt_test ?_
  | with_reducible refine wt_B ?_
  | with_reducible refine wt_not ?_
  | with_reducible refine wt_and ?_
  | with_reducible refine wt_or ?_
  | with_reducible refine wt_truK ?_
  | with_reducible refine w2_I0 ⟨_, _, rfl, rfl, ?_⟩
  | with_reducible refine w2_eqI ⟨_, _, rfl, rfl, ?_⟩
  | with_reducible refine w2_eqS ⟨_, _, rfl, rfl, ?_⟩
  | with_reducible refine w2_neI ⟨_, _, rfl, rfl, ?_⟩
  | with_reducible refine w2_neS ⟨_, _, rfl, rfl, ?_⟩
  | with_reducible refine w2_adS ?_
  | with_reducible refine w2_isN ?_
  | with_reducible refine w2_notN ?_
  | ((with_reducible refine w2_inBX ?_); (refine ⟨_, rfl, ?_⟩))
  | with_reducible refine w2_inS ?_
  | ((with_reducible refine w2_ixL ?_); (refine ⟨_, _, _, rfl, rfl, rfl, ?_⟩))
  | ((with_reducible refine w2_ixT ?_); (refine ⟨_, _, _, rfl, rfl, rfl, ?_⟩))
  | ((with_reducible refine w2_ixL ?_); (refine ⟨_, _, _, rfl, rfl, atI_nat (j := 0) rfl, ?_⟩))
  | ((with_reducible refine w2_ixT ?_); (refine ⟨_, _, _, rfl, rfl, atI_nat (j := 0) rfl, ?_⟩))
  | with_reducible refine w2_ixL ?_
  | with_reducible refine w2_ixT ?_
  | ((with_reducible refine w2_cat ?_); (refine ⟨_, _, rfl, rfl, ?_⟩))
  | ((with_reducible refine w2_catT ?_); (refine ⟨_, _, rfl, rfl, (fun z => nomatch z), ?_⟩))
  | with_reducible refine w2_catT ?_
  | with_reducible refine w2_rep ?_
  | ((with_reducible refine wc_len ?_); (refine ⟨_, _, rfl, .inl rfl, ?_⟩))
  | ((with_reducible refine wc_len ?_); (refine ⟨_, _, rfl, .inr rfl, ?_⟩))
  | ((with_reducible refine wc_list ?_); (refine ⟨_, _, rfl, .inl rfl, ?_⟩))
  | ((with_reducible refine wc_list ?_); (refine ⟨_, _, rfl, .inr rfl, ?_⟩))
  | ((with_reducible refine wc_tup ?_); (refine ⟨_, _, rfl, .inl rfl, ?_⟩))
  | ((with_reducible refine wc_tup ?_); (refine ⟨_, _, rfl, .inr rfl, ?_⟩))
  | ((with_reducible refine wc_lenS ?_); (refine ⟨_, rfl, ?_⟩))
  | ((with_reducible refine wc_lenD ?_); (refine ⟨_, rfl, ?_⟩))
  | with_reducible refine w2_ixS ?_
  | with_reducible refine w2_inC ?_
  | with_reducible refine w2_ninC ?_
  | with_reducible refine wc_sum ?_
  | with_reducible refine wc_max ?_
  | with_reducible refine wc_min ?_
  | with_reducible refine wc_all ?_
  | with_reducible refine wc_any ?_
  | ((with_reducible refine wc_isi2 ?_); (refine ⟨_, _, _, _, rfl, rfl, rfl, ?_⟩))
  | with_reducible refine wc_int ⟨_, rfl, ?_⟩
  | with_reducible refine wc_abs ⟨_, rfl, ?_⟩
  | with_reducible refine wi_list ?_
  | with_reducible refine wi_tup ?_
  | with_reducible refine wi_rng1 ?_
  | with_reducible refine wi_rng2 ?_
  | with_reducible refine wi_enum ?_
  | with_reducible refine wi_zip ?_
  | with_reducible refine wi_str ?_
  | ((refine if_true_of ?hh ?_); (case hh => rfl))
  | ((refine if_false_of ?hh ?_); (case hh => rfl))
  | refine ⟨_, _, _, rfl, rfl, look_m, ?_⟩
  | refine ⟨_, _, _, rfl, rfl, look_s, ?_⟩
  | refine ⟨_, _, _, rfl, rfl, look_v, ?_⟩
  | refine ⟨Nat.le_of_ble_eq_true rfl, ?_⟩
  | refine ⟨_, rfl, ?_⟩
  | refine ⟨_, _, rfl, ?_⟩)
local macro_rules | `(tactic| walk_at "gs") => `(tactic| repeat walk_at "d1")
local macro_rules | `(tactic| walk_at "go") => `(tactic| repeat (first | walk_at "d1" | with_reducible refine wn_if ?_))

/-- kinds that isinstance is asked of -/
def tyK : Da → Bool
  | .non => true
  | .bl _ => true
  | .int _ => true
  | .str _ => true
  | .lst _ => true
  | .tup _ => true
  | _ => false
theorem tyK_pl : ∀ {d : Da}, plD d = true → tyK d = true
  | .non, _ => rfl
  | .int _, _ => rfl
  | .str _, _ => rfl
  | .lst _, _ => rfl
  | .tup _, _ => rfl
  | .bl _, _ => rfl
  | .ty b, h => by cases h
  | .adr b, h => by cases h
  | .ext b, h => by cases h
  | .dct a, h => by cases h
  | .dtt a, h => by cases h
theorem op_hasB {X : Cx} {P : Program} {w : World} {K : PySem.W.Frag} {mg : Str → Option Value} {base : Heap} {CX : CXT} {k : Nat} {f : Addr} {fd : FuncData} {ps : List Str} {sp : Sp} {E : XK} (F : FnOk P w K mg base CX k f fd ps sp) (hr : Room k X.A) (hb : Binds K fd ps []) (hx : Passes CX X E) (h1 : X.prog = P := by rfl) (h2 : X.w = w := by rfl) (h3 : X.K = K := by rfl) (h4 : X.mg = mg := by rfl) (h5 : X.base = base := by rfl) : OpR X (compareOp .In) (rHas K f sp E id) := by
  subst h1 h2 h3 h4 h5
  exact op_has F hr hb hx
theorem strs_of : ∀ {ns : List Da}, (∀ n ∈ ns, ∃ z, n = .str z) → ∃ zs : List Str, ns = zs.map .str
  | [], _ => ⟨[], rfl⟩
  | n :: t, h => by
    obtain ⟨z, rfl⟩ := h n List.mem_cons_self
    obtain ⟨zs, rfl⟩ := strs_of fun n hn => h n (List.mem_cons_of_mem _ hn)
    exact ⟨z :: zs, rfl⟩
structure MIn (d : Da) : Prop where
  k : tyK d = true
  a : ∀ a b c, d = .tup [a, b, c] → (plD a = true ∧ dpD a ≤ 50) ∧ (plD b = true ∧ dpD b ≤ 50) ∧ tyK c = true ∧ ∀ ns, c = .tup ns → ns.length ≤ 1000 ∧ ∀ n ∈ ns, ∃ z, n = .str z
structure SIn (d : Da) : Prop where
  k : tyK d = true
  a : ∀ a b c, d = .tup [a, b, c] → ((plD a = true ∧ dpD a ≤ 50) ∨ ∃ t, a = .bl t) ∧ tyK b = true ∧ tyK c = true ∧ ∀ ms, c = .tup ms → ms.length ≤ 50 ∧ ∀ m ∈ ms, MIn m
def IsM (us : List (List Nat)) (os : List Dop) (d : Da) : Prop := ∃ m, OkM us os m ∧ d = mvDa us m
def stDa (us : List (List Nat)) (k : Nat) (t : Bool) (ms : List Mv) : Da := .tup [.int (k : Int), .bl t, .tup (ms.map (mvDa us))]
def IsS (us : List (List Nat)) (os : List Dop) (many : Nat) (d : Da) : Prop := ∃ k t ms, k < many ∧ (∀ m ∈ ms, OkM us os m) ∧ d = stDa us k t ms
def arDa (os : List Dop) : List (Key × Da) := os.map fun o => (Sum.inr (S o.1), .int (o.2.1 : Int))
def nbB (many : Nat) : Da → Bool
  | .int i => decide (0 ≤ i ∧ i < (many : Int))
  | _ => false
section
variable {us : List (List Nat)} {os : List Dop}
theorem look_ar {z : Str} {y : Da} (h : look (arDa os) (Sum.inr z) = some y) : ∃ o ∈ os, z = S o.1 ∧ y = .int (o.2.1 : Int) := by
  obtain ⟨o, ho, e⟩ := List.mem_map.mp (look_mem h)
  cases e
  exact ⟨o, ho, rfl, rfl⟩
theorem look_arn {z : Str} (h : look (arDa os) (Sum.inr z) = none) : ∀ o ∈ os, z ≠ S o.1 := fun o ho e => by
  unfold look at h
  rw [Option.map_eq_none_iff] at h
  have := List.find?_eq_none.mp h (Sum.inr (S o.1), .int (o.2.1 : Int)) (List.mem_map.mpr ⟨o, ho, rfl⟩)
  exact this (decide_eq_true (by rw [e]))
theorem op_inj (g : GoodW us os) {o o' : Dop} (h : o ∈ os) (h' : o' ∈ os) (e : S o.1 = S o'.1) : o = o' := by
  obtain ⟨i, hi, rfl⟩ := List.mem_iff_getElem.mp h
  obtain ⟨j, hj, rfl⟩ := List.mem_iff_getElem.mp h'
  have e := S_inj e
  have nd := g.sd
  have pw := List.pairwise_iff_getElem.mp nd
  have hi2 : i < (os.map (·.1)).length := by rw [List.length_map]; exact hi
  have hj2 : j < (os.map (·.1)).length := by rw [List.length_map]; exact hj
  have e2 : (os.map (·.1))[i] = (os.map (·.1))[j] := by rw [List.getElem_map, List.getElem_map]; exact e
  rcases Nat.lt_trichotomy i j with h | h | h
  · exact absurd e2 (pw i j hi2 hj2 h)
  · subst h; rfl
  · exact absurd e2.symm (pw j i hj2 hi2 h)
theorem rw_inj (nd : us.Nodup) : ∀ {r r' : List Nat}, (∀ x ∈ r, x < us.length) → (∀ x ∈ r', x < us.length) → rwDa us r = rwDa us r' → r = r'
  | [], [], _, _, _ => rfl
  | [], b :: t, _, _, h => by cases h
  | a :: t, [], _, _, h => by cases h
  | a :: t, b :: t', h1, h2, h => by
    have h : Da.str (mS us a) :: rwDa us t = Da.str (mS us b) :: rwDa us t' := h
    injection h with ha ht
    injection ha with ha
    rw [mS_inj nd (h1 a List.mem_cons_self) (h2 b List.mem_cons_self) ha, rw_inj nd (fun x hx => h1 x (List.mem_cons_of_mem _ hx)) (fun x hx => h2 x (List.mem_cons_of_mem _ hx)) ht]
theorem mv_inj (g : GoodW us os) {m m' : Mv} (h : OkM us os m) (h' : OkM us os m') (e : mvDa us m = mvDa us m') : m = m' := by
  obtain ⟨o, pl, row⟩ := m
  obtain ⟨o', pl', row'⟩ := m'
  unfold mvDa at e
  injection e with e
  injection e with e1 e
  injection e with e2 e
  injection e with e3 e
  injection e1 with e1
  injection e2 with e2
  injection e3 with e3
  have e1 := op_inj g h.o h'.o e1
  have e3 := rw_inj g.nd h.r h'.r e3
  have e2 : pl = pl' := by
    have e2 : (pl : Int) = (pl' : Int) := e2
    omega
  dsimp only at e1 e3
  rw [e1, e2, e3]
theorem mvs_inj (g : GoodW us os) : ∀ {ms ms' : List Mv}, (∀ m ∈ ms, OkM us os m) → (∀ m ∈ ms', OkM us os m) → ms.map (mvDa us) = ms'.map (mvDa us) → ms = ms'
  | [], [], _, _, _ => rfl
  | [], b :: t, _, _, h => by cases h
  | a :: t, [], _, _, h => by cases h
  | a :: t, b :: t', h1, h2, h => by
    rw [List.map_cons, List.map_cons] at h
    injection h with ha ht
    rw [mv_inj g (h1 a List.mem_cons_self) (h2 b List.mem_cons_self) ha, mvs_inj g (fun x hx => h1 x (List.mem_cons_of_mem _ hx)) (fun x hx => h2 x (List.mem_cons_of_mem _ hx)) ht]
end
theorem isM_all {us : List (List Nat)} {os : List Dop} : ∀ {ms : List Da}, (∀ x ∈ ms, IsM us os x) → ∃ mv : List Mv, (∀ m ∈ mv, OkM us os m) ∧ ms = mv.map (mvDa us)
  | [], _ => ⟨[], fun _ h => (by cases h), rfl⟩
  | x :: t, h => by
    obtain ⟨m, om, rfl⟩ := h x List.mem_cons_self
    obtain ⟨mv, hm, rfl⟩ := isM_all fun y hy => h y (List.mem_cons_of_mem _ hy)
    refine ⟨m :: mv, fun y hy => ?_, rfl⟩
    rcases List.mem_cons.mp hy with rfl | hy
    · exact om
    · exact hm y hy
section
variable {W : Wd} {K : PySem.W.Frag} {Φ : Da → Prop}
theorem wc_isT {xs : List Da} (f : ∃ y, xs = [y, .ty "tuple"] ∧ tyK y = true ∧ ∀ b : Bool, (b = true ↔ ∃ ds, y = .tup ds) → Φ (.bl b)) : WC W (rIsi K) xs Φ := by
  obtain ⟨y, rfl, k, f⟩ := f
  cases y with
  | tup ds => exact wc_isi2 ⟨_, _, _, true, rfl, rfl, rfl, f true (iff_of_true rfl ⟨_, rfl⟩)⟩
  | non => exact wc_isi2 ⟨_, _, _, false, rfl, rfl, rfl, f false (iff_of_false (by decide) fun ⟨_, h⟩ => by cases h)⟩
  | bl _ => exact wc_isi2 ⟨_, _, _, false, rfl, rfl, rfl, f false (iff_of_false (by decide) fun ⟨_, h⟩ => by cases h)⟩
  | int _ => exact wc_isi2 ⟨_, _, _, false, rfl, rfl, rfl, f false (iff_of_false (by decide) fun ⟨_, h⟩ => by cases h)⟩
  | str _ => exact wc_isi2 ⟨_, _, _, false, rfl, rfl, rfl, f false (iff_of_false (by decide) fun ⟨_, h⟩ => by cases h)⟩
  | lst _ => exact wc_isi2 ⟨_, _, _, false, rfl, rfl, rfl, f false (iff_of_false (by decide) fun ⟨_, h⟩ => by cases h)⟩
  | _ => cases k
theorem wc_isS {xs : List Da} (f : ∃ y, xs = [y, .ty "str"] ∧ tyK y = true ∧ ∀ b : Bool, (b = true ↔ ∃ ds, y = .str ds) → Φ (.bl b)) : WC W (rIsi K) xs Φ := by
  obtain ⟨y, rfl, k, f⟩ := f
  cases y with
  | str ds => exact wc_isi2 ⟨_, _, _, true, rfl, rfl, rfl, f true (iff_of_true rfl ⟨_, rfl⟩)⟩
  | non => exact wc_isi2 ⟨_, _, _, false, rfl, rfl, rfl, f false (iff_of_false (by decide) fun ⟨_, h⟩ => by cases h)⟩
  | bl _ => exact wc_isi2 ⟨_, _, _, false, rfl, rfl, rfl, f false (iff_of_false (by decide) fun ⟨_, h⟩ => by cases h)⟩
  | int _ => exact wc_isi2 ⟨_, _, _, false, rfl, rfl, rfl, f false (iff_of_false (by decide) fun ⟨_, h⟩ => by cases h)⟩
  | tup _ => exact wc_isi2 ⟨_, _, _, false, rfl, rfl, rfl, f false (iff_of_false (by decide) fun ⟨_, h⟩ => by cases h)⟩
  | lst _ => exact wc_isi2 ⟨_, _, _, false, rfl, rfl, rfl, f false (iff_of_false (by decide) fun ⟨_, h⟩ => by cases h)⟩
  | _ => cases k
theorem wc_isB {xs : List Da} (f : ∃ y, xs = [y, .ty "bool"] ∧ tyK y = true ∧ ∀ b : Bool, (b = true ↔ ∃ ds, y = .bl ds) → Φ (.bl b)) : WC W (rIsi K) xs Φ := by
  obtain ⟨y, rfl, k, f⟩ := f
  cases y with
  | bl ds => exact wc_isi2 ⟨_, _, _, true, rfl, rfl, rfl, f true (iff_of_true rfl ⟨_, rfl⟩)⟩
  | non => exact wc_isi2 ⟨_, _, _, false, rfl, rfl, rfl, f false (iff_of_false (by decide) fun ⟨_, h⟩ => by cases h)⟩
  | str _ => exact wc_isi2 ⟨_, _, _, false, rfl, rfl, rfl, f false (iff_of_false (by decide) fun ⟨_, h⟩ => by cases h)⟩
  | int _ => exact wc_isi2 ⟨_, _, _, false, rfl, rfl, rfl, f false (iff_of_false (by decide) fun ⟨_, h⟩ => by cases h)⟩
  | tup _ => exact wc_isi2 ⟨_, _, _, false, rfl, rfl, rfl, f false (iff_of_false (by decide) fun ⟨_, h⟩ => by cases h)⟩
  | lst _ => exact wc_isi2 ⟨_, _, _, false, rfl, rfl, rfl, f false (iff_of_false (by decide) fun ⟨_, h⟩ => by cases h)⟩
  | _ => cases k
end
section
variable {P : Program} {w : World} {K : PySem.W.Frag} {mg : Str → Option Value} {base : Heap} {C Cc Cm Cs : Addr}
def PNb (ds : List Da) (d : Da) : Prop := ∃ (many : Nat) (x : Da), tyK x = true ∧ ds = [.int (many : Int), x] ∧ d = .bl (nbB many x)
abbrev s__is_number_below : Stmt := top 30
abbrev N__is_number_below : List Str := ["many", "thing"]
theorem sc__is_number_below : FnScope N__is_number_below ["many", "thing"] (defScope s__is_number_below) := ⟨rfl, rfl, rfl, by decide +kernel, rfl, by decide +kernel, by decide +kernel⟩
theorem ok_nb {f : Addr} {fd : FuncData} (F : Fun K "_is_number_below" "_is_number_below" s__is_number_below f fd) (T : Blt mg) : FnOk P w K mg base CX0 1 f fd ["many", "thing"] (spP PNb) := by
  refine F.ok sc__is_number_below (fun vs H Q E h => ?_) (fun cdv A outer s H vs Q E hr h => ?_)
  · obtain ⟨X, ds, d, al, r, ⟨many, x, _, rfl, _⟩, q⟩ := h
    exact r.len
  · obtain ⟨X, ds, d, al, r, ⟨many, x, kx, rfl, rfl⟩, q⟩ := h
    refine ⟨_, (pss_one (ps_ret (pe_and (pe_callB (call_isiK' K) (by rfl) T.isinstance (by decide +kernel) (pa_cons (pv 1) (pa_cons (pe_bty (n := "int") (by rfl) T.int (by decide +kernel)) pa_nil))) (pe_and (pe_not (pe_callB (call_isiK' K) (by rfl) T.isinstance (by decide +kernel) (pa_cons (pv 1) (pa_cons (pe_bty (n := "bool") (by rfl) T.bool (by decide +kernel)) pa_nil)))) (pe_one (pe_chain op_le op_lt (pe_int) (pv 1) (pv 0))))))), ?_⟩
    refine wn_start (W := wdP H X) [.da (.int (many : Int)), .da x] rfl rfl trivial al r ?_
    have fin : ∀ b : Bool, b = nbB many x → Rt (wdP H X) Q (.bl b) := fun b e => by subst e; exact rt_P q
    cases x with
    | int i =>
      walk_at "gs"
      by_cases h0 : 0 ≤ i
      · refine if_true_of (decide_eq_true h0) ?_
        walk_at "gs"
        refine fin _ ?_
        show decide _ = decide _
        rw [decide_eq_decide]
        exact ⟨fun h => ⟨h0, h⟩, fun h => h.2⟩
      · refine if_false_of (decide_eq_false h0) ?_
        refine fin _ ?_
        show false = decide _
        exact (decide_eq_false fun h => h0 h.1).symm
    | non => walk_at "gs"; exact fin _ rfl
    | bl _ => walk_at "gs"; exact fin _ rfl
    | str _ => walk_at "gs"; exact fin _ rfl
    | lst _ => walk_at "gs"; exact fin _ rfl
    | tup _ => walk_at "gs"; exact fin _ rfl
    | _ => cases kx
def PIm (C : Addr) (ds : List Da) (d : Da) : Prop := ∃ us os x, ∃ b : Bool, GoodW us os ∧ MIn x ∧ (b = true ↔ IsM us os x) ∧ ds = [alDa C (us.map S) (os.map (opS us)), .dct (arDa os), x] ∧ d = .bl b
abbrev s__is_move : Stmt := top 29
abbrev N__is_move : List Str := ["algebra", "arities", "thing", "sign", "place", "others", "name"]
theorem sc__is_move : FnScope N__is_move ["algebra", "arities", "thing"] (defScope s__is_move) := ⟨rfl, rfl, rfl, by decide +kernel, rfl, by decide +kernel, by decide +kernel⟩
theorem ok_im {f fa : Addr} {fd fh : FuncData} (F : Fun K "_is_move" "_is_move" s__is_move f fd) (T : Blt mg) (c : AlgC K C) (mh : Meth K C "__contains__" fa) (F_has : FnOk P w K mg base CX0 1 fa fh ["self", "name"] (spP (PHas C))) (b_has : Binds K fh ["self", "name"] []) (c__is_number_below : Cal P w K mg base 1 "_is_number_below" ["many", "thing"] (spP PNb)) : FnOk P w K mg base CX0 2 f fd ["algebra", "arities", "thing"] (spP (PIm C)) := by
  refine F.ok sc__is_move (fun vs H Q E h => ?_) (fun cdv A outer s H vs Q E hr h => ?_)
  · obtain ⟨X, ds, d, al, r, ⟨us, os, x, b, _, _, _, rfl, _⟩, q⟩ := h
    exact r.len
  · obtain ⟨X, ds, d, al, r, ⟨us, os, x, b0, gd, mi, hb0, rfl, rfl⟩, q⟩ := h
    have hu := hu_of hr
    have hu64 := hu64_of hr
    refine ⟨_, (pss_cons (ps_if (PW.pt (pw_or (pt_not (pt_val (pe_callB (call_isiK' K) (by rfl) T.isinstance (by decide +kernel) (pa_cons (pv 2) (pa_cons (pe_bty (n := "tuple") (by rfl) T.tuple (by decide +kernel)) pa_nil))))) (pw_or1 (pt_cmpR op_ne (pe_callB (call_lenK K) (by rfl) T.len (by decide +kernel) (pa_cons (pv 2) pa_nil)) (pe_int) (nomark _))))) (pss_one (ps_ret (pe_bl))) pss_nil)
      (pss_cons (ps_asg (pv 2) (pg_tup rfl (pgs_cons (pg_name (i := 3) sc__is_move.nd rfl (Or.inl rfl)) (pgs_cons (pg_name (i := 4) sc__is_move.nd rfl (Or.inl rfl)) (pgs_cons (pg_name (i := 5) sc__is_move.nd rfl (Or.inl rfl)) pgs_nil)))))
      (pss_cons (ps_if (PW.pt (pw_or (pt_not (pt_val (pe_callB (call_isiK' K) (by rfl) T.isinstance (by decide +kernel) (pa_cons (pv 3) (pa_cons (pe_bty (n := "str") (by rfl) T.str (by decide +kernel)) pa_nil))))) (pw_or (pt_cmp (pc_dnotin hu (pv 3) (pv 1))) (pw_or1 (pt_not (pt_val (pe_cal c__is_number_below (hr.mono (by decide)) (by rfl) (pa_cons (pe_dget hu (pv 1) (pv 3) (fun _ _ => rfl)) (pa_cons (pv 4) pa_nil))))))))) (pss_one (ps_ret (pe_bl))) pss_nil)
      (pss_cons (ps_if (PW.pt (pw_or (pt_not (pt_val (pe_callB (call_isiK' K) (by rfl) T.isinstance (by decide +kernel) (pa_cons (pv 5) (pa_cons (pe_bty (n := "tuple") (by rfl) T.tuple (by decide +kernel)) pa_nil))))) (pw_or1 (pt_cmpR op_ne (pe_callB (call_lenK K) (by rfl) T.len (by decide +kernel) (pa_cons (pv 5) pa_nil)) (pe_op op_sub (pe_dget hu (pv 1) (pv 3) (fun _ _ => rfl)) (pe_int)) (nomark _))))) (pss_one (ps_ret (pe_bl))) pss_nil)
      (pss_one (ps_ret (pe_callB (cr_allK K rfl) (by rfl) T.all (by decide +kernel) (pa_cons (pe_lc (own := [("name", 6)]) (g := gName 6) (by rfl) sc__is_move.nd (pi_tup (pv 5)) (blkOk_by (own := [("name", 6)]) (N := N__is_move) (sc := defScope s__is_move) (by decide +kernel)) (fun _ _ _ _ _ => pg_name (i := 6) sc__is_move.nd rfl (Or.inl rfl)) (fun _ _ _ _ _ => pts_nil) (fun _ _ _ _ _ => pe_cmpR (op_hasB F_has (hr.mono (by decide)) b_has pass0) (pv 6) (pv 0) rfl)) pa_nil)))))))), ?_⟩
    refine wn_start (W := wdP H X) [.da (alDa C (us.map S) (os.map (opS us))), .da (.dct (arDa os)), .da x, .un, .un, .un, .un] rfl rfl trivial al r ?_
    have yes : IsM us os x → Rt (wdP H X) Q (.bl true) := fun h => by rw [hb0.mpr h] at q; exact rt_P q
    have no : ¬ IsM us os x → Rt (wdP H X) Q (.bl false) := fun h => by rw [show b0 = false from Bool.eq_false_iff.mpr fun z => h (hb0.mp z)] at q; exact rt_P q
    walk_at "d1"
    with_reducible refine wn_if ?_
    walk_at "gs"
    refine wc_isT ⟨_, rfl, mi.k, fun bT hT => ?_⟩
    refine ⟨_, rfl, ?_⟩
    cases bT with
    | false =>
      refine if_true_of rfl ?_
      walk_at "gs"
      exact no fun ⟨m, _, e⟩ => absurd (hT.mpr ⟨_, e⟩) (by decide)
    | true =>
      obtain ⟨ds, rfl⟩ := hT.mp rfl
      refine if_false_of rfl ?_
      walk_at "gs"
      by_cases l3 : ds.length = 3
      · refine if_false_of (by rw [l3]; rfl) ?_
        obtain ⟨a, b, c', rfl⟩ : ∃ a b c', ds = [a, b, c'] := by
          match ds, l3 with
          | [a, b, c'], _ => exact ⟨a, b, c', rfl⟩
        obtain ⟨⟨pa, da⟩, ⟨pb, db⟩, kc, hn⟩ := mi.a a b c' rfl
        walk_at "gs"
        refine wn_asgG (S := [3, 4, 5]) (we_varX _ rfl ?_)
        refine wg_tup ⟨_, rfl, rfl, wgs_cons ⟨_, _, rfl, wg_name (wgs_cons ⟨_, _, rfl, wg_name (wgs_cons ⟨_, _, rfl, wg_name (wgs_nil rfl ?_)⟩)⟩)⟩⟩
        walk_at "d1"
        with_reducible refine wn_if ?_
        walk_at "gs"
        refine wc_isS ⟨_, rfl, tyK_pl pa, fun bS hS => ?_⟩
        refine ⟨_, rfl, ?_⟩
        cases bS with
        | false =>
          refine if_true_of rfl (if_true_of rfl ?_)
          walk_at "gs"
          exact no fun ⟨m, _, e⟩ => absurd (hS.mpr ⟨S m.o.1, by injection e with e; injection e⟩) (by decide)
        | true =>
          obtain ⟨z, rfl⟩ := hS.mp rfl
          refine if_false_of rfl ?_
          walk_at "gs"
          refine ⟨_, Sum.inr z, rfl, rfl, _, rfl, ?_⟩
          cases hl : look (arDa os) (Sum.inr z) with
          | none =>
            refine if_true_of rfl (if_true_of rfl ?_)
            walk_at "gs"
            exact no fun ⟨m, om, e⟩ => look_arn hl m.o om.o (by injection e with e; injection e with e _; injection e)
          | some y =>
            obtain ⟨o, ho, rfl, rfl⟩ := look_ar hl
            refine if_false_of rfl ?_
            walk_at "gs"
            refine ⟨_, _, _, rfl, rfl, hl, ?_⟩
            walk_at "gs"
            refine ⟨_, ⟨o.2.1, b, tyK_pl pb, rfl, rfl⟩, _, rfl, ?_⟩
            cases hnb : nbB o.2.1 b with
            | false =>
              refine if_true_of rfl ?_
              walk_at "gs"
              exact no fun ⟨m, om, e⟩ => by
                injection e with e
                injection e with e1 e
                injection e with e2 e
                injection e1 with e1
                subst e2
                have := op_inj gd ho om.o e1
                subst this
                have : nbB m.o.2.1 (.int (m.pl : Int)) = true := decide_eq_true ⟨by omega, by have := om.pl; omega⟩
                rw [this] at hnb
                cases hnb
            | true =>
              refine if_false_of rfl ?_
              obtain ⟨i, rfl⟩ : ∃ i, b = .int i := by cases b <;> first | exact ⟨_, rfl⟩ | (cases hnb)
              obtain ⟨i0, i1⟩ := of_decide_eq_true hnb
              walk_at "gs"
              with_reducible refine wn_if ?_
              walk_at "gs"
              refine wc_isT ⟨_, rfl, kc, fun bC hC => ?_⟩
              refine ⟨_, rfl, ?_⟩
              cases bC with
              | false =>
                refine if_true_of rfl (if_true_of rfl ?_)
                walk_at "gs"
                exact no fun ⟨m, _, e⟩ => absurd (hC.mpr ⟨rwDa us m.row, by injection e with e; injection e with _ e; injection e with _ e; injection e⟩) (by decide)
              | true =>
                obtain ⟨ns, rfl⟩ := hC.mp rfl
                obtain ⟨ln, hs⟩ := hn ns rfl
                refine if_false_of rfl ?_
                walk_at "gs"
                refine ⟨_, _, _, rfl, rfl, hl, ?_⟩
                walk_at "gs"
                by_cases le : ns.length = o.2.1 - 1
                · refine if_false_of (by rw [Bool.not_eq_false', decide_eq_true_eq]; omega) ?_
                  walk_at "gs"
                  obtain ⟨zs, rfl⟩ : ∃ zs : List Str, ns = zs.map .str := strs_of hs
                  have lz : zs.length ≤ 1000 := by rw [List.length_map] at ln; exact ln
                  refine (ww_lcT (S := [6]) (by decide) (wi_tup (we_varX _ rfl ?_))).e
                  refine ⟨_, rfl, Str, zs, .str, fun z => .bl (decide (z ∈ us.map S)), rfl, Nat.le_trans lz (by decide), fun z2 D hz => wg_name ?_, ?_⟩
                  · walk_at "gs"
                    refine w2_has mh ⟨_, _, _, rfl, ⟨_, _, z2, ndS gd.nd, rfl, rfl⟩, rfl⟩
                  walk_at "gs"
                  refine ⟨zs.map fun z => decide (z ∈ us.map S), by rw [List.map_map]; rfl, ?_⟩
                  rw [List.length_map] at le
                  by_cases ha : ∀ z ∈ zs, z ∈ us.map S
                  · rw [show (zs.map fun z => decide (z ∈ us.map S)).all id = true from List.all_eq_true.mpr fun b hb => by
                      obtain ⟨z, hz, rfl⟩ := List.mem_map.mp hb
                      exact decide_eq_true (ha z hz)]
                    refine yes ⟨⟨o, i.toNat, zs.map fun z => (us.map S).idxOf z⟩, ⟨ho, (by have i1' : i < (o.2.1 : Int) := i1; show i.toNat < o.2.1; omega), by show (zs.map _).length = _; rw [List.length_map]; exact le, fun x hx => ?_⟩, ?_⟩
                    · obtain ⟨z, hz, rfl⟩ := List.mem_map.mp hx
                      exact (idx_mS (ha z hz)).1
                    · show Da.tup [.str (S o.1), .int i, .tup (zs.map .str)] = .tup [.str (S o.1), .int (i.toNat : Int), .tup (rwDa us (zs.map fun z => (us.map S).idxOf z))]
                      have e1 : ((i.toNat : Nat) : Int) = i := by omega
                      have e2 : rwDa us (zs.map fun z => (us.map S).idxOf z) = zs.map .str := by
                        unfold rwDa
                        rw [List.map_map]
                        refine List.map_congr_left fun z hz => ?_
                        show Da.str (mS us ((us.map S).idxOf z)) = _
                        rw [(idx_mS (ha z hz)).2]
                      rw [e1, e2]
                  · rw [show (zs.map fun z => decide (z ∈ us.map S)).all id = false from by
                      rw [← Bool.not_eq_true]
                      exact fun h => ha fun z hz => of_decide_eq_true (List.all_eq_true.mp h _ (List.mem_map.mpr ⟨z, hz, rfl⟩))]
                    refine no fun ⟨m, om, e⟩ => ha fun z hz => ?_
                    injection e with e
                    injection e with e1 e
                    injection e with e2 e
                    injection e with e3 e
                    injection e3 with e3
                    have hz2 : Da.str z ∈ rwDa us m.row := e3 ▸ List.mem_map.mpr ⟨z, hz, rfl⟩
                    obtain ⟨x, hx, ex⟩ := List.mem_map.mp hz2
                    injection ex with ex
                    rw [← ex]
                    exact mS_mem (om.r x hx)
                · refine if_true_of (by rw [Bool.not_eq_true', decide_eq_false_iff_not]; omega) ?_
                  walk_at "gs"
                  exact no fun ⟨m, om, e⟩ => le (by
                    injection e with e
                    injection e with e1 e
                    injection e with e2 e
                    injection e with e3 e
                    injection e1 with e1
                    injection e3 with e3
                    have := op_inj gd ho om.o e1
                    rw [e3, rw_len, om.l, this])
      · refine if_true_of (by simp; omega) ?_
        walk_at "gs"
        exact no fun ⟨m, _, e⟩ => l3 (by injection e with e; rw [e]; rfl)
def PIs2 (C : Addr) (ds : List Da) (d : Da) : Prop := ∃ us os many x, ∃ b : Bool, GoodW us os ∧ SIn x ∧ (b = true ↔ IsS us os many x) ∧ ds = [alDa C (us.map S) (os.map (opS us)), .int (many : Int), x] ∧ d = .bl b
abbrev s__is_step : Stmt := top 28
abbrev N__is_step : List Str := ["algebra", "many", "thing", "number", "turned", "moves", "arities", "sign", "arity", "move"]
theorem sc__is_step : FnScope N__is_step ["algebra", "many", "thing"] (defScope s__is_step) := ⟨rfl, rfl, rfl, by decide +kernel, rfl, by decide +kernel, by decide +kernel⟩
theorem ok_is2 {f : Addr} {fd : FuncData} (F : Fun K "_is_step" "_is_step" s__is_step f fd) (T : Blt mg) (c : AlgC K C) (c__is_number_below : Cal P w K mg base 1 "_is_number_below" ["many", "thing"] (spP PNb)) (c__is_move : Cal P w K mg base 2 "_is_move" ["algebra", "arities", "thing"] (spP (PIm C))) : FnOk P w K mg base CX0 3 f fd ["algebra", "many", "thing"] (spP (PIs2 C)) := by
  refine F.ok sc__is_step (fun vs H Q E h => ?_) (fun cdv A outer s H vs Q E hr h => ?_)
  · obtain ⟨X, ds, d, al, r, ⟨us, os, many, x, b, _, _, _, rfl, _⟩, q⟩ := h
    exact r.len
  · obtain ⟨X, ds, d, al, r, ⟨us, os, many, x, b0, gd, si, hb0, rfl, rfl⟩, q⟩ := h
    have hu := hu_of hr
    refine ⟨_, (pss_cons (ps_if (PW.pt (pw_or (pt_not (pt_val (pe_callB (call_isiK' K) (by rfl) T.isinstance (by decide +kernel) (pa_cons (pv 2) (pa_cons (pe_bty (n := "tuple") (by rfl) T.tuple (by decide +kernel)) pa_nil))))) (pw_or1 (pt_cmpR op_ne (pe_callB (call_lenK K) (by rfl) T.len (by decide +kernel) (pa_cons (pv 2) pa_nil)) (pe_int) (nomark _))))) (pss_one (ps_ret (pe_bl))) pss_nil)
      (pss_cons (ps_asg (pv 2) (pg_tup rfl (pgs_cons (pg_name (i := 3) sc__is_step.nd rfl (Or.inl rfl)) (pgs_cons (pg_name (i := 4) sc__is_step.nd rfl (Or.inl rfl)) (pgs_cons (pg_name (i := 5) sc__is_step.nd rfl (Or.inl rfl)) pgs_nil)))))
      (pss_cons (ps_if (PW.pt (pw_or (pt_not (pt_val (pe_cal c__is_number_below (hr.mono (by decide)) (by rfl) (pa_cons (pv 1) (pa_cons (pv 3) pa_nil))))) (pw_or (pt_not (pt_val (pe_callB (call_isiK' K) (by rfl) T.isinstance (by decide +kernel) (pa_cons (pv 4) (pa_cons (pe_bty (n := "bool") (by rfl) T.bool (by decide +kernel)) pa_nil))))) (pw_or1 (pt_not (pt_val (pe_callB (call_isiK' K) (by rfl) T.isinstance (by decide +kernel) (pa_cons (pv 5) (pa_cons (pe_bty (n := "tuple") (by rfl) T.tuple (by decide +kernel)) pa_nil))))))))) (pss_one (ps_ret (pe_bl))) pss_nil)
      (pss_cons (ps_set (i := 6) sc__is_step.nd rfl (Or.inr rfl) (pe_dc (own := [("sign", 7), ("arity", 8)]) (g := gTup K 2 (gCons (gName 7) (gCons (gName 8) gNil))) (by rfl) sc__is_step.nd (pi_tup (pe_fld (pv 0) rfl)) (blkOk_by (own := [("sign", 7), ("arity", 8)]) (N := N__is_step) (sc := defScope s__is_step) (by decide +kernel)) (fun _ _ _ _ _ => by exact pg_tup rfl (pgs_cons (pg_name (i := 7) sc__is_step.nd rfl (Or.inl rfl)) (pgs_cons (pg_name (i := 8) sc__is_step.nd rfl (Or.inl rfl)) pgs_nil))) (fun _ _ _ _ _ => pts_nil) (fun _ _ _ _ _ => pv 7) (fun _ _ _ _ _ => pv 8)))
      (pss_one (ps_ret (pe_callB (cr_allK K rfl) (by rfl) T.all (by decide +kernel) (pa_cons (pe_lc (own := [("move", 9)]) (g := gName 9) (by rfl) sc__is_step.nd (pi_tup (pv 5)) (blkOk_by (own := [("move", 9)]) (N := N__is_step) (sc := defScope s__is_step) (by decide +kernel)) (fun _ _ _ _ _ => pg_name (i := 9) sc__is_step.nd rfl (Or.inl rfl)) (fun _ _ _ _ _ => pts_nil) (fun _ _ _ _ _ => pe_cal c__is_move (hr.mono (by decide)) (by rfl) (pa_cons (pv 0) (pa_cons (pv 6) (pa_cons (pv 9) pa_nil))))) pa_nil)))))))), ?_⟩
    refine wn_start (W := wdP H X) [.da (alDa C (us.map S) (os.map (opS us))), .da (.int (many : Int)), .da x, .un, .un, .un, .un, .un, .un, .un] rfl rfl trivial al r ?_
    have yes : IsS us os many x → Rt (wdP H X) Q (.bl true) := fun h => by rw [hb0.mpr h] at q; exact rt_P q
    have no : ¬ IsS us os many x → Rt (wdP H X) Q (.bl false) := fun h => by rw [show b0 = false from Bool.eq_false_iff.mpr fun z => h (hb0.mp z)] at q; exact rt_P q
    walk_at "d1"
    with_reducible refine wn_if ?_
    walk_at "gs"
    refine wc_isT ⟨_, rfl, si.k, fun bT hT => ?_⟩
    refine ⟨_, rfl, ?_⟩
    cases bT with
    | false =>
      refine if_true_of rfl ?_
      walk_at "gs"
      exact no fun ⟨k, t, ms, _, _, e⟩ => absurd (hT.mpr ⟨_, e⟩) (by decide)
    | true =>
      obtain ⟨ds, rfl⟩ := hT.mp rfl
      refine if_false_of rfl ?_
      walk_at "gs"
      by_cases l3 : ds.length = 3
      · refine if_false_of (by rw [l3]; rfl) ?_
        obtain ⟨a, b, c', rfl⟩ : ∃ a b c', ds = [a, b, c'] := by
          match ds, l3 with
          | [a, b, c'], _ => exact ⟨a, b, c', rfl⟩
        obtain ⟨pa, kb, kc, hn⟩ := si.a a b c' rfl
        have ka : tyK a = true := by
          rcases pa with pa | ⟨t, rfl⟩
          · exact tyK_pl pa.1
          · rfl
        walk_at "gs"
        refine wn_asgG (S := [3, 4, 5]) (we_varX _ rfl ?_)
        refine wg_tup ⟨_, rfl, rfl, wgs_cons ⟨_, _, rfl, wg_name (wgs_cons ⟨_, _, rfl, wg_name (wgs_cons ⟨_, _, rfl, wg_name (wgs_nil rfl ?_)⟩)⟩)⟩⟩
        walk_at "d1"
        with_reducible refine wn_if ?_
        walk_at "gs"
        refine ⟨_, ⟨many, a, ka, rfl, rfl⟩, _, rfl, ?_⟩
        cases hnb : nbB many a with
        | false =>
          refine if_true_of rfl (if_true_of rfl ?_)
          walk_at "gs"
          exact no fun ⟨k, t, ms, hk, _, e⟩ => by
            injection e with e
            injection e with e1 e
            subst e1
            have : nbB many (.int (k : Int)) = true := decide_eq_true ⟨by omega, by omega⟩
            rw [this] at hnb
            cases hnb
        | true =>
          refine if_false_of rfl ?_
          obtain ⟨i, rfl⟩ : ∃ i, a = .int i := by cases a <;> first | exact ⟨_, rfl⟩ | (cases hnb)
          obtain ⟨i0, i1⟩ := of_decide_eq_true hnb
          walk_at "gs"
          refine wc_isB ⟨_, rfl, kb, fun bB hB => ?_⟩
          refine ⟨_, rfl, ?_⟩
          cases bB with
          | false =>
            refine if_true_of rfl (if_true_of rfl ?_)
            walk_at "gs"
            exact no fun ⟨k, t, ms, hk, _, e⟩ => absurd (hB.mpr ⟨t, by injection e with e; injection e with _ e; injection e⟩) (by decide)
          | true =>
            obtain ⟨t, rfl⟩ := hB.mp rfl
            refine if_false_of rfl ?_
            walk_at "gs"
            refine wc_isT ⟨_, rfl, kc, fun bC hC => ?_⟩
            refine ⟨_, rfl, ?_⟩
            cases bC with
            | false =>
              refine if_true_of rfl ?_
              walk_at "gs"
              exact no fun ⟨k, t, ms, hk, _, e⟩ => absurd (hC.mpr ⟨ms.map (mvDa us), by injection e with e; injection e with _ e; injection e with _ e; injection e⟩) (by decide)
            | true =>
              obtain ⟨ms, rfl⟩ := hC.mp rfl
              obtain ⟨lm, hs⟩ := hn ms rfl
              refine if_false_of rfl ?_
              walk_at "gs"
              refine (ww_dcT (S := [7, 8]) (by decide) (wi_tup (we_sig c (we_varX _ rfl ⟨_, _, rfl, ?_⟩)))).e
              have l5 := gd.l
              refine ⟨_, rfl, Dop, os, fun o => .tup [.str (S o.1), .int (o.2.1 : Int)], fun o => .int (o.2.1 : Int), fun o => Sum.inr (S o.1), by rw [List.map_map]; rfl, by omega, ?_, fun o D ho => ?_, ?_⟩
              · have z : (os.map fun o => (Sum.inr (S o.1) : Key)) = (os.map (·.1)).map fun u => Sum.inr (S u) := by rw [List.map_map]; rfl
                rw [z]
                exact List.Pairwise.map _ (fun a b hab h => hab (S_inj (Sum.inr.inj h))) gd.sd
              · refine wg_tup ⟨_, rfl, rfl, wgs_cons ⟨_, _, rfl, wg_name (wgs_cons ⟨_, _, rfl, wg_name (wgs_nil rfl ?_)⟩)⟩⟩
                walk_at "gs"
                refine ⟨rfl, ?_⟩
                walk_at "gs"
                rfl
              walk_at "gs"
              refine (ww_lcT (S := [9]) (by decide) (wi_tup (we_varX _ rfl ?_))).e
              classical
              refine ⟨_, rfl, Da, ms, id, fun x => .bl (decide (IsM us os x)), (List.map_id _).symm, by omega, fun x D hx => wg_name ?_, ?_⟩
              · walk_at "gs"
                exact ⟨_, ⟨us, os, x, decide (IsM us os x), gd, hs x hx, decide_eq_true_iff, rfl, rfl⟩, rfl⟩
              walk_at "gs"
              refine ⟨ms.map fun x => decide (IsM us os x), by rw [List.map_map]; rfl, ?_⟩
              by_cases ha : ∀ x ∈ ms, IsM us os x
              · rw [show (ms.map fun x => decide (IsM us os x)).all id = true from List.all_eq_true.mpr fun b hb => by
                  obtain ⟨z, hz, rfl⟩ := List.mem_map.mp hb
                  exact decide_eq_true (ha z hz)]
                obtain ⟨mv, hmv, rfl⟩ := isM_all ha
                refine yes ⟨i.toNat, t, mv, by omega, hmv, ?_⟩
                unfold stDa
                rw [show ((i.toNat : Nat) : Int) = i from by omega]
              · rw [show (ms.map fun x => decide (IsM us os x)).all id = false from by
                  rw [← Bool.not_eq_true]
                  exact fun h => ha fun z hz => of_decide_eq_true (List.all_eq_true.mp h _ (List.mem_map.mpr ⟨z, hz, rfl⟩))]
                refine no fun ⟨k, t, mv, hk, hmv, e⟩ => ha fun x hx => ?_
                injection e with e
                injection e with e1 e
                injection e with e2 e
                injection e with e3 e
                injection e3 with e3
                rw [e3] at hx
                obtain ⟨m, hm, rfl⟩ := List.mem_map.mp hx
                exact ⟨m, hmv m hm, rfl⟩
      · refine if_true_of (by simp; omega) ?_
        walk_at "gs"
        exact no fun ⟨k, t, ms, _, _, e⟩ => l3 (by injection e with e; rw [e]; rfl)
end
end K43


set_option Elab.async false
set_option linter.all false
set_option maxRecDepth 100000
set_option maxHeartbeats 4000000
namespace K43
open PySem PySem.Spec PyProof.Rows L2 Evl NdefX SX StX Dl
/-! pairs and ends known, a chain judged -/
local macro_rules | `(tactic| walk_at "sr") => `(tactic| first | assumption | (refine Wd.Sr.vw ?_; walk_at "sr") | (refine Wd.Sr.own ?_; walk_at "sr") | (refine Wd.Sr.lp ?_; walk_at "sr"))
local macro_rules | `(tactic| walk_at "d1") => `(tactic| first
  | with_reducible refine wn_seq ?_
  | with_reducible refine wn_ret ?_
  | with_reducible refine wn_retN ?_
  | with_reducible refine wn_next ?_
  | with_reducible refine wn_cont ?_
  | with_reducible refine wn_break ?_
  | with_reducible refine wn_asg ?_
  | with_reducible refine wn_asgG ?_
  | with_reducible refine wn_drop ?_
  | ((with_reducible refine we_varX ?d ?hv ?_); (case hv => exact rfl))
  | with_reducible refine we_c ?_
  | with_reducible refine we_op ?_
  | with_reducible refine we_un ?_
  | with_reducible refine we_if ?_
  | with_reducible refine we_tup ?_
  | with_reducible refine we_lst ?_
  | with_reducible refine we_tl ?_
  | with_reducible refine we_slT ?_
  | with_reducible refine we_slL ?_
  | with_reducible refine we_revL ?_
  | with_reducible refine we_chain ?_
  | with_reducible refine we_andV ?_
  | with_reducible refine we_orV ?_
  | with_reducible refine we_notV ?_
  | with_reducible refine we_dget ?_
  | with_reducible refine we_din ?_
  | with_reducible refine we_dnin ?_
  | with_reducible refine we_dget2 ?_
  | with_reducible refine we_joined ?_
  | with_reducible refine we_fmt ?_
  | with_reducible refine wj_nil ?_
  | with_reducible refine wj_cons ?_
  | with_reducible refine we_call ?_
  | ((with_reducible refine we_pickX ?dd ?ll ?hs ?_); (case hs => walk_at "sr"))
  | with_reducible refine we_cb ?_
  | with_reducible refine wa_nil ?_
  | with_reducible refine wa_cons ?_
  | with_reducible refine wo_none ?_
  | with_reducible refine wo_some ?_
  | with_reducible refine wt_yes ?_
  | with_reducible refine wt_test ?_
  | with_reducible refine wt_B ?_
  | with_reducible refine wt_not ?_
  | with_reducible refine wt_and ?_
  | with_reducible refine wt_or ?_
  | with_reducible refine wt_truK ?_
  | with_reducible refine w2_I0 ⟨_, _, rfl, rfl, ?_⟩
  | with_reducible refine w2_eqI ⟨_, _, rfl, rfl, ?_⟩
  | with_reducible refine w2_eqS ⟨_, _, rfl, rfl, ?_⟩
  | with_reducible refine w2_neI ⟨_, _, rfl, rfl, ?_⟩
  | with_reducible refine w2_neS ⟨_, _, rfl, rfl, ?_⟩
  | with_reducible refine w2_adS ?_
  | with_reducible refine w2_isN ?_
  | with_reducible refine w2_notN ?_
  | ((with_reducible refine w2_inBX ?_); (refine ⟨_, rfl, ?_⟩))
  | with_reducible refine w2_inS ?_
  | ((with_reducible refine w2_ixL ?_); (refine ⟨_, _, _, rfl, rfl, rfl, ?_⟩))
  | ((with_reducible refine w2_ixT ?_); (refine ⟨_, _, _, rfl, rfl, rfl, ?_⟩))
  | ((with_reducible refine w2_ixL ?_); (refine ⟨_, _, _, rfl, rfl, atI_nat (j := 0) rfl, ?_⟩))
  | ((with_reducible refine w2_ixT ?_); (refine ⟨_, _, _, rfl, rfl, atI_nat (j := 0) rfl, ?_⟩))
  | with_reducible refine w2_ixL ?_
  | with_reducible refine w2_ixT ?_
  | ((with_reducible refine w2_cat ?_); (refine ⟨_, _, rfl, rfl, ?_⟩))
  | ((with_reducible refine w2_catT ?_); (refine ⟨_, _, rfl, rfl, (fun z => nomatch z), ?_⟩))
  | with_reducible refine w2_catT ?_
  | with_reducible refine w2_rep ?_
  | ((with_reducible refine wc_len ?_); (refine ⟨_, _, rfl, .inl rfl, ?_⟩))
  | ((with_reducible refine wc_len ?_); (refine ⟨_, _, rfl, .inr rfl, ?_⟩))
  | ((with_reducible refine wc_list ?_); (refine ⟨_, _, rfl, .inl rfl, ?_⟩))
  | ((with_reducible refine wc_list ?_); (refine ⟨_, _, rfl, .inr rfl, ?_⟩))
  | ((with_reducible refine wc_tup ?_); (refine ⟨_, _, rfl, .inl rfl, ?_⟩))
  | ((with_reducible refine wc_tup ?_); (refine ⟨_, _, rfl, .inr rfl, ?_⟩))
  | ((with_reducible refine wc_lenS ?_); (refine ⟨_, rfl, ?_⟩))
  | ((with_reducible refine wc_lenD ?_); (refine ⟨_, rfl, ?_⟩))
  | with_reducible refine w2_ixS ?_
  | with_reducible refine w2_inC ?_
  | with_reducible refine w2_ninC ?_
  | with_reducible refine wc_sum ?_
  | with_reducible refine wc_max ?_
  | with_reducible refine wc_min ?_
  | with_reducible refine wc_all ?_
  | with_reducible refine wc_any ?_
  | ((with_reducible refine wc_isi2 ?_); (refine ⟨_, _, _, _, rfl, rfl, rfl, ?_⟩))
  | with_reducible refine wc_int ⟨_, rfl, ?_⟩
  | with_reducible refine wc_abs ⟨_, rfl, ?_⟩
  | with_reducible refine wi_list ?_
  | with_reducible refine wi_tup ?_
  | with_reducible refine wi_rng1 ?_
  | with_reducible refine wi_rng2 ?_
  | with_reducible refine wi_enum ?_
  | with_reducible refine wi_zip ?_
  | with_reducible refine wi_str ?_
  | ((refine if_true_of ?hh ?_); (case hh => rfl))
  | ((refine if_false_of ?hh ?_); (case hh => rfl))
  | refine ⟨_, _, _, rfl, rfl, look_m, ?_⟩
  | refine ⟨_, _, _, rfl, rfl, look_s, ?_⟩
  | refine ⟨_, _, _, rfl, rfl, look_v, ?_⟩
  | refine ⟨Nat.le_of_ble_eq_true rfl, ?_⟩
  | refine ⟨_, rfl, ?_⟩
  | refine ⟨_, _, rfl, ?_⟩)
local macro_rules | `(tactic| walk_at "gs") => `(tactic| repeat walk_at "d1")
local macro_rules | `(tactic| walk_at "go") => `(tactic| repeat (first | walk_at "d1" | with_reducible refine wn_if ?_))

local macro_rules | `(tactic| walk_at "d1") => `(tactic| first | with_reducible refine wn_par ?_)
def prS (p : Str × Str) : Da := .tup [.str p.1, .str p.2]
def flatP (ps : List (Str × Str)) : List Str := ps.flatMap fun p => [p.1, p.2]
def prDa (us : List (List Nat)) (p : Nat × Nat) : Da := .tup [.str (mS us p.1), .str (mS us p.2)]
def seN (n : Nat) (prs : List (Nat × Nat)) (k : Nat) (t : Bool) (ms : List Mv) : Nat × Nat :=
  if t = true then (mvsV n ms (prs.getD k (0, 0)).2, mvsV n ms (prs.getD k (0, 0)).1) else (mvsV n ms (prs.getD k (0, 0)).1, mvsV n ms (prs.getD k (0, 0)).2)
open Classical in
/-- the ends of a step -/
noncomputable def endsOf (us : List (List Nat)) (os : List Dop) (prs : List (Nat × Nat)) (d : Da) : Option (Nat × Nat) :=
  if h : ∃ p, ∃ k t ms, k < prs.length ∧ (∀ m ∈ ms, OkM us os m) ∧ d = stDa us k t ms ∧ p = seN us.length prs k t ms then some h.choose else none
noncomputable def dueS (us : List (List Nat)) (os : List Dop) (prs : List (Nat × Nat)) (last : Nat) : Nat → Nat → List Da → Option Nat
  | k, here, [] => if here = last then none else some k
  | k, here, d :: r => match endsOf us os prs d with
    | none => some k
    | some (a, b) => if a = here then dueS us os prs last (k + 1) b r else some k
def optDa : Option Nat → Da
  | none => .non
  | some k => .int (k : Int)
def plcP (us : List (List Nat)) (ps : List (Str × Str)) : List (Nat × Nat) := ps.map fun p => ((us.map S).idxOf p.1, (us.map S).idxOf p.2)
section
variable {us : List (List Nat)} {os : List Dop} {prs : List (Nat × Nat)}
theorem st_inj (g : GoodW us os) {k k' : Nat} {t t' : Bool} {ms ms' : List Mv} (h : ∀ m ∈ ms, OkM us os m) (h' : ∀ m ∈ ms', OkM us os m) (e : stDa us k t ms = stDa us k' t' ms') : k = k' ∧ t = t' ∧ ms = ms' := by
  unfold stDa at e
  injection e with e
  injection e with e1 e
  injection e with e2 e
  injection e with e3 e
  injection e1 with e1
  injection e2 with e2
  injection e3 with e3
  refine ⟨?_, e2, mvs_inj g h h' e3⟩
  have e1 : (k : Int) = (k' : Int) := e1
  omega
theorem ends_ok (g : GoodW us os) {k : Nat} {t : Bool} {ms : List Mv} (hk : k < prs.length) (hm : ∀ m ∈ ms, OkM us os m) : endsOf us os prs (stDa us k t ms) = some (seN us.length prs k t ms) := by
  have h : ∃ p, ∃ k' t' ms', k' < prs.length ∧ (∀ m ∈ ms', OkM us os m) ∧ stDa us k t ms = stDa us k' t' ms' ∧ p = seN us.length prs k' t' ms' := ⟨_, k, t, ms, hk, hm, rfl, rfl⟩
  unfold endsOf
  rw [dif_pos h]
  obtain ⟨k', t', ms', h1, h2, h3, h4⟩ := h.choose_spec
  obtain ⟨rfl, rfl, rfl⟩ := st_inj g hm h2 h3
  exact congrArg some h4
theorem ends_no {d : Da} (h : ¬ IsS us os prs.length d) : endsOf us os prs d = none := dif_neg fun ⟨_, k, t, ms, h1, h2, h3, _⟩ => h ⟨k, t, ms, h1, h2, h3⟩
theorem getD_mem {k : Nat} (h : k < prs.length) : prs.getD k (0, 0) ∈ prs := by
  rw [List.getD_eq_getElem?_getD, List.getElem?_eq_getElem h]
  exact List.getElem_mem h
theorem seN_lt (g : GoodW us os) (hp : ∀ p ∈ prs, p.1 < us.length ∧ p.2 < us.length) {k : Nat} {t : Bool} {ms : List Mv} (hk : k < prs.length) (hm : ∀ m ∈ ms, OkM us os m) : (seN us.length prs k t ms).1 < us.length ∧ (seN us.length prs k t ms).2 < us.length := by
  obtain ⟨h1, h2⟩ := hp _ (getD_mem hk)
  unfold seN
  split
  · exact ⟨mvsV_lt g hm h2, mvsV_lt g hm h1⟩
  · exact ⟨mvsV_lt g hm h1, mvsV_lt g hm h2⟩
theorem plcP_ok {ps : List (Str × Str)} (h : ∀ a ∈ flatP ps, a ∈ us.map S) : (∀ p ∈ plcP us ps, p.1 < us.length ∧ p.2 < us.length) ∧ ps.map prS = (plcP us ps).map (prDa us) := by
  have h1 : ∀ p ∈ ps, p.1 ∈ us.map S ∧ p.2 ∈ us.map S := fun p hp => ⟨h _ (List.mem_flatMap.mpr ⟨p, hp, by simp⟩), h _ (List.mem_flatMap.mpr ⟨p, hp, by simp⟩)⟩
  refine ⟨fun q hq => ?_, ?_⟩
  · obtain ⟨p, hp, rfl⟩ := List.mem_map.mp hq
    exact ⟨(idx_mS (h1 p hp).1).1, (idx_mS (h1 p hp).2).1⟩
  · unfold plcP
    rw [List.map_map]
    refine List.map_congr_left fun p hp => ?_
    show Da.tup [.str p.1, .str p.2] = .tup [.str (mS us ((us.map S).idxOf p.1)), .str (mS us ((us.map S).idxOf p.2))]
    rw [(idx_mS (h1 p hp).1).2, (idx_mS (h1 p hp).2).2]
theorem unkn_app {xs a b : List Str} : unkn xs (a ++ b) = (unkn xs a).or (unkn xs b) := List.find?_append
end
section
variable {P : Program} {w : World} {K : PySem.W.Frag} {mg : Str → Option Value} {base : Heap} {C Cc Cm Cs : Addr}
def PCp (C Cm : Addr) (ds : List Da) (o : Ot) : Prop := ∃ (xs : List Str) (os : List Opn) (ps : List (Str × Str)), xs.Nodup ∧ (∀ a ∈ flatP ps, Wee a) ∧ ds = [alDa C xs os, .lst (ps.map prS)] ∧ o = match unkn xs (flatP ps) with | some a => .ex Cm [("name", .str a)] | none => .ret .non
abbrev s__check_pairs : Stmt := top 23
abbrev N__check_pairs : List Str := ["algebra", "pairs", "pair"]
theorem sc__check_pairs : FnScope N__check_pairs ["algebra", "pairs"] (defScope s__check_pairs) := ⟨rfl, rfl, rfl, by decide +kernel, rfl, by decide +kernel, by decide +kernel⟩
theorem ok_cp {f : Addr} {fd : FuncData} (F : Fun K "_check_pairs" "_check_pairs" s__check_pairs f fd) (T : Blt mg) (c_check_known : Cal P w K mg base 3 "check_known" ["algebra", "names"] (spX (PCk C Cm))) : FnOk P w K mg base (L2.CX P w) 4 f fd ["algebra", "pairs"] (spX (PCp C Cm)) := by
  refine F.okX sc__check_pairs (fun vs H Q E h => ?_) (fun cdv A outer s H vs Q E hr h => ?_)
  · obtain ⟨X, ds, o, al, r, ⟨xs, os, ps, _, _, rfl, _⟩, q⟩ := h
    exact r.len
  · obtain ⟨X, ds, o, al, r, ⟨xs, os, ps, nd, we, rfl, rfl⟩, q⟩ := h
    refine ⟨_, (pss_one (ps_for (passes_of rfl) rfl (pi_list (pv 1)) (pg_name (i := 2) sc__check_pairs.nd rfl (Or.inl rfl)) (pss_one (ps_expr (pe_calE (E := E) c_check_known (hr.mono (by decide)) (by rfl) (passes_call (takes_of rfl rfl rfl rfl) (fun _ _ _ _ z => z)) (pa_cons (pv 0) (pa_cons (pv 2) pa_nil))))))), ?_⟩
    refine wn_start (W := wdP H X) [.da (alDa C xs os), .da (.lst (ps.map prS)), .un] rfl rfl trivial al r ?_
    refine wn_for (S := [2]) (wi_list (we_varX _ rfl ?_))
    refine ⟨_, rfl, ?_⟩
    refine ⟨fun i ρ => ∃ e2, ρ = [.da (alDa C xs os), .da (.lst (ps.map prS)), e2] ∧ unkn xs (flatP (ps.take i)) = none, ⟨.un, rfl, rfl⟩, fun i x ρ' H1 hx hi => ?_, fun ρ' hi => ?_⟩
    · obtain ⟨e2, rfl, no⟩ := hi
      rw [List.getElem?_map, Option.map_eq_some_iff] at hx
      obtain ⟨p, hp, rfl⟩ := hx
      have wp : ∀ a ∈ [p.1, p.2], Wee a := fun a ha => we a (List.mem_flatMap.mpr ⟨p, List.mem_of_getElem? hp, ha⟩)
      have tk : flatP (ps.take (i + 1)) = flatP (ps.take i) ++ [p.1, p.2] := by
        unfold flatP
        rw [List.take_add_one, hp, List.flatMap_append]
        simp
      refine wg_name ?_
      with_reducible refine wn_drop (we_callX (P := PCk C Cm) ?_)
      walk_at "gs"
      cases hun : unkn xs [p.1, p.2] with
      | some a =>
        have ef : unkn xs (flatP ps) = some a := by
          have e : flatP ps = flatP (ps.take (i + 1)) ++ flatP (ps.drop (i + 1)) := by
            unfold flatP
            rw [← List.flatMap_append, List.take_append_drop]
          rw [e, tk, unkn_app, unkn_app, no, hun]
          rfl
        rw [ef] at q
        exact ⟨.ex Cm [("name", .str a)], ⟨_, _, [p.1, p.2], _, nd, wp, .inr rfl, rfl, by rw [hun]⟩, fun H1 k _ => Exc.same q (kp_P (X := X) k)⟩
      | none =>
        refine ⟨.ret .non, ⟨_, _, [p.1, p.2], _, nd, wp, .inr rfl, rfl, by rw [hun]⟩, ?_⟩
        refine wn_to ⟨.da (prS p), rfl, ?_⟩
        rw [tk, unkn_app, no, hun]
        rfl
    · obtain ⟨e2, rfl, no⟩ := hi
      rw [List.length_map, List.take_length] at no
      rw [no] at q
      intro σ H1 s
      exact q _ H1 (kp_P (X := X) s.k0) .non
def PCe (C Cm : Addr) (ds : List Da) (o : Ot) : Prop := ∃ (xs : List Str) (os : List Opn) (ps : List (Str × Str)) (a b : Str), xs.Nodup ∧ (∀ z ∈ flatP ps ++ [a, b], Wee z) ∧ ds = [alDa C xs os, .lst (ps.map prS), .str a, .str b] ∧ o = match unkn xs (flatP ps ++ [a, b]) with | some a => .ex Cm [("name", .str a)] | none => .ret .non
abbrev s__check_ends : Stmt := top 25
abbrev N__check_ends : List Str := ["algebra", "pairs", "first", "second"]
theorem sc__check_ends : FnScope N__check_ends ["algebra", "pairs", "first", "second"] (defScope s__check_ends) := ⟨rfl, rfl, rfl, by decide +kernel, rfl, by decide +kernel, by decide +kernel⟩
theorem ok_ce {f : Addr} {fd : FuncData} (F : Fun K "_check_ends" "_check_ends" s__check_ends f fd) (T : Blt mg) (c_check_known : Cal P w K mg base 3 "check_known" ["algebra", "names"] (spX (PCk C Cm))) (c__check_pairs : Cal P w K mg base 4 "_check_pairs" ["algebra", "pairs"] (spX (PCp C Cm))) : FnOk P w K mg base (L2.CX P w) 5 f fd ["algebra", "pairs", "first", "second"] (spX (PCe C Cm)) := by
  refine F.okX sc__check_ends (fun vs H Q E h => ?_) (fun cdv A outer s H vs Q E hr h => ?_)
  · obtain ⟨X, ds, o, al, r, ⟨xs, os, ps, a, b, _, _, rfl, _⟩, q⟩ := h
    exact r.len
  · obtain ⟨X, ds, o, al, r, ⟨xs, os, ps, a, b, nd, we, rfl, rfl⟩, q⟩ := h
    refine ⟨_, (pss_cons (ps_expr (pe_calE (E := E) c__check_pairs (hr.mono (by decide)) (by rfl) (passes_call (takes_of rfl rfl rfl rfl) (fun _ _ _ _ z => z)) (pa_cons (pv 0) (pa_cons (pv 1) pa_nil))))
      (pss_one (ps_expr (pe_calE (E := E) c_check_known (hr.mono (by decide)) (by rfl) (passes_call (takes_of rfl rfl rfl rfl) (fun _ _ _ _ z => z)) (pa_cons (pv 0) (pa_cons (pe_lst (pa_cons (pv 2) (pa_cons (pv 3) pa_nil))) pa_nil)))))), ?_⟩
    refine wn_start (W := wdP H X) [.da (alDa C xs os), .da (.lst (ps.map prS)), .da (.str a), .da (.str b)] rfl rfl trivial al r ?_
    rw [unkn_app] at q
    walk_at "d1"
    with_reducible refine wn_drop (we_callX (P := PCp C Cm) ?_)
    walk_at "gs"
    cases hun : unkn xs (flatP ps) with
    | some z =>
      rw [hun] at q
      exact ⟨.ex Cm [("name", .str z)], ⟨_, _, ps, nd, fun x hx => we x (List.mem_append_left _ hx), rfl, by rw [hun]⟩, fun H1 k _ => Exc.same q (kp_P (X := X) k)⟩
    | none =>
      rw [hun, Option.none_or] at q
      refine ⟨.ret .non, ⟨_, _, ps, nd, fun x hx => we x (List.mem_append_left _ hx), rfl, by rw [hun]⟩, ?_⟩
      dsimp only
      with_reducible refine wn_drop (we_callX (P := PCk C Cm) ?_)
      walk_at "gs"
      cases hun2 : unkn xs [a, b] with
      | some z =>
        rw [hun2] at q
        exact ⟨.ex Cm [("name", .str z)], ⟨_, _, [a, b], _, nd, fun x hx => we x (List.mem_append_right _ hx), .inl rfl, rfl, by rw [hun2]⟩, fun H1 k _ => Exc.same q (kp_P (X := X) k)⟩
      | none =>
        rw [hun2] at q
        refine ⟨.ret .non, ⟨_, _, [a, b], _, nd, fun x hx => we x (List.mem_append_right _ hx), .inl rfl, rfl, by rw [hun2]⟩, ?_⟩
        dsimp only
        intro σ H1 s
        exact q _ H1 (kp_P (X := X) s.k0) .non
def PSe (C : Addr) (ds : List Da) (d : Da) : Prop := ∃ us os prs k t ms, GoodW us os ∧ (∀ p ∈ prs, p.1 < us.length ∧ p.2 < us.length) ∧ k < prs.length ∧ (∀ m ∈ ms, OkM us os m) ∧ ds = [alDa C (us.map S) (os.map (opS us)), .lst (prs.map (prDa us)), stDa us k t ms] ∧ d = prDa us (seN us.length prs k t ms)
abbrev s__step_ends : Stmt := top 27
abbrev N__step_ends : List Str := ["algebra", "pairs", "step", "number", "turned", "moves", "one", "two"]
theorem sc__step_ends : FnScope N__step_ends ["algebra", "pairs", "step"] (defScope s__step_ends) := ⟨rfl, rfl, rfl, by decide +kernel, rfl, by decide +kernel, by decide +kernel⟩
theorem ok_se {f : Addr} {fd : FuncData} (F : Fun K "_step_ends" "_step_ends" s__step_ends f fd) (T : Blt mg) (c__moved : Cal P w K mg base 4 "_moved" ["algebra", "name", "moves"] (spP (PMo C))) : FnOk P w K mg base CX0 5 f fd ["algebra", "pairs", "step"] (spP (PSe C)) := by
  refine F.ok sc__step_ends (fun vs H Q E h => ?_) (fun cdv A outer s H vs Q E hr h => ?_)
  · obtain ⟨X, ds, d, al, r, ⟨us, os, prs, k, t, ms, _, _, _, _, rfl, _⟩, q⟩ := h
    exact r.len
  · obtain ⟨X, ds, d, al, r, ⟨us, os, prs, k, t, ms, gd, hp, hk, hm, rfl, rfl⟩, q⟩ := h
    refine ⟨_, (pss_cons (ps_asg (pv 2) (pg_tup rfl (pgs_cons (pg_name (i := 3) sc__step_ends.nd rfl (Or.inl rfl)) (pgs_cons (pg_name (i := 4) sc__step_ends.nd rfl (Or.inl rfl)) (pgs_cons (pg_name (i := 5) sc__step_ends.nd rfl (Or.inl rfl)) pgs_nil)))))
      (pss_cons (ps_asg (pe_ix (ix_listK K) (pv 1) (pv 3) (fun _ _ => rfl)) (pg_tup rfl (pgs_cons (pg_name (i := 6) sc__step_ends.nd rfl (Or.inl rfl)) (pgs_cons (pg_name (i := 7) sc__step_ends.nd rfl (Or.inl rfl)) pgs_nil))))
      (pss_cons (ps_if (pt_val (pv 4)) (pss_one (ps_par (i := 6) (j := 7) (by rfl) sc__step_ends.nd rfl rfl (by decide) rfl rfl (pa_cons (pv 7) (pa_cons (pv 6) pa_nil)) (by rfl))) pss_nil)
      (pss_one (ps_ret (pe_tup (pa_cons (pe_cal c__moved (hr.mono (by decide)) (by rfl) (pa_cons (pv 0) (pa_cons (pv 6) (pa_cons (pv 5) pa_nil)))) (pa_cons (pe_cal c__moved (hr.mono (by decide)) (by rfl) (pa_cons (pv 0) (pa_cons (pv 7) (pa_cons (pv 5) pa_nil)))) pa_nil)))))))), ?_⟩
    refine wn_start (W := wdP H X) [.da (alDa C (us.map S) (os.map (opS us))), .da (.lst (prs.map (prDa us))), .da (stDa us k t ms), .un, .un, .un, .un, .un] rfl rfl trivial al r ?_
    have eg : (prs.map (prDa us))[k]? = some (prDa us (prs.getD k (0, 0))) := by
      rw [List.getElem?_map, List.getD_eq_getElem?_getD, List.getElem?_eq_getElem hk]
      rfl
    obtain ⟨h1, h2⟩ := hp _ (getD_mem hk)
    unfold seN at q
    generalize prs.getD k (0, 0) = p at eg h1 h2 q
    walk_at "gs"
    refine wn_asgG (S := [3, 4, 5]) (we_varX _ rfl ?_)
    refine wg_tup ⟨_, rfl, rfl, wgs_cons ⟨_, _, rfl, wg_name (wgs_cons ⟨_, _, rfl, wg_name (wgs_cons ⟨_, _, rfl, wg_name (wgs_nil rfl ?_)⟩)⟩)⟩⟩
    walk_at "gs"
    refine wn_asgG (S := [6, 7]) (we_op (we_varX _ rfl (we_varX _ rfl (w2_ixL ⟨_, _, _, rfl, rfl, atI_nat eg, ?_⟩))))
    refine wg_tup ⟨_, rfl, rfl, wgs_cons ⟨_, _, rfl, wg_name (wgs_cons ⟨_, _, rfl, wg_name (wgs_nil rfl ?_)⟩)⟩⟩
    walk_at "d1"
    with_reducible refine wn_if ?_
    cases t with
    | true =>
      walk_at "gs"
      refine ⟨_, ⟨us, os, ms, p.2, gd, hm, h2, rfl, rfl⟩, ?_⟩
      walk_at "gs"
      refine ⟨_, ⟨us, os, ms, p.1, gd, hm, h1, rfl, rfl⟩, ?_⟩
      walk_at "gs"
      exact rt_P q
    | false =>
      walk_at "gs"
      refine ⟨_, ⟨us, os, ms, p.1, gd, hm, h1, rfl, rfl⟩, ?_⟩
      walk_at "gs"
      refine ⟨_, ⟨us, os, ms, p.2, gd, hm, h2, rfl, rfl⟩, ?_⟩
      walk_at "gs"
      exact rt_P q
def PJc (C Cm : Addr) (ds : List Da) (o : Ot) : Prop := ∃ us os ps a b sts y, GoodW us os ∧ (∀ z ∈ flatP ps ++ [a, b], Wee z) ∧ ps.length ≤ 100 ∧ (∀ d ∈ sts, SIn d) ∧ sts.length ≤ 100 ∧ (y = .lst sts ∨ y = .tup sts) ∧ ds = [alDa C (us.map S) (os.map (opS us)), .lst (ps.map prS), .str a, .str b, y] ∧
  o = match unkn (us.map S) (flatP ps ++ [a, b]) with | some z => .ex Cm [("name", .str z)] | none => .ret (optDa (dueS us os (plcP us ps) ((us.map S).idxOf b) 0 ((us.map S).idxOf a) sts))
abbrev s_judge_chain : Stmt := top 26
abbrev N_judge_chain : List Str := ["algebra", "pairs", "first", "second", "steps", "reached", "number", "step", "start", "end"]
theorem sc_judge_chain : FnScope N_judge_chain ["algebra", "pairs", "first", "second", "steps"] (defScope s_judge_chain) := ⟨rfl, rfl, rfl, by decide +kernel, rfl, by decide +kernel, by decide +kernel⟩
theorem ok_jc {f : Addr} {fd : FuncData} (F : Fun K "judge_chain" "judge_chain" s_judge_chain f fd) (T : Blt mg) (c__check_ends : Cal P w K mg base 5 "_check_ends" ["algebra", "pairs", "first", "second"] (spX (PCe C Cm))) (c__is_step : Cal P w K mg base 3 "_is_step" ["algebra", "many", "thing"] (spP (PIs2 C))) (c__step_ends : Cal P w K mg base 5 "_step_ends" ["algebra", "pairs", "step"] (spP (PSe C))) : FnOk P w K mg base (L2.CX P w) 6 f fd ["algebra", "pairs", "first", "second", "steps"] (spX (PJc C Cm)) := by
  refine F.okX sc_judge_chain (fun vs H Q E h => ?_) (fun cdv A outer s H vs Q E hr h => ?_)
  · obtain ⟨X, ds, o, al, r, ⟨us, os, ps, a, b, sts, y, _, _, _, _, _, _, rfl, _⟩, q⟩ := h
    exact r.len
  · obtain ⟨X, ds, o, al, r, ⟨us, os, ps, a, b, sts, y, gd, we, lp, si, ls, ey, rfl, rfl⟩, q⟩ := h
    have hu := hu_of hr
    refine ⟨_, (pss_cons (ps_expr (pe_calE (E := E) c__check_ends (hr.mono (by decide)) (by rfl) (passes_call (takes_of rfl rfl rfl rfl) (fun _ _ _ _ z => z)) (pa_cons (pv 0) (pa_cons (pv 1) (pa_cons (pv 2) (pa_cons (pv 3) pa_nil))))))
      (pss_cons (ps_set (i := 5) sc_judge_chain.nd rfl (Or.inl rfl) (pv 2))
      (pss_cons (ps_for (passes_of rfl) rfl (by exact Ep.pi_enA K (by rfl) T.enumerate (pa_cons (pv 4) pa_nil)) (pg_tup rfl (pgs_cons (pg_name (i := 6) sc_judge_chain.nd rfl (Or.inl rfl)) (pgs_cons (pg_name (i := 7) sc_judge_chain.nd rfl (Or.inl rfl)) pgs_nil))) (pss_cons (ps_if (pt_not (pt_val (pe_cal c__is_step (hr.mono (by decide)) (by rfl) (pa_cons (pv 0) (pa_cons (pe_callB (call_lenK K) (by rfl) T.len (by decide +kernel) (pa_cons (pv 1) pa_nil)) (pa_cons (pv 7) pa_nil)))))) (pss_one (ps_ret (pv 6))) pss_nil)
      (pss_cons (ps_asg (pe_cal c__step_ends (hr.mono (by decide)) (by rfl) (pa_cons (pv 0) (pa_cons (pv 1) (pa_cons (pv 7) pa_nil)))) (pg_tup rfl (pgs_cons (pg_name (i := 8) sc_judge_chain.nd rfl (Or.inl rfl)) (pgs_cons (pg_name (i := 9) sc_judge_chain.nd rfl (Or.inl rfl)) pgs_nil))))
      (pss_cons (ps_if (pt_cmpR op_ne (pv 8) (pv 5) (nomark _)) (pss_one (ps_ret (pv 6))) pss_nil)
      (pss_one (ps_set (i := 5) sc_judge_chain.nd rfl (Or.inl rfl) (pv 9)))))))
      (pss_one (ps_ret (pe_ifExp (pt_cmpR op_eq (pv 5) (pv 3) (nomark _)) (pe_non) (pe_callB (call_lenK K) (by rfl) T.len (by decide +kernel) (pa_cons (pv 4) pa_nil)))))))), ?_⟩
    refine wn_start (W := wdP H X) [.da (alDa C (us.map S) (os.map (opS us))), .da (.lst (ps.map prS)), .da (.str a), .da (.str b), .da y, .un, .un, .un, .un, .un] rfl rfl trivial al r ?_
    walk_at "d1"
    with_reducible refine wn_drop (we_callX (P := PCe C Cm) ?_)
    walk_at "gs"
    cases hun : unkn (us.map S) (flatP ps ++ [a, b]) with
    | some z =>
      rw [hun] at q
      exact ⟨.ex Cm [("name", .str z)], ⟨_, _, ps, a, b, ndS gd.nd, we, rfl, by rw [hun]⟩, fun H1 k _ => Exc.same q (kp_P (X := X) k)⟩
    | none =>
      rw [hun] at q
      refine ⟨.ret .non, ⟨_, _, ps, a, b, ndS gd.nd, we, rfl, by rw [hun]⟩, ?_⟩
      dsimp only
      have mem : ∀ z ∈ flatP ps ++ [a, b], z ∈ us.map S := fun z hz => Classical.byContradiction fun c => List.find?_eq_none.mp hun z hz (decide_eq_true c)
      obtain ⟨hpr, epr⟩ := plcP_ok fun z hz => mem z (List.mem_append_left _ hz)
      obtain ⟨ha, ea⟩ := idx_mS (mem a (by simp))
      obtain ⟨hb, eb⟩ := idx_mS (mem b (by simp))
      have lpr : (plcP us ps).length = ps.length := List.length_map _
      rw [epr, ← ea, ← eb]
      generalize plcP us ps = prs at *
      generalize (us.map S).idxOf a = ia at *
      generalize (us.map S).idxOf b = ib at *
      have q : ∀ d, d = optDa (dueS us os prs ib 0 ia sts) → ∀ v H', Same H H' → Rp X H' v d → Q v H' := fun d e => by subst e; exact q
      walk_at "gs"
      refine wn_for (S := [6, 7]) (wi_enA ?_)
      refine wa_cons (we_varX _ rfl (wa_nil ⟨_, _, rfl, ey, ?_⟩))
      refine ⟨fun i ρ => ∃ here e6 e7 e8 e9, ρ = [.da (alDa C (us.map S) (os.map (opS us))), .da (.lst (prs.map (prDa us))), .da (.str (mS us ia)), .da (.str (mS us ib)), .da y, .da (.str (mS us here)), e6, e7, e8, e9] ∧ here < us.length ∧ dueS us os prs ib 0 ia sts = dueS us os prs ib i here (sts.drop i), ⟨ia, .un, .un, .un, .un, rfl, ha, rfl⟩, fun i x ρ' H1 hx hi => ?_, fun ρ' hi => ?_⟩
      · obtain ⟨here, e6, e7, e8, e9, rfl, hh, ed⟩ := hi
        unfold enD at hx
        rw [List.getElem?_map, Option.map_eq_some_iff] at hx
        obtain ⟨i', hx, rfl⟩ := hx
        obtain ⟨hi, rfl⟩ : i < sts.length ∧ i = i' := by
          obtain ⟨h1, h2⟩ := List.getElem?_eq_some_iff.mp hx
          rw [List.length_range] at h1
          rw [List.getElem_range] at h2
          exact ⟨h1, h2⟩
        have eg : sts.getD i .non = sts[i] := by rw [List.getD_eq_getElem?_getD, List.getElem?_eq_getElem hi]; rfl
        rw [eg]
        have hs := si _ (List.getElem_mem hi)
        rw [List.drop_eq_getElem_cons hi] at ed
        generalize sts[i] = d at hs ed
        refine wg_tup ⟨_, rfl, rfl, wgs_cons ⟨_, _, rfl, wg_name (wgs_cons ⟨_, _, rfl, wg_name (wgs_nil rfl ?_)⟩)⟩⟩
        walk_at "d1"
        with_reducible refine wn_if ?_
        walk_at "gs"
        by_cases hst : IsS us os prs.length d
        · refine ⟨_, ⟨us, os, prs.length, d, true, gd, hs, iff_of_true rfl hst, by rw [List.length_map], rfl⟩, _, rfl, ?_⟩
          refine if_false_of rfl ?_
          obtain ⟨k, t, ms, hk, hm, rfl⟩ := hst
          obtain ⟨s1, s2⟩ := seN_lt (prs := prs) (t := t) gd hpr hk hm
          have ed2 : dueS us os prs ib 0 ia sts = if (seN us.length prs k t ms).1 = here then dueS us os prs ib (i + 1) (seN us.length prs k t ms).2 (sts.drop (i + 1)) else some i := by
            rw [ed]
            show (match endsOf us os prs (stDa us k t ms) with | none => _ | some (a, b) => _) = _
            rw [ends_ok gd hk hm]
          clear ed
          walk_at "gs"
          refine wn_asgG (S := [8, 9]) (we_call (P := PSe C) ?_)
          walk_at "gs"
          refine ⟨_, ⟨us, os, prs, k, t, ms, gd, hpr, hk, hm, rfl, rfl⟩, ?_⟩
          generalize seN us.length prs k t ms = en at *
          refine wg_tup ⟨_, rfl, rfl, wgs_cons ⟨_, _, rfl, wg_name (wgs_cons ⟨_, _, rfl, wg_name (wgs_nil rfl ?_)⟩)⟩⟩
          walk_at "d1"
          with_reducible refine wn_if ?_
          walk_at "gs"
          by_cases ce : en.1 = here
          · refine if_false_of (by rw [ce, decide_eq_true rfl]; rfl) ?_
            walk_at "gs"
            exact wn_to ⟨en.2, _, _, _, _, rfl, s2, by rw [ed2, if_pos ce]⟩
          · refine if_true_of (by rw [decide_eq_false fun z => ce (mS_inj gd.nd s1 hh z)]; rfl) ?_
            walk_at "gs"
            exact rt_P (q _ (by rw [ed2, if_neg ce]; rfl))
        · refine ⟨_, ⟨us, os, prs.length, d, false, gd, hs, iff_of_false (by decide) hst, by rw [List.length_map], rfl⟩, _, rfl, ?_⟩
          refine if_true_of rfl ?_
          walk_at "gs"
          refine rt_P (q _ ?_)
          rw [ed]
          show _ = optDa (match endsOf us os prs d with | none => _ | some (a, b) => _)
          rw [ends_no hst]
          rfl
      · obtain ⟨here, e6, e7, e8, e9, rfl, hh, ed⟩ := hi
        have el : (enD sts).length = sts.length := by unfold enD; rw [List.length_map, List.length_range]
        rw [el, List.drop_length] at ed
        have ed : dueS us os prs ib 0 ia sts = if here = ib then none else some sts.length := ed
        walk_at "gs"
        by_cases ce : here = ib
        · refine if_true_of (by rw [ce, decide_eq_true rfl]) ?_
          walk_at "gs"
          exact rt_P (q _ (by rw [ed, if_pos ce]; rfl))
        · refine if_false_of (decide_eq_false fun z => ce (mS_inj gd.nd hh hb z)) ?_
          walk_at "gs"
          refine wc_len ⟨_, _, rfl, ey, ?_⟩
          exact rt_P (q _ (by rw [ed, if_neg ce]; rfl))
end
end K43


set_option Elab.async false
set_option linter.all false
set_option maxRecDepth 100000
set_option maxHeartbeats 4000000
namespace K43
open PySem PySem.Spec PyProof.Rows L2 Evl NdefX SX StX Dl
/-! the law's own look at a move, a step, a list of steps -/
local macro_rules | `(tactic| walk_at "sr") => `(tactic| first | assumption | (refine Wd.Sr.vw ?_; walk_at "sr") | (refine Wd.Sr.own ?_; walk_at "sr") | (refine Wd.Sr.lp ?_; walk_at "sr"))
local macro_rules | `(tactic| walk_at "d1") => `(tactic| first
  | with_reducible refine wn_seq ?_
  | with_reducible refine wn_ret ?_
  | with_reducible refine wn_retN ?_
  | with_reducible refine wn_next ?_
  | with_reducible refine wn_cont ?_
  | with_reducible refine wn_break ?_
  | with_reducible refine wn_asg ?_
  | with_reducible refine wn_asgG ?_
  | with_reducible refine wn_drop ?_
  | ((with_reducible refine we_varX ?d ?hv ?_); (case hv => exact rfl))
  | with_reducible refine we_c ?_
  | with_reducible refine we_op ?_
  | with_reducible refine we_un ?_
  | with_reducible refine we_if ?_
  | with_reducible refine we_tup ?_
  | with_reducible refine we_lst ?_
  | with_reducible refine we_tl ?_
  | with_reducible refine we_slT ?_
  | with_reducible refine we_slL ?_
  | with_reducible refine we_revL ?_
  | with_reducible refine we_chain ?_
  | with_reducible refine we_andV ?_
  | with_reducible refine we_orV ?_
  | with_reducible refine we_notV ?_
  | with_reducible refine we_dget ?_
  | with_reducible refine we_din ?_
  | with_reducible refine we_dnin ?_
  | with_reducible refine we_dget2 ?_
  | with_reducible refine we_joined ?_
  | with_reducible refine we_fmt ?_
  | with_reducible refine wj_nil ?_
  | with_reducible refine wj_cons ?_
  | with_reducible refine we_call ?_
  | ((with_reducible refine we_pickX ?dd ?ll ?hs ?_); (case hs => walk_at "sr"))
  | with_reducible refine we_cb ?_
  | with_reducible refine wa_nil ?_
  | with_reducible refine wa_cons ?_
  | with_reducible refine wo_none ?_
  | with_reducible refine wo_some ?_
  | with_reducible refine wt_yes ?_
  | with_reducible refine wt_test ?_
  | with_reducible refine wt_B ?_
  | with_reducible refine wt_not ?_
  | with_reducible refine wt_and ?_
  | with_reducible refine wt_or ?_
  | with_reducible refine wt_truK ?_
  | with_reducible refine w2_I0 ⟨_, _, rfl, rfl, ?_⟩
  | with_reducible refine w2_eqI ⟨_, _, rfl, rfl, ?_⟩
  | with_reducible refine w2_eqS ⟨_, _, rfl, rfl, ?_⟩
  | with_reducible refine w2_neI ⟨_, _, rfl, rfl, ?_⟩
  | with_reducible refine w2_neS ⟨_, _, rfl, rfl, ?_⟩
  | with_reducible refine w2_adS ?_
  | with_reducible refine w2_isN ?_
  | with_reducible refine w2_notN ?_
  | ((with_reducible refine w2_inBX ?_); (refine ⟨_, rfl, ?_⟩))
  | with_reducible refine w2_inS ?_
  | ((with_reducible refine w2_ixL ?_); (refine ⟨_, _, _, rfl, rfl, rfl, ?_⟩))
  | ((with_reducible refine w2_ixT ?_); (refine ⟨_, _, _, rfl, rfl, rfl, ?_⟩))
  | ((with_reducible refine w2_ixL ?_); (refine ⟨_, _, _, rfl, rfl, atI_nat (j := 0) rfl, ?_⟩))
  | ((with_reducible refine w2_ixT ?_); (refine ⟨_, _, _, rfl, rfl, atI_nat (j := 0) rfl, ?_⟩))
  | with_reducible refine w2_ixL ?_
  | with_reducible refine w2_ixT ?_
  | ((with_reducible refine w2_cat ?_); (refine ⟨_, _, rfl, rfl, ?_⟩))
  | ((with_reducible refine w2_catT ?_); (refine ⟨_, _, rfl, rfl, (fun z => nomatch z), ?_⟩))
  | with_reducible refine w2_catT ?_
  | with_reducible refine w2_rep ?_
  | ((with_reducible refine wc_len ?_); (refine ⟨_, _, rfl, .inl rfl, ?_⟩))
  | ((with_reducible refine wc_len ?_); (refine ⟨_, _, rfl, .inr rfl, ?_⟩))
  | ((with_reducible refine wc_list ?_); (refine ⟨_, _, rfl, .inl rfl, ?_⟩))
  | ((with_reducible refine wc_list ?_); (refine ⟨_, _, rfl, .inr rfl, ?_⟩))
  | ((with_reducible refine wc_tup ?_); (refine ⟨_, _, rfl, .inl rfl, ?_⟩))
  | ((with_reducible refine wc_tup ?_); (refine ⟨_, _, rfl, .inr rfl, ?_⟩))
  | ((with_reducible refine wc_lenS ?_); (refine ⟨_, rfl, ?_⟩))
  | ((with_reducible refine wc_lenD ?_); (refine ⟨_, rfl, ?_⟩))
  | with_reducible refine w2_ixS ?_
  | with_reducible refine w2_inC ?_
  | with_reducible refine w2_ninC ?_
  | with_reducible refine wc_sum ?_
  | with_reducible refine wc_max ?_
  | with_reducible refine wc_min ?_
  | with_reducible refine wc_all ?_
  | with_reducible refine wc_any ?_
  | ((with_reducible refine wc_isi2 ?_); (refine ⟨_, _, _, _, rfl, rfl, rfl, ?_⟩))
  | with_reducible refine wc_int ⟨_, rfl, ?_⟩
  | with_reducible refine wc_abs ⟨_, rfl, ?_⟩
  | with_reducible refine wi_list ?_
  | with_reducible refine wi_tup ?_
  | with_reducible refine wi_rng1 ?_
  | with_reducible refine wi_rng2 ?_
  | with_reducible refine wi_enum ?_
  | with_reducible refine wi_zip ?_
  | with_reducible refine wi_str ?_
  | ((refine if_true_of ?hh ?_); (case hh => rfl))
  | ((refine if_false_of ?hh ?_); (case hh => rfl))
  | refine ⟨_, _, _, rfl, rfl, look_m, ?_⟩
  | refine ⟨_, _, _, rfl, rfl, look_s, ?_⟩
  | refine ⟨_, _, _, rfl, rfl, look_v, ?_⟩
  | refine ⟨Nat.le_of_ble_eq_true rfl, ?_⟩
  | refine ⟨_, rfl, ?_⟩
  | refine ⟨_, _, rfl, ?_⟩)
local macro_rules | `(tactic| walk_at "gs") => `(tactic| repeat walk_at "d1")
local macro_rules | `(tactic| walk_at "go") => `(tactic| repeat (first | walk_at "d1" | with_reducible refine wn_if ?_))

local macro_rules | `(tactic| walk_at "d1") => `(tactic| first | with_reducible refine we_listRg ?_)
theorem mem_rgI {n : Nat} {x : Da} : x ∈ ((List.range n).map fun (i : Nat) => (i : Int)).map Da.int ↔ nbB n x = true := by
  constructor
  · intro h
    obtain ⟨i, hi, rfl⟩ := List.mem_map.mp h
    obtain ⟨k, hk, rfl⟩ := List.mem_map.mp hi
    have := List.mem_range.mp hk
    exact decide_eq_true ⟨by omega, by omega⟩
  · intro h
    obtain ⟨i, rfl⟩ : ∃ i, x = .int i := by cases x <;> first | exact ⟨_, rfl⟩ | (cases h)
    obtain ⟨h0, h1⟩ := of_decide_eq_true h
    exact List.mem_map.mpr ⟨i, List.mem_map.mpr ⟨i.toNat, List.mem_range.mpr (by omega), by omega⟩, rfl⟩
theorem rgD_int (n : Nat) : rgD n = ((List.range n).map fun (i : Nat) => (i : Int)).map Da.int := by
  unfold rgD
  rw [List.map_map]
  rfl
section
variable {P : Program} {w : World} {K : PySem.W.Frag} {mg : Str → Option Value} {base : Heap}
def PLm (ds : List Da) (d : Da) : Prop := ∃ us os x, ∃ b : Bool, GoodD us os ∧ MIn x ∧ (b = true ↔ IsM us os x) ∧ ds = [algDa us os, x] ∧ d = .bl b
abbrev s__law_move : Stmt := top 42
abbrev N__law_move : List Str := ["algebra", "move", "pair", "known", "name"]
theorem sc__law_move : FnScope N__law_move ["algebra", "move"] (defScope s__law_move) := ⟨rfl, rfl, rfl, by decide +kernel, rfl, by decide +kernel, by decide +kernel⟩
theorem ok_lmove {f : Addr} {fd : FuncData} (F : Fun K "_law_move" "_law_move" s__law_move f fd) (T : Blt mg) : FnOk P w K mg base CX0 1 f fd ["algebra", "move"] (spP PLm) := by
  refine F.ok sc__law_move (fun vs H Q E h => ?_) (fun cdv A outer s H vs Q E hr h => ?_)
  · obtain ⟨X, ds, d, al, r, ⟨us, os, x, b, _, _, _, rfl, _⟩, q⟩ := h
    exact r.len
  · obtain ⟨X, ds, d, al, r, ⟨us, os, x, b0, gd, mi, hb0, rfl, rfl⟩, q⟩ := h
    have hu := hu_of hr
    have hu64 := hu64_of hr
    have hu65 := hu65_of hr
    refine ⟨_, (pss_cons (ps_if (PW.pt (pw_or (pt_not (pt_val (pe_callB (call_isiK' K) (by rfl) T.isinstance (by decide +kernel) (pa_cons (pv 1) (pa_cons (pe_bty (n := "tuple") (by rfl) T.tuple (by decide +kernel)) pa_nil))))) (pw_or1 (pt_cmpR op_ne (pe_callB (call_lenK K) (by rfl) T.len (by decide +kernel) (pa_cons (pv 1) pa_nil)) (pe_int) (nomark _))))) (pss_one (ps_ret (pe_bl))) pss_nil)
      (pss_cons (ps_for PassesOwn.never rfl (pi_list (pe_dget hu (pv 0) (pe_str) (fun _ _ => rfl))) (pg_name (i := 2) sc__law_move.nd rfl (Or.inl rfl)) (pss_one (ps_if (pt_cmpR (op_eqDK K hu64) (pe_ix (ix_tupK K) (pv 2) (pe_int) (fun _ _ => rfl)) (pe_ix (ix_tupK K) (pv 1) (pe_int) (fun _ _ => rfl)) (nomark _)) (pss_cons (ps_if (PW.pt (pw_or (pt_cmpR (op_ninAK K hu65) (pe_ix (ix_tupK K) (pv 1) (pe_int) (fun _ _ => rfl)) (pe_listRg rfl (by rfl) T.list (prg_1 (by rfl) T.range (pe_ix (ix_tupK K) (pv 2) (pe_int) (fun _ _ => rfl)))) rfl) (pw_or1 (pt_not (pt_val (pe_callB (call_isiK' K) (by rfl) T.isinstance (by decide +kernel) (pa_cons (pe_ix (ix_tupK K) (pv 1) (pe_int) (fun _ _ => rfl)) (pa_cons (pe_bty (n := "tuple") (by rfl) T.tuple (by decide +kernel)) pa_nil)))))))) (pss_one (ps_ret (pe_bl))) pss_nil)
      (pss_cons (ps_setLc (i := 3) (own := [("name", 4)]) (g := gName 4) (by rfl) sc__law_move.nd rfl rfl (sw_true rfl rfl rfl (by decide +kernel)) (pi_tup (pe_ix (ix_tupK K) (pv 1) (pe_int) (fun _ _ => rfl))) (blkOk_by (own := [("name", 4)]) (N := N__law_move) (sc := defScope s__law_move) (by decide +kernel)) (fun _ _ _ _ _ => pg_name (i := 4) sc__law_move.nd rfl (Or.inl rfl)) (fun _ _ _ _ _ => pts_nil) (fun _ _ _ _ _ => pe_cmpR (op_inK K) (pv 4) (pe_dget hu (pv 0) (pe_str) (fun _ _ => rfl)) rfl))
      (pss_one (ps_ret (pe_and (pe_cmpR op_eq (pe_callB (call_lenK K) (by rfl) T.len (by decide +kernel) (pa_cons (pe_ix (ix_tupK K) (pv 1) (pe_int) (fun _ _ => rfl)) pa_nil)) (pe_op op_sub (pe_ix (ix_tupK K) (pv 2) (pe_int) (fun _ _ => rfl)) (pe_int)) (nomark _)) (pe_one (pe_cmpR (op_notInK K) (pe_bl) (pv 3) rfl))))))) pss_nil)))
      (pss_one (ps_ret (pe_bl))))), ?_⟩
    refine wn_start (W := wdP H X) [.da (algDa us os), .da x, .un, .un, .un] rfl rfl trivial al r ?_
    have yes : IsM us os x → Rt (wdP H X) Q (.bl true) := fun h => by rw [hb0.mpr h] at q; exact rt_P q
    have no : ¬ IsM us os x → Rt (wdP H X) Q (.bl false) := fun h => by rw [show b0 = false from Bool.eq_false_iff.mpr fun z => h (hb0.mp z)] at q; exact rt_P q
    walk_at "d1"
    with_reducible refine wn_if ?_
    walk_at "gs"
    refine wc_isT ⟨_, rfl, mi.k, fun bT hT => ?_⟩
    refine ⟨_, rfl, ?_⟩
    cases bT with
    | false =>
      refine if_true_of rfl ?_
      walk_at "gs"
      exact no fun ⟨m, _, e⟩ => absurd (hT.mpr ⟨_, e⟩) (by decide)
    | true =>
      obtain ⟨ds, rfl⟩ := hT.mp rfl
      refine if_false_of rfl ?_
      walk_at "gs"
      by_cases l3 : ds.length = 3
      · refine if_false_of (by rw [l3]; rfl) ?_
        obtain ⟨a, b, c', rfl⟩ : ∃ a b c', ds = [a, b, c'] := by
          match ds, l3 with
          | [a, b, c'], _ => exact ⟨a, b, c', rfl⟩
        obtain ⟨⟨pa, da⟩, ⟨pb, db⟩, kc, hn⟩ := mi.a a b c' rfl
        walk_at "gs"
        refine wn_for (S := [2]) ?_
        walk_at "gs"
        refine ⟨fun i ρ => ∃ e2, ρ = [.da (algDa us os), .da (.tup [a, b, c']), e2, .un, .un] ∧ ∀ o ∈ os.take i, Da.str (S o.1) ≠ a, ⟨.un, rfl, fun o h => (by cases h)⟩, fun i x ρ' H1 hx hi => ?_, fun ρ' hi => ?_⟩
        · obtain ⟨e2, rfl, ne⟩ := hi
          rw [List.getElem?_map, Option.map_eq_some_iff] at hx
          obtain ⟨o, hx, rfl⟩ := hx
          have ho := List.mem_of_getElem? hx
          have po : plD (.str (S o.1)) = true := (gd.gw.ws o ho).ok
          refine wg_name ?_
          with_reducible refine wn_if ?_
          walk_at "gs"
          classical
          refine w2_eqD ⟨po, pa, Nat.zero_le _, by omega, decide (Da.str (S o.1) = a), decide_eq_true_iff, ?_⟩
          by_cases ce : Da.str (S o.1) = a
          · refine ⟨_, rfl, if_true_of (decide_eq_true ce) ?_⟩
            subst ce
            walk_at "d1"
            with_reducible refine wn_if ?_
            walk_at "gs"
            have a2 := (gd.va o ho).1
            refine ⟨by omega, ?_⟩
            rw [rgD_int]
            refine w2_ninN ⟨_, rfl, .inl ⟨pb, by omega, nbB o.2.1 b, mem_rgI.symm, ?_⟩⟩
            refine ⟨_, rfl, ?_⟩
            cases hnb : nbB o.2.1 b with
            | false =>
              refine if_true_of rfl (if_true_of rfl ?_)
              walk_at "gs"
              exact no fun ⟨m, om, e⟩ => by
                injection e with e
                injection e with e1 e
                injection e with e2 e
                injection e1 with e1
                subst e2
                have := op_inj gd.gw ho om.o e1
                subst this
                have : nbB m.o.2.1 (.int (m.pl : Int)) = true := decide_eq_true ⟨by omega, by have := om.pl; omega⟩
                rw [this] at hnb
                cases hnb
            | true =>
              refine if_false_of rfl ?_
              obtain ⟨i, rfl⟩ : ∃ i, b = .int i := by cases b <;> first | exact ⟨_, rfl⟩ | (cases hnb)
              obtain ⟨i0, i1⟩ := of_decide_eq_true hnb
              walk_at "gs"
              refine wc_isT ⟨_, rfl, kc, fun bC hC => ?_⟩
              refine ⟨_, rfl, ?_⟩
              cases bC with
              | false =>
                refine if_true_of rfl ?_
                walk_at "gs"
                exact no fun ⟨m, _, e⟩ => absurd (hC.mpr ⟨rwDa us m.row, by injection e with e; injection e with _ e; injection e with _ e; injection e⟩) (by decide)
              | true =>
                obtain ⟨ns, rfl⟩ := hC.mp rfl
                obtain ⟨ln, hs⟩ := hn ns rfl
                refine if_false_of rfl ?_
                obtain ⟨zs, rfl⟩ : ∃ zs : List Str, ns = zs.map .str := strs_of hs
                have lz : zs.length ≤ 1000 := by rw [List.length_map] at ln; exact ln
                walk_at "gs"
                refine (ww_lcT (S := [4]) (by decide) (wi_tup ?_)).e
                walk_at "gs"
                refine ⟨Str, zs, .str, fun z => .bl (decide (z ∈ us.map S)), rfl, Nat.le_trans lz (by decide), fun z2 D hz => wg_name ?_, ?_⟩
                · walk_at "gs"
                  exact ⟨z2, us.map S, rfl, .inl (by rw [List.map_map]; rfl), rfl⟩
                walk_at "gs"
                by_cases le : zs.length = o.2.1 - 1
                · have hop : 0 < o.2.1 := by have : i < (o.2.1 : Int) := i1; omega
                  refine if_true_of (by rw [List.length_map, decide_eq_true_eq]; omega) ?_
                  walk_at "gs"
                  refine ⟨zs.map fun z => decide (z ∈ us.map S), .inl (by rw [List.map_map]; rfl), ?_⟩
                  rw [if_pos rfl]
                  by_cases ha : ∀ z ∈ zs, z ∈ us.map S
                  · rw [show (!decide (false ∈ zs.map fun z => decide (z ∈ us.map S))) = true from by
                      rw [Bool.not_eq_true', decide_eq_false_iff_not]
                      intro h
                      obtain ⟨z, hz, e⟩ := List.mem_map.mp h
                      exact of_decide_eq_false e (ha z hz)]
                    refine yes ⟨⟨o, i.toNat, zs.map fun z => (us.map S).idxOf z⟩, ⟨ho, (by have i1' : i < (o.2.1 : Int) := i1; show i.toNat < o.2.1; omega), by show (zs.map _).length = _; rw [List.length_map]; exact le, fun x hx => ?_⟩, ?_⟩
                    · obtain ⟨z, hz, rfl⟩ := List.mem_map.mp hx
                      exact (idx_mS (ha z hz)).1
                    · show Da.tup [.str (S o.1), .int i, .tup (zs.map .str)] = .tup [.str (S o.1), .int (i.toNat : Int), .tup (rwDa us (zs.map fun z => (us.map S).idxOf z))]
                      have e1 : ((i.toNat : Nat) : Int) = i := by omega
                      have e2 : rwDa us (zs.map fun z => (us.map S).idxOf z) = zs.map .str := by
                        unfold rwDa
                        rw [List.map_map]
                        refine List.map_congr_left fun z hz => ?_
                        show Da.str (mS us ((us.map S).idxOf z)) = _
                        rw [(idx_mS (ha z hz)).2]
                      rw [e1, e2]
                  · rw [show (!decide (false ∈ zs.map fun z => decide (z ∈ us.map S))) = false from by
                      rw [Bool.not_eq_false', decide_eq_true_eq]
                      exact Classical.byContradiction fun h => ha fun z hz => Classical.byContradiction fun c => h (List.mem_map.mpr ⟨z, hz, decide_eq_false c⟩)]
                    refine no fun ⟨m, om, e⟩ => ha fun z hz => ?_
                    injection e with e
                    injection e with e1 e
                    injection e with e2 e
                    injection e with e3 e
                    injection e3 with e3
                    have hz2 : Da.str z ∈ rwDa us m.row := e3 ▸ List.mem_map.mpr ⟨z, hz, rfl⟩
                    obtain ⟨x, hx, ex⟩ := List.mem_map.mp hz2
                    injection ex with ex
                    rw [← ex]
                    exact mS_mem (om.r x hx)
                · have hop : 0 < o.2.1 := by have : i < (o.2.1 : Int) := i1; omega
                  refine if_false_of (by rw [List.length_map, decide_eq_false_iff_not]; omega) ?_
                  walk_at "gs"
                  exact no fun ⟨m, om, e⟩ => le (by
                    injection e with e
                    injection e with e1 e
                    injection e with e2 e
                    injection e with e3 e
                    injection e1 with e1
                    injection e3 with e3
                    have e4 := op_inj gd.gw ho om.o e1
                    have e5 := congrArg List.length e3
                    rw [List.length_map, rw_len, om.l, ← e4] at e5
                    exact e5)
          · refine ⟨_, rfl, if_false_of (decide_eq_false ce) ?_⟩
            walk_at "gs"
            refine wn_to ⟨_, rfl, fun o2 h2 => ?_⟩
            rw [List.take_add_one, hx] at h2
            rcases List.mem_append.mp h2 with h2 | h2
            · exact ne o2 h2
            · rw [List.mem_singleton.mp h2]; exact ce
        · obtain ⟨e2, rfl, ne⟩ := hi
          rw [List.length_map, List.take_length] at ne
          walk_at "gs"
          exact no fun ⟨m, om, e⟩ => ne m.o om.o (by injection e with e; injection e with e _; exact e.symm)
      · refine if_true_of (by simp; omega) ?_
        walk_at "gs"
        exact no fun ⟨m, _, e⟩ => l3 (by injection e with e; rw [e]; rfl)
end
end K43


set_option Elab.async false
set_option linter.all false
set_option maxRecDepth 100000
set_option maxHeartbeats 4000000
namespace K43
open PySem PySem.Spec PyProof.Rows L2 Evl NdefX SX StX Dl
/-! the law's ends of a step, its judging -/
local macro_rules | `(tactic| walk_at "sr") => `(tactic| first | assumption | (refine Wd.Sr.vw ?_; walk_at "sr") | (refine Wd.Sr.own ?_; walk_at "sr") | (refine Wd.Sr.lp ?_; walk_at "sr"))
local macro_rules | `(tactic| walk_at "d1") => `(tactic| first
  | with_reducible refine wn_seq ?_
  | with_reducible refine wn_ret ?_
  | with_reducible refine wn_retN ?_
  | with_reducible refine wn_next ?_
  | with_reducible refine wn_cont ?_
  | with_reducible refine wn_break ?_
  | with_reducible refine wn_asg ?_
  | with_reducible refine wn_asgG ?_
  | with_reducible refine wn_drop ?_
  | ((with_reducible refine we_varX ?d ?hv ?_); (case hv => exact rfl))
  | with_reducible refine we_c ?_
  | with_reducible refine we_op ?_
  | with_reducible refine we_un ?_
  | with_reducible refine we_if ?_
  | with_reducible refine we_tup ?_
  | with_reducible refine we_lst ?_
  | with_reducible refine we_tl ?_
  | with_reducible refine we_slT ?_
  | with_reducible refine we_slL ?_
  | with_reducible refine we_revL ?_
  | with_reducible refine we_chain ?_
  | with_reducible refine we_andV ?_
  | with_reducible refine we_orV ?_
  | with_reducible refine we_notV ?_
  | with_reducible refine we_dget ?_
  | with_reducible refine we_din ?_
  | with_reducible refine we_dnin ?_
  | with_reducible refine we_dget2 ?_
  | with_reducible refine we_joined ?_
  | with_reducible refine we_fmt ?_
  | with_reducible refine wj_nil ?_
  | with_reducible refine wj_cons ?_
  | with_reducible refine we_call ?_
  | ((with_reducible refine we_pickX ?dd ?ll ?hs ?_); (case hs => walk_at "sr"))
  | with_reducible refine we_cb ?_
  | with_reducible refine wa_nil ?_
  | with_reducible refine wa_cons ?_
  | with_reducible refine wo_none ?_
  | with_reducible refine wo_some ?_
  | with_reducible refine wt_yes ?_
  | with_reducible refine wt_test ?_
  | with_reducible refine wt_B ?_
  | with_reducible refine wt_not ?_
  | with_reducible refine wt_and ?_
  | with_reducible refine wt_or ?_
  | with_reducible refine wt_truK ?_
  | with_reducible refine w2_I0 ⟨_, _, rfl, rfl, ?_⟩
  | with_reducible refine w2_eqI ⟨_, _, rfl, rfl, ?_⟩
  | with_reducible refine w2_eqS ⟨_, _, rfl, rfl, ?_⟩
  | with_reducible refine w2_neI ⟨_, _, rfl, rfl, ?_⟩
  | with_reducible refine w2_neS ⟨_, _, rfl, rfl, ?_⟩
  | with_reducible refine w2_adS ?_
  | with_reducible refine w2_isN ?_
  | with_reducible refine w2_notN ?_
  | ((with_reducible refine w2_inBX ?_); (refine ⟨_, rfl, ?_⟩))
  | with_reducible refine w2_inS ?_
  | ((with_reducible refine w2_ixL ?_); (refine ⟨_, _, _, rfl, rfl, rfl, ?_⟩))
  | ((with_reducible refine w2_ixT ?_); (refine ⟨_, _, _, rfl, rfl, rfl, ?_⟩))
  | ((with_reducible refine w2_ixL ?_); (refine ⟨_, _, _, rfl, rfl, atI_nat (j := 0) rfl, ?_⟩))
  | ((with_reducible refine w2_ixT ?_); (refine ⟨_, _, _, rfl, rfl, atI_nat (j := 0) rfl, ?_⟩))
  | with_reducible refine w2_ixL ?_
  | with_reducible refine w2_ixT ?_
  | ((with_reducible refine w2_cat ?_); (refine ⟨_, _, rfl, rfl, ?_⟩))
  | ((with_reducible refine w2_catT ?_); (refine ⟨_, _, rfl, rfl, (fun z => nomatch z), ?_⟩))
  | with_reducible refine w2_catT ?_
  | with_reducible refine w2_rep ?_
  | ((with_reducible refine wc_len ?_); (refine ⟨_, _, rfl, .inl rfl, ?_⟩))
  | ((with_reducible refine wc_len ?_); (refine ⟨_, _, rfl, .inr rfl, ?_⟩))
  | ((with_reducible refine wc_list ?_); (refine ⟨_, _, rfl, .inl rfl, ?_⟩))
  | ((with_reducible refine wc_list ?_); (refine ⟨_, _, rfl, .inr rfl, ?_⟩))
  | ((with_reducible refine wc_tup ?_); (refine ⟨_, _, rfl, .inl rfl, ?_⟩))
  | ((with_reducible refine wc_tup ?_); (refine ⟨_, _, rfl, .inr rfl, ?_⟩))
  | ((with_reducible refine wc_lenS ?_); (refine ⟨_, rfl, ?_⟩))
  | ((with_reducible refine wc_lenD ?_); (refine ⟨_, rfl, ?_⟩))
  | with_reducible refine w2_ixS ?_
  | with_reducible refine w2_inC ?_
  | with_reducible refine w2_ninC ?_
  | with_reducible refine wc_sum ?_
  | with_reducible refine wc_max ?_
  | with_reducible refine wc_min ?_
  | with_reducible refine wc_all ?_
  | with_reducible refine wc_any ?_
  | ((with_reducible refine wc_isi2 ?_); (refine ⟨_, _, _, _, rfl, rfl, rfl, ?_⟩))
  | with_reducible refine wc_int ⟨_, rfl, ?_⟩
  | with_reducible refine wc_abs ⟨_, rfl, ?_⟩
  | with_reducible refine wi_list ?_
  | with_reducible refine wi_tup ?_
  | with_reducible refine wi_rng1 ?_
  | with_reducible refine wi_rng2 ?_
  | with_reducible refine wi_enum ?_
  | with_reducible refine wi_zip ?_
  | with_reducible refine wi_str ?_
  | ((refine if_true_of ?hh ?_); (case hh => rfl))
  | ((refine if_false_of ?hh ?_); (case hh => rfl))
  | refine ⟨_, _, _, rfl, rfl, look_m, ?_⟩
  | refine ⟨_, _, _, rfl, rfl, look_s, ?_⟩
  | refine ⟨_, _, _, rfl, rfl, look_v, ?_⟩
  | refine ⟨Nat.le_of_ble_eq_true rfl, ?_⟩
  | refine ⟨_, rfl, ?_⟩
  | refine ⟨_, _, rfl, ?_⟩)
local macro_rules | `(tactic| walk_at "gs") => `(tactic| repeat walk_at "d1")
local macro_rules | `(tactic| walk_at "go") => `(tactic| repeat (first | walk_at "d1" | with_reducible refine wn_if ?_))

local macro_rules | `(tactic| walk_at "d1") => `(tactic| first | with_reducible refine we_listRg ?_)
theorem we_idxG {W : Wd} {ρ : List En} {K : PySem.W.Frag} {te ta : TE} {Φ : Da → Prop} (h : WE W te ρ fun x => ∃ ss : List Str, ss.Nodup ∧ x = .lst (ss.map .str) ∧ WE W ta ρ fun y => ∃ (s : Str) (j : Nat), y = .str s ∧ ss[j]? = some s ∧ Φ (.int (j : Nat))) : WE W (tBM K "list" (rIndex K) te (tCons ta tNil)) ρ Φ :=
  we_indexS (h.mono fun x ⟨ss, nd, e, h2⟩ => ⟨ss, e, h2.mono fun y ⟨s, j, ey, hj, f⟩ => ⟨s, j, ey, hj, fun m hm hz => by
    obtain ⟨h1, e1⟩ := List.getElem?_eq_some_iff.mp hj
    obtain ⟨h2, e2⟩ := List.getElem?_eq_some_iff.mp hz
    exact List.pairwise_iff_getElem.mp nd m j h2 h1 hm (e2.trans e1.symm), f⟩⟩)
theorem mS_at2 {us : List (List Nat)} {p : Nat} (h : p < us.length) : (us.map S)[p]? = some (mS us p) := by
  unfold mS
  rw [List.getElem?_map, List.getD_eq_getElem?_getD, List.getElem?_eq_getElem h]
  rfl
theorem nam_S (us : List (List Nat)) : namDa us = .lst ((us.map S).map .str) := by unfold namDa; rw [List.map_map]; rfl
def enDa : Option (Nat × Nat) → List Da
  | none => []
  | some p => [.int (p.1 : Int), .int (p.2 : Int)]
section
variable {P : Program} {w : World} {K : PySem.W.Frag} {mg : Str → Option Value} {base : Heap}
def PLe (ds : List Da) (d : Da) : Prop := ∃ us os prs x, GoodD us os ∧ (∀ p ∈ prs, p.1 < us.length ∧ p.2 < us.length) ∧ prs.length ≤ 100 ∧ SIn x ∧ ds = [algDa us os, .lst (prs.map (prDa us)), x] ∧ d = .lst (enDa (endsOf us os prs x))
abbrev s__law_ends : Stmt := top 43
abbrev N__law_ends : List Str := ["algebra", "pairs", "step", "words", "ends", "move", "others", "rows", "pair", "name", "end", "row"]
theorem sc__law_ends : FnScope N__law_ends ["algebra", "pairs", "step"] (defScope s__law_ends) := ⟨rfl, rfl, rfl, by decide +kernel, rfl, by decide +kernel, by decide +kernel⟩
theorem ok_lends {f : Addr} {fd : FuncData} (F : Fun K "_law_ends" "_law_ends" s__law_ends f fd) (T : Blt mg) (c__law_move : Cal P w K mg base 1 "_law_move" ["algebra", "move"] (spP PLm)) (c__law_at : Cal P w K mg base 1 "_law_at" ["algebra", "k", "row"] (spP PAt)) : FnOk P w K mg base CX0 2 f fd ["algebra", "pairs", "step"] (spP PLe) := by
  refine F.ok sc__law_ends (fun vs H Q E h => ?_) (fun cdv A outer s H vs Q E hr h => ?_)
  · obtain ⟨X, ds, d, al, r, ⟨us, os, prs, x, _, _, _, _, rfl, _⟩, q⟩ := h
    exact r.len
  · obtain ⟨X, ds, d, al, r, ⟨us, os, prs, x, gd, hpr, lp, si, rfl, rfl⟩, q⟩ := h
    have hu := hu_of hr
    have hu64 := hu64_of hr
    have hu65 := hu65_of hr
    refine ⟨_, (pss_cons (ps_if (PW.pt (pw_or (pt_not (pt_val (pe_callB (call_isiK' K) (by rfl) T.isinstance (by decide +kernel) (pa_cons (pv 2) (pa_cons (pe_bty (n := "tuple") (by rfl) T.tuple (by decide +kernel)) pa_nil))))) (pw_or (pt_cmpR op_ne (pe_callB (call_lenK K) (by rfl) T.len (by decide +kernel) (pa_cons (pv 2) pa_nil)) (pe_int) (nomark _)) (pw_or1 (pt_cmpR (op_ninAK K hu65) (pe_ix (ix_tupK K) (pv 2) (pe_int) (fun _ _ => rfl)) (pe_listRg rfl (by rfl) T.list (prg_1 (by rfl) T.range (pe_callB (call_lenK K) (by rfl) T.len (by decide +kernel) (pa_cons (pv 1) pa_nil)))) rfl))))) (pss_one (ps_ret (pe_lst pa_nil))) pss_nil)
      (pss_cons (ps_if (PW.pt (pw_or (pt_val (pe_callB (call_isiK' K) (by rfl) T.isinstance (by decide +kernel) (pa_cons (pe_ix (ix_tupK K) (pv 2) (pe_int) (fun _ _ => rfl)) (pa_cons (pe_bty (n := "bool") (by rfl) T.bool (by decide +kernel)) pa_nil)))) (pw_or (pt_not (pt_val (pe_callB (call_isiK' K) (by rfl) T.isinstance (by decide +kernel) (pa_cons (pe_ix (ix_tupK K) (pv 2) (pe_int) (fun _ _ => rfl)) (pa_cons (pe_bty (n := "bool") (by rfl) T.bool (by decide +kernel)) pa_nil))))) (pw_or1 (pt_not (pt_val (pe_callB (call_isiK' K) (by rfl) T.isinstance (by decide +kernel) (pa_cons (pe_ix (ix_tupK K) (pv 2) (pe_int) (fun _ _ => rfl)) (pa_cons (pe_bty (n := "tuple") (by rfl) T.tuple (by decide +kernel)) pa_nil))))))))) (pss_one (ps_ret (pe_lst pa_nil))) pss_nil)
      (pss_cons (ps_set (i := 3) sc__law_ends.nd rfl (Or.inr rfl) (pe_lc (own := [("pair", 8)]) (g := gName 8) (by rfl) sc__law_ends.nd (pi_list (pe_dget hu (pv 0) (pe_str) (fun _ _ => rfl))) (blkOk_by (own := [("pair", 8)]) (N := N__law_ends) (sc := defScope s__law_ends) (by decide +kernel)) (fun _ _ _ _ _ => pg_name (i := 8) sc__law_ends.nd rfl (Or.inl rfl)) (fun _ _ _ _ _ => pts_nil) (fun _ _ _ _ _ => pe_ix (ix_tupK K) (pv 8) (pe_int) (fun _ _ => rfl))))
      (pss_cons (ps_setLc (i := 4) (own := [("name", 9)]) (g := gName 9) (by rfl) sc__law_ends.nd rfl rfl (sw_true rfl rfl rfl (by decide +kernel)) (pi_tup (pe_ix (ix_listK K) (pv 1) (pe_ix (ix_tupK K) (pv 2) (pe_int) (fun _ _ => rfl)) (fun _ _ => rfl))) (blkOk_by (own := [("name", 9)]) (N := N__law_ends) (sc := defScope s__law_ends) (by decide +kernel)) (fun _ _ _ _ _ => pg_name (i := 9) sc__law_ends.nd rfl (Or.inl rfl)) (fun _ _ _ _ _ => pts_nil) (fun _ _ _ _ _ => by exact Dl.pe_bmK K rfl (pe_bm PySem.F.plainAttrs_list PySem.F.slot_list_index PySem.F.type_list_index (mt_indexK K) (pe_dget hu (pv 0) (pe_str) (fun _ _ => rfl)) (pa_cons (pv 9) pa_nil))))
      (pss_cons (ps_set (i := 4) sc__law_ends.nd rfl (Or.inl rfl) (pe_ifExp (pt_truthK K (pe_ix (ix_tupK K) (pv 2) (pe_int) (fun _ _ => rfl))) (pe_lst (pa_cons (pe_ix (ix_listK K) (pv 4) (pe_int) (fun _ _ => rfl)) (pa_cons (pe_ix (ix_listK K) (pv 4) (pe_int) (fun _ _ => rfl)) pa_nil))) (pv 4)))
      (pss_cons (ps_for PassesOwn.never rfl (pi_tup (pe_ix (ix_tupK K) (pv 2) (pe_int) (fun _ _ => rfl))) (pg_name (i := 5) sc__law_ends.nd rfl (Or.inr rfl)) (pss_cons (ps_if (pt_not (pt_val (pe_cal c__law_move (hr.mono (by decide)) (by rfl) (pa_cons (pv 0) (pa_cons (pv 5) pa_nil))))) (pss_one (ps_ret (pe_lst pa_nil))) pss_nil)
      (pss_cons (ps_set (i := 6) sc__law_ends.nd rfl (Or.inr rfl) (pe_lc (own := [("name", 9)]) (g := gName 9) (by rfl) sc__law_ends.nd (pi_tup (pe_ix (ix_tupK K) (pv 5) (pe_int) (fun _ _ => rfl))) (blkOk_by (own := [("name", 9)]) (N := N__law_ends) (sc := defScope s__law_ends) (by decide +kernel)) (fun _ _ _ _ _ => pg_name (i := 9) sc__law_ends.nd rfl (Or.inl rfl)) (fun _ _ _ _ _ => pts_nil) (fun _ _ _ _ _ => by exact Dl.pe_bmK K rfl (pe_bm PySem.F.plainAttrs_list PySem.F.slot_list_index PySem.F.type_list_index (mt_indexK K) (pe_dget hu (pv 0) (pe_str) (fun _ _ => rfl)) (pa_cons (pv 9) pa_nil)))))
      (pss_cons (ps_setLc (i := 7) (own := [("end", 10)]) (g := gName 10) (by rfl) sc__law_ends.nd rfl rfl (sw_true rfl rfl rfl (by decide +kernel)) (pi_list (pv 4)) (blkOk_by (own := [("end", 10)]) (N := N__law_ends) (sc := defScope s__law_ends) (by decide +kernel)) (fun _ _ _ _ _ => pg_name (i := 10) sc__law_ends.nd rfl (Or.inl rfl)) (fun _ _ _ _ _ => pts_nil) (fun _ _ _ _ _ => pe_op op_cat (pe_op op_cat (pe_slice (sl_listK K) (pv 6) po_none (po_some (pe_ix (ix_tupK K) (pv 5) (pe_int) (fun _ _ => rfl)))) (pe_lst (pa_cons (pv 10) pa_nil))) (pe_slice (sl_listK K) (pv 6) (po_some (pe_ix (ix_tupK K) (pv 5) (pe_int) (fun _ _ => rfl))) po_none)))
      (pss_one (ps_setLc (i := 4) (own := [("row", 11)]) (g := gName 11) (by rfl) sc__law_ends.nd rfl rfl (sw_true rfl rfl rfl (by decide +kernel)) (pi_list (pv 7)) (blkOk_by (own := [("row", 11)]) (N := N__law_ends) (sc := defScope s__law_ends) (by decide +kernel)) (fun _ _ _ _ _ => pg_name (i := 11) sc__law_ends.nd rfl (Or.inl rfl)) (fun _ _ _ _ _ => pts_nil) (fun _ _ _ _ _ => pe_cal c__law_at (hr.mono (by decide)) (by rfl) (pa_cons (pv 0) (pa_cons (by exact Dl.pe_bmK K rfl (pe_bm PySem.F.plainAttrs_list PySem.F.slot_list_index PySem.F.type_list_index (mt_indexK K) (pv 3) (pa_cons (pe_ix (ix_tupK K) (pv 5) (pe_int) (fun _ _ => rfl)) pa_nil))) (pa_cons (pv 11) pa_nil))))))))))
      (pss_one (ps_ret (pv 4))))))))), ?_⟩
    refine wn_start (W := wdP H X) [.da (algDa us os), .da (.lst (prs.map (prDa us))), .da x, .un, .un, .un, .un, .un, .un, .un, .un, .un] rfl rfl trivial al r ?_
    have yes : ∀ k t ms, k < prs.length → (∀ m ∈ ms, OkM us os m) → x = stDa us k t ms → Rt (wdP H X) Q (.lst (enDa (some (seN us.length prs k t ms)))) := fun k t ms hk hm e => by rw [e, ends_ok gd.gw hk hm] at q; exact rt_P q
    have no : ¬ IsS us os prs.length x → Rt (wdP H X) Q (.lst []) := fun h => by rw [ends_no h] at q; exact rt_P q
    walk_at "d1"
    with_reducible refine wn_if ?_
    walk_at "gs"
    refine wc_isT ⟨_, rfl, si.k, fun bT hT => ?_⟩
    refine ⟨_, rfl, ?_⟩
    cases bT with
    | false =>
      refine if_true_of rfl (if_true_of rfl ?_)
      walk_at "gs"
      exact no fun ⟨k, t, ms, _, _, e⟩ => absurd (hT.mpr ⟨_, e⟩) (by decide)
    | true =>
      obtain ⟨ds, rfl⟩ := hT.mp rfl
      refine if_false_of rfl ?_
      walk_at "gs"
      by_cases l3 : ds.length = 3
      · refine if_false_of (by rw [l3]; rfl) ?_
        obtain ⟨a, b, c', rfl⟩ : ∃ a b c', ds = [a, b, c'] := by
          match ds, l3 with
          | [a, b, c'], _ => exact ⟨a, b, c', rfl⟩
        obtain ⟨pa, kb, kc, hn⟩ := si.a a b c' rfl
        walk_at "gs"
        have lpm : (prs.map (prDa us)).length = prs.length := List.length_map _
        refine ⟨by omega, ?_⟩
        rw [lpm, rgD_int]
        refine w2_ninN ⟨_, rfl, ?_⟩
        rcases pa with ⟨pa, da⟩ | ⟨bt, rfl⟩
        · refine .inl ⟨pa, by omega, nbB prs.length a, mem_rgI.symm, ?_⟩
          refine ⟨_, rfl, ?_⟩
          cases hnb : nbB prs.length a with
          | false =>
            refine if_true_of rfl ?_
            walk_at "gs"
            exact no fun ⟨k, t, ms, hk, _, e⟩ => by
              injection e with e
              injection e with e1 e
              subst e1
              have : nbB prs.length (.int (k : Int)) = true := decide_eq_true ⟨by omega, by omega⟩
              rw [this] at hnb
              cases hnb
          | true =>
            refine if_false_of rfl ?_
            obtain ⟨i, rfl⟩ : ∃ i, a = .int i := by cases a <;> first | exact ⟨_, rfl⟩ | (cases hnb)
            obtain ⟨i0, i1⟩ := of_decide_eq_true hnb
            obtain ⟨kk, rfl⟩ : ∃ kk : Nat, i = (kk : Int) := ⟨i.toNat, by omega⟩
            have hkk : kk < prs.length := by have i1' : (kk : Int) < (prs.length : Int) := i1; omega
            walk_at "d1"
            walk_at "d1"
            with_reducible refine wn_if ?_
            walk_at "gs"
            refine wc_isB ⟨_, rfl, kb, fun bB hB => ?_⟩
            refine ⟨_, rfl, ?_⟩
            cases bB with
            | false =>
              refine if_true_of rfl (if_true_of rfl ?_)
              walk_at "gs"
              exact no fun ⟨k, t, ms, hk, _, e⟩ => absurd (hB.mpr ⟨t, by injection e with e; injection e with _ e; injection e⟩) (by decide)
            | true =>
              obtain ⟨t, rfl⟩ := hB.mp rfl
              refine if_false_of rfl ?_
              walk_at "gs"
              refine wc_isT ⟨_, rfl, kc, fun bC hC => ?_⟩
              refine ⟨_, rfl, ?_⟩
              cases bC with
              | false =>
                refine if_true_of rfl ?_
                walk_at "gs"
                exact no fun ⟨k, t, ms, hk, _, e⟩ => absurd (hC.mpr ⟨ms.map (mvDa us), by injection e with e; injection e with _ e; injection e with _ e; injection e⟩) (by decide)
              | true =>
                obtain ⟨ms, rfl⟩ := hC.mp rfl
                obtain ⟨lm, hs⟩ := hn ms rfl
                refine if_false_of rfl ?_
                have l5 := gd.l5
                have n6 := gd.n6
                obtain ⟨h1, h2⟩ := hpr _ (getD_mem hkk)
                have eg : (prs.map (prDa us))[kk]? = some (prDa us (prs.getD kk (0, 0))) := by
                  rw [List.getElem?_map, List.getD_eq_getElem?_getD, List.getElem?_eq_getElem hkk]
                  rfl
                have yes2 : ∀ mv : List Mv, (∀ m ∈ mv, OkM us os m) → ms = mv.map (mvDa us) → Rt (wdP H X) Q (.lst (enDa (some (seN us.length prs kk t mv)))) := fun mv hm e => yes kk t mv hkk hm (by rw [e]; rfl)
                unfold seN at yes2
                generalize prs.getD kk (0, 0) = p at eg h1 h2 yes2
                walk_at "gs"
                refine (ww_lcT (S := [8]) (by decide) ?_).e
                walk_at "gs"
                refine ⟨Dop, os, fun o => .tup [.str (S o.1), .int (o.2.1 : Int)], fun o => .str (S o.1), rfl, by omega, fun o D ho => wg_name ?_, ?_⟩
                · walk_at "gs"
                  rfl
                walk_at "gs"
                refine (ww_lcT (S := [9]) (by decide) (wi_tup (we_op (we_varX _ rfl (we_op (we_varX _ rfl (we_c (w2_ixT ⟨_, _, _, rfl, rfl, atI_nat (j := 0) rfl, w2_ixL ⟨_, _, _, rfl, rfl, atI_nat eg, ?_⟩⟩)))))))).e
                refine ⟨_, rfl, Nat, [p.1, p.2], fun z => .str (mS us z), fun (z : Nat) => .int (z : Int), rfl, by show 2 ≤ 50000; decide, fun z D hz => wg_name ?_, ?_⟩
                · have hz : z < us.length := by
                    rcases List.mem_cons.mp hz with rfl | hz
                    · exact h1
                    · rw [List.mem_singleton.mp hz]; exact h2
                  refine we_idxG ?_
                  walk_at "gs"
                  refine ⟨us.map S, ndS gd.gw.nd, nam_S us, ?_⟩
                  walk_at "gs"
                  exact ⟨_, z, rfl, mS_at2 hz, rfl⟩
                dsimp only
                with_reducible refine wn_seq ?_
                refine wn_asg (WE.mono (Φ := fun d => ∃ a0 b0 : Nat, d = .lst [.int (a0 : Int), .int (b0 : Int)] ∧ a0 < us.length ∧ b0 < us.length ∧ ∀ mv : List Mv, (∀ m ∈ mv, OkM us os m) → ms = mv.map (mvDa us) → Rt (wdP H X) Q (.lst [.int (mvsV us.length mv a0 : Nat), .int (mvsV us.length mv b0 : Nat)])) ?_ fun d hd => ?_)
                · cases t with
                  | true =>
                    walk_at "gs"
                    exact ⟨h2, h1, fun mv a b => yes2 mv a b⟩
                  | false =>
                    walk_at "gs"
                    exact ⟨h1, h2, fun mv a b => yes2 mv a b⟩
                obtain ⟨a0, b0, rfl, ha0, hb0, fin⟩ := hd
                clear yes2
                walk_at "gs"
                refine wn_for (S := [5]) (wi_tup (we_op (we_varX _ rfl (we_c (w2_ixT ⟨_, _, _, rfl, rfl, atI_nat (j := 2) rfl, ?_⟩)))))
                refine ⟨_, rfl, fun i ρ => ∃ mv e5 e6 e7, ρ = [.da (algDa us os), .da (.lst (prs.map (prDa us))), .da (.tup [.int (kk : Int), .bl t, .tup ms]), .da (.lst (os.map fun o => .str (S o.1))), .da (.lst [.int (mvsV us.length mv a0 : Nat), .int (mvsV us.length mv b0 : Nat)]), e5, e6, e7, .un, .un, .un, .un] ∧ (∀ m ∈ mv, OkM us os m) ∧ ms.take i = mv.map (mvDa us), ⟨[], .un, .un, .un, rfl, fun m h => (by cases h), rfl⟩, fun i x ρ' H1 hx hi => ?_, fun ρ' hi => ?_⟩
                · obtain ⟨mv, e5, e6, e7, rfl, hmv, etk⟩ := hi
                  have hxm := List.mem_of_getElem? hx
                  have ha1 := mvsV_lt gd.gw hmv ha0
                  have hb1 := mvsV_lt gd.gw hmv hb0
                  refine wg_name ?_
                  walk_at "d1"
                  with_reducible refine wn_if ?_
                  walk_at "gs"
                  by_cases him : IsM us os x
                  · refine ⟨_, ⟨us, os, x, true, gd, hs x hxm, iff_of_true rfl him, rfl, rfl⟩, _, rfl, if_false_of rfl ?_⟩
                    obtain ⟨m, om, rfl⟩ := him
                    have lr := om.l
                    have la := (gd.va _ om.o).1
                    walk_at "gs"
                    refine (ww_lcT (S := [9]) (by decide) (wi_tup (we_op (we_varX _ rfl (we_c (w2_ixT ⟨_, _, _, rfl, rfl, atI_nat (j := 2) rfl, ?_⟩)))))).e
                    refine ⟨_, rfl, Nat, m.row, fun z => .str (mS us z), fun (z : Nat) => .int (z : Int), rfl, by omega, fun z D hz => wg_name ?_, ?_⟩
                    · refine we_idxG ?_
                      walk_at "gs"
                      refine ⟨us.map S, ndS gd.gw.nd, nam_S us, ?_⟩
                      walk_at "gs"
                      exact ⟨_, z, rfl, mS_at2 (om.r z hz), rfl⟩
                    walk_at "gs"
                    refine (ww_lcT (S := [10]) (by decide) ?_).e
                    walk_at "gs"
                    refine ⟨Nat, [mvsV us.length mv a0, mvsV us.length mv b0], fun (z : Nat) => .int (z : Int), fun z => .lst ((mvR m z).map fun (z : Nat) => .int (z : Int)), rfl, by show 2 ≤ 50000; decide, fun z D hz => wg_name ?_, ?_⟩
                    · walk_at "gs"
                      have lrm : (m.row.map fun (z : Nat) => Da.int (z : Int)).length = m.row.length := List.length_map _
                      rw [cutD_takeG]
                      refine ⟨by rw [List.length_take, lrm]; show min m.pl m.row.length + 1 ≤ _; omega, ?_⟩
                      walk_at "gs"
                      rw [cutD_dropG]
                      refine ⟨by rw [List.length_append, List.length_take, List.length_drop, lrm]; show min m.pl m.row.length + 1 + _ ≤ _; omega, ?_⟩
                      show Da.lst _ = Da.lst _
                      unfold mvR
                      rw [List.map_append, List.map_append, List.map_take, List.map_drop]
                      rfl
                    walk_at "gs"
                    refine (ww_lcT (S := [11]) (by decide) ?_).e
                    walk_at "gs"
                    refine ⟨Nat, [mvsV us.length mv a0, mvsV us.length mv b0], fun z => .lst ((mvR m z).map fun (z : Nat) => .int (z : Int)), fun z => .int (mvV us.length z m : Nat), rfl, by show 2 ≤ 50000; decide, fun z D hz => wg_name ?_, ?_⟩
                    · have hz : z < us.length := by
                        rcases List.mem_cons.mp hz with rfl | hz
                        · exact ha1
                        · rw [List.mem_singleton.mp hz]; exact hb1
                      walk_at "gs"
                      refine we_idxG ?_
                      walk_at "gs"
                      obtain ⟨j, hj⟩ := List.getElem?_of_mem om.o
                      have ew : (os.map fun o => Da.str (S o.1)) = (os.map fun o => S o.1).map .str := by rw [List.map_map]; rfl
                      have nds : (os.map fun o => S o.1).Nodup := by
                        have z := ndS gd.gw.sd
                        rw [List.map_map] at z
                        exact z
                      refine ⟨_, nds, by rw [ew], ?_⟩
                      walk_at "gs"
                      refine ⟨S m.o.1, j, rfl, by rw [List.getElem?_map, hj]; rfl, ?_⟩
                      walk_at "gs"
                      exact ⟨_, ⟨us, os, m.o, j, mvR m z, gd, hj, mvR_len om z, mvR_lt om hz, rfl, rfl⟩, rfl⟩
                    have es : ∀ z, mvsV us.length (mv ++ [m]) z = mvV us.length (mvsV us.length mv z) m := fun z => by
                      unfold mvsV
                      rw [List.foldl_append]
                      rfl
                    refine wn_to ⟨mv ++ [m], .da (mvDa us m), .da (.lst (m.row.map fun (z : Nat) => .int (z : Int))), .da (.lst ([mvsV us.length mv a0, mvsV us.length mv b0].map fun z => .lst ((mvR m z).map fun (z : Nat) => .int (z : Int)))), by rw [es, es]; rfl, fun m2 h2 => ?_, ?_⟩
                    · rcases List.mem_append.mp h2 with h2 | h2
                      · exact hmv m2 h2
                      · rw [List.mem_singleton.mp h2]; exact om
                    · rw [List.take_add_one, hx, etk, List.map_append]
                      rfl
                  · refine ⟨_, ⟨us, os, x, false, gd, hs x hxm, iff_of_false (by decide) him, rfl, rfl⟩, _, rfl, if_true_of rfl ?_⟩
                    walk_at "gs"
                    refine no fun ⟨k, t, mv2, hk, hmv2, e⟩ => him ?_
                    injection e with e
                    injection e with e1 e
                    injection e with e2 e
                    injection e with e3 e
                    injection e3 with e3
                    rw [e3] at hxm
                    obtain ⟨m, hm, rfl⟩ := List.mem_map.mp hxm
                    exact ⟨m, hmv2 m hm, rfl⟩
                · obtain ⟨mv, e5, e6, e7, rfl, hmv, etk⟩ := hi
                  rw [List.take_length] at etk
                  walk_at "gs"
                  exact fin mv hmv etk
        · refine .inr ⟨bt, rfl, fun c => ?_⟩
          have nn : ¬ IsS us os prs.length (.tup [.bl bt, b, c']) := fun ⟨k, t, ms, hk, _, e⟩ => by
            injection e with e
            injection e with e1 e
            cases e1
          refine ⟨_, rfl, ?_⟩
          cases c with
          | true =>
            refine if_true_of rfl ?_
            walk_at "gs"
            exact no nn
          | false =>
            refine if_false_of rfl ?_
            walk_at "d1"
            walk_at "d1"
            with_reducible refine wn_if ?_
            walk_at "gs"
            exact no nn
      · refine if_true_of (by simp; omega) (if_true_of rfl ?_)
        walk_at "gs"
        exact no fun ⟨k, t, ms, _, _, e⟩ => l3 (by injection e with e; rw [e]; rfl)
end
end K43


set_option Elab.async false
set_option linter.all false
set_option maxRecDepth 100000
set_option maxHeartbeats 4000000
namespace K43
open PySem PySem.Spec PyProof.Rows L2 Evl NdefX SX StX Dl
/-! what is due, what is said, lost members -/
local macro_rules | `(tactic| walk_at "sr") => `(tactic| first | assumption | (refine Wd.Sr.vw ?_; walk_at "sr") | (refine Wd.Sr.own ?_; walk_at "sr") | (refine Wd.Sr.lp ?_; walk_at "sr"))
local macro_rules | `(tactic| walk_at "d1") => `(tactic| first
  | with_reducible refine wn_seq ?_
  | with_reducible refine wn_ret ?_
  | with_reducible refine wn_retN ?_
  | with_reducible refine wn_next ?_
  | with_reducible refine wn_cont ?_
  | with_reducible refine wn_break ?_
  | with_reducible refine wn_asg ?_
  | with_reducible refine wn_asgG ?_
  | with_reducible refine wn_drop ?_
  | ((with_reducible refine we_varX ?d ?hv ?_); (case hv => exact rfl))
  | with_reducible refine we_c ?_
  | with_reducible refine we_op ?_
  | with_reducible refine we_un ?_
  | with_reducible refine we_if ?_
  | with_reducible refine we_tup ?_
  | with_reducible refine we_lst ?_
  | with_reducible refine we_tl ?_
  | with_reducible refine we_slT ?_
  | with_reducible refine we_slL ?_
  | with_reducible refine we_revL ?_
  | with_reducible refine we_chain ?_
  | with_reducible refine we_andV ?_
  | with_reducible refine we_orV ?_
  | with_reducible refine we_notV ?_
  | with_reducible refine we_dget ?_
  | with_reducible refine we_din ?_
  | with_reducible refine we_dnin ?_
  | with_reducible refine we_dget2 ?_
  | with_reducible refine we_joined ?_
  | with_reducible refine we_fmt ?_
  | with_reducible refine wj_nil ?_
  | with_reducible refine wj_cons ?_
  | with_reducible refine we_call ?_
  | ((with_reducible refine we_pickX ?dd ?ll ?hs ?_); (case hs => walk_at "sr"))
  | with_reducible refine we_cb ?_
  | with_reducible refine wa_nil ?_
  | with_reducible refine wa_cons ?_
  | with_reducible refine wo_none ?_
  | with_reducible refine wo_some ?_
  | with_reducible refine wt_yes ?_
  | with_reducible refine wt_test ?_
  | with_reducible refine wt_B ?_
  | with_reducible refine wt_not ?_
  | with_reducible refine wt_and ?_
  | with_reducible refine wt_or ?_
  | with_reducible refine wt_truK ?_
  | with_reducible refine w2_I0 ⟨_, _, rfl, rfl, ?_⟩
  | with_reducible refine w2_eqI ⟨_, _, rfl, rfl, ?_⟩
  | with_reducible refine w2_eqS ⟨_, _, rfl, rfl, ?_⟩
  | with_reducible refine w2_neI ⟨_, _, rfl, rfl, ?_⟩
  | with_reducible refine w2_neS ⟨_, _, rfl, rfl, ?_⟩
  | with_reducible refine w2_adS ?_
  | with_reducible refine w2_isN ?_
  | with_reducible refine w2_notN ?_
  | ((with_reducible refine w2_inBX ?_); (refine ⟨_, rfl, ?_⟩))
  | with_reducible refine w2_inS ?_
  | ((with_reducible refine w2_ixL ?_); (refine ⟨_, _, _, rfl, rfl, rfl, ?_⟩))
  | ((with_reducible refine w2_ixT ?_); (refine ⟨_, _, _, rfl, rfl, rfl, ?_⟩))
  | ((with_reducible refine w2_ixL ?_); (refine ⟨_, _, _, rfl, rfl, atI_nat (j := 0) rfl, ?_⟩))
  | ((with_reducible refine w2_ixT ?_); (refine ⟨_, _, _, rfl, rfl, atI_nat (j := 0) rfl, ?_⟩))
  | with_reducible refine w2_ixL ?_
  | with_reducible refine w2_ixT ?_
  | ((with_reducible refine w2_cat ?_); (refine ⟨_, _, rfl, rfl, ?_⟩))
  | ((with_reducible refine w2_catT ?_); (refine ⟨_, _, rfl, rfl, (fun z => nomatch z), ?_⟩))
  | with_reducible refine w2_catT ?_
  | with_reducible refine w2_rep ?_
  | ((with_reducible refine wc_len ?_); (refine ⟨_, _, rfl, .inl rfl, ?_⟩))
  | ((with_reducible refine wc_len ?_); (refine ⟨_, _, rfl, .inr rfl, ?_⟩))
  | ((with_reducible refine wc_list ?_); (refine ⟨_, _, rfl, .inl rfl, ?_⟩))
  | ((with_reducible refine wc_list ?_); (refine ⟨_, _, rfl, .inr rfl, ?_⟩))
  | ((with_reducible refine wc_tup ?_); (refine ⟨_, _, rfl, .inl rfl, ?_⟩))
  | ((with_reducible refine wc_tup ?_); (refine ⟨_, _, rfl, .inr rfl, ?_⟩))
  | ((with_reducible refine wc_lenS ?_); (refine ⟨_, rfl, ?_⟩))
  | ((with_reducible refine wc_lenD ?_); (refine ⟨_, rfl, ?_⟩))
  | with_reducible refine w2_ixS ?_
  | with_reducible refine w2_inC ?_
  | with_reducible refine w2_ninC ?_
  | with_reducible refine wc_sum ?_
  | with_reducible refine wc_max ?_
  | with_reducible refine wc_min ?_
  | with_reducible refine wc_all ?_
  | with_reducible refine wc_any ?_
  | ((with_reducible refine wc_isi2 ?_); (refine ⟨_, _, _, _, rfl, rfl, rfl, ?_⟩))
  | with_reducible refine wc_int ⟨_, rfl, ?_⟩
  | with_reducible refine wc_abs ⟨_, rfl, ?_⟩
  | with_reducible refine wi_list ?_
  | with_reducible refine wi_tup ?_
  | with_reducible refine wi_rng1 ?_
  | with_reducible refine wi_rng2 ?_
  | with_reducible refine wi_enum ?_
  | with_reducible refine wi_zip ?_
  | with_reducible refine wi_str ?_
  | ((refine if_true_of ?hh ?_); (case hh => rfl))
  | ((refine if_false_of ?hh ?_); (case hh => rfl))
  | refine ⟨_, _, _, rfl, rfl, look_m, ?_⟩
  | refine ⟨_, _, _, rfl, rfl, look_s, ?_⟩
  | refine ⟨_, _, _, rfl, rfl, look_v, ?_⟩
  | refine ⟨Nat.le_of_ble_eq_true rfl, ?_⟩
  | refine ⟨_, rfl, ?_⟩
  | refine ⟨_, _, rfl, ?_⟩)
local macro_rules | `(tactic| walk_at "gs") => `(tactic| repeat walk_at "d1")
local macro_rules | `(tactic| walk_at "go") => `(tactic| repeat (first | walk_at "d1" | with_reducible refine wn_if ?_))

theorem pl_en (o : Option (Nat × Nat)) : plDs (enDa o) = true := by cases o <;> rfl
theorem dp_en (o : Option (Nat × Nat)) : dpDs (enDa o) ≤ 63 := by
  cases o with
  | none => exact Nat.zero_le _
  | some p => show max 0 (max 0 0) ≤ 63; decide
section
variable {P : Program} {w : World} {K : PySem.W.Frag} {mg : Str → Option Value} {base : Heap} {C Ca Cc Cm Cs fm qm cm fs qs cs : Addr} {dm ds : FuncData}
def PLd (ds : List Da) (d : Da) : Prop := ∃ us os prs ia ib sts, GoodD us os ∧ (∀ p ∈ prs, p.1 < us.length ∧ p.2 < us.length) ∧ prs.length ≤ 100 ∧ ia < us.length ∧ ib < us.length ∧ (∀ x ∈ sts, SIn x) ∧ sts.length ≤ 100 ∧ ds = [algDa us os, .lst (prs.map (prDa us)), .str (mS us ia), .str (mS us ib), .lst sts] ∧ d = optDa (dueS us os prs ib 0 ia sts)
abbrev s__law_due : Stmt := top 45
abbrev N__law_due : List Str := ["algebra", "pairs", "first", "last", "steps", "here", "k", "ends"]
theorem sc__law_due : FnScope N__law_due ["algebra", "pairs", "first", "last", "steps"] (defScope s__law_due) := ⟨rfl, rfl, rfl, by decide +kernel, rfl, by decide +kernel, by decide +kernel⟩
theorem ok_ldue {f : Addr} {fd : FuncData} (F : Fun K "_law_due" "_law_due" s__law_due f fd) (T : Blt mg) (c__law_ends : Cal P w K mg base 2 "_law_ends" ["algebra", "pairs", "step"] (spP PLe)) : FnOk P w K mg base CX0 3 f fd ["algebra", "pairs", "first", "last", "steps"] (spP PLd) := by
  refine F.ok sc__law_due (fun vs H Q E h => ?_) (fun cdv A outer s H vs Q E hr h => ?_)
  · obtain ⟨X, ds, d, al, r, ⟨us, os, prs, ia, ib, sts, _, _, _, _, _, _, _, rfl, _⟩, q⟩ := h
    exact r.len
  · obtain ⟨X, ds, d, al, r, ⟨us, os, prs, ia, ib, sts, gd, hpr, lp, ha, hb, si, ls, rfl, rfl⟩, q⟩ := h
    have hu := hu_of hr
    have hu64 := hu64_of hr
    refine ⟨_, (pss_cons (ps_set (i := 5) sc__law_due.nd rfl (Or.inl rfl) (pe_bm PySem.F.plainAttrs_list PySem.F.slot_list_index PySem.F.type_list_index (mt_indexK K) (pe_dget hu (pv 0) (pe_str) (fun _ _ => rfl)) (pa_cons (pv 2) pa_nil)))
      (pss_cons (ps_for PassesOwn.never rfl (pi_range1 (by rfl) T.range (pa_cons (pe_callB (call_lenK K) (by rfl) T.len (by decide +kernel) (pa_cons (pv 4) pa_nil)) pa_nil)) (pg_name (i := 6) sc__law_due.nd rfl (Or.inl rfl)) (pss_cons (ps_set (i := 7) sc__law_due.nd rfl (Or.inl rfl) (pe_cal c__law_ends (hr.mono (by decide)) (by rfl) (pa_cons (pv 0) (pa_cons (pv 1) (pa_cons (pe_ix (ix_listK K) (pv 4) (pv 6) (fun _ _ => rfl)) pa_nil)))))
      (pss_cons (ps_if (PW.pt (pw_or (pt_cmpR (op_eqDK K hu64) (pv 7) (pe_lst pa_nil) (nomark _)) (pw_or1 (pt_cmpR op_ne (pe_ix (ix_listK K) (pv 7) (pe_int) (fun _ _ => rfl)) (pv 5) (nomark _))))) (pss_one (ps_ret (pv 6))) pss_nil)
      (pss_one (ps_set (i := 5) sc__law_due.nd rfl (Or.inl rfl) (pe_ix (ix_listK K) (pv 7) (pe_int) (fun _ _ => rfl)))))))
      (pss_one (ps_ret (pe_ifExp (pt_cmpR op_eq (pv 5) (pe_bm PySem.F.plainAttrs_list PySem.F.slot_list_index PySem.F.type_list_index (mt_indexK K) (pe_dget hu (pv 0) (pe_str) (fun _ _ => rfl)) (pa_cons (pv 3) pa_nil)) (nomark _)) (pe_non) (pe_callB (call_lenK K) (by rfl) T.len (by decide +kernel) (pa_cons (pv 4) pa_nil))))))), ?_⟩
    refine wn_start (W := wdP H X) [.da (algDa us os), .da (.lst (prs.map (prDa us))), .da (.str (mS us ia)), .da (.str (mS us ib)), .da (.lst sts), .un, .un, .un] rfl rfl trivial al r ?_
    have q : ∀ d, d = optDa (dueS us os prs ib 0 ia sts) → ∀ v H', Same H H' → Rp X H' v d → Q v H' := fun d e => by subst e; exact q
    walk_at "gs"
    refine we_idxG ?_
    walk_at "gs"
    refine ⟨us.map S, ndS gd.gw.nd, nam_S us, ?_⟩
    walk_at "gs"
    refine ⟨_, ia, rfl, mS_at2 ha, ?_⟩
    walk_at "gs"
    refine wn_for (S := [6]) ?_
    walk_at "gs"
    have rgl : (rgD (sts.length : Int).toNat).length = sts.length := by unfold rgD; rw [List.length_map, List.length_range]; omega
    refine ⟨by omega, by omega, fun i ρ => ∃ here : Nat, ∃ e6 e7, ρ = [.da (algDa us os), .da (.lst (prs.map (prDa us))), .da (.str (mS us ia)), .da (.str (mS us ib)), .da (.lst sts), .da (.int (here : Int)), e6, e7] ∧ here < us.length ∧ dueS us os prs ib 0 ia sts = dueS us os prs ib i here (sts.drop i), ⟨ia, .un, .un, rfl, ha, rfl⟩, fun i x ρ' H1 hx hi => ?_, fun ρ' hi => ?_⟩
    · obtain ⟨here, e6, e7, rfl, hh, ed⟩ := hi
      have hi : i < sts.length ∧ x = .int (i : Int) := by
        have h1 := (List.getElem?_eq_some_iff.mp hx).1
        rw [rgl] at h1
        unfold rgD at hx
        rw [List.getElem?_map, Int.toNat_natCast, List.getElem?_range h1] at hx
        exact ⟨h1, (Option.some.inj hx).symm⟩
      obtain ⟨hi, rfl⟩ := hi
      have hs := si _ (List.getElem_mem hi)
      have eg : sts[i]? = some sts[i] := List.getElem?_eq_getElem hi
      rw [List.drop_eq_getElem_cons hi] at ed
      generalize sts[i] = d at hs ed eg
      have ed : dueS us os prs ib 0 ia sts = match endsOf us os prs d with | none => some i | some (a, b) => if a = here then dueS us os prs ib (i + 1) b (sts.drop (i + 1)) else some i := ed
      refine wg_name ?_
      walk_at "gs"
      refine ⟨_, _, _, rfl, rfl, atI_nat eg, ?_⟩
      walk_at "gs"
      refine ⟨_, ⟨us, os, prs, d, gd, hpr, lp, hs, rfl, rfl⟩, ?_⟩
      dsimp only
      have pe := pl_en (endsOf us os prs d)
      have de := dp_en (endsOf us os prs d)
      have lt : ∀ p, endsOf us os prs d = some p → p.2 < us.length := fun p hp => by
        by_cases hst : IsS us os prs.length d
        · obtain ⟨k, t, ms, hk, hm, rfl⟩ := hst
          rw [ends_ok gd.gw hk hm] at hp
          cases hp
          exact (seN_lt gd.gw hpr hk hm).2
        · rw [ends_no hst] at hp
          cases hp
      with_reducible refine wn_seq ?_
      with_reducible refine wn_if ?_
      walk_at "gs"
      refine w2_eqNil pe de ⟨_, rfl, ?_⟩
      cases he : endsOf us os prs d with
      | none =>
        rw [he] at ed
        refine if_true_of rfl (if_true_of rfl ?_)
        walk_at "gs"
        exact rt_P (q _ (by rw [ed]; rfl))
      | some p =>
        rw [he] at ed
        have l2 := lt p he
        obtain ⟨a, b⟩ := p
        have ed : dueS us os prs ib 0 ia sts = if a = here then dueS us os prs ib (i + 1) b (sts.drop (i + 1)) else some i := ed
        refine if_false_of rfl ?_
        walk_at "gs"
        by_cases ce : a = here
        · refine if_false_of (by rw [ce, decide_eq_true rfl]; rfl) ?_
          walk_at "gs"
          refine wn_to ⟨b, _, _, rfl, l2, by rw [ed, if_pos ce]⟩
        · refine if_true_of (by rw [decide_eq_false (by omega)]; rfl) ?_
          walk_at "gs"
          exact rt_P (q _ (by rw [ed, if_neg ce]; rfl))
    · obtain ⟨here, e6, e7, rfl, hh, ed⟩ := hi
      rw [rgl, List.drop_length] at ed
      have ed : dueS us os prs ib 0 ia sts = if here = ib then none else some sts.length := ed
      walk_at "gs"
      refine we_idxG ?_
      walk_at "gs"
      refine ⟨us.map S, ndS gd.gw.nd, nam_S us, ?_⟩
      walk_at "gs"
      refine ⟨_, ib, rfl, mS_at2 hb, ?_⟩
      walk_at "gs"
      by_cases ce : here = ib
      · refine if_true_of (by rw [ce, decide_eq_true rfl]) ?_
        walk_at "gs"
        exact rt_P (q _ (by rw [ed, if_pos ce]; rfl))
      · refine if_false_of (decide_eq_false (by omega)) ?_
        walk_at "gs"
        exact rt_P (q _ (by rw [ed, if_neg ce]; rfl))
def saidN (us : List (List Nat)) (os : List Dop) (ps : List (Str × Str)) (a b : Str) (sts : List Da) : Da → Prop := fun d => d = match unkn (us.map S) (flatP ps ++ [a, b]) with | some z => .str ("no " ++ z) | none => optDa (dueS us os (plcP us ps) ((us.map S).idxOf b) 0 ((us.map S).idxOf a) sts)
def PSd (C : Addr) (ds : List Da) (d : Da) : Prop := ∃ us os ps a b sts y, GoodW us os ∧ (∀ z ∈ flatP ps ++ [a, b], Wee z) ∧ ps.length ≤ 100 ∧ (∀ d ∈ sts, SIn d) ∧ sts.length ≤ 100 ∧ (y = .lst sts ∨ y = .tup sts) ∧ ds = [alDa C (us.map S) (os.map (opS us)), .lst (ps.map prS), .lst [.str a, .str b], y] ∧ saidN us os ps a b sts d
abbrev s__law_said : Stmt := top 46
abbrev N__law_said : List Str := ["made", "pairs", "ends", "steps", "said", "e"]
theorem sc__law_said : FnScope N__law_said ["made", "pairs", "ends", "steps"] (defScope s__law_said) := ⟨rfl, rfl, rfl, by decide +kernel, rfl, by decide +kernel, by decide +kernel⟩
theorem ok_said {f : Addr} {fd : FuncData} (F : Fun K "_law_said" "_law_said" s__law_said f fd) (T : Blt mg) (U : ErrC P K mg Ca Cc Cm Cs fm qm cm fs qs cs dm ds) (xm : XfC K Cm) (mm : PySem.W.exmOne K (.ref Cm) (.ref Cm) = some true) (c_judge_chain : Cal P w K mg base 6 "judge_chain" ["algebra", "pairs", "first", "second", "steps"] (spX (PJc C Cm))) : FnOk P w K mg base CX0 7 f fd ["made", "pairs", "ends", "steps"] (spP (PSd C)) := by
  refine F.ok sc__law_said (fun vs H Q E h => ?_) (fun cdv A outer s H vs Q E hr h => ?_)
  · obtain ⟨X, ds, d, al, r, ⟨us, os, ps, a, b, sts, y, _, _, _, _, _, _, rfl, _⟩, q⟩ := h
    exact r.len
  · obtain ⟨X, ds, d, al, r, ⟨us, os, ps, a, b, sts, y, gd, we, lp, si, ls, ey, rfl, hd⟩, q⟩ := h
    have hu := hu_of hr
    refine ⟨_, (pss_cons (ps_set (i := 4) sc__law_said.nd rfl (Or.inl rfl) (pe_str))
      (pss_cons (ps_try_mix (Wout := fun _ _ _ _ => False) (l := [(.ref Cm, some 5, _)]) rfl rfl takes0 (fun W pn xe tk _ => (pss_one (ps_set (i := 4) sc__law_said.nd rfl (Or.inl rfl) (pe_calT c_judge_chain (hr.mono (by omega)) (by rfl) tk (pa_cons (pv 0) (pa_cons (pv 1) (pa_cons (pe_ix (ix_listK K) (pv 2) (pe_int) (fun _ _ => rfl)) (pa_cons (pe_ix (ix_listK K) (pv 2) (pe_int) (fun _ _ => rfl)) (pa_cons (pv 3) pa_nil))))))))) (.cons ⟨rfl, by decide, Or.inl U.xm.g⟩ (.as sc__law_said.nd rfl rfl) (fun _ _ _ _ _ hz hf => (pss_one (ps_set (i := 4) sc__law_said.nd rfl (Or.inl rfl) (pe_op op_add_str (pe_str) (pe_xf xm U.nm hz hf (pv 5)))))) .nil))
      (pss_one (ps_ret (pv 4))))), ?_⟩
    refine wn_start (W := wdP H X) [.da (alDa C (us.map S) (os.map (opS us))), .da (.lst (ps.map prS)), .da (.lst [.str a, .str b]), .da y, .un, .un] rfl rfl trivial al r ?_
    unfold saidN at hd
    walk_at "d1"
    refine wn_asg (we_c ?_)
    dsimp only
    with_reducible refine wn_seq ?_
    dsimp only
    refine wn_asgX (P := PJc C Cm) ?_
    walk_at "gs"
    cases hun : unkn (us.map S) (flatP ps ++ [a, b]) with
    | some z =>
      rw [hun] at hd
      have wz : Wee z := we z (List.mem_of_find?_eq_some hun)
      refine ⟨.ex Cm [("name", .str z)], ⟨us, os, ps, a, b, sts, y, gd, we, lp, si, ls, ey, rfl, by rw [hun]⟩, fun σ H1 sl => ?_⟩
      refine exc_f sl (by simp) fun dx vs H' hx nx hf s2 => ?_
      refine mix_here mm fun b nb => ?_
      refine cl_as s2 ?_
      refine wn_asg ?_
      walk_at "gs"
      refine we_xf _ (List.mem_cons_self) hx nx hf rfl (we_varX _ rfl ?_)
      refine ⟨rfl, w2_adS ⟨_, _, rfl, rfl, ?_, ?_⟩⟩
      · have := wz
        unfold Wee at this
        show 3 + z.length ≤ _
        omega
      refine wn_gone (wn_out ?_)
      walk_at "gs"
      subst hd
      exact rt_P q
    | none =>
      rw [hun] at hd
      refine ⟨.ret _, ⟨us, os, ps, a, b, sts, y, gd, we, lp, si, ls, ey, rfl, by rw [hun]⟩, ?_⟩
      subst hd
      dsimp only
      walk_at "gs"
      exact rt_P q
end
end K43


set_option Elab.async false
set_option linter.all false
set_option maxRecDepth 100000
set_option maxHeartbeats 4000000
namespace K43
open PySem PySem.Spec PyProof.Rows L2 Evl NdefX SX StX Dl
/-! lost members -/
local macro_rules | `(tactic| walk_at "sr") => `(tactic| first | assumption | (refine Wd.Sr.vw ?_; walk_at "sr") | (refine Wd.Sr.own ?_; walk_at "sr") | (refine Wd.Sr.lp ?_; walk_at "sr"))
local macro_rules | `(tactic| walk_at "d1") => `(tactic| first
  | with_reducible refine wn_seq ?_
  | with_reducible refine wn_ret ?_
  | with_reducible refine wn_retN ?_
  | with_reducible refine wn_next ?_
  | with_reducible refine wn_cont ?_
  | with_reducible refine wn_break ?_
  | with_reducible refine wn_asg ?_
  | with_reducible refine wn_asgG ?_
  | with_reducible refine wn_drop ?_
  | ((with_reducible refine we_varX ?d ?hv ?_); (case hv => exact rfl))
  | with_reducible refine we_c ?_
  | with_reducible refine we_op ?_
  | with_reducible refine we_un ?_
  | with_reducible refine we_if ?_
  | with_reducible refine we_tup ?_
  | with_reducible refine we_lst ?_
  | with_reducible refine we_tl ?_
  | with_reducible refine we_slT ?_
  | with_reducible refine we_slL ?_
  | with_reducible refine we_revL ?_
  | with_reducible refine we_chain ?_
  | with_reducible refine we_andV ?_
  | with_reducible refine we_orV ?_
  | with_reducible refine we_notV ?_
  | with_reducible refine we_dget ?_
  | with_reducible refine we_din ?_
  | with_reducible refine we_dnin ?_
  | with_reducible refine we_dget2 ?_
  | with_reducible refine we_joined ?_
  | with_reducible refine we_fmt ?_
  | with_reducible refine wj_nil ?_
  | with_reducible refine wj_cons ?_
  | with_reducible refine we_call ?_
  | ((with_reducible refine we_pickX ?dd ?ll ?hs ?_); (case hs => walk_at "sr"))
  | with_reducible refine we_cb ?_
  | with_reducible refine wa_nil ?_
  | with_reducible refine wa_cons ?_
  | with_reducible refine wo_none ?_
  | with_reducible refine wo_some ?_
  | with_reducible refine wt_yes ?_
  | with_reducible refine wt_test ?_
  | with_reducible refine wt_B ?_
  | with_reducible refine wt_not ?_
  | with_reducible refine wt_and ?_
  | with_reducible refine wt_or ?_
  | with_reducible refine wt_truK ?_
  | with_reducible refine w2_I0 ⟨_, _, rfl, rfl, ?_⟩
  | with_reducible refine w2_eqI ⟨_, _, rfl, rfl, ?_⟩
  | with_reducible refine w2_eqS ⟨_, _, rfl, rfl, ?_⟩
  | with_reducible refine w2_neI ⟨_, _, rfl, rfl, ?_⟩
  | with_reducible refine w2_neS ⟨_, _, rfl, rfl, ?_⟩
  | with_reducible refine w2_adS ?_
  | with_reducible refine w2_isN ?_
  | with_reducible refine w2_notN ?_
  | ((with_reducible refine w2_inBX ?_); (refine ⟨_, rfl, ?_⟩))
  | with_reducible refine w2_inS ?_
  | ((with_reducible refine w2_ixL ?_); (refine ⟨_, _, _, rfl, rfl, rfl, ?_⟩))
  | ((with_reducible refine w2_ixT ?_); (refine ⟨_, _, _, rfl, rfl, rfl, ?_⟩))
  | ((with_reducible refine w2_ixL ?_); (refine ⟨_, _, _, rfl, rfl, atI_nat (j := 0) rfl, ?_⟩))
  | ((with_reducible refine w2_ixT ?_); (refine ⟨_, _, _, rfl, rfl, atI_nat (j := 0) rfl, ?_⟩))
  | with_reducible refine w2_ixL ?_
  | with_reducible refine w2_ixT ?_
  | ((with_reducible refine w2_cat ?_); (refine ⟨_, _, rfl, rfl, ?_⟩))
  | ((with_reducible refine w2_catT ?_); (refine ⟨_, _, rfl, rfl, (fun z => nomatch z), ?_⟩))
  | with_reducible refine w2_catT ?_
  | with_reducible refine w2_rep ?_
  | ((with_reducible refine wc_len ?_); (refine ⟨_, _, rfl, .inl rfl, ?_⟩))
  | ((with_reducible refine wc_len ?_); (refine ⟨_, _, rfl, .inr rfl, ?_⟩))
  | ((with_reducible refine wc_list ?_); (refine ⟨_, _, rfl, .inl rfl, ?_⟩))
  | ((with_reducible refine wc_list ?_); (refine ⟨_, _, rfl, .inr rfl, ?_⟩))
  | ((with_reducible refine wc_tup ?_); (refine ⟨_, _, rfl, .inl rfl, ?_⟩))
  | ((with_reducible refine wc_tup ?_); (refine ⟨_, _, rfl, .inr rfl, ?_⟩))
  | ((with_reducible refine wc_lenS ?_); (refine ⟨_, rfl, ?_⟩))
  | ((with_reducible refine wc_lenD ?_); (refine ⟨_, rfl, ?_⟩))
  | with_reducible refine w2_ixS ?_
  | with_reducible refine w2_inC ?_
  | with_reducible refine w2_ninC ?_
  | with_reducible refine wc_sum ?_
  | with_reducible refine wc_max ?_
  | with_reducible refine wc_min ?_
  | with_reducible refine wc_all ?_
  | with_reducible refine wc_any ?_
  | ((with_reducible refine wc_isi2 ?_); (refine ⟨_, _, _, _, rfl, rfl, rfl, ?_⟩))
  | with_reducible refine wc_int ⟨_, rfl, ?_⟩
  | with_reducible refine wc_abs ⟨_, rfl, ?_⟩
  | with_reducible refine wi_list ?_
  | with_reducible refine wi_tup ?_
  | with_reducible refine wi_rng1 ?_
  | with_reducible refine wi_rng2 ?_
  | with_reducible refine wi_enum ?_
  | with_reducible refine wi_zip ?_
  | with_reducible refine wi_str ?_
  | ((refine if_true_of ?hh ?_); (case hh => rfl))
  | ((refine if_false_of ?hh ?_); (case hh => rfl))
  | refine ⟨_, _, _, rfl, rfl, look_m, ?_⟩
  | refine ⟨_, _, _, rfl, rfl, look_s, ?_⟩
  | refine ⟨_, _, _, rfl, rfl, look_v, ?_⟩
  | refine ⟨Nat.le_of_ble_eq_true rfl, ?_⟩
  | refine ⟨_, rfl, ?_⟩
  | refine ⟨_, _, rfl, ?_⟩)
local macro_rules | `(tactic| walk_at "gs") => `(tactic| repeat walk_at "d1")
local macro_rules | `(tactic| walk_at "go") => `(tactic| repeat (first | walk_at "d1" | with_reducible refine wn_if ?_))

theorem no_us {us : List (List Nat)} {os : List Dop} (g : GoodD us os) {z : Str} {w : List Nat} (e : z = S w) (h : ¬ w.getD 1 0 < 58) : z ∉ us.map S := fun hm => by
  obtain ⟨u, hu, e2⟩ := List.mem_map.mp hm
  exact h (S_inj (e2.trans e) ▸ g.nm.dg u hu)
def psS (us : List (List Nat)) (prs : List (Nat × Nat)) : List (Str × Str) := prs.map fun p => (mS us p.1, mS us p.2)
theorem psS_map (us : List (List Nat)) (prs : List (Nat × Nat)) : prs.map (prDa us) = (psS us prs).map prS := by unfold psS; rw [List.map_map]; rfl
section
variable {us : List (List Nat)} {os : List Dop} {prs : List (Nat × Nat)}
theorem psS_mem (hpr : ∀ p ∈ prs, p.1 < us.length ∧ p.2 < us.length) : ∀ z ∈ flatP (psS us prs), ∃ p, p < us.length ∧ z = mS us p := fun z hz => by
  obtain ⟨q, hq, hz⟩ := List.mem_flatMap.mp hz
  obtain ⟨p, hp, rfl⟩ := List.mem_map.mp hq
  rcases List.mem_cons.mp hz with rfl | hz
  · exact ⟨p.1, (hpr p hp).1, rfl⟩
  · exact ⟨p.2, (hpr p hp).2, List.mem_singleton.mp hz⟩
theorem unkn_known {xs a b : List Str} (h : ∀ z ∈ a, z ∈ xs) : unkn xs (a ++ b) = unkn xs b := by
  rw [unkn_app, show unkn xs a = none from List.find?_eq_none.mpr fun z hz => by rw [decide_eq_false fun c => c (h z hz)]; decide]
  rfl
theorem unkn_yes {xs r : List Str} {z : Str} (h : z ∉ xs) : unkn xs (z :: r) = some z := by
  unfold unkn
  rw [List.find?_cons, decide_eq_true h]
theorem unkn_skip {xs r : List Str} {z : Str} (h : z ∈ xs) : unkn xs (z :: r) = unkn xs r := by
  unfold unkn
  rw [List.find?_cons, decide_eq_false fun c => c h]
theorem flat_app (a b : List (Str × Str)) : flatP (a ++ b) = flatP a ++ flatP b := List.flatMap_append
theorem sd_no {C : Addr} (gd : GoodD us os) (hpr : ∀ p ∈ prs, p.1 < us.length ∧ p.2 < us.length) (lp : prs.length ≤ 50) {ex : List (Str × Str)} (lx : ex.length ≤ 1) {a b z : Str} (hz : unkn (us.map S) (flatP ex ++ [a, b]) = some z) (we : ∀ x ∈ flatP ex ++ [a, b], Wee x) {sts : List Da} (si : ∀ d ∈ sts, SIn d) (ls : sts.length ≤ 100) {y : Da} (ey : y = .lst sts ∨ y = .tup sts) : PSd C [alDa C (us.map S) (os.map (opS us)), .lst ((psS us prs ++ ex).map prS), .lst [.str a, .str b], y] (.str ("no " ++ z)) := by
  have kn : ∀ x ∈ flatP (psS us prs), x ∈ us.map S := fun x hx => by
    obtain ⟨p, hp, rfl⟩ := psS_mem hpr x hx
    exact mS_mem hp
  refine ⟨us, os, psS us prs ++ ex, a, b, sts, y, gd.gw, fun x hx => ?_, by unfold psS; rw [List.length_append, List.length_map]; omega, si, ls, ey, rfl, ?_⟩
  · rw [flat_app, List.append_assoc] at hx
    rcases List.mem_append.mp hx with hx | hx
    · obtain ⟨p, hp, rfl⟩ := psS_mem hpr x hx
      exact mS_wee gd.gw hp
    · exact we x hx
  · unfold saidN
    rw [flat_app, List.append_assoc, unkn_known kn, hz]
end
section
variable {P : Program} {w : World} {K : PySem.W.Frag} {mg : Str → Option Value} {base : Heap} {C : Addr}
def PLr (C : Addr) (ds : List Da) (d : Da) : Prop := ∃ (us : List (List Nat)) (os : List Dop) (prs : List (Nat × Nat)) (ia ib : Nat) (sts : List Da) (y : Da), GoodD us os ∧ (∀ p ∈ prs, p.1 < us.length ∧ p.2 < us.length) ∧ prs.length ≤ 50 ∧ ia < us.length ∧ ib < us.length ∧ (∀ x ∈ sts, SIn x) ∧ sts.length ≤ 100 ∧ (y = .lst sts ∨ y = .tup sts) ∧ ds = [alDa C (us.map S) (os.map (opS us)), .lst (prs.map (prDa us)), .str (mS us ia), .str (mS us ib), y] ∧ d = .bl true
abbrev s__law_lost_right : Stmt := top 47
abbrev N__law_lost_right : List Str := ["made", "pairs", "first", "last", "steps", "calls"]
theorem sc__law_lost_right : FnScope N__law_lost_right ["made", "pairs", "first", "last", "steps"] (defScope s__law_lost_right) := ⟨rfl, rfl, rfl, by decide +kernel, rfl, by decide +kernel, by decide +kernel⟩
theorem ok_lr {f : Addr} {fd : FuncData} (F : Fun K "_law_lost_right" "_law_lost_right" s__law_lost_right f fd) (T : Blt mg) (c__law_said : Cal P w K mg base 7 "_law_said" ["made", "pairs", "ends", "steps"] (spP (PSd C))) : FnOk P w K mg base CX0 8 f fd ["made", "pairs", "first", "last", "steps"] (spP (PLr C)) := by
  refine F.ok sc__law_lost_right (fun vs H Q E h => ?_) (fun cdv A outer s H vs Q E hr h => ?_)
  · obtain ⟨X, ds, d, al, r, ⟨us, os, prs, ia, ib, sts, y, _, _, _, _, _, _, _, _, rfl, _⟩, q⟩ := h
    exact r.len
  · obtain ⟨X, ds, d, al, r, ⟨us, os, prs, ia, ib, sts, y, gd, hpr, lp, ha, hb, si, ls, ey, rfl, rfl⟩, q⟩ := h
    have hu := hu_of hr
    have hu64 := hu64_of hr
    refine ⟨_, (pss_cons (ps_set (i := 5) sc__law_lost_right.nd rfl (Or.inl rfl) (pe_lst (pa_cons (pe_cal c__law_said (hr.mono (by decide)) (by rfl) (pa_cons (pv 0) (pa_cons (pe_op op_cat (pv 1) (pe_lst (pa_cons (pe_tup (pa_cons (pe_str) (pa_cons (pv 2) pa_nil))) pa_nil))) (pa_cons (pe_lst (pa_cons (pv 2) (pa_cons (pe_str) pa_nil))) (pa_cons (pv 4) pa_nil))))) pa_nil)))
      (pss_cons (ps_expr (pe_bm PySem.F.plainAttrs_list PySem.F.slot_list_append PySem.F.type_list_append mt_append (pv 5) (pa_cons (pe_cal c__law_said (hr.mono (by decide)) (by rfl) (pa_cons (pv 0) (pa_cons (pe_op op_cat (pv 1) (pe_lst (pa_cons (pe_tup (pa_cons (pv 2) (pa_cons (pe_str) pa_nil))) pa_nil))) (pa_cons (pe_lst (pa_cons (pe_str) (pa_cons (pv 3) pa_nil))) (pa_cons (pv 4) pa_nil))))) pa_nil)))
      (pss_cons (ps_set (i := 5) sc__law_lost_right.nd rfl (Or.inl rfl) (pe_op op_cat (pv 5) (pe_lst (pa_cons (pe_cal c__law_said (hr.mono (by decide)) (by rfl) (pa_cons (pv 0) (pa_cons (pv 1) (pa_cons (pe_lst (pa_cons (pv 2) (pa_cons (pe_str) pa_nil))) (pa_cons (pv 4) pa_nil))))) (pa_cons (pe_cal c__law_said (hr.mono (by decide)) (by rfl) (pa_cons (pv 0) (pa_cons (pv 1) (pa_cons (pe_lst (pa_cons (pe_str) (pa_cons (pe_str) pa_nil))) (pa_cons (pe_lst pa_nil) pa_nil))))) pa_nil)))))
      (pss_cons (ps_expr (pe_bm PySem.F.plainAttrs_list PySem.F.slot_list_append PySem.F.type_list_append mt_append (pv 5) (pa_cons (pe_cal c__law_said (hr.mono (by decide)) (by rfl) (pa_cons (pv 0) (pa_cons (pv 1) (pa_cons (pe_lst (pa_cons (pe_str) (pa_cons (pe_str) pa_nil))) (pa_cons (pv 4) pa_nil))))) pa_nil)))
      (pss_one (ps_ret (pe_cmpR (op_eqDK K hu64) (pv 5) (pe_lst (pa_cons (pe_str) (pa_cons (pe_str) (pa_cons (pe_str) (pa_cons (pe_str) (pa_cons (pe_str) pa_nil)))))) (nomark _)))))))), ?_⟩
    rw [psS_map] at r
    refine wn_start (W := wdP H X) [.da (alDa C (us.map S) (os.map (opS us))), .da (.lst ((psS us prs).map prS)), .da (.str (mS us ia)), .da (.str (mS us ib)), .da y, .un] rfl rfl trivial al r ?_
    have z1 : Str.ofString "no1" ∉ us.map S := no_us gd (w := [110, 111, 49]) (by decide +kernel) (by decide)
    have z2 : Str.ofString "no2" ∉ us.map S := no_us gd (w := [110, 111, 50]) (by decide +kernel) (by decide)
    have z3 : Str.ofString "no3" ∉ us.map S := no_us gd (w := [110, 111, 51]) (by decide +kernel) (by decide)
    have z4 : Str.ofString "no4" ∉ us.map S := no_us gd (w := [110, 111, 52]) (by decide +kernel) (by decide)
    have w1 := wee_of "no1" (by decide)
    have w2 := wee_of "no2" (by decide)
    have w3 := wee_of "no3" (by decide)
    have w4 := wee_of "no4" (by decide)
    have wa := mS_wee gd.gw ha
    have wb := mS_wee gd.gw hb
    have ma := mS_mem ha
    have mb := mS_mem hb
    have lps : ((psS us prs).map prS).length ≤ 50 := by unfold psS; rw [List.length_map, List.length_map]; exact lp
    have eP : ∀ x y : Str, (psS us prs).map prS ++ [.tup [.str x, .str y]] = (psS us prs ++ [(x, y)]).map prS := fun x y => by rw [List.map_append]; rfl
    have e0 : (psS us prs).map prS = (psS us prs ++ []).map prS := by rw [List.append_nil]
    have c1 := sd_no (C := C) gd hpr lp (ex := [(Str.ofString "no3", mS us ia)]) (Nat.le_refl 1) (a := mS us ia) (b := Str.ofString "no1") (unkn_yes z3) (fun x hx => by simp [flatP] at hx; rcases hx with rfl | rfl | rfl | rfl <;> assumption) si ls ey
    have c2 := sd_no (C := C) gd hpr lp (ex := [(mS us ia, Str.ofString "no4")]) (Nat.le_refl 1) (a := Str.ofString "no1") (b := mS us ib) ((unkn_skip ma).trans (unkn_yes z4)) (fun x hx => by simp [flatP] at hx; rcases hx with rfl | rfl | rfl | rfl <;> assumption) si ls ey
    have c3 := sd_no (C := C) gd hpr lp (ex := []) (by decide) (a := mS us ia) (b := Str.ofString "no2") ((unkn_skip ma).trans (unkn_yes z2)) (fun x hx => by simp [flatP] at hx; rcases hx with rfl | rfl <;> assumption) si ls ey
    have c4 := sd_no (C := C) gd hpr lp (ex := []) (by decide) (a := Str.ofString "no2") (b := Str.ofString "no2") (unkn_yes z2) (fun x hx => by simp [flatP] at hx; rcases hx with rfl | rfl <;> assumption) (sts := []) (fun _ h => (by cases h)) (by decide) (.inl rfl)
    have c5 := sd_no (C := C) gd hpr lp (ex := []) (by decide) (a := Str.ofString "no2") (b := Str.ofString "no1") (unkn_yes z2) (fun x hx => by simp [flatP] at hx; rcases hx with rfl | rfl <;> assumption) si ls ey
    rw [← e0] at c3 c4 c5
    rw [← eP] at c1 c2
    with_reducible refine wn_seq ?_
    with_reducible refine wn_own (ww_lst ?_)
    walk_at "gs"
    refine ⟨by show _ + 1 ≤ _; omega, ?_⟩
    walk_at "gs"
    refine ⟨_, c1, ?_⟩
    walk_at "gs"
    intro l5 y5
    dsimp only
    with_reducible refine wn_seq ?_
    refine wn_app (l := l5) rfl (by decide) ?_
    walk_at "gs"
    refine ⟨by show _ + 1 ≤ _; omega, ?_⟩
    walk_at "gs"
    refine ⟨_, c2, ?_⟩
    dsimp only
    with_reducible refine wn_seq ?_
    refine wn_own (ww_view (ww_cat ?_))
    walk_at "gs"
    refine ⟨_, c3, ?_⟩
    walk_at "gs"
    refine ⟨_, c4, ?_⟩
    walk_at "gs"
    refine ⟨_, _, rfl, rfl, by show 2 + 2 ≤ 1000000; decide, ⟨_, rfl, fun x hx => ?_⟩, fun l6 y6 => ?_⟩
    · simp only [List.mem_append, List.mem_cons, List.not_mem_nil, or_false] at hx
      rcases hx with (rfl | rfl) | rfl | rfl <;> trivial
    dsimp only
    with_reducible refine wn_seq ?_
    refine wn_app (l := l6) rfl (by show 4 ≤ 1000000; decide) ?_
    walk_at "gs"
    refine ⟨_, c5, ?_⟩
    dsimp only
    walk_at "gs"
    have e1 : Str.ofString "no " ++ Str.ofString "no3" = Str.ofString "no no3" := by decide +kernel
    have e2 : Str.ofString "no " ++ Str.ofString "no4" = Str.ofString "no no4" := by decide +kernel
    have e3 : Str.ofString "no " ++ Str.ofString "no2" = Str.ofString "no no2" := by decide +kernel
    rw [e1, e2, e3]
    refine w2_eqD ⟨by decide +kernel, by decide +kernel, by decide +kernel, by decide +kernel, true, iff_of_true rfl rfl, ?_⟩
    exact rt_P q
end
end K43


set_option Elab.async false
set_option linter.all false
set_option maxRecDepth 100000
set_option maxHeartbeats 4000000
namespace K43
open PySem PySem.Spec PyProof.Rows L2 Evl NdefX SX StX Dl
/-! a drawn step -/
local macro_rules | `(tactic| walk_at "sr") => `(tactic| first | assumption | (refine Wd.Sr.vw ?_; walk_at "sr") | (refine Wd.Sr.own ?_; walk_at "sr") | (refine Wd.Sr.lp ?_; walk_at "sr"))
local macro_rules | `(tactic| walk_at "d1") => `(tactic| first
  | with_reducible refine wn_seq ?_
  | with_reducible refine wn_ret ?_
  | with_reducible refine wn_retN ?_
  | with_reducible refine wn_next ?_
  | with_reducible refine wn_cont ?_
  | with_reducible refine wn_break ?_
  | with_reducible refine wn_asg ?_
  | with_reducible refine wn_asgG ?_
  | with_reducible refine wn_drop ?_
  | ((with_reducible refine we_varX ?d ?hv ?_); (case hv => exact rfl))
  | with_reducible refine we_c ?_
  | with_reducible refine we_op ?_
  | with_reducible refine we_un ?_
  | with_reducible refine we_if ?_
  | with_reducible refine we_tup ?_
  | with_reducible refine we_lst ?_
  | with_reducible refine we_tl ?_
  | with_reducible refine we_slT ?_
  | with_reducible refine we_slL ?_
  | with_reducible refine we_revL ?_
  | with_reducible refine we_chain ?_
  | with_reducible refine we_andV ?_
  | with_reducible refine we_orV ?_
  | with_reducible refine we_notV ?_
  | with_reducible refine we_dget ?_
  | with_reducible refine we_din ?_
  | with_reducible refine we_dnin ?_
  | with_reducible refine we_dget2 ?_
  | with_reducible refine we_joined ?_
  | with_reducible refine we_fmt ?_
  | with_reducible refine wj_nil ?_
  | with_reducible refine wj_cons ?_
  | with_reducible refine we_call ?_
  | ((with_reducible refine we_pickX ?dd ?ll ?hs ?_); (case hs => walk_at "sr"))
  | with_reducible refine we_cb ?_
  | with_reducible refine wa_nil ?_
  | with_reducible refine wa_cons ?_
  | with_reducible refine wo_none ?_
  | with_reducible refine wo_some ?_
  | with_reducible refine wt_yes ?_
  | with_reducible refine wt_test ?_
  | with_reducible refine wt_B ?_
  | with_reducible refine wt_not ?_
  | with_reducible refine wt_and ?_
  | with_reducible refine wt_or ?_
  | with_reducible refine wt_truK ?_
  | with_reducible refine w2_I0 ⟨_, _, rfl, rfl, ?_⟩
  | with_reducible refine w2_eqI ⟨_, _, rfl, rfl, ?_⟩
  | with_reducible refine w2_eqS ⟨_, _, rfl, rfl, ?_⟩
  | with_reducible refine w2_neI ⟨_, _, rfl, rfl, ?_⟩
  | with_reducible refine w2_neS ⟨_, _, rfl, rfl, ?_⟩
  | with_reducible refine w2_adS ?_
  | with_reducible refine w2_isN ?_
  | with_reducible refine w2_notN ?_
  | ((with_reducible refine w2_inBX ?_); (refine ⟨_, rfl, ?_⟩))
  | with_reducible refine w2_inS ?_
  | ((with_reducible refine w2_ixL ?_); (refine ⟨_, _, _, rfl, rfl, rfl, ?_⟩))
  | ((with_reducible refine w2_ixT ?_); (refine ⟨_, _, _, rfl, rfl, rfl, ?_⟩))
  | ((with_reducible refine w2_ixL ?_); (refine ⟨_, _, _, rfl, rfl, atI_nat (j := 0) rfl, ?_⟩))
  | ((with_reducible refine w2_ixT ?_); (refine ⟨_, _, _, rfl, rfl, atI_nat (j := 0) rfl, ?_⟩))
  | with_reducible refine w2_ixL ?_
  | with_reducible refine w2_ixT ?_
  | ((with_reducible refine w2_cat ?_); (refine ⟨_, _, rfl, rfl, ?_⟩))
  | ((with_reducible refine w2_catT ?_); (refine ⟨_, _, rfl, rfl, (fun z => nomatch z), ?_⟩))
  | with_reducible refine w2_catT ?_
  | with_reducible refine w2_rep ?_
  | ((with_reducible refine wc_len ?_); (refine ⟨_, _, rfl, .inl rfl, ?_⟩))
  | ((with_reducible refine wc_len ?_); (refine ⟨_, _, rfl, .inr rfl, ?_⟩))
  | ((with_reducible refine wc_list ?_); (refine ⟨_, _, rfl, .inl rfl, ?_⟩))
  | ((with_reducible refine wc_list ?_); (refine ⟨_, _, rfl, .inr rfl, ?_⟩))
  | ((with_reducible refine wc_tup ?_); (refine ⟨_, _, rfl, .inl rfl, ?_⟩))
  | ((with_reducible refine wc_tup ?_); (refine ⟨_, _, rfl, .inr rfl, ?_⟩))
  | ((with_reducible refine wc_lenS ?_); (refine ⟨_, rfl, ?_⟩))
  | ((with_reducible refine wc_lenD ?_); (refine ⟨_, rfl, ?_⟩))
  | with_reducible refine w2_ixS ?_
  | with_reducible refine w2_inC ?_
  | with_reducible refine w2_ninC ?_
  | with_reducible refine wc_sum ?_
  | with_reducible refine wc_max ?_
  | with_reducible refine wc_min ?_
  | with_reducible refine wc_all ?_
  | with_reducible refine wc_any ?_
  | ((with_reducible refine wc_isi2 ?_); (refine ⟨_, _, _, _, rfl, rfl, rfl, ?_⟩))
  | with_reducible refine wc_int ⟨_, rfl, ?_⟩
  | with_reducible refine wc_abs ⟨_, rfl, ?_⟩
  | with_reducible refine wi_list ?_
  | with_reducible refine wi_tup ?_
  | with_reducible refine wi_rng1 ?_
  | with_reducible refine wi_rng2 ?_
  | with_reducible refine wi_enum ?_
  | with_reducible refine wi_zip ?_
  | with_reducible refine wi_str ?_
  | ((refine if_true_of ?hh ?_); (case hh => rfl))
  | ((refine if_false_of ?hh ?_); (case hh => rfl))
  | refine ⟨_, _, _, rfl, rfl, look_m, ?_⟩
  | refine ⟨_, _, _, rfl, rfl, look_s, ?_⟩
  | refine ⟨_, _, _, rfl, rfl, look_v, ?_⟩
  | refine ⟨Nat.le_of_ble_eq_true rfl, ?_⟩
  | refine ⟨_, rfl, ?_⟩
  | refine ⟨_, _, rfl, ?_⟩)
local macro_rules | `(tactic| walk_at "gs") => `(tactic| repeat walk_at "d1")
local macro_rules | `(tactic| walk_at "go") => `(tactic| repeat (first | walk_at "d1" | with_reducible refine wn_if ?_))

theorem us_atN {us : List (List Nat)} {p : Nat} (hp : p < us.length) : L2.atI (us.map fun u => Da.str (S u)) (p : Int) = some (.str (mS us p)) := by
  refine atI_nat ?_
  unfold mS
  rw [List.getElem?_map, List.getD_eq_getElem?_getD, List.getElem?_eq_getElem hp]
  rfl
section
variable {P : Program} {w : World} {K : PySem.W.Frag} {mg : Str → Option Value} {base : Heap}
def PDr (ds : List Da) (R : Da → Prop) : Prop := ∃ (us : List (List Nat)) (os : List Dop) (prs : List (Nat × Nat)), GoodD us os ∧ 1 ≤ prs.length ∧ prs.length ≤ 50 ∧ ds = [algDa us os, .lst (prs.map (prDa us))] ∧ R = fun r => ∃ k t ms, k < prs.length ∧ (∀ m ∈ ms, OkM us os m) ∧ ms.length ≤ 2 ∧ r = stDa us k t ms
abbrev s__law_drawn : Stmt := top 41
abbrev N__law_drawn : List Str := ["source", "algebra", "pairs", "moves", "signs", "k", "pair", "others", "n"]
theorem sc__law_drawn : FnScope N__law_drawn ["source", "algebra", "pairs"] (defScope s__law_drawn) := ⟨rfl, rfl, rfl, by decide +kernel, rfl, by decide +kernel, by decide +kernel⟩
theorem ok_drawn {f : Addr} {fd : FuncData} (F : Fun K "_law_drawn" "_law_drawn" s__law_drawn f fd) (T : Blt mg) (c__law_pick : Cal P w K mg base 1 "_law_pick" ["source", "many"] spPick) : FnOk P w K mg base CX0 2 f fd ["source", "algebra", "pairs"] (spS PDr) := by
  refine F.ok sc__law_drawn (fun vs H Q E h => ?_) (fun cdv A outer s H vs Q E hr h => ?_)
  · obtain ⟨d, L, X, vs', ds, R, rfl, _, _, _, _, r, ⟨us, os, prs, _, _, _, rfl, _⟩, _⟩ := h
    exact congrArg (· + 1) r.len
  · obtain ⟨d, L, X, vs', ds, R, rfl, sr, xd, xl, al, r, ⟨us, os, prs, gd, lp1, lp, rfl, rfl⟩, q⟩ := h
    have hu := hu_of hr
    have hu64 := hu64_of hr
    refine ⟨_, (pss_cons (ps_set (i := 3) sc__law_drawn.nd rfl (Or.inl rfl) (pe_lst pa_nil))
      (pss_cons (ps_setLc (i := 4) (own := [("pair", 6)]) (g := gName 6) (by rfl) sc__law_drawn.nd rfl rfl (sw_true rfl rfl rfl (by decide +kernel)) (pi_list (pe_dget hu (pv 1) (pe_str) (fun _ _ => rfl))) (blkOk_by (own := [("pair", 6)]) (N := N__law_drawn) (sc := defScope s__law_drawn) (by decide +kernel)) (fun _ _ _ _ _ => pg_name (i := 6) sc__law_drawn.nd rfl (Or.inl rfl)) (fun _ _ _ _ _ => pts_one (pt_cmpR op_gt (pe_ix (ix_tupK K) (pv 6) (pe_int) (fun _ _ => rfl)) (pe_int) (nomark _))) (fun _ _ _ _ _ => pv 6))
      (pss_cons (ps_for PassesOwn.never rfl (pi_range1 (by rfl) T.range (pa_cons (pe_ifExp (pt_cmpR (op_neDK K hu64) (pv 4) (pe_lst pa_nil) (nomark _)) (pe_cal c__law_pick (hr.mono (by decide)) (by rfl) (pa_cons (pv 0) (pa_cons (pe_int) pa_nil))) (pe_int)) pa_nil)) (pg_name (i := 5) sc__law_drawn.nd rfl (Or.inl rfl)) (pss_cons (ps_set (i := 6) sc__law_drawn.nd rfl (Or.inl rfl) (pe_ix (ix_listK K) (pv 4) (pe_cal c__law_pick (hr.mono (by decide)) (by rfl) (pa_cons (pv 0) (pa_cons (pe_callB (call_lenK K) (by rfl) T.len (by decide +kernel) (pa_cons (pv 4) pa_nil)) pa_nil))) (fun _ _ => rfl)))
      (pss_cons (ps_setLc (i := 7) (own := [("n", 8)]) (g := gName 8) (by rfl) sc__law_drawn.nd rfl rfl (sw_true rfl rfl rfl (by decide +kernel)) (pi_range1 (by rfl) T.range (pa_cons (pe_op op_sub (pe_ix (ix_tupK K) (pv 6) (pe_int) (fun _ _ => rfl)) (pe_int)) pa_nil)) (blkOk_by (own := [("n", 8)]) (N := N__law_drawn) (sc := defScope s__law_drawn) (by decide +kernel)) (fun _ _ _ _ _ => pg_name (i := 8) sc__law_drawn.nd rfl (Or.inl rfl)) (fun _ _ _ _ _ => pts_nil) (fun _ _ _ _ _ => pe_ix (ix_listK K) (pe_dget hu (pv 1) (pe_str) (fun _ _ => rfl)) (pe_cal c__law_pick (hr.mono (by decide)) (by rfl) (pa_cons (pv 0) (pa_cons (pe_callB (call_lenK K) (by rfl) T.len (by decide +kernel) (pa_cons (pe_dget hu (pv 1) (pe_str) (fun _ _ => rfl)) pa_nil)) pa_nil))) (fun _ _ => rfl)))
      (pss_one (ps_expr (pe_bm PySem.F.plainAttrs_list PySem.F.slot_list_append PySem.F.type_list_append mt_append (pv 3) (pa_cons (pe_tup (pa_cons (pe_ix (ix_tupK K) (pv 6) (pe_int) (fun _ _ => rfl)) (pa_cons (pe_cal c__law_pick (hr.mono (by decide)) (by rfl) (pa_cons (pv 0) (pa_cons (pe_ix (ix_tupK K) (pv 6) (pe_int) (fun _ _ => rfl)) pa_nil))) (pa_cons (pe_callTy (call_tupK K) (by rfl) T.tuple (by decide +kernel) (pa_cons (pv 7) pa_nil)) pa_nil)))) pa_nil)))))))
      (pss_one (ps_ret (pe_tup (pa_cons (pe_cal c__law_pick (hr.mono (by decide)) (by rfl) (pa_cons (pv 0) (pa_cons (pe_callB (call_lenK K) (by rfl) T.len (by decide +kernel) (pa_cons (pv 2) pa_nil)) pa_nil))) (pa_cons (pe_cmpR op_eq (pe_cal c__law_pick (hr.mono (by decide)) (by rfl) (pa_cons (pv 0) (pa_cons (pe_int) pa_nil))) (pe_int) (nomark _)) (pa_cons (pe_callTy (call_tupK K) (by rfl) T.tuple (by decide +kernel) (pa_cons (pv 3) pa_nil)) pa_nil))))))))), ?_⟩
    have hW := wdS_sr (H := H) (hd := xd) (hL := xl)
    refine wn_start (W := wdS H X d L xd xl) [.da (.adr d), .da (algDa us os), .da (.lst (prs.map (prDa us))), .un, .un, .un, .un, .un, .un] rfl rfl sr al (.cons (.adr d) r) ?_
    have l5 := gd.l5
    have n1 := gd.n1
    have n6 := gd.n6
    with_reducible refine wn_seq ?_
    with_reducible refine wn_own (ww_lst (wa_nil ⟨by decide, fun lm ym => ?_⟩))
    dsimp only
    with_reducible refine wn_seq ?_
    refine wn_asg (ww_lcTF (S := [6]) (by decide) ?_).e
    walk_at "gs"
    refine ⟨Dop, os, fun o => .tup [.str (S o.1), .int (o.2.1 : Int)], fun o => .tup [.str (S o.1), .int (o.2.1 : Int)], fun o => decide (0 < o.2.1), rfl, by omega, fun o D ho => wg_name ?_, ?_⟩
    · walk_at "gs"
      refine ⟨by rw [decide_eq_decide]; omega, fun hb => ?_⟩
      walk_at "gs"
      rfl
    have mso : ∀ o ∈ os.filter (fun o => decide (0 < o.2.1)), o ∈ os ∧ 0 < o.2.1 := fun o ho => ⟨(List.mem_filter.mp ho).1, of_decide_eq_true (List.mem_filter.mp ho).2⟩
    have lso : (os.filter fun o => decide (0 < o.2.1)).length ≤ 5 := Nat.le_trans (List.length_filter_le _ _) l5
    generalize os.filter (fun o => decide (0 < o.2.1)) = so at mso lso
    have lsm : (so.map fun o => Da.tup [.str (S o.1), .int (o.2.1 : Int)]).length = so.length := List.length_map _
    walk_at "gs"
    refine wn_for (S := [5]) (wi_rng1 (wa_cons (WE.mono (Φ := fun x => ∃ np : Nat, x = .int (np : Int) ∧ np ≤ 2 ∧ (0 < np → 0 < so.length)) ?_ fun x hx => ?_)))
    · walk_at "gs"
      refine w2_neNil (plDs_map fun o ho => ?_) ?_ ?_
      · show (plD (.str (S o.1)) && (plD (.int (o.2.1 : Int)) && true)) = true
        rw [show plD (.str (S o.1)) = true from (gd.gw.ws o (mso o ho).1).ok]
        rfl
      · have : dpDs (so.map fun o => Da.tup [.str (S o.1), .int (o.2.1 : Int)]) ≤ 1 := dpDs_le fun a ha => by
          obtain ⟨u, _, rfl⟩ := List.mem_map.mp ha
          exact Nat.le_refl _
        omega
      walk_at "gs"
      by_cases cs : so = []
      · refine if_false_of (by rw [cs]; rfl) ?_
        walk_at "gs"
        exact fun z => absurd z (by decide)
      · refine if_true_of (by cases so with | nil => exact absurd rfl cs | cons a b => rfl) ?_
        walk_at "gs"
        refine ⟨by decide, fun np hnp => ⟨np, rfl, by omega, fun _ => List.length_pos_iff.mpr cs⟩⟩
    · obtain ⟨np, rfl, np2, hso⟩ := hx
      walk_at "gs"
      have rgl : ∀ m : Nat, (rgD (m : Int).toNat).length = m := fun m => by unfold rgD; rw [List.length_map, List.length_range]; omega
      refine ⟨by omega, by omega, fun i ρ => ∃ ms e5 e6 e7 e8, ρ = [.da (.adr d), .da (algDa us os), .da (.lst (prs.map (prDa us))), .ml lm (ms.map (mvDa us)), .da (.lst (so.map fun o => .tup [.str (S o.1), .int (o.2.1 : Int)])), e5, e6, e7, e8] ∧ (∀ m ∈ ms, OkM us os m) ∧ ms.length = i, ⟨[], .un, .un, .un, .un, rfl, fun m h => (by cases h), rfl⟩, fun i x ρ' H1 hx hi => ?_, fun ρ' hi => ?_⟩
      · obtain ⟨ms, e5, e6, e7, e8, rfl, hms, lms⟩ := hi
        have hi := (List.getElem?_eq_some_iff.mp hx).1
        rw [rgl] at hi
        have hso := hso (by omega)
        refine wg_name ?_
        walk_at "gs"
        refine ⟨by omega, fun p0 hp0 => ?_⟩
        have hp0 : p0 < so.length := by rw [lsm] at hp0; omega
        obtain ⟨ho, hpos⟩ := mso _ (List.getElem_mem hp0)
        have eo : (so.map fun o => Da.tup [.str (S o.1), .int (o.2.1 : Int)])[p0]? = some (.tup [.str (S so[p0].1), .int (so[p0].2.1 : Int)]) := by
          rw [List.getElem?_map, List.getElem?_eq_getElem hp0]
          rfl
        generalize so[p0] = o at ho hpos eo
        have a2 := (gd.va o ho).1
        refine w2_ixL ⟨_, _, _, rfl, rfl, atI_nat eo, ?_⟩
        dsimp only
        with_reducible refine wn_seq ?_
        refine wn_asg (ww_lcP (S := [8]) (by decide) ?_).e
        walk_at "gs"
        have eo2 : ((o.2.1 : Int) - 1) = ((o.2.1 - 1 : Nat) : Int) := by omega
        rw [eo2]
        refine ⟨by omega, by omega, by rw [rgl]; omega, fun i acc => ∃ row, acc = rwDa us row ∧ (∀ p ∈ row, p < us.length) ∧ row.length = i, ⟨[], rfl, fun p hp => (by cases hp), rfl⟩, fun i x acc D hx _ ⟨row, e, hr2, lr⟩ => wg_name ?_, fun acc ⟨row, e, hr2, lr⟩ => ?_⟩
        · walk_at "gs"
          refine ⟨by rw [List.length_map]; omega, fun p hp => ?_⟩
          have hp2 : p < us.length := by rw [List.length_map] at hp; omega
          subst e
          refine w2_ixL ⟨_, _, _, rfl, rfl, us_atN hp2, ?_⟩
          refine ⟨row ++ [p], by unfold rwDa; rw [List.map_append]; rfl, fun z hz => ?_, by rw [List.length_append, lr]; rfl⟩
          rcases List.mem_append.mp hz with hz | hz
          · exact hr2 z hz
          · exact List.mem_singleton.mp hz ▸ hp2
        rw [rgl] at lr
        subst e
        refine wn_app (l := lm) rfl (by rw [List.length_map]; omega) ?_
        walk_at "gs"
        refine ⟨by omega, fun pl hpl => ?_⟩
        walk_at "gs"
        have hpl2 : pl < o.2.1 := by omega
        refine wn_to ⟨ms ++ [⟨o, pl, row⟩], _, _, _, _, by rw [List.map_append]; rfl, fun m hm => ?_, by rw [List.length_append, lms]; rfl⟩
        rcases List.mem_append.mp hm with hm | hm
        · exact hms m hm
        · rw [List.mem_singleton.mp hm]
          exact ⟨ho, hpl2, lr, hr2⟩
      · obtain ⟨ms, e5, e6, e7, e8, rfl, hms, lms⟩ := hi
        rw [rgl] at lms
        have lpm : (prs.map (prDa us)).length = prs.length := List.length_map _
        walk_at "gs"
        refine ⟨by omega, fun k hk => ?_⟩
        have hk2 : k < prs.length := by rw [lpm] at hk; omega
        walk_at "gs"
        refine ⟨by decide, fun t ht => ?_⟩
        walk_at "gs"
        refine rt_S (hd := xd) (hL := xl) fun v H' kk j rr => q v H' _ ⟨k, decide (t = 0), ms, hk2, hms, by omega, ?_⟩ kk j rr
        unfold stDa
        have e : decide ((t : Int) = 0) = decide (t = 0) := by rw [decide_eq_decide]; omega
        rw [← e]
end
end K43


set_option Elab.async false
set_option linter.all false
set_option maxRecDepth 100000
set_option maxHeartbeats 4000000
namespace K43
open PySem PySem.Spec PyProof.Rows L2 Evl NdefX SX StX Dl
/-! a spoilt step -/
local macro_rules | `(tactic| walk_at "sr") => `(tactic| first | assumption | (refine Wd.Sr.vw ?_; walk_at "sr") | (refine Wd.Sr.own ?_; walk_at "sr") | (refine Wd.Sr.lp ?_; walk_at "sr"))
local macro_rules | `(tactic| walk_at "d1") => `(tactic| first
  | with_reducible refine wn_seq ?_
  | with_reducible refine wn_ret ?_
  | with_reducible refine wn_retN ?_
  | with_reducible refine wn_next ?_
  | with_reducible refine wn_cont ?_
  | with_reducible refine wn_break ?_
  | with_reducible refine wn_asg ?_
  | with_reducible refine wn_asgG ?_
  | with_reducible refine wn_drop ?_
  | ((with_reducible refine we_varX ?d ?hv ?_); (case hv => exact rfl))
  | with_reducible refine we_c ?_
  | with_reducible refine we_op ?_
  | with_reducible refine we_un ?_
  | with_reducible refine we_if ?_
  | with_reducible refine we_tup ?_
  | with_reducible refine we_lst ?_
  | with_reducible refine we_tl ?_
  | with_reducible refine we_slT ?_
  | with_reducible refine we_slL ?_
  | with_reducible refine we_revL ?_
  | with_reducible refine we_chain ?_
  | with_reducible refine we_andV ?_
  | with_reducible refine we_orV ?_
  | with_reducible refine we_notV ?_
  | with_reducible refine we_dget ?_
  | with_reducible refine we_din ?_
  | with_reducible refine we_dnin ?_
  | with_reducible refine we_dget2 ?_
  | with_reducible refine we_joined ?_
  | with_reducible refine we_fmt ?_
  | with_reducible refine wj_nil ?_
  | with_reducible refine wj_cons ?_
  | with_reducible refine we_call ?_
  | ((with_reducible refine we_pickX ?dd ?ll ?hs ?_); (case hs => walk_at "sr"))
  | with_reducible refine we_cb ?_
  | with_reducible refine wa_nil ?_
  | with_reducible refine wa_cons ?_
  | with_reducible refine wo_none ?_
  | with_reducible refine wo_some ?_
  | with_reducible refine wt_yes ?_
  | with_reducible refine wt_test ?_
  | with_reducible refine wt_B ?_
  | with_reducible refine wt_not ?_
  | with_reducible refine wt_and ?_
  | with_reducible refine wt_or ?_
  | with_reducible refine wt_truK ?_
  | with_reducible refine w2_I0 ⟨_, _, rfl, rfl, ?_⟩
  | with_reducible refine w2_eqI ⟨_, _, rfl, rfl, ?_⟩
  | with_reducible refine w2_eqS ⟨_, _, rfl, rfl, ?_⟩
  | with_reducible refine w2_neI ⟨_, _, rfl, rfl, ?_⟩
  | with_reducible refine w2_neS ⟨_, _, rfl, rfl, ?_⟩
  | with_reducible refine w2_adS ?_
  | with_reducible refine w2_isN ?_
  | with_reducible refine w2_notN ?_
  | ((with_reducible refine w2_inBX ?_); (refine ⟨_, rfl, ?_⟩))
  | with_reducible refine w2_inS ?_
  | ((with_reducible refine w2_ixL ?_); (refine ⟨_, _, _, rfl, rfl, rfl, ?_⟩))
  | ((with_reducible refine w2_ixT ?_); (refine ⟨_, _, _, rfl, rfl, rfl, ?_⟩))
  | ((with_reducible refine w2_ixL ?_); (refine ⟨_, _, _, rfl, rfl, atI_nat (j := 0) rfl, ?_⟩))
  | ((with_reducible refine w2_ixT ?_); (refine ⟨_, _, _, rfl, rfl, atI_nat (j := 0) rfl, ?_⟩))
  | with_reducible refine w2_ixL ?_
  | with_reducible refine w2_ixT ?_
  | ((with_reducible refine w2_cat ?_); (refine ⟨_, _, rfl, rfl, ?_⟩))
  | ((with_reducible refine w2_catT ?_); (refine ⟨_, _, rfl, rfl, (fun z => nomatch z), ?_⟩))
  | with_reducible refine w2_catT ?_
  | with_reducible refine w2_rep ?_
  | ((with_reducible refine wc_len ?_); (refine ⟨_, _, rfl, .inl rfl, ?_⟩))
  | ((with_reducible refine wc_len ?_); (refine ⟨_, _, rfl, .inr rfl, ?_⟩))
  | ((with_reducible refine wc_list ?_); (refine ⟨_, _, rfl, .inl rfl, ?_⟩))
  | ((with_reducible refine wc_list ?_); (refine ⟨_, _, rfl, .inr rfl, ?_⟩))
  | ((with_reducible refine wc_tup ?_); (refine ⟨_, _, rfl, .inl rfl, ?_⟩))
  | ((with_reducible refine wc_tup ?_); (refine ⟨_, _, rfl, .inr rfl, ?_⟩))
  | ((with_reducible refine wc_lenS ?_); (refine ⟨_, rfl, ?_⟩))
  | ((with_reducible refine wc_lenD ?_); (refine ⟨_, rfl, ?_⟩))
  | with_reducible refine w2_ixS ?_
  | with_reducible refine w2_inC ?_
  | with_reducible refine w2_ninC ?_
  | with_reducible refine wc_sum ?_
  | with_reducible refine wc_max ?_
  | with_reducible refine wc_min ?_
  | with_reducible refine wc_all ?_
  | with_reducible refine wc_any ?_
  | ((with_reducible refine wc_isi2 ?_); (refine ⟨_, _, _, _, rfl, rfl, rfl, ?_⟩))
  | with_reducible refine wc_int ⟨_, rfl, ?_⟩
  | with_reducible refine wc_abs ⟨_, rfl, ?_⟩
  | with_reducible refine wi_list ?_
  | with_reducible refine wi_tup ?_
  | with_reducible refine wi_rng1 ?_
  | with_reducible refine wi_rng2 ?_
  | with_reducible refine wi_enum ?_
  | with_reducible refine wi_zip ?_
  | with_reducible refine wi_str ?_
  | ((refine if_true_of ?hh ?_); (case hh => rfl))
  | ((refine if_false_of ?hh ?_); (case hh => rfl))
  | refine ⟨_, _, _, rfl, rfl, look_m, ?_⟩
  | refine ⟨_, _, _, rfl, rfl, look_s, ?_⟩
  | refine ⟨_, _, _, rfl, rfl, look_v, ?_⟩
  | refine ⟨Nat.le_of_ble_eq_true rfl, ?_⟩
  | refine ⟨_, rfl, ?_⟩
  | refine ⟨_, _, rfl, ?_⟩)
local macro_rules | `(tactic| walk_at "gs") => `(tactic| repeat walk_at "d1")
local macro_rules | `(tactic| walk_at "go") => `(tactic| repeat (first | walk_at "d1" | with_reducible refine wn_if ?_))

local macro_rules | `(tactic| walk_at "e1") => `(tactic| first
  | with_reducible refine we_slA ?_
  | ((with_reducible refine w2_catA ?_); (refine ⟨_, _, rfl, rfl, ?_⟩))
  | with_reducible refine we_revT ?_
  | with_reducible refine we_listRg ?_
  | with_reducible refine wc_intB ⟨_, rfl, ?_⟩
  | with_reducible refine w1_U ⟨_, rfl, ?_⟩
  | ((with_reducible refine we_varX ?d ?hv ?_); (case hv => exact rfl))
  | with_reducible refine we_c ?_
  | with_reducible refine we_op ?_
  | with_reducible refine we_un ?_
  | with_reducible refine we_if ?_
  | with_reducible refine we_tup ?_
  | with_reducible refine we_lst ?_
  | with_reducible refine we_tl ?_
  | with_reducible refine we_slT ?_
  | with_reducible refine we_slL ?_
  | with_reducible refine we_revL ?_
  | with_reducible refine we_chain ?_
  | with_reducible refine we_andV ?_
  | with_reducible refine we_orV ?_
  | with_reducible refine we_notV ?_
  | with_reducible refine we_dget ?_
  | with_reducible refine we_din ?_
  | with_reducible refine we_dnin ?_
  | with_reducible refine we_dget2 ?_
  | with_reducible refine we_joined ?_
  | with_reducible refine we_fmt ?_
  | with_reducible refine wj_nil ?_
  | with_reducible refine wj_cons ?_
  | with_reducible refine we_call ?_
  | ((with_reducible refine we_pickX ?dd ?ll ?hs ?_); (case hs => walk_at "sr"))
  | with_reducible refine we_cb ?_
  | with_reducible refine wa_nil ?_
  | with_reducible refine wa_cons ?_
  | with_reducible refine wo_none ?_
  | with_reducible refine wo_some ?_
  | with_reducible refine wt_yes ?_
  | with_reducible refine wt_test ?_
  | with_reducible refine wt_B ?_
  | with_reducible refine wt_not ?_
  | with_reducible refine wt_and ?_
  | with_reducible refine wt_or ?_
  | with_reducible refine wt_truK ?_
  | with_reducible refine w2_I0 ⟨_, _, rfl, rfl, ?_⟩
  | with_reducible refine w2_eqI ⟨_, _, rfl, rfl, ?_⟩
  | with_reducible refine w2_eqS ⟨_, _, rfl, rfl, ?_⟩
  | with_reducible refine w2_neI ⟨_, _, rfl, rfl, ?_⟩
  | with_reducible refine w2_neS ⟨_, _, rfl, rfl, ?_⟩
  | with_reducible refine w2_adS ?_
  | with_reducible refine w2_isN ?_
  | with_reducible refine w2_notN ?_
  | ((with_reducible refine w2_inBX ?_); (refine ⟨_, rfl, ?_⟩))
  | with_reducible refine w2_inS ?_
  | ((with_reducible refine w2_ixL ?_); (refine ⟨_, _, _, rfl, rfl, rfl, ?_⟩))
  | ((with_reducible refine w2_ixT ?_); (refine ⟨_, _, _, rfl, rfl, rfl, ?_⟩))
  | ((with_reducible refine w2_ixL ?_); (refine ⟨_, _, _, rfl, rfl, atI_nat (j := 0) rfl, ?_⟩))
  | ((with_reducible refine w2_ixT ?_); (refine ⟨_, _, _, rfl, rfl, atI_nat (j := 0) rfl, ?_⟩))
  | with_reducible refine w2_ixL ?_
  | with_reducible refine w2_ixT ?_
  | ((with_reducible refine w2_cat ?_); (refine ⟨_, _, rfl, rfl, ?_⟩))
  | ((with_reducible refine w2_catT ?_); (refine ⟨_, _, rfl, rfl, (fun z => nomatch z), ?_⟩))
  | with_reducible refine w2_catT ?_
  | with_reducible refine w2_rep ?_
  | ((with_reducible refine wc_len ?_); (refine ⟨_, _, rfl, .inl rfl, ?_⟩))
  | ((with_reducible refine wc_len ?_); (refine ⟨_, _, rfl, .inr rfl, ?_⟩))
  | ((with_reducible refine wc_list ?_); (refine ⟨_, _, rfl, .inl rfl, ?_⟩))
  | ((with_reducible refine wc_list ?_); (refine ⟨_, _, rfl, .inr rfl, ?_⟩))
  | ((with_reducible refine wc_tup ?_); (refine ⟨_, _, rfl, .inl rfl, ?_⟩))
  | ((with_reducible refine wc_tup ?_); (refine ⟨_, _, rfl, .inr rfl, ?_⟩))
  | ((with_reducible refine wc_lenS ?_); (refine ⟨_, rfl, ?_⟩))
  | ((with_reducible refine wc_lenD ?_); (refine ⟨_, rfl, ?_⟩))
  | with_reducible refine w2_ixS ?_
  | with_reducible refine w2_inC ?_
  | with_reducible refine w2_ninC ?_
  | with_reducible refine wc_sum ?_
  | with_reducible refine wc_max ?_
  | with_reducible refine wc_min ?_
  | with_reducible refine wc_all ?_
  | with_reducible refine wc_any ?_
  | ((with_reducible refine wc_isi2 ?_); (refine ⟨_, _, _, _, rfl, rfl, rfl, ?_⟩))
  | with_reducible refine wc_int ⟨_, rfl, ?_⟩
  | with_reducible refine wc_abs ⟨_, rfl, ?_⟩
  | with_reducible refine wi_list ?_
  | with_reducible refine wi_tup ?_
  | with_reducible refine wi_rng1 ?_
  | with_reducible refine wi_rng2 ?_
  | with_reducible refine wi_enum ?_
  | with_reducible refine wi_zip ?_
  | with_reducible refine wi_str ?_
  | ((refine if_true_of ?hh ?_); (case hh => rfl))
  | ((refine if_false_of ?hh ?_); (case hh => rfl))
  | refine ⟨_, _, _, rfl, rfl, look_m, ?_⟩
  | refine ⟨_, _, _, rfl, rfl, look_s, ?_⟩
  | refine ⟨_, _, _, rfl, rfl, look_v, ?_⟩
  | refine ⟨Nat.le_of_ble_eq_true rfl, ?_⟩
  | refine ⟨_, rfl, ?_⟩
  | refine ⟨_, _, rfl, ?_⟩)
local macro_rules | `(tactic| walk_at "es") => `(tactic| repeat walk_at "e1")

local macro_rules | `(tactic| walk_at "d1") => `(tactic| first | with_reducible refine we_slA ?_ | ((with_reducible refine w2_catA ?_); (refine ⟨_, _, rfl, rfl, ?_⟩)) | with_reducible refine we_revT ?_ | with_reducible refine wc_intB ⟨_, rfl, ?_⟩ | with_reducible refine w1_U ⟨_, rfl, ?_⟩)
theorem tyK_q : ∀ {d : Da}, qD d = true → tyK d = true
  | .non, _ => rfl
  | .int _, _ => rfl
  | .str _, _ => rfl
  | .lst _, _ => rfl
  | .tup _, _ => rfl
  | .bl _, _ => rfl
  | .ty b, h => by cases h
  | .adr b, h => by cases h
  | .ext b, h => by cases h
  | .dct a, h => by cases h
  | .dtt a, h => by cases h
/-- good for a move -/
def MG (m : Da) : Prop := MIn m ∧ qD m = true ∧ dpD m ≤ 6
def SG (r : Da) : Prop := SIn r ∧ qD r = true ∧ dpD r ≤ 10
theorem qDs_mem : ∀ {ds : List Da} {d : Da}, qDs ds = true → d ∈ ds → qD d = true
  | [], _, _, h => by cases h
  | a :: r, d, h, hd => by
    have h : (qD a && qDs r) = true := h
    rw [Bool.and_eq_true] at h
    rcases List.mem_cons.mp hd with rfl | hd
    · exact h.1
    · exact qDs_mem h.2 hd
theorem qD_tup {ds : List Da} (h : ∀ d ∈ ds, qD d = true ∧ dpD d ≤ n) : qD (.tup ds) = true ∧ dpD (.tup ds) ≤ n + 1 := by
  refine ⟨qDs_of fun d hd => (h d hd).1, ?_⟩
  have : dpDs ds ≤ n := dpDs_le fun d hd => (h d hd).2
  show dpDs ds + 1 ≤ n + 1
  omega
theorem qD_lst {ds : List Da} (h : ∀ d ∈ ds, qD d = true ∧ dpD d ≤ n) : qD (.lst ds) = true ∧ dpD (.lst ds) ≤ n + 1 := qD_tup (ds := ds) h
theorem MG3 {a b c : Da} (ha : plD a = true ∧ dpD a ≤ 3) (hb : plD b = true ∧ dpD b ≤ 3) (hc : qD c = true ∧ dpD c ≤ 3) (hn : ∀ ns, c = .tup ns → ns.length ≤ 1000 ∧ ∀ n ∈ ns, ∃ z, n = .str z) : MG (.tup [a, b, c]) := by
  have z := qD_tup (ds := [a, b, c]) (n := 3) fun d hd => by
    rcases List.mem_cons.mp hd with rfl | hd
    · exact ⟨qD_pl ha.1, ha.2⟩
    rcases List.mem_cons.mp hd with rfl | hd
    · exact ⟨qD_pl hb.1, hb.2⟩
    rw [List.mem_singleton.mp hd]; exact hc
  refine ⟨⟨rfl, fun a' b' c' e => ?_⟩, z.1, by omega⟩
  cases e
  exact ⟨⟨ha.1, by omega⟩, ⟨hb.1, by omega⟩, tyK_q hc.1, hn⟩
theorem MG3s {a b : Da} {xs : List Da} (ha : plD a = true ∧ dpD a ≤ 3) (hb : plD b = true ∧ dpD b ≤ 3) (hx : ∀ d ∈ xs, (∃ z, d = .str z) ∧ qD d = true) (l : xs.length ≤ 1000) : MG (.tup [a, b, .tup xs]) := by
  have z := qD_tup (ds := xs) (n := 0) fun d hd => by
    obtain ⟨⟨z, rfl⟩, h⟩ := hx d hd
    exact ⟨h, Nat.zero_le _⟩
  exact MG3 ha hb ⟨z.1, by omega⟩ fun ns e => by
    injection e with e
    subst e
    exact ⟨l, fun n hn => (hx n hn).1⟩
theorem MGn {ds : List Da} (h : ds.length ≠ 3) (hd : ∀ d ∈ ds, qD d = true ∧ dpD d ≤ 3) : MG (.tup ds) := by
  have z := qD_tup (n := 3) hd
  refine ⟨⟨rfl, fun a b c e => absurd (by injection e with e; rw [e]; rfl) h⟩, z.1, by omega⟩
theorem MGl {ds : List Da} (hd : ∀ d ∈ ds, qD d = true ∧ dpD d ≤ 3) : MG (.lst ds) := by
  have z := qD_lst (n := 3) hd
  exact ⟨⟨rfl, fun a b c e => by cases e⟩, z.1, by omega⟩
theorem SG3 {a b c : Da} (ha : (plD a = true ∧ dpD a ≤ 8) ∨ ∃ t, a = .bl t) (hb : qD b = true ∧ dpD b ≤ 8) (hc : qD c = true ∧ dpD c ≤ 8) (hn : ∀ ms, c = .tup ms → ms.length ≤ 50 ∧ ∀ m ∈ ms, MIn m) : SG (.tup [a, b, c]) := by
  have qa : qD a = true ∧ dpD a ≤ 8 := by
    rcases ha with ha | ⟨t, rfl⟩
    · exact ⟨qD_pl ha.1, ha.2⟩
    · exact ⟨rfl, Nat.zero_le _⟩
  have z := qD_tup (ds := [a, b, c]) (n := 8) fun d hd => by
    rcases List.mem_cons.mp hd with rfl | hd
    · exact qa
    rcases List.mem_cons.mp hd with rfl | hd
    · exact hb
    rw [List.mem_singleton.mp hd]; exact hc
  refine ⟨⟨rfl, fun a' b' c' e => ?_⟩, z.1, by omega⟩
  cases e
  exact ⟨ha.imp (fun h => ⟨h.1, by omega⟩) id, tyK_q hb.1, tyK_q hc.1, hn⟩
theorem SGn {ds : List Da} (h : ds.length ≠ 3) (hd : ∀ d ∈ ds, qD d = true ∧ dpD d ≤ 8) : SG (.tup ds) := by
  have z := qD_tup (n := 8) hd
  refine ⟨⟨rfl, fun a b c e => absurd (by injection e with e; rw [e]; rfl) h⟩, z.1, by omega⟩
theorem SGl {ds : List Da} (hd : ∀ d ∈ ds, qD d = true ∧ dpD d ≤ 8) : SG (.lst ds) := by
  have z := qD_lst (n := 8) hd
  exact ⟨⟨rfl, fun a b c e => by cases e⟩, z.1, by omega⟩
theorem SGi (i : Int) : SG (.int i) := ⟨⟨rfl, fun a b c e => by cases e⟩, rfl, Nat.zero_le _⟩
section
variable {us : List (List Nat)} {os : List Dop}
theorem rw_q (g : GoodW us os) {row : List Nat} (h : ∀ x ∈ row, x < us.length) : ∀ d ∈ rwDa us row, qD d = true ∧ dpD d ≤ 0 := fun d hd => by
  obtain ⟨x, hx, rfl⟩ := List.mem_map.mp hd
  exact ⟨(mS_wee g (h x hx)).ok, Nat.zero_le _⟩
theorem rw_s {row : List Nat} : ∀ d ∈ rwDa us row, ∃ z, d = .str z := fun d hd => by
  obtain ⟨x, hx, rfl⟩ := List.mem_map.mp hd
  exact ⟨_, rfl⟩
theorem rw_pl (g : GoodW us os) {row : List Nat} (h : ∀ x ∈ row, x < us.length) : plDs (rwDa us row) = true := plDs_map fun x hx => (mS_wee g (h x hx)).ok
theorem mv_G (g : GoodW us os) {m : Mv} (h : OkM us os m) : MG (mvDa us m) := by
  have z := qD_tup (rw_q g h.r)
  have l := h.l
  have a2 := (g.va _ h.o).1
  exact MG3 ⟨(g.ws _ h.o).ok, Nat.zero_le _⟩ ⟨rfl, Nat.zero_le _⟩ ⟨z.1, by omega⟩ fun ns e => by
    injection e with e
    subst e
    exact ⟨by rw [rw_len]; omega, rw_s⟩
theorem mv_pl (g : GoodW us os) {m : Mv} (h : OkM us os m) : plD (mvDa us m) = true := by
  show (plD (.str (S m.o.1)) && (true && (plDs (rwDa us m.row) && true))) = true
  rw [show plD (.str (S m.o.1)) = true from (g.ws _ h.o).ok, rw_pl g h.r]
  rfl
theorem mvs_q {xs : List Da} (h : ∀ x ∈ xs, MG x) : qD (.tup xs) = true ∧ dpD (.tup xs) ≤ 7 := qD_tup fun d hd => (h d hd).2
theorem SGm {k : Int} {b : Da} {xs : List Da} (hb : qD b = true ∧ dpD b ≤ 8) (hx : ∀ x ∈ xs, MG x) (l : xs.length ≤ 50) : SG (.tup [.int k, b, .tup xs]) := by
  have z := mvs_q hx
  exact SG3 (.inl ⟨rfl, Nat.zero_le _⟩) hb ⟨z.1, by omega⟩ fun ms e => by
    injection e with e
    subst e
    exact ⟨l, fun m hm => (hx m hm).1⟩
theorem st_G (g : GoodW us os) {k : Nat} {t : Bool} {ms : List Mv} (h : ∀ m ∈ ms, OkM us os m) (l : ms.length ≤ 2) : SG (stDa us k t ms) := SGm ⟨rfl, Nat.zero_le _⟩ (fun x hx => by
  obtain ⟨m, hm, rfl⟩ := List.mem_map.mp hx
  exact mv_G g (h m hm)) (by rw [List.length_map]; omega)
end
theorem w2_pickL {W : Wd} {K : PySem.W.Frag} {Φ : Da → Prop} (P : Da → Prop) {ds : List Da} {p : Nat} (h : ∀ x ∈ ds, P x) (hp : p < ds.length) (f : ∀ x, P x → Φ x) : W2 W (rIxL K) (.lst ds) (.int (p : Int)) Φ := w2_ixL ⟨ds, p, ds[p], rfl, rfl, atI_nat (List.getElem?_eq_getElem hp), f _ (h _ (List.getElem_mem hp))⟩
section
variable {P : Program} {w : World} {K : PySem.W.Frag} {mg : Str → Option Value} {base : Heap}
def PSp (ds : List Da) (R : Da → Prop) : Prop := ∃ (us : List (List Nat)) (os : List Dop) (k : Nat) (t : Bool) (ms : List Mv) (z : Str), GoodD us os ∧ (∀ m ∈ ms, OkM us os m) ∧ ms.length ≤ 2 ∧ Wee z ∧ ds = [stDa us k t ms, .str z] ∧ R = SG
abbrev s__law_spoilt : Stmt := top 44
abbrev N__law_spoilt : List Str := ["source", "step", "member", "pick", "odd", "more", "spot", "move", "rows"]
theorem sc__law_spoilt : FnScope N__law_spoilt ["source", "step", "member"] (defScope s__law_spoilt) := ⟨rfl, rfl, rfl, by decide +kernel, rfl, by decide +kernel, by decide +kernel⟩
theorem ok_spo {f : Addr} {fd : FuncData} (F : Fun K "_law_spoilt" "_law_spoilt" s__law_spoilt f fd) (T : Blt mg) (c__law_pick : Cal P w K mg base 1 "_law_pick" ["source", "many"] spPick) : FnOk P w K mg base CX0 2 f fd ["source", "step", "member"] (spS PSp) := by
  refine F.ok sc__law_spoilt (fun vs H Q E h => ?_) (fun cdv A outer s H vs Q E hr h => ?_)
  · obtain ⟨d, L, X, vs', ds, R, rfl, _, _, _, _, r, ⟨us, os, k, t, ms, z, _, _, _, _, rfl, _⟩, _⟩ := h
    exact congrArg (· + 1) r.len
  · obtain ⟨d, L, X, vs', ds, R, rfl, sr, xd, xl, al, r, ⟨us, os, k, t, ms, z, gd, hm, lm, wz, rfl, rfl⟩, q⟩ := h
    have hu := hu_of hr
    have hu64 := hu64_of hr
    refine ⟨_, (pss_cons (ps_set (i := 3) sc__law_spoilt.nd rfl (Or.inl rfl) (pe_cal c__law_pick (hr.mono (by omega)) (by rfl) (pa_cons (pv 0) (pa_cons (pe_int) pa_nil))))
      (pss_cons (ps_if (pt_cmpR op_eq (pv 3) (pe_int) (nomark _)) (pss_one (ps_ret (pe_op (op_catAK K) (pe_tup (pa_cons (pe_ix (ix_listK K) (pe_lst (pa_cons (pe_op op_add (pe_ix (ix_tupK K) (pv 1) (pe_int) (fun _ _ => rfl)) (pe_int)) (pa_cons (pe_op op_sub (pe_ix (ix_tupK K) (pv 1) (pe_int) (fun _ _ => rfl)) (pe_int)) (pa_cons (pe_op op_add (pe_ix (ix_tupK K) (pv 1) (pe_int) (fun _ _ => rfl)) (pe_int)) (pa_cons (pe_un un_neg pe_int) pa_nil))))) (pe_cal c__law_pick (hr.mono (by omega)) (by rfl) (pa_cons (pv 0) (pa_cons (pe_int) pa_nil))) (fun _ _ => rfl)) pa_nil)) (pe_slice (sl_tupAK K) (pv 1) (po_some (pe_int)) po_none)))) pss_nil)
      (pss_cons (ps_if (pt_cmpR op_eq (pv 3) (pe_int) (nomark _)) (pss_one (ps_ret (pe_tup (pa_cons (pe_ix (ix_tupK K) (pv 1) (pe_int) (fun _ _ => rfl)) (pa_cons (pe_not (pe_ix (ix_tupK K) (pv 1) (pe_int) (fun _ _ => rfl))) (pa_cons (pe_ix (ix_tupK K) (pv 1) (pe_int) (fun _ _ => rfl)) pa_nil)))))) pss_nil)
      (pss_cons (ps_if (pt_cmpR op_eq (pv 3) (pe_int) (nomark _)) (pss_cons (ps_set (i := 4) sc__law_spoilt.nd rfl (Or.inl rfl) (pe_lst (pa_cons (pe_slice (sl_tupAK K) (pv 1) po_none (po_some (pe_int))) (pa_cons (pe_op (op_catAK K) (pv 1) (pe_tup (pa_cons (pe_int) pa_nil))) (pa_cons (pe_callTy (call_listK K) (by rfl) T.list (by decide +kernel) (pa_cons (pv 1) pa_nil)) (pa_cons (pe_tup (pa_cons (pe_ix (ix_tupK K) (pv 1) (pe_int) (fun _ _ => rfl)) (pa_cons (pe_callTy call_int1 (by rfl) T.int (by decide +kernel) (pa_cons (pe_ix (ix_tupK K) (pv 1) (pe_int) (fun _ _ => rfl)) pa_nil)) (pa_cons (pe_ix (ix_tupK K) (pv 1) (pe_int) (fun _ _ => rfl)) pa_nil)))) pa_nil))))))
      (pss_cons (ps_set (i := 4) sc__law_spoilt.nd rfl (Or.inl rfl) (pe_op op_cat (pv 4) (pe_lst (pa_cons (by exact pe_revTK K (pv 1)) (pa_cons (pe_tup (pa_cons (pe_ix (ix_tupK K) (pv 1) (pe_int) (fun _ _ => rfl)) (pa_cons (pe_ix (ix_tupK K) (pv 1) (pe_int) (fun _ _ => rfl)) (pa_cons (pe_ix (ix_tupK K) (pv 1) (pe_int) (fun _ _ => rfl)) pa_nil)))) (pa_cons (pe_ix (ix_tupK K) (pv 1) (pe_int) (fun _ _ => rfl)) (pa_cons (pe_tup pa_nil) pa_nil)))))))
      (pss_one (ps_ret (pe_ix (ix_listK K) (pv 4) (pe_cal c__law_pick (hr.mono (by omega)) (by rfl) (pa_cons (pv 0) (pa_cons (pe_int) pa_nil))) (fun _ _ => rfl)))))) pss_nil)
      (pss_cons (ps_if (PW.pt (pw_or (pt_cmpR op_eq (pv 3) (pe_int) (nomark _)) (pw_or1 (pt_cmpR (op_eqDK K hu64) (pe_ix (ix_tupK K) (pv 1) (pe_int) (fun _ _ => rfl)) (pe_tup pa_nil) (nomark _))))) (pss_cons (ps_set (i := 5) sc__law_spoilt.nd rfl (Or.inl rfl) (pe_lst (pa_cons (pe_op (op_catAK K) (pe_ix (ix_tupK K) (pv 1) (pe_int) (fun _ _ => rfl)) (pe_tup (pa_cons (pe_tup (pa_cons (pe_str) (pa_cons (pe_int) (pa_cons (pe_tup pa_nil) pa_nil)))) pa_nil))) (pa_cons (pe_callTy (call_listK K) (by rfl) T.list (by decide +kernel) (pa_cons (pe_ix (ix_tupK K) (pv 1) (pe_int) (fun _ _ => rfl)) pa_nil)) (pa_cons (pe_slice (sl_tupAK K) (pe_ix (ix_tupK K) (pv 1) (pe_int) (fun _ _ => rfl)) (po_some (pe_int)) po_none) pa_nil)))))
      (pss_one (ps_ret (pe_op (op_catAK K) (pe_slice (sl_tupAK K) (pv 1) po_none (po_some (pe_int))) (pe_tup (pa_cons (pe_ix (ix_listK K) (pv 5) (pe_cal c__law_pick (hr.mono (by omega)) (by rfl) (pa_cons (pv 0) (pa_cons (pe_int) pa_nil))) (fun _ _ => rfl)) pa_nil)))))) pss_nil)
      (pss_cons (ps_set (i := 6) sc__law_spoilt.nd rfl (Or.inl rfl) (pe_cal c__law_pick (hr.mono (by omega)) (by rfl) (pa_cons (pv 0) (pa_cons (pe_callB (call_lenK K) (by rfl) T.len (by decide +kernel) (pa_cons (pe_ix (ix_tupK K) (pv 1) (pe_int) (fun _ _ => rfl)) pa_nil)) pa_nil))))
      (pss_cons (ps_set (i := 7) sc__law_spoilt.nd rfl (Or.inl rfl) (pe_ix (ix_tupK K) (pe_ix (ix_tupK K) (pv 1) (pe_int) (fun _ _ => rfl)) (pv 6) (fun _ _ => rfl)))
      (pss_cons (ps_set (i := 5) sc__law_spoilt.nd rfl (Or.inl rfl) (pe_op op_add (pe_ix (ix_tupK K) (pv 7) (pe_int) (fun _ _ => rfl)) (pe_ix (ix_listK K) (pe_lst (pa_cons (pe_int) (pa_cons (pe_un un_neg pe_int) (pa_cons (pe_int) pa_nil)))) (pe_cal c__law_pick (hr.mono (by omega)) (by rfl) (pa_cons (pv 0) (pa_cons (pe_int) pa_nil))) (fun _ _ => rfl))))
      (pss_cons (ps_set (i := 8) sc__law_spoilt.nd rfl (Or.inl rfl) (pe_lst (pa_cons (pe_op (op_catAK K) (pe_tup (pa_cons (pe_str) pa_nil)) (pe_slice (sl_tupAK K) (pv 7) (po_some (pe_int)) po_none)) (pa_cons (pe_tup (pa_cons (pe_ix (ix_tupK K) (pv 7) (pe_int) (fun _ _ => rfl)) (pa_cons (pv 5) (pa_cons (pe_ix (ix_tupK K) (pv 7) (pe_int) (fun _ _ => rfl)) pa_nil)))) (pa_cons (pe_slice (sl_tupAK K) (pv 7) po_none (po_some (pe_int))) pa_nil)))))
      (pss_cons (ps_expr (pe_bm PySem.F.plainAttrs_list PySem.F.slot_list_append PySem.F.type_list_append mt_append (pv 8) (pa_cons (pe_op (op_catAK K) (pe_slice (sl_tupAK K) (pv 7) po_none (po_some (pe_int))) (pe_tup (pa_cons (pe_op (op_catAK K) (pe_op (op_catAK K) (pe_ix (ix_tupK K) (pv 7) (pe_int) (fun _ _ => rfl)) (pe_slice (sl_tupAK K) (pe_ix (ix_tupK K) (pv 7) (pe_int) (fun _ _ => rfl)) po_none (po_some (pe_int)))) (pe_tup (pa_cons (pe_str) pa_nil))) pa_nil))) pa_nil)))
      (pss_cons (ps_expr (pe_bm PySem.F.plainAttrs_list PySem.F.slot_list_append PySem.F.type_list_append mt_append (pv 8) (pa_cons (pe_op (op_catAK K) (pe_slice (sl_tupAK K) (pv 7) po_none (po_some (pe_int))) (pe_tup (pa_cons (pe_slice (sl_tupAK K) (pe_ix (ix_tupK K) (pv 7) (pe_int) (fun _ _ => rfl)) (po_some (pe_int)) po_none) pa_nil))) pa_nil)))
      (pss_cons (ps_set (i := 8) sc__law_spoilt.nd rfl (Or.inl rfl) (pe_op op_cat (pv 8) (pe_lst (pa_cons (pe_op (op_catAK K) (pe_slice (sl_tupAK K) (pv 7) po_none (po_some (pe_int))) (pe_tup (pa_cons (pe_callTy (call_listK K) (by rfl) T.list (by decide +kernel) (pa_cons (pe_ix (ix_tupK K) (pv 7) (pe_int) (fun _ _ => rfl)) pa_nil)) pa_nil))) (pa_cons (pe_callTy (call_listK K) (by rfl) T.list (by decide +kernel) (pa_cons (pv 7) pa_nil)) (pa_cons (pe_op (op_catAK K) (pe_slice (sl_tupAK K) (pv 7) po_none (po_some (pe_int))) (pe_tup (pa_cons (pe_op (op_catAK K) (pe_ix (ix_tupK K) (pv 7) (pe_int) (fun _ _ => rfl)) (pe_tup (pa_cons (pv 2) pa_nil))) pa_nil))) pa_nil))))))
      (pss_cons (ps_set (i := 8) sc__law_spoilt.nd rfl (Or.inl rfl) (pe_op op_cat (pv 8) (pe_lst (pa_cons (by exact pe_revTK K (pv 7)) (pa_cons (pe_tup (pa_cons (pe_ix (ix_tupK K) (pv 7) (pe_int) (fun _ _ => rfl)) (pa_cons (pe_ix (ix_tupK K) (pv 7) (pe_int) (fun _ _ => rfl)) (pa_cons (pe_ix (ix_tupK K) (pv 7) (pe_int) (fun _ _ => rfl)) pa_nil)))) (pa_cons (pe_op (op_catAK K) (pv 7) (pe_tup (pa_cons (pe_int) pa_nil))) pa_nil))))))
      (pss_cons (ps_set (i := 7) sc__law_spoilt.nd rfl (Or.inl rfl) (pe_ix (ix_listK K) (pv 8) (pe_cal c__law_pick (hr.mono (by omega)) (by rfl) (pa_cons (pv 0) (pa_cons (pe_callB (call_lenK K) (by rfl) T.len (by decide +kernel) (pa_cons (pv 8) pa_nil)) pa_nil))) (fun _ _ => rfl)))
      (pss_one (ps_ret (pe_op (op_catAK K) (pe_slice (sl_tupAK K) (pv 1) po_none (po_some (pe_int))) (pe_tup (pa_cons (pe_op (op_catAK K) (pe_op (op_catAK K) (pe_slice (sl_tupAK K) (pe_ix (ix_tupK K) (pv 1) (pe_int) (fun _ _ => rfl)) po_none (po_some (pv 6))) (pe_tup (pa_cons (pv 7) pa_nil))) (pe_slice (sl_tupAK K) (pe_ix (ix_tupK K) (pv 1) (pe_int) (fun _ _ => rfl)) (po_some (pe_op op_add (pv 6) (pe_int))) po_none)) pa_nil))))))))))))))))))), ?_⟩
    have hW := wdS_sr (H := H) (hd := xd) (hL := xl)
    refine wn_start (W := wdS H X d L xd xl) [.da (.adr d), .da (stDa us k t ms), .da (.str z), .un, .un, .un, .un, .un, .un] rfl rfl sr al (.cons (.adr d) r) ?_
    have mg : ∀ x ∈ ms.map (mvDa us), MG x := fun x hx => by
      obtain ⟨m, hm2, rfl⟩ := List.mem_map.mp hx
      exact mv_G gd.gw (hm m hm2)
    have lmm : (ms.map (mvDa us)).length = ms.length := List.length_map _
    have fin : ∀ x, SG x → Rt (wdS H X d L xd xl) Q x := fun x hx => rt_S fun v H' kk j rr => q v H' _ hx kk j rr
    have d2 : Dl.cutD [Da.int (k : Int), .bl t, .tup (ms.map (mvDa us))] none (some 2) = [.int (k : Int), .bl t] := Dl.cutD_takeG (k := 2)
    have d1 : Dl.cutD [Da.int (k : Int), .bl t, .tup (ms.map (mvDa us))] (some 1) none = [.bl t, .tup (ms.map (mvDa us))] := Dl.cutD_dropG (k := 1)
    walk_at "d1"
    walk_at "d1"
    walk_at "gs"
    refine ⟨by decide, fun p0 hp0 => ?_⟩
    dsimp only
    with_reducible refine wn_seq ?_
    with_reducible refine wn_if ?_
    walk_at "gs"
    by_cases c0 : p0 = 0
    · refine if_true_of (decide_eq_true (by omega)) ?_
      walk_at "gs"
      refine ⟨by decide, fun p1 hp1 => ?_⟩
      refine w2_pickL (fun x => ∃ i, x = .int i) (fun x hx => ?_) (by show p1 < 4; omega) fun x ⟨i, hx⟩ => ?_
      · simp only [List.mem_cons, List.not_mem_nil, or_false] at hx
        rcases hx with rfl | rfl | rfl | rfl <;> exact ⟨_, rfl⟩
      subst hx
      walk_at "gs"
      exact fin _ (by rw [d1]; exact SGm ⟨rfl, Nat.zero_le _⟩ mg (by omega))
    refine if_false_of (decide_eq_false (by omega)) ?_
    walk_at "d1"
    walk_at "d1"
    with_reducible refine wn_if ?_
    walk_at "gs"
    by_cases c1 : p0 = 1
    · refine if_true_of (decide_eq_true (by omega)) ?_
      walk_at "gs"
      exact fin _ (SGm ⟨rfl, Nat.zero_le _⟩ mg (by omega))
    refine if_false_of (decide_eq_false (by omega)) ?_
    walk_at "d1"
    walk_at "d1"
    with_reducible refine wn_if ?_
    walk_at "gs"
    have qm := mvs_q mg
    have pms : plD (.tup (ms.map (mvDa us))) = true := plDs_map fun m hm2 => mv_pl gd.gw (hm m hm2)
    have all3 : ∀ x ∈ [Da.int (k : Int), .bl t, .tup (ms.map (mvDa us))], qD x = true ∧ dpD x ≤ 8 := fun x hx => by
      simp only [List.mem_cons, List.not_mem_nil, or_false] at hx
      rcases hx with rfl | rfl | rfl
      · exact ⟨rfl, Nat.zero_le _⟩
      · exact ⟨rfl, Nat.zero_le _⟩
      · exact ⟨qm.1, by omega⟩
    by_cases c2 : p0 = 2
    · refine if_true_of (decide_eq_true (by omega)) ?_
      walk_at "gs"
      refine ⟨by decide, fun p1 hp1 => ?_⟩
      rw [d2]
      refine w2_pickL SG (fun x hx => ?_) (by show p1 < 8; omega) fin
      simp only [List.mem_append, List.mem_cons, List.not_mem_nil, or_false] at hx
      rcases hx with (rfl | rfl | rfl | rfl) | rfl | rfl | rfl | rfl
      · exact SGn (by show 2 ≠ 3; decide) fun x hx => all3 x (List.mem_of_mem_take (i := 2) hx)
      · exact SGn (by show 4 ≠ 3; decide) fun x hx => by
          rcases List.mem_append.mp hx with hx | hx
          · exact all3 x hx
          · rw [List.mem_singleton.mp hx]; exact ⟨rfl, Nat.zero_le _⟩
      · exact SGl all3
      · exact SGm ⟨rfl, Nat.zero_le _⟩ mg (by omega)
      · exact SG3 (.inl ⟨pms, by omega⟩) ⟨rfl, Nat.zero_le _⟩ ⟨rfl, Nat.zero_le _⟩ fun ms e => by cases e
      · exact SG3 (.inr ⟨t, rfl⟩) ⟨rfl, Nat.zero_le _⟩ ⟨qm.1, by omega⟩ fun ms2 e => by
          injection e with e
          subst e
          exact ⟨by omega, fun m h => (mg m h).1⟩
      · exact SGi _
      · exact SGn (by decide) fun x hx => by cases hx
    refine if_false_of (decide_eq_false (by omega)) ?_
    walk_at "d1"
    walk_at "d1"
    with_reducible refine wn_if ?_
    refine WT.mono (Φ := fun b => b = false → ms ≠ []) ?_ fun b hb => ?_
    · refine wt_or ?_
      refine wt_test (we_op ?_)
      walk_at "gs"
      by_cases c3 : p0 = 3
      · refine if_true_of (decide_eq_true (by omega)) ?_
        exact fun z => by cases z
      · refine if_false_of (decide_eq_false (by omega)) ?_
        walk_at "gs"
        have z : dpDs (ms.map (mvDa us)) ≤ 63 := by
          have := qm.2
          have z2 : dpDs (ms.map (mvDa us)) + 1 ≤ 7 := this
          omega
        refine w2_eqNilT pms z ⟨_, rfl, fun hb e => ?_⟩
        rw [e] at hb
        cases hb
    have fin2 : ∀ x, SG (.tup [.int (k : Int), .bl t, x]) → Rt (wdS H X d L xd xl) Q (.tup ([.int (k : Int), .bl t] ++ [x])) := fun x hx => fin _ hx
    cases b with
    | true =>
      refine if_true_of rfl ?_
      walk_at "gs"
      refine ⟨by rw [lmm]; show ms.length + 1 ≤ _; omega, ?_⟩
      walk_at "gs"
      rw [d2]
      refine ⟨by decide, fun p1 hp1 => ?_⟩
      refine w2_pickL (fun x => SG (.tup [.int (k : Int), .bl t, x])) (fun x hx => ?_) (by show p1 < 3; omega) fun x hx => ?_
      · simp only [List.mem_cons, List.not_mem_nil, or_false] at hx
        rcases hx with rfl | rfl | rfl
        · refine SGm ⟨rfl, Nat.zero_le _⟩ (fun x hx => ?_) (by rw [List.length_append, lmm]; show ms.length + 1 ≤ 50; omega)
          rcases List.mem_append.mp hx with hx | hx
          · exact mg x hx
          · rw [List.mem_singleton.mp hx]
            exact MG3 ⟨(wee_of "nosign" (by decide)).ok, Nat.zero_le _⟩ ⟨rfl, Nat.zero_le _⟩ ⟨rfl, by decide⟩ fun ns e => by
              injection e with e
              subst e
              exact ⟨by decide, fun n h => by cases h⟩
        · have z := qD_lst (n := 6) fun x hx => (mg x hx).2
          exact SG3 (.inl ⟨rfl, Nat.zero_le _⟩) ⟨rfl, Nat.zero_le _⟩ ⟨z.1, by omega⟩ fun ms e => by cases e
        · have dd : Dl.cutD (ms.map (mvDa us)) (some 1) none = (ms.map (mvDa us)).drop 1 := Dl.cutD_dropG (k := 1)
          rw [dd]
          exact SGm ⟨rfl, Nat.zero_le _⟩ (fun x hx => mg x (List.mem_of_mem_drop hx)) (by rw [List.length_drop, lmm]; omega)
      walk_at "gs"
      exact fin2 x hx
    | false =>
      have mne := hb rfl
      have lm0 : 0 < ms.length := List.length_pos_iff.mpr mne
      refine if_false_of rfl ?_
      walk_at "gs"
      refine ⟨by omega, fun sp hsp => ?_⟩
      have hsp : sp < ms.length := by rw [lmm] at hsp; omega
      have em : (ms.map (mvDa us))[sp]? = some (mvDa us ms[sp]) := by rw [List.getElem?_map, List.getElem?_eq_getElem hsp]; rfl
      have om := hm _ (List.getElem_mem hsp)
      generalize ms[sp] = m at em om
      walk_at "gs"
      refine ⟨_, _, _, rfl, rfl, atI_nat em, ?_⟩
      walk_at "gs"
      refine ⟨by decide, fun p1 hp1 => ?_⟩
      refine w2_pickL (fun x => ∃ i, x = .int i) (fun x hx => ?_) (by show p1 < 3; omega) fun x ⟨i, hx⟩ => ?_
      · simp only [List.mem_cons, List.not_mem_nil, or_false] at hx
        rcases hx with rfl | rfl | rfl <;> exact ⟨_, rfl⟩
      subst hx
      refine w2_I0 ⟨_, _, rfl, rfl, ?_⟩
      dsimp only
      have lr := om.l
      have a2 := (gd.va _ om.o).1
      have lrw : (rwDa us m.row).length ≤ 1 := by rw [rw_len]; omega
      have f2 : Dl.cutD [Da.str (S m.o.1), .int (m.pl : Int), .tup (rwDa us m.row)] none (some 2) = [Da.str (S m.o.1), .int (m.pl : Int)] := Dl.cutD_takeG (k := 2)
      have f1 : Dl.cutD [Da.str (S m.o.1), .int (m.pl : Int), .tup (rwDa us m.row)] (some 1) none = [.int (m.pl : Int), .tup (rwDa us m.row)] := Dl.cutD_dropG (k := 1)
      have g1 : Dl.cutD (rwDa us m.row) none (some 1) = (rwDa us m.row).take 1 := Dl.cutD_takeG (k := 1)
      have g2 : Dl.cutD (rwDa us m.row) (some 1) none = (rwDa us m.row).drop 1 := Dl.cutD_dropG (k := 1)
      with_reducible refine wn_seq ?_
      refine wn_own (ww_lst ?_)
      walk_at "gs"
      intro l8 y8
      dsimp only
      with_reducible refine wn_seq ?_
      refine wn_app (l := l8) rfl (by show 3 ≤ 1000000; decide) ?_
      walk_at "es"
      rw [g1]
      refine ⟨by rw [List.length_take]; omega, ?_⟩
      walk_at "es"
      refine ⟨by rw [List.length_append, List.length_take]; show _ + 1 ≤ _; omega, ?_⟩
      walk_at "es"
      rw [f1, f2]
      dsimp only
      with_reducible refine wn_seq ?_
      refine wn_app (l := l8) rfl (by show 4 ≤ 1000000; decide) ?_
      walk_at "es"
      refine wn_frz (l := l8) (i := 8) y8 rfl rfl ?_
      dsimp only
      with_reducible refine wn_seq ?_
      refine wn_asg ?_
      walk_at "es"
      refine ⟨by rw [rw_len, lr]; show _ + 1 ≤ _; omega, ?_⟩
      walk_at "es"
      dsimp only
      with_reducible refine wn_seq ?_
      refine wn_asg ?_
      walk_at "es"
      rw [f2, g2]
      dsimp only
      with_reducible refine wn_seq ?_
      refine wn_asg ?_
      walk_at "es"
      refine ⟨by show 11 ≤ 10000000; decide, fun p2 hp2 => ?_⟩
      have hp2 : p2 < 11 := by
        have z : ((11 : Nat) : Int) = 11 := rfl
        have hp2 : (p2 : Int) < ((11 : Nat) : Int) ∨ p2 = 0 := hp2
        omega
      refine w2_pickL MG (fun x hx => ?_) (by show p2 < 11; exact hp2) fun x hx => ?_
      · simp only [List.mem_append, List.mem_cons, List.not_mem_nil, or_false] at hx
        have pS : plD (.str (S m.o.1)) = true ∧ dpD (.str (S m.o.1)) ≤ 3 := ⟨(gd.gw.ws _ om.o).ok, Nat.zero_le _⟩
        have qS : qD (.str (S m.o.1)) = true ∧ dpD (.str (S m.o.1)) ≤ 3 := ⟨(gd.gw.ws _ om.o).ok, Nat.zero_le _⟩
        have pI : ∀ i, plD (.int i) = true ∧ dpD (.int i) ≤ 3 := fun i => ⟨rfl, Nat.zero_le _⟩
        have qI : ∀ i, qD (.int i) = true ∧ dpD (.int i) ≤ 3 := fun i => ⟨rfl, Nat.zero_le _⟩
        have sR : ∀ d ∈ rwDa us m.row, (∃ z, d = .str z) ∧ qD d = true := fun d hd => ⟨rw_s d hd, (rw_q gd.gw om.r d hd).1⟩
        have qR := qD_tup (rw_q gd.gw om.r)
        have qRl := qD_lst (rw_q gd.gw om.r)
        have pR : plD (.tup (rwDa us m.row)) = true ∧ dpD (.tup (rwDa us m.row)) ≤ 3 := ⟨rw_pl gd.gw om.r, by omega⟩
        have all : ∀ d ∈ [Da.str (S m.o.1), .int (m.pl : Int), .tup (rwDa us m.row)], qD d = true ∧ dpD d ≤ 3 := fun d hd => by
          simp only [List.mem_cons, List.not_mem_nil, or_false] at hd
          rcases hd with rfl | rfl | rfl
          · exact qS
          · exact qI _
          · exact ⟨qR.1, by omega⟩
        rcases hx with ((((rfl | rfl | rfl) | rfl) | rfl) | (rfl | rfl | rfl)) | rfl | rfl | rfl
        · exact MG3s ⟨(wee_of "nosign" (by decide)).ok, Nat.zero_le _⟩ (pI _) sR (by omega)
        · exact MG3s pS (pI _) sR (by omega)
        · exact MGn (by show 2 ≠ 3; decide) fun d hd => all d (List.mem_of_mem_take (i := 2) hd)
        · refine MG3s pS (pI _) (fun d hd => ?_) (by rw [List.length_append, List.length_append, List.length_take]; show _ + 1 ≤ _; omega)
          rcases List.mem_append.mp hd with hd | hd
          · rcases List.mem_append.mp hd with hd | hd
            · exact sR d hd
            · exact sR d (List.mem_of_mem_take hd)
          · rw [List.mem_singleton.mp hd]
            exact ⟨⟨_, rfl⟩, (wee_of "no1" (by decide)).ok⟩
        · exact MG3s pS (pI _) (fun d hd => sR d (List.mem_of_mem_drop hd)) (by rw [List.length_drop]; omega)
        · exact MG3 pS (pI _) ⟨qRl.1, by omega⟩ fun ns e => by cases e
        · exact MGl all
        · refine MG3s pS (pI _) (fun d hd => ?_) (by rw [List.length_append]; show _ + 1 ≤ _; omega)
          rcases List.mem_append.mp hd with hd | hd
          · exact sR d hd
          · rw [List.mem_singleton.mp hd]
            exact ⟨⟨_, rfl⟩, wz.ok⟩
        · exact MG3 pR (pI _) qS fun ns e => by cases e
        · exact MG3 pS pR (qI _) fun ns e => by cases e
        · refine MGn (by show 4 ≠ 3; decide) fun d hd => ?_
          rcases List.mem_append.mp hd with hd | hd
          · exact all d hd
          · rw [List.mem_singleton.mp hd]; exact qI _
      walk_at "gs"
      rw [cutD_takeG]
      refine ⟨by rw [List.length_take, lmm]; show _ + 1 ≤ _; omega, ?_⟩
      walk_at "es"
      have e1 : (sp : Int) + 1 = ((sp + 1 : Nat) : Int) := by omega
      rw [e1, cutD_dropG, d2]
      refine ⟨by rw [List.length_append, List.length_take, List.length_drop, lmm]; show _ + 1 + _ ≤ _; omega, ?_⟩
      walk_at "es"
      refine fin2 _ (SGm ⟨rfl, Nat.zero_le _⟩ (fun y hy => ?_) (by rw [List.length_append, List.length_append, List.length_take, List.length_drop, lmm]; show _ + 1 + _ ≤ _; omega))
      rcases List.mem_append.mp hy with hy | hy
      · rcases List.mem_append.mp hy with hy | hy
        · exact mg y (List.mem_of_mem_take hy)
        · rw [List.mem_singleton.mp hy]; exact hx
      · exact mg y (List.mem_of_mem_drop hy)
end
end K43


set_option Elab.async false
set_option linter.all false
set_option maxRecDepth 100000
set_option maxHeartbeats 4000000
namespace K43
open PySem PySem.Spec PyProof.Rows L2 Evl NdefX SX StX Dl
local macro_rules | `(tactic| walk_at "sr") => `(tactic| first | assumption | (refine Wd.Sr.vw ?_; walk_at "sr") | (refine Wd.Sr.own ?_; walk_at "sr") | (refine Wd.Sr.lp ?_; walk_at "sr"))
local macro_rules | `(tactic| walk_at "d1") => `(tactic| first
  | with_reducible refine wn_seq ?_
  | with_reducible refine wn_ret ?_
  | with_reducible refine wn_retN ?_
  | with_reducible refine wn_next ?_
  | with_reducible refine wn_cont ?_
  | with_reducible refine wn_break ?_
  | with_reducible refine wn_asg ?_
  | with_reducible refine wn_asgG ?_
  | with_reducible refine wn_drop ?_
  | ((with_reducible refine we_varX ?d ?hv ?_); (case hv => exact rfl))
  | with_reducible refine we_c ?_
  | with_reducible refine we_op ?_
  | with_reducible refine we_un ?_
  | with_reducible refine we_if ?_
  | with_reducible refine we_tup ?_
  | with_reducible refine we_lst ?_
  | with_reducible refine we_tl ?_
  | with_reducible refine we_slT ?_
  | with_reducible refine we_slL ?_
  | with_reducible refine we_revL ?_
  | with_reducible refine we_chain ?_
  | with_reducible refine we_andV ?_
  | with_reducible refine we_orV ?_
  | with_reducible refine we_notV ?_
  | with_reducible refine we_dget ?_
  | with_reducible refine we_din ?_
  | with_reducible refine we_dnin ?_
  | with_reducible refine we_dget2 ?_
  | with_reducible refine we_joined ?_
  | with_reducible refine we_fmt ?_
  | with_reducible refine wj_nil ?_
  | with_reducible refine wj_cons ?_
  | with_reducible refine we_call ?_
  | ((with_reducible refine we_pickX ?dd ?ll ?hs ?_); (case hs => walk_at "sr"))
  | with_reducible refine we_cb ?_
  | with_reducible refine wa_nil ?_
  | with_reducible refine wa_cons ?_
  | with_reducible refine wo_none ?_
  | with_reducible refine wo_some ?_
  | with_reducible refine wt_yes ?_
  | with_reducible refine wt_test ?_
  | with_reducible refine wt_B ?_
  | with_reducible refine wt_not ?_
  | with_reducible refine wt_and ?_
  | with_reducible refine wt_or ?_
  | with_reducible refine wt_truK ?_
  | with_reducible refine w2_I0 ⟨_, _, rfl, rfl, ?_⟩
  | with_reducible refine w2_eqI ⟨_, _, rfl, rfl, ?_⟩
  | with_reducible refine w2_eqS ⟨_, _, rfl, rfl, ?_⟩
  | with_reducible refine w2_neI ⟨_, _, rfl, rfl, ?_⟩
  | with_reducible refine w2_neS ⟨_, _, rfl, rfl, ?_⟩
  | with_reducible refine w2_adS ?_
  | with_reducible refine w2_isN ?_
  | with_reducible refine w2_notN ?_
  | ((with_reducible refine w2_inBX ?_); (refine ⟨_, rfl, ?_⟩))
  | with_reducible refine w2_inS ?_
  | ((with_reducible refine w2_ixL ?_); (refine ⟨_, _, _, rfl, rfl, rfl, ?_⟩))
  | ((with_reducible refine w2_ixT ?_); (refine ⟨_, _, _, rfl, rfl, rfl, ?_⟩))
  | ((with_reducible refine w2_ixL ?_); (refine ⟨_, _, _, rfl, rfl, atI_nat (j := 0) rfl, ?_⟩))
  | ((with_reducible refine w2_ixT ?_); (refine ⟨_, _, _, rfl, rfl, atI_nat (j := 0) rfl, ?_⟩))
  | with_reducible refine w2_ixL ?_
  | with_reducible refine w2_ixT ?_
  | ((with_reducible refine w2_cat ?_); (refine ⟨_, _, rfl, rfl, ?_⟩))
  | ((with_reducible refine w2_catT ?_); (refine ⟨_, _, rfl, rfl, (fun z => nomatch z), ?_⟩))
  | with_reducible refine w2_catT ?_
  | with_reducible refine w2_rep ?_
  | ((with_reducible refine wc_len ?_); (refine ⟨_, _, rfl, .inl rfl, ?_⟩))
  | ((with_reducible refine wc_len ?_); (refine ⟨_, _, rfl, .inr rfl, ?_⟩))
  | ((with_reducible refine wc_list ?_); (refine ⟨_, _, rfl, .inl rfl, ?_⟩))
  | ((with_reducible refine wc_list ?_); (refine ⟨_, _, rfl, .inr rfl, ?_⟩))
  | ((with_reducible refine wc_tup ?_); (refine ⟨_, _, rfl, .inl rfl, ?_⟩))
  | ((with_reducible refine wc_tup ?_); (refine ⟨_, _, rfl, .inr rfl, ?_⟩))
  | ((with_reducible refine wc_lenS ?_); (refine ⟨_, rfl, ?_⟩))
  | ((with_reducible refine wc_lenD ?_); (refine ⟨_, rfl, ?_⟩))
  | with_reducible refine w2_ixS ?_
  | with_reducible refine w2_inC ?_
  | with_reducible refine w2_ninC ?_
  | with_reducible refine wc_sum ?_
  | with_reducible refine wc_max ?_
  | with_reducible refine wc_min ?_
  | with_reducible refine wc_all ?_
  | with_reducible refine wc_any ?_
  | ((with_reducible refine wc_isi2 ?_); (refine ⟨_, _, _, _, rfl, rfl, rfl, ?_⟩))
  | with_reducible refine wc_int ⟨_, rfl, ?_⟩
  | with_reducible refine wc_abs ⟨_, rfl, ?_⟩
  | with_reducible refine wi_list ?_
  | with_reducible refine wi_tup ?_
  | with_reducible refine wi_rng1 ?_
  | with_reducible refine wi_rng2 ?_
  | with_reducible refine wi_enum ?_
  | with_reducible refine wi_zip ?_
  | with_reducible refine wi_str ?_
  | ((refine if_true_of ?hh ?_); (case hh => rfl))
  | ((refine if_false_of ?hh ?_); (case hh => rfl))
  | refine ⟨_, _, _, rfl, rfl, look_m, ?_⟩
  | refine ⟨_, _, _, rfl, rfl, look_s, ?_⟩
  | refine ⟨_, _, _, rfl, rfl, look_v, ?_⟩
  | refine ⟨Nat.le_of_ble_eq_true rfl, ?_⟩
  | refine ⟨_, rfl, ?_⟩
  | refine ⟨_, _, rfl, ?_⟩)
local macro_rules | `(tactic| walk_at "gs") => `(tactic| repeat walk_at "d1")
local macro_rules | `(tactic| walk_at "go") => `(tactic| repeat (first | walk_at "d1" | with_reducible refine wn_if ?_))

local macro_rules | `(tactic| walk_at "e1") => `(tactic| first
  | with_reducible refine we_slA ?_
  | ((with_reducible refine w2_catA ?_); (refine ⟨_, _, rfl, rfl, ?_⟩))
  | with_reducible refine we_revT ?_
  | with_reducible refine we_listRg ?_
  | with_reducible refine wc_intB ⟨_, rfl, ?_⟩
  | with_reducible refine w1_U ⟨_, rfl, ?_⟩
  | ((with_reducible refine we_varX ?d ?hv ?_); (case hv => exact rfl))
  | with_reducible refine we_c ?_
  | with_reducible refine we_op ?_
  | with_reducible refine we_un ?_
  | with_reducible refine we_if ?_
  | with_reducible refine we_tup ?_
  | with_reducible refine we_lst ?_
  | with_reducible refine we_tl ?_
  | with_reducible refine we_slT ?_
  | with_reducible refine we_slL ?_
  | with_reducible refine we_revL ?_
  | with_reducible refine we_chain ?_
  | with_reducible refine we_andV ?_
  | with_reducible refine we_orV ?_
  | with_reducible refine we_notV ?_
  | with_reducible refine we_dget ?_
  | with_reducible refine we_din ?_
  | with_reducible refine we_dnin ?_
  | with_reducible refine we_dget2 ?_
  | with_reducible refine we_joined ?_
  | with_reducible refine we_fmt ?_
  | with_reducible refine wj_nil ?_
  | with_reducible refine wj_cons ?_
  | with_reducible refine we_call ?_
  | ((with_reducible refine we_pickX ?dd ?ll ?hs ?_); (case hs => walk_at "sr"))
  | with_reducible refine we_cb ?_
  | with_reducible refine wa_nil ?_
  | with_reducible refine wa_cons ?_
  | with_reducible refine wo_none ?_
  | with_reducible refine wo_some ?_
  | with_reducible refine wt_yes ?_
  | with_reducible refine wt_test ?_
  | with_reducible refine wt_B ?_
  | with_reducible refine wt_not ?_
  | with_reducible refine wt_and ?_
  | with_reducible refine wt_or ?_
  | with_reducible refine wt_truK ?_
  | with_reducible refine w2_I0 ⟨_, _, rfl, rfl, ?_⟩
  | with_reducible refine w2_eqI ⟨_, _, rfl, rfl, ?_⟩
  | with_reducible refine w2_eqS ⟨_, _, rfl, rfl, ?_⟩
  | with_reducible refine w2_neI ⟨_, _, rfl, rfl, ?_⟩
  | with_reducible refine w2_neS ⟨_, _, rfl, rfl, ?_⟩
  | with_reducible refine w2_adS ?_
  | with_reducible refine w2_isN ?_
  | with_reducible refine w2_notN ?_
  | ((with_reducible refine w2_inBX ?_); (refine ⟨_, rfl, ?_⟩))
  | with_reducible refine w2_inS ?_
  | ((with_reducible refine w2_ixL ?_); (refine ⟨_, _, _, rfl, rfl, rfl, ?_⟩))
  | ((with_reducible refine w2_ixT ?_); (refine ⟨_, _, _, rfl, rfl, rfl, ?_⟩))
  | ((with_reducible refine w2_ixL ?_); (refine ⟨_, _, _, rfl, rfl, atI_nat (j := 0) rfl, ?_⟩))
  | ((with_reducible refine w2_ixT ?_); (refine ⟨_, _, _, rfl, rfl, atI_nat (j := 0) rfl, ?_⟩))
  | with_reducible refine w2_ixL ?_
  | with_reducible refine w2_ixT ?_
  | ((with_reducible refine w2_cat ?_); (refine ⟨_, _, rfl, rfl, ?_⟩))
  | ((with_reducible refine w2_catT ?_); (refine ⟨_, _, rfl, rfl, (fun z => nomatch z), ?_⟩))
  | with_reducible refine w2_catT ?_
  | with_reducible refine w2_rep ?_
  | ((with_reducible refine wc_len ?_); (refine ⟨_, _, rfl, .inl rfl, ?_⟩))
  | ((with_reducible refine wc_len ?_); (refine ⟨_, _, rfl, .inr rfl, ?_⟩))
  | ((with_reducible refine wc_list ?_); (refine ⟨_, _, rfl, .inl rfl, ?_⟩))
  | ((with_reducible refine wc_list ?_); (refine ⟨_, _, rfl, .inr rfl, ?_⟩))
  | ((with_reducible refine wc_tup ?_); (refine ⟨_, _, rfl, .inl rfl, ?_⟩))
  | ((with_reducible refine wc_tup ?_); (refine ⟨_, _, rfl, .inr rfl, ?_⟩))
  | ((with_reducible refine wc_lenS ?_); (refine ⟨_, rfl, ?_⟩))
  | ((with_reducible refine wc_lenD ?_); (refine ⟨_, rfl, ?_⟩))
  | with_reducible refine w2_ixS ?_
  | with_reducible refine w2_inC ?_
  | with_reducible refine w2_ninC ?_
  | with_reducible refine wc_sum ?_
  | with_reducible refine wc_max ?_
  | with_reducible refine wc_min ?_
  | with_reducible refine wc_all ?_
  | with_reducible refine wc_any ?_
  | ((with_reducible refine wc_isi2 ?_); (refine ⟨_, _, _, _, rfl, rfl, rfl, ?_⟩))
  | with_reducible refine wc_int ⟨_, rfl, ?_⟩
  | with_reducible refine wc_abs ⟨_, rfl, ?_⟩
  | with_reducible refine wi_list ?_
  | with_reducible refine wi_tup ?_
  | with_reducible refine wi_rng1 ?_
  | with_reducible refine wi_rng2 ?_
  | with_reducible refine wi_enum ?_
  | with_reducible refine wi_zip ?_
  | with_reducible refine wi_str ?_
  | ((refine if_true_of ?hh ?_); (case hh => rfl))
  | ((refine if_false_of ?hh ?_); (case hh => rfl))
  | refine ⟨_, _, _, rfl, rfl, look_m, ?_⟩
  | refine ⟨_, _, _, rfl, rfl, look_s, ?_⟩
  | refine ⟨_, _, _, rfl, rfl, look_v, ?_⟩
  | refine ⟨Nat.le_of_ble_eq_true rfl, ?_⟩
  | refine ⟨_, rfl, ?_⟩
  | refine ⟨_, _, rfl, ?_⟩)
local macro_rules | `(tactic| walk_at "es") => `(tactic| repeat walk_at "e1")

theorem wn_ifJ {W : Wd} {ρ : List En} {tt : TT} {t u : TS} {D : Ends} (I : List En → Prop) (k : ∀ ρ', I ρ' → WN W D.nx ρ') (h : (∀ ρ', I ρ' → WN W D.nx ρ') → WN W (tIfS tt t u D) ρ) : WN W (tIfS tt t u D) ρ := h k
def IsSt (us : List (List Nat)) (os : List Dop) (many : Nat) (y : Da) : Prop := ∃ k t ms, k < many ∧ (∀ m ∈ ms, OkM us os m) ∧ ms.length ≤ 2 ∧ y = stDa us k t ms
theorem IsSt.g {us : List (List Nat)} {os : List Dop} {many : Nat} {y : Da} (g : GoodW us os) (h : IsSt us os many y) : SG y := by
  obtain ⟨k, t, ms, hk, hm, lm, rfl⟩ := h
  exact st_G g hm lm
section
variable {us : List (List Nat)} {os : List Dop} {prs : List (Nat × Nat)}
theorem plc_psS (nd : us.Nodup) (hpr : ∀ p ∈ prs, p.1 < us.length ∧ p.2 < us.length) : plcP us (psS us prs) = prs := by
  unfold plcP psS
  rw [List.map_map]
  conv => rhs; rw [← List.map_id prs]
  refine List.map_congr_left fun p hp => ?_
  show ((us.map S).idxOf (mS us p.1), (us.map S).idxOf (mS us p.2)) = (p.1, p.2)
  rw [mS_idx nd (hpr p hp).1, mS_idx nd (hpr p hp).2]
theorem sd_ok {C : Addr} (gd : GoodD us os) (hpr : ∀ p ∈ prs, p.1 < us.length ∧ p.2 < us.length) (lp : prs.length ≤ 50) {ia ib : Nat} (ha : ia < us.length) (hb : ib < us.length) {sts : List Da} (si : ∀ d ∈ sts, SIn d) (ls : sts.length ≤ 100) {y : Da} (ey : y = .lst sts ∨ y = .tup sts) : PSd C [alDa C (us.map S) (os.map (opS us)), .lst (prs.map (prDa us)), .lst [.str (mS us ia), .str (mS us ib)], y] (optDa (dueS us os prs ib 0 ia sts)) := by
  have kn : ∀ x ∈ flatP (psS us prs) ++ [mS us ia, mS us ib], ∃ p, p < us.length ∧ x = mS us p := fun x hx => by
    rcases List.mem_append.mp hx with hx | hx
    · exact psS_mem hpr x hx
    · rcases List.mem_cons.mp hx with rfl | hx
      · exact ⟨ia, ha, rfl⟩
      · exact ⟨ib, hb, List.mem_singleton.mp hx⟩
  refine ⟨us, os, psS us prs, mS us ia, mS us ib, sts, y, gd.gw, fun x hx => ?_, by unfold psS; rw [List.length_map]; omega, si, ls, ey, by rw [psS_map], ?_⟩
  · obtain ⟨p, hp, rfl⟩ := kn x hx
    exact mS_wee gd.gw hp
  · unfold saidN
    have z := unkn_known (xs := us.map S) (a := flatP (psS us prs) ++ [mS us ia, mS us ib]) (b := []) fun x hx => by
      obtain ⟨p, hp, rfl⟩ := kn x hx
      exact mS_mem hp
    rw [List.append_nil] at z
    rw [z, plc_psS gd.gw.nd hpr, mS_idx gd.gw.nd ha, mS_idx gd.gw.nd hb]
    rfl
end
section
variable {P : Program} {w : World} {K : PySem.W.Frag} {mg : Str → Option Value} {base : Heap} {k : Nat} {f : Addr} {fd : FuncData} {ps : List Str} {C : Addr}
abbrev s_law : Stmt := top 48
abbrev N_law : List Str := ["script", "source", "algebra", "made", "members", "pairs", "k", "first", "last", "steps", "n", "step", "ends", "spot", "handed", "due", "empty", "place", "told", "name"]
theorem sc_law : FnScope N_law ["script"] (defScope s_law) := ⟨rfl, rfl, rfl, by decide +kernel, rfl, by decide +kernel, by decide +kernel⟩
theorem ok_law (F : Fun K "law" "law" s_law f fd) (T : Blt mg) (c__law_source : Cal P w K mg base 1 "_law_source" ["script"] (spSource K)) (c__law_pick : Cal P w K mg base 1 "_law_pick" ["source", "many"] spPick)
   (c__law_algebra : Cal P w K mg base 3 "_law_algebra" ["source", "most", "signs"] (spS PAlg)) (c__law_made : Cal P w K mg base 6 "_law_made" ["algebra"] (spP (PMade C)))
   (c__law_drawn : Cal P w K mg base 2 "_law_drawn" ["source", "algebra", "pairs"] (spS PDr)) (c__law_ends : Cal P w K mg base 2 "_law_ends" ["algebra", "pairs", "step"] (spP PLe))
   (c__law_spoilt : Cal P w K mg base 2 "_law_spoilt" ["source", "step", "member"] (spS PSp)) (c__law_due : Cal P w K mg base 3 "_law_due" ["algebra", "pairs", "first", "last", "steps"] (spP PLd))
   (c__law_said : Cal P w K mg base 7 "_law_said" ["made", "pairs", "ends", "steps"] (spP (PSd C))) (c__law_lost_right : Cal P w K mg base 8 "_law_lost_right" ["made", "pairs", "first", "last", "steps"] (spP (PLr C))) :
    FnOk P w K mg base CX0 24 f fd ["script"] (spLaw K) := by
  refine F.ok sc_law (fun vs H Q E h => ?_) (fun cdv A outer s H vs Q E hr h => ?_)
  · obtain ⟨a, ns, rfl, _⟩ := h
    rfl
  · obtain ⟨a, ns, rfl, ha, hn, g⟩ := h
    have hu := hu_of hr
    have hu64 := hu64_of hr
    have hu65 := hu65_of hr
    refine ⟨_, (pss_cons (ps_set (i := 1) sc_law.nd rfl (Or.inl rfl) (pe_cal c__law_source (hr.mono (by decide)) (by rfl) (pa_cons (pv 0) pa_nil)))
      (pss_cons (ps_set (i := 2) sc_law.nd rfl (Or.inl rfl) (pe_cal c__law_algebra (hr.mono (by decide)) (by rfl) (pa_cons (pv 1) (pa_cons (pe_int) (pa_cons (pe_non) pa_nil)))))
      (pss_cons (ps_set (i := 3) sc_law.nd rfl (Or.inr rfl) (pe_cal c__law_made (hr.mono (by decide)) (by rfl) (pa_cons (pv 2) pa_nil)))
      (pss_cons (ps_set (i := 4) sc_law.nd rfl (Or.inr rfl) (pe_dget hu (pv 2) (pe_str) (fun _ _ => rfl)))
      (pss_cons (ps_set (i := 5) sc_law.nd rfl (Or.inr rfl) (pe_lst pa_nil))
      (pss_cons (ps_for PassesOwn.never rfl (pi_range1 (by rfl) T.range (pa_cons (pe_op op_add (pe_int) (pe_cal c__law_pick (hr.mono (by decide)) (by rfl) (pa_cons (pv 1) (pa_cons (pe_int) pa_nil)))) pa_nil)) (pg_name (i := 6) sc_law.nd rfl (Or.inl rfl)) (pss_cons (ps_set (i := 7) sc_law.nd rfl (Or.inr rfl) (pe_ix (ix_listK K) (pv 4) (pe_cal c__law_pick (hr.mono (by decide)) (by rfl) (pa_cons (pv 1) (pa_cons (pe_callB (call_lenK K) (by rfl) T.len (by decide +kernel) (pa_cons (pv 4) pa_nil)) pa_nil))) (fun _ _ => rfl)))
      (pss_one (ps_expr (pe_bm PySem.F.plainAttrs_list PySem.F.slot_list_append PySem.F.type_list_append mt_append (pv 5) (pa_cons (pe_tup (pa_cons (pv 7) (pa_cons (pe_ix (ix_listK K) (pv 4) (pe_cal c__law_pick (hr.mono (by decide)) (by rfl) (pa_cons (pv 1) (pa_cons (pe_callB (call_lenK K) (by rfl) T.len (by decide +kernel) (pa_cons (pv 4) pa_nil)) pa_nil))) (fun _ _ => rfl)) pa_nil))) pa_nil))))))
      (pss_cons (ps_for PassesOwn.never rfl (pi_range1 (by rfl) T.range (pa_cons (pe_int) pa_nil)) (pg_name (i := 6) sc_law.nd rfl (Or.inl rfl)) (pss_cons (ps_set (i := 7) sc_law.nd rfl (Or.inr rfl) (pe_ix (ix_listK K) (pv 4) (pe_cal c__law_pick (hr.mono (by decide)) (by rfl) (pa_cons (pv 1) (pa_cons (pe_callB (call_lenK K) (by rfl) T.len (by decide +kernel) (pa_cons (pv 4) pa_nil)) pa_nil))) (fun _ _ => rfl)))
      (pss_cons (ps_set (i := 8) sc_law.nd rfl (Or.inr rfl) (pv 7))
      (pss_cons (ps_set (i := 9) sc_law.nd rfl (Or.inl rfl) (pe_lst pa_nil))
      (pss_cons (ps_for PassesOwn.never rfl (pi_range1 (by rfl) T.range (pa_cons (pe_ifExp (pt_cmpR op_gt (pe_cal c__law_pick (hr.mono (by decide)) (by rfl) (pa_cons (pv 1) (pa_cons (pe_int) pa_nil))) (pe_int) (nomark _)) (pe_int) (pe_int)) pa_nil)) (pg_name (i := 10) sc_law.nd rfl (Or.inl rfl)) (pss_cons (ps_set (i := 11) sc_law.nd rfl (Or.inl rfl) (pe_cal c__law_drawn (hr.mono (by decide)) (by rfl) (pa_cons (pv 1) (pa_cons (pv 2) (pa_cons (pv 5) pa_nil)))))
      (pss_cons (ps_setLc (i := 12) (own := [("place", 17)]) (g := gName 17) (by rfl) sc_law.nd rfl rfl (sw_true rfl rfl rfl (by decide +kernel)) (pi_list (pe_cal c__law_ends (hr.mono (by decide)) (by rfl) (pa_cons (pv 2) (pa_cons (pv 5) (pa_cons (pv 11) pa_nil))))) (blkOk_by (own := [("place", 17)]) (N := N_law) (sc := defScope s_law) (by decide +kernel)) (fun _ _ _ _ _ => pg_name (i := 17) sc_law.nd rfl (Or.inl rfl)) (fun _ _ _ _ _ => pts_nil) (fun _ _ _ _ _ => pe_ix (ix_listK K) (pv 4) (pv 17) (fun _ _ => rfl)))
      (pss_cons (ps_if (pt_cmpR op_eq (pv 10) (pe_int) (nomark _)) (pss_cons (ps_set (i := 7) sc_law.nd rfl (Or.inr rfl) (pe_ix (ix_listK K) (pv 12) (pe_int) (fun _ _ => rfl)))
      (pss_one (ps_set (i := 8) sc_law.nd rfl (Or.inr rfl) (pe_ix (ix_listK K) (pv 12) (pe_int) (fun _ _ => rfl))))) pss_nil)
      (pss_one (ps_if (PW.pt (pw_and (pt_cmpR op_eq (pe_ix (ix_listK K) (pv 12) (pe_int) (fun _ _ => rfl)) (pv 8) (nomark _)) (pw_and1 (pt_cmpR op_lt (pe_callB (call_lenK K) (by rfl) T.len (by decide +kernel) (pa_cons (pv 9) pa_nil)) (pe_int) (nomark _))))) (pss_cons (ps_expr (pe_bm PySem.F.plainAttrs_list PySem.F.slot_list_append PySem.F.type_list_append mt_append (pv 9) (pa_cons (pv 11) pa_nil)))
      (pss_one (ps_set (i := 8) sc_law.nd rfl (Or.inr rfl) (pe_ix (ix_listK K) (pv 12) (pe_int) (fun _ _ => rfl))))) pss_nil))))))
      (pss_cons (ps_if (pt_cmpR op_eq (pe_cal c__law_pick (hr.mono (by decide)) (by rfl) (pa_cons (pv 1) (pa_cons (pe_int) pa_nil))) (pe_int) (nomark _)) (pss_one (ps_set (i := 8) sc_law.nd rfl (Or.inr rfl) (pe_ix (ix_listK K) (pv 4) (pe_cal c__law_pick (hr.mono (by decide)) (by rfl) (pa_cons (pv 1) (pa_cons (pe_callB (call_lenK K) (by rfl) T.len (by decide +kernel) (pa_cons (pv 4) pa_nil)) pa_nil))) (fun _ _ => rfl)))) pss_nil)
      (pss_cons (ps_for PassesOwn.never rfl (pi_range1 (by rfl) T.range (pa_cons (pe_ifExp (pt_cmpR op_eq (pe_cal c__law_pick (hr.mono (by decide)) (by rfl) (pa_cons (pv 1) (pa_cons (pe_int) pa_nil))) (pe_int) (nomark _)) (pe_callB (call_lenK K) (by rfl) T.len (by decide +kernel) (pa_cons (pv 9) pa_nil)) (pe_int)) pa_nil)) (pg_name (i := 13) sc_law.nd rfl (Or.inl rfl)) (pss_one (ps_if (pt_cmpR op_eq (pe_cal c__law_pick (hr.mono (by decide)) (by rfl) (pa_cons (pv 1) (pa_cons (pe_int) pa_nil))) (pe_int) (nomark _)) (pss_one (ps_asg (pe_cal c__law_spoilt (hr.mono (by decide)) (by rfl) (pa_cons (pv 1) (pa_cons (pe_ix (ix_listK K) (pv 9) (pv 13) (fun _ _ => rfl)) (pa_cons (pv 7) pa_nil)))) (pg_sub (pv 9) (pv 13) set_list))) pss_nil)))
      (pss_cons (ps_set (i := 14) sc_law.nd rfl (Or.inl rfl) (pe_callTy (call_listK K) (by rfl) T.list (by decide +kernel) (pa_cons (pv 9) pa_nil)))
      (pss_cons (ps_set (i := 15) sc_law.nd rfl (Or.inl rfl) (pe_cal c__law_due (hr.mono (by decide)) (by rfl) (pa_cons (pv 2) (pa_cons (pv 5) (pa_cons (pv 7) (pa_cons (pv 8) (pa_cons (pv 9) pa_nil)))))))
      (pss_cons (ps_if (pt_cmpR (op_neDK K hu64) (pe_lc (own := [("told", 18)]) (g := gName 18) (by rfl) sc_law.nd (pi_list (pe_lst (pa_cons (pv 14) (pa_cons (pe_callTy (call_tupK K) (by rfl) T.tuple (by decide +kernel) (pa_cons (pv 14) pa_nil)) pa_nil)))) (blkOk_by (own := [("told", 18)]) (N := N_law) (sc := defScope s_law) (by decide +kernel)) (fun _ _ _ _ _ => pg_name (i := 18) sc_law.nd rfl (Or.inl rfl)) (fun _ _ _ _ _ => pts_nil) (fun _ _ _ _ _ => pe_cal c__law_said (hr.mono (by decide)) (by rfl) (pa_cons (pv 3) (pa_cons (pv 5) (pa_cons (pe_lst (pa_cons (pv 7) (pa_cons (pv 8) pa_nil))) (pa_cons (pv 18) pa_nil)))))) (pe_lst (pa_cons (pv 15) (pa_cons (pv 15) pa_nil))) (nomark _)) (pss_one (ps_ret (pe_bl))) pss_nil)
      (pss_cons (ps_if (PW.pt (pw_or (pt_cmpR (op_neDK K hu64) (pv 14) (pv 9) (nomark _)) (pw_or1 (pt_cmpR (op_neDK K hu64) (pe_cal c__law_said (hr.mono (by decide)) (by rfl) (pa_cons (pv 3) (pa_cons (pv 5) (pa_cons (pe_lst (pa_cons (pe_str) (pa_cons (pe_str) pa_nil))) (pa_cons (pv 9) pa_nil))))) (pe_str) (nomark _))))) (pss_one (ps_ret (pe_bl))) pss_nil)
      (pss_one (ps_if (pt_not (pt_val (pe_cal c__law_lost_right (hr.mono (by decide)) (by rfl) (pa_cons (pv 3) (pa_cons (pv 5) (pa_cons (pv 7) (pa_cons (pv 8) (pa_cons (pv 9) pa_nil)))))))) (pss_one (ps_ret (pe_bl))) pss_nil)))))))))))))
      (pss_cons (ps_setLc (i := 16) (own := [("name", 19)]) (g := gName 19) (by rfl) sc_law.nd rfl rfl (sw_true rfl rfl rfl (by decide +kernel)) (pi_list (pv 4)) (blkOk_by (own := [("name", 19)]) (N := N_law) (sc := defScope s_law) (by decide +kernel)) (fun _ _ _ _ _ => pg_name (i := 19) sc_law.nd rfl (Or.inl rfl)) (fun _ _ _ _ _ => pts_nil) (fun _ _ _ _ _ => pe_cal c__law_said (hr.mono (by decide)) (by rfl) (pa_cons (pv 3) (pa_cons (pv 5) (pa_cons (pe_lst (pa_cons (pe_ix (ix_listK K) (pv 4) (pe_int) (fun _ _ => rfl)) (pa_cons (pv 19) pa_nil))) (pa_cons (pe_lst pa_nil) pa_nil))))))
      (pss_one (ps_ret (pe_cmpR (op_eqDK K hu64) (pv 16) (pe_op op_cat (pe_lst (pa_cons (pe_non) pa_nil)) (pe_op op_rep (pe_lst (pa_cons (pe_int) pa_nil)) (pe_op op_sub (pe_callB (call_lenK K) (by rfl) T.len (by decide +kernel) (pa_cons (pv 4) pa_nil)) (pe_int)))) (nomark _)))))))))))), ?_⟩
    refine ⟨_, rfl, a, ns, rfl, ha, hn, fun d L H1 hd hL S1 s1 => ?_⟩
    refine gN ?_
    refine wn_src (a := a) 18 S1 ?_
    have hW : (wdS H1 (srY d L) d L (.inl rfl) (.inr rfl)).Sr d L := wdS_sr
    walk_at "d1"
    walk_at "d1"
    refine we_callS (P := PAlg) (d := d) (L := L) (by walk_at "sr") ?_
    walk_at "gs"
    refine ⟨_, _, rfl, ⟨4, by decide, by decide, rfl, rfl⟩, fun r ⟨us, os, lu, gd, er⟩ => ?_⟩
    subst er
    walk_at "gs"
    refine ⟨_, ⟨us, os, gd, rfl, rfl⟩, ?_⟩
    have nu := gd.n6
    have n1 := gd.n1
    have lnm : (us.map fun u => Da.str (S u)).length = us.length := List.length_map _
    have rgl : ∀ m : Nat, (rgD (m : Int).toNat).length = m := fun m => by unfold rgD; rw [List.length_map, List.length_range]; omega
    walk_at "es"
    dsimp only
    with_reducible refine wn_seq ?_
    refine wn_asg ?_
    walk_at "es"
    dsimp only
    with_reducible refine wn_seq ?_
    refine wn_own (ww_lst (wa_nil ⟨by decide, fun lp yp => ?_⟩))
    dsimp only
    with_reducible refine wn_seq ?_
    refine wn_for (S := [6]) ?_
    walk_at "es"
    refine ⟨by decide, fun np hnp => ?_⟩
    walk_at "es"
    have np3 : np ≤ 2 := by omega
    have e1 : (1 : Int) + (np : Int) = ((np + 1 : Nat) : Int) := by omega
    rw [e1]
    refine ⟨by omega, by omega, fun i ρ => ∃ (prs : List (Nat × Nat)) (e6 : En) (e7 : En) (e8 : En) (e9 : En) (e10 : En) (e11 : En) (e12 : En) (e13 : En) (e14 : En) (e15 : En) (e16 : En) (e17 : En) (e18 : En) (e19 : En), ρ = [.un, .da (.adr d), .da (algDa us os), .da (alDa C (us.map S) (os.map (opS us))), .da (namDa us), .ml lp (prs.map (prDa us)), e6, e7, e8, e9, e10, e11, e12, e13, e14, e15, e16, e17, e18, e19] ∧ (∀ p ∈ prs, p.1 < us.length ∧ p.2 < us.length) ∧ prs.length = i, ⟨[], .un, .un, .un, .un, .un, .un, .un, .un, .un, .un, .un, .un, .un, .un, rfl, fun p hp => (by cases hp), rfl⟩, fun i x ρ' H2 hx hi => ?_, fun ρ' hi => ?_⟩
    · obtain ⟨prs, e6, e7, e8, e9, e10, e11, e12, e13, e14, e15, e16, e17, e18, e19, rfl, hpr, lpr⟩ := hi
      have hi := (List.getElem?_eq_some_iff.mp hx).1
      rw [rgl] at hi
      refine wg_name ?_
      walk_at "gs"
      refine ⟨by rw [lnm]; omega, fun pa hpa => ?_⟩
      have hpa2 : pa < us.length := by rw [lnm] at hpa; omega
      refine w2_ixL ⟨_, _, _, rfl, rfl, us_atN hpa2, ?_⟩
      dsimp only
      refine wn_app (l := lp) rfl (by rw [List.length_map]; omega) ?_
      walk_at "es"
      refine ⟨by rw [lnm]; omega, fun pb hpb => ?_⟩
      have hpb2 : pb < us.length := by rw [lnm] at hpb; omega
      refine w2_ixL ⟨_, _, _, rfl, rfl, us_atN hpb2, ?_⟩
      walk_at "es"
      refine wn_to ⟨prs ++ [(pa, pb)], _, _, _, _, _, _, _, _, _, _, _, _, _, _, by rw [List.map_append]; rfl, fun p hp => ?_, by rw [List.length_append, lpr]; rfl⟩
      rcases List.mem_append.mp hp with hp | hp
      · exact hpr p hp
      · rw [List.mem_singleton.mp hp]; exact ⟨hpa2, hpb2⟩
    obtain ⟨prs, e6, e7, e8, e9, e10, e11, e12, e13, e14, e15, e16, e17, e18, e19, rfl, hpr, lpr⟩ := hi
    rw [rgl] at lpr
    refine wn_frz (l := lp) (i := 5) yp rfl rfl ?_
    dsimp only
    with_reducible refine wn_seq ?_
    refine wn_for (S := [6]) ?_
    walk_at "es"
    refine ⟨by decide, by decide, fun i ρ => ∃ (e6 : En) (e7 : En) (e8 : En) (e9 : En) (e10 : En) (e11 : En) (e12 : En) (e13 : En) (e14 : En) (e15 : En) (e16 : En) (e17 : En) (e18 : En) (e19 : En), ρ = [.un, .da (.adr d), .da (algDa us os), .da (alDa C (us.map S) (os.map (opS us))), .da (namDa us), .da (.lst (prs.map (prDa us))), e6, e7, e8, e9, e10, e11, e12, e13, e14, e15, e16, e17, e18, e19], ⟨_, _, _, _, _, _, _, _, _, _, _, _, _, _, rfl⟩, fun i x ρ' H2 hx hi => ?_, fun ρ' hi => ?_⟩
    · obtain ⟨e6, e7, e8, e9, e10, e11, e12, e13, e14, e15, e16, e17, e18, e19, rfl⟩ := hi
      refine wg_name ?_
      walk_at "gs"
      refine ⟨by rw [lnm]; omega, fun ia hia => ?_⟩
      have ha2 : ia < us.length := by rw [lnm] at hia; omega
      refine w2_ixL ⟨_, _, _, rfl, rfl, us_atN ha2, ?_⟩
      dsimp only
      with_reducible refine wn_seq ?_
      refine wn_asg ?_
      walk_at "es"
      dsimp only
      with_reducible refine wn_seq ?_
      refine wn_own (ww_lst (wa_nil ⟨by decide, fun l9 y9 => ?_⟩))
      dsimp only
      with_reducible refine wn_seq ?_
      refine wn_for (S := [10]) (wi_rng1 (wa_cons (WE.mono (Φ := fun x => ∃ m : Nat, x = .int (m : Int) ∧ m ≤ 12) ?_ fun x hx2 => ?_)))
      · walk_at "es"
        refine ⟨by decide, fun q0 hq0 => ?_⟩
        walk_at "es"
        by_cases c : (0 : Int) < (q0 : Int)
        · refine if_true_of (decide_eq_true c) ?_
          walk_at "es"
          exact Nat.le_refl 12
        · refine if_false_of (decide_eq_false c) ?_
          walk_at "es"
          exact Nat.le_of_ble_eq_true rfl
      obtain ⟨m12, rfl, hm12⟩ := hx2
      walk_at "es"
      refine ⟨by omega, by omega, fun i ρ => ∃ (ja jb : Nat) (sts : List Da) (e10 : En) (e11 : En) (e12 : En) (e13 : En) (e14 : En) (e15 : En) (e16 : En) (e17 : En) (e18 : En) (e19 : En), ρ = [.un, .da (.adr d), .da (algDa us os), .da (alDa C (us.map S) (os.map (opS us))), .da (namDa us), .da (.lst (prs.map (prDa us))), .da x, .da (.str (mS us ja)), .da (.str (mS us jb)), .ml l9 sts, e10, e11, e12, e13, e14, e15, e16, e17, e18, e19] ∧ ja < us.length ∧ jb < us.length ∧ sts.length ≤ 4 ∧ ∀ y ∈ sts, IsSt us os prs.length y, ⟨ia, ia, [], _, _, _, _, _, _, _, _, _, _, rfl, ha2, ha2, Nat.zero_le _, fun y h => (by cases h)⟩, fun i x2 ρ' H3 hx2 hi2 => ?_, fun ρ' hi2 => ?_⟩
      · obtain ⟨ja, jb, sts, e10, e11, e12, e13, e14, e15, e16, e17, e18, e19, rfl, hja, hjb, lst, hst⟩ := hi2
        have hx2 : x2 = .int (i : Int) := by
          have h1 := (List.getElem?_eq_some_iff.mp hx2).1
          rw [rgl] at h1
          unfold rgD at hx2
          rw [List.getElem?_map, Int.toNat_natCast, List.getElem?_range h1] at hx2
          exact (Option.some.inj hx2).symm
        subst hx2
        refine wg_name ?_
        with_reducible refine wn_seq ?_
        refine wn_asg (we_callS (P := PDr) (d := d) (L := L) (by walk_at "sr") ?_)
        walk_at "es"
        refine ⟨_, _, rfl, ⟨us, os, prs, gd, by omega, by omega, rfl, rfl⟩, fun r ⟨k, t, ms, hk, hm, lm, er⟩ => ?_⟩
        have hist : IsSt us os prs.length r := ⟨k, t, ms, hk, hm, lm, er⟩
        have een : endsOf us os prs r = some (seN us.length prs k t ms) := by rw [er]; exact ends_ok gd.gw hk hm
        obtain ⟨he1, he2⟩ := seN_lt (prs := prs) (t := t) gd.gw hpr hk hm
        generalize seN us.length prs k t ms = en at een he1 he2
        clear er
        dsimp only
        with_reducible refine wn_seq ?_
        refine wn_asg (ww_lcT (S := [17]) (by decide) (wi_list (we_call (P := PLe) ?_))).e
        walk_at "es"
        refine ⟨_, ⟨us, os, prs, r, gd, hpr, by omega, (hist.g gd.gw).1, rfl, rfl⟩, _, rfl, ?_⟩
        rw [een]
        refine ⟨Nat, [en.1, en.2], fun (z : Nat) => .int (z : Int), fun z => .str (mS us z), rfl, by show 2 ≤ 50000; decide, fun z D hz => wg_name ?_, ?_⟩
        · have hz : z < us.length := by
            rcases List.mem_cons.mp hz with rfl | hz
            · exact he1
            · rw [List.mem_singleton.mp hz]; exact he2
          walk_at "es"
          exact ⟨_, _, _, rfl, rfl, us_atN hz, rfl⟩
        dsimp only
        with_reducible refine wn_seq ?_
        refine wn_ifJ (fun ρ' => ∃ ja jb : Nat, ja < us.length ∧ jb < us.length ∧ ρ' = [.un, .da (.adr d), .da (algDa us os), .da (alDa C (us.map S) (os.map (opS us))), .da (namDa us), .da (.lst (prs.map (prDa us))), .da x, .da (.str (mS us ja)), .da (.str (mS us jb)), .ml l9 sts, .da (.int (i : Int)), .da r, .da (.lst [.str (mS us en.1), .str (mS us en.2)]), e13, e14, e15, e16, e17, e18, e19]) (fun ρ' hρ => ?_) fun tail => ?_
        · obtain ⟨ja, jb, hja, hjb, rfl⟩ := hρ
          with_reducible refine wn_if ?_
          walk_at "es"
          have keep : WN ((((wdS H1 (srY d L) d L (.inl rfl) (.inr rfl)).lp H2).own l9).lp H3) (NI ((((wdS H1 (srY d L) d L (.inl rfl) (.inr rfl)).lp H2).own l9).lp H3) fun ρ => ∃ (ja jb : Nat) (sts : List Da) (e10 : En) (e11 : En) (e12 : En) (e13 : En) (e14 : En) (e15 : En) (e16 : En) (e17 : En) (e18 : En) (e19 : En), ρ = [.un, .da (.adr d), .da (algDa us os), .da (alDa C (us.map S) (os.map (opS us))), .da (namDa us), .da (.lst (prs.map (prDa us))), .da x, .da (.str (mS us ja)), .da (.str (mS us jb)), .ml l9 sts, e10, e11, e12, e13, e14, e15, e16, e17, e18, e19] ∧ ja < us.length ∧ jb < us.length ∧ sts.length ≤ 4 ∧ ∀ y ∈ sts, IsSt us os prs.length y) [.un, .da (.adr d), .da (algDa us os), .da (alDa C (us.map S) (os.map (opS us))), .da (namDa us), .da (.lst (prs.map (prDa us))), .da x, .da (.str (mS us ja)), .da (.str (mS us jb)), .ml l9 sts, .da (.int (i : Int)), .da r, .da (.lst [.str (mS us en.1), .str (mS us en.2)]), e13, e14, e15, e16, e17, e18, e19] := wn_to ⟨ja, jb, sts, _, _, _, _, _, _, _, _, _, _, rfl, hja, hjb, lst, hst⟩
          by_cases ce : mS us en.1 = mS us jb
          · refine if_true_of (decide_eq_true ce) ?_
            walk_at "es"
            by_cases c4 : ((sts.length : Nat) : Int) < 4
            · refine if_true_of (decide_eq_true c4) ?_
              with_reducible refine wn_seq ?_
              refine wn_app (l := l9) rfl (by omega) (we_varX _ rfl ?_)
              walk_at "gs"
              refine wn_to ⟨ja, en.2, sts ++ [r], _, _, _, _, _, _, _, _, _, _, rfl, hja, he2, by rw [List.length_append]; show _ + 1 ≤ 4; omega, fun y hy => ?_⟩
              rcases List.mem_append.mp hy with hy | hy
              · exact hst y hy
              · rw [List.mem_singleton.mp hy]; exact hist
            · refine if_false_of (decide_eq_false c4) ?_
              exact wn_next keep
          · refine if_false_of (decide_eq_false ce) ?_
            exact wn_next keep
        · with_reducible refine wn_if ?_
          walk_at "es"
          by_cases c : (i : Int) = 0
          · refine if_true_of (decide_eq_true c) ?_
            walk_at "gs"
            exact tail _ ⟨en.1, en.1, he1, he1, rfl⟩
          · refine if_false_of (decide_eq_false c) ?_
            refine wn_next ?_
            exact tail _ ⟨ja, jb, hja, hjb, rfl⟩
      · obtain ⟨ja, jb, sts, e10, e11, e12, e13, e14, e15, e16, e17, e18, e19, rfl, hja, hjb, lst, hst⟩ := hi2
        with_reducible refine wn_seq ?_
        refine wn_ifJ (fun ρ' => ∃ jb : Nat, jb < us.length ∧ ρ' = [.un, .da (.adr d), .da (algDa us os), .da (alDa C (us.map S) (os.map (opS us))), .da (namDa us), .da (.lst (prs.map (prDa us))), .da x, .da (.str (mS us ja)), .da (.str (mS us jb)), .ml l9 sts, e10, e11, e12, e13, e14, e15, e16, e17, e18, e19]) (fun ρ' hρ => ?_) fun tail => ?_
        · obtain ⟨jb, hjb, rfl⟩ := hρ
          with_reducible refine wn_seq ?_
          refine wn_for (S := [13]) (wi_rng1 (wa_cons (we_viewI (WE.mono (Φ := fun x => ∃ m : Nat, x = .int (m : Int) ∧ m ≤ sts.length) ?_ fun x hx2 => ?_))))
          · walk_at "es"
            refine ⟨by decide, fun q0 hq0 => ?_⟩
            walk_at "es"
            by_cases c : (q0 : Int) = 0
            · refine if_true_of (decide_eq_true c) ?_
              walk_at "es"
              exact Nat.le_refl _
            · refine if_false_of (decide_eq_false c) ?_
              walk_at "es"
              exact Nat.zero_le _
          obtain ⟨m4, rfl, hm4⟩ := hx2
          refine ⟨⟨_, rfl⟩, ?_⟩
          walk_at "es"
          refine ⟨by omega, by omega, fun i ρ => ∃ (ds : List Da) (e10 : En) (e11 : En) (e12 : En) (e13 : En) (e14 : En) (e15 : En) (e16 : En) (e17 : En) (e18 : En) (e19 : En), ρ = [.un, .da (.adr d), .da (algDa us os), .da (alDa C (us.map S) (os.map (opS us))), .da (namDa us), .da (.lst (prs.map (prDa us))), .da x, .da (.str (mS us ja)), .da (.str (mS us jb)), .ml l9 ds, e10, e11, e12, e13, e14, e15, e16, e17, e18, e19] ∧ ds.length = sts.length ∧ (∀ y ∈ ds, SG y) ∧ ∀ j, i ≤ j → ds[j]? = sts[j]?, ⟨sts, _, _, _, _, _, _, _, _, _, _, rfl, rfl, fun y hy => (hst y hy).g gd.gw, fun _ _ => rfl⟩, fun i x2 ρ' H3 hx2 hi2 => ?_, fun ρ' hi2 => ?_⟩
          · obtain ⟨ds, e10, e11, e12, e13, e14, e15, e16, e17, e18, e19, rfl, lds, hds, hsame⟩ := hi2
            have h1 := (List.getElem?_eq_some_iff.mp hx2).1
            rw [rgl] at h1
            have hx2 : x2 = .int (i : Int) := by
              unfold rgD at hx2
              rw [List.getElem?_map, Int.toNat_natCast, List.getElem?_range h1] at hx2
              exact (Option.some.inj hx2).symm
            subst hx2
            have his : i < sts.length := by omega
            have hy : ds[i]? = some sts[i] := by rw [hsame i (Nat.le_refl _), List.getElem?_eq_getElem his]
            have hyst := hst _ (List.getElem_mem his)
            generalize sts[i] = y at hy hyst
            refine wg_name ?_
            with_reducible refine wn_if ?_
            walk_at "es"
            refine ⟨by decide, fun q0 hq0 => ?_⟩
            walk_at "es"
            by_cases c : (q0 : Int) = 0
            · refine if_true_of (decide_eq_true c) ?_
              obtain ⟨k, t, ms, hk, hm, lm, rfl⟩ := hyst
              refine wn_set (l := l9) rfl (we_callS (P := PSp) (d := d) (L := L) (by walk_at "sr") ?_)
              refine wa_cons (we_varX _ rfl (wa_cons (we_ixM rfl ?_)))
              walk_at "es"
              refine ⟨_, _, rfl, atI_nat hy, ?_⟩
              walk_at "es"
              refine ⟨_, _, rfl, ⟨us, os, k, t, ms, mS us ja, gd, hm, lm, mS_wee gd.gw hja, rfl, rfl⟩, fun r hr2 => ?_⟩
              walk_at "es"
              refine ⟨by omega, ?_⟩
              refine wn_to ⟨ds.set i r, _, _, _, _, _, _, _, _, _, _, rfl, by rw [List.length_set]; exact lds, fun y hy => ?_, fun j hj => ?_⟩
              · rcases List.mem_or_eq_of_mem_set hy with hy | rfl
                · exact hds y hy
                · exact hr2
              · rw [List.getElem?_set_ne (by omega)]
                exact hsame j (by omega)
            · refine if_false_of (decide_eq_false c) ?_
              refine wn_next ?_
              exact wn_to ⟨ds, _, _, _, _, _, _, _, _, _, _, rfl, lds, hds, fun j hj => hsame j (by omega)⟩
          · obtain ⟨ds, e10, e11, e12, e13, e14, e15, e16, e17, e18, e19, rfl, lds, hds, _⟩ := hi2
            refine wn_frz (l := l9) (i := 9) y9 rfl rfl ?_
            dsimp only
            walk_at "gs"
            have sin : ∀ x ∈ ds, SIn x := fun x hx => (hds x hx).1
            have lds2 : ds.length ≤ 100 := by omega
            refine ⟨_, ⟨us, os, prs, ja, jb, ds, gd, hpr, by omega, hja, hjb, sin, lds2, rfl, rfl⟩, ?_⟩
            have sok : ∀ z, z = .lst ds ∨ z = .tup ds → PSd C [alDa C (us.map S) (os.map (opS us)), .lst (prs.map (prDa us)), .lst [.str (mS us ja), .str (mS us jb)], z] (optDa (dueS us os prs jb 0 ja ds)) := fun z hz => sd_ok gd hpr (by omega) hja hjb sin lds2 hz
            have qdue : qD (optDa (dueS us os prs jb 0 ja ds)) = true ∧ dpD (optDa (dueS us os prs jb 0 ja ds)) ≤ 0 := by
              cases dueS us os prs jb 0 ja ds with
              | none => exact ⟨rfl, Nat.le_refl _⟩
              | some k => exact ⟨rfl, Nat.le_refl _⟩
            generalize optDa (dueS us os prs jb 0 ja ds) = due at sok qdue
            have qdd := qD_lst (ds := [due, due]) (n := 0) fun d hd => by
              rcases List.mem_cons.mp hd with rfl | hd
              · exact qdue
              · rw [List.mem_singleton.mp hd]; exact qdue
            have qds := qD_lst (ds := ds) (n := 10) fun d hd => (hds d hd).2
            dsimp only
            with_reducible refine wn_seq ?_
            with_reducible refine wn_if ?_
            walk_at "es"
            refine (ww_lcT (S := [18]) (by decide) (wi_list ?_)).e
            walk_at "es"
            refine ⟨Da, [.lst ds, .tup ds], id, fun _ => due, rfl, by show 2 ≤ 50000; decide, fun z D hz => wg_name ?_, ?_⟩
            · have hz : z = .lst ds ∨ z = .tup ds := by
                rcases List.mem_cons.mp hz with rfl | hz
                · exact .inl rfl
                · exact .inr (List.mem_singleton.mp hz)
              walk_at "es"
              exact ⟨_, sok z hz, rfl⟩
            walk_at "es"
            refine w2_neQ ⟨qdd.1, by have := qdd.2; show dpD (.lst [due, due]) ≤ 64; omega, rfl, ?_⟩
            refine ⟨_, rfl, if_false_of rfl ?_⟩
            walk_at "d1"
            walk_at "d1"
            with_reducible refine wn_if ?_
            walk_at "es"
            refine w2_neQ ⟨qds.1, by have := qds.2; omega, rfl, ?_⟩
            refine ⟨_, rfl, if_false_of rfl ?_⟩
            walk_at "es"
            have z1 : Str.ofString "no1" ∉ us.map S := no_us gd (w := [110, 111, 49]) (by decide +kernel) (by decide)
            have w1 := wee_of "no1" (by decide)
            have w2 := wee_of "no2" (by decide)
            have sno := sd_no (C := C) gd hpr (by omega) (ex := []) (by decide) (a := Str.ofString "no1") (b := Str.ofString "no2") (unkn_yes z1) (fun x hx => by simp [flatP] at hx; rcases hx with rfl | rfl <;> assumption) sin lds2 (.inl rfl)
            rw [List.append_nil, ← psS_map] at sno
            refine ⟨_, sno, ?_⟩
            have e1 : Str.ofString "no " ++ Str.ofString "no1" = Str.ofString "no no1" := by decide +kernel
            rw [e1]
            walk_at "es"
            refine w2_neQ ⟨by decide +kernel, by decide +kernel, rfl, ?_⟩
            refine ⟨_, rfl, if_false_of rfl ?_⟩
            walk_at "d1"
            with_reducible refine wn_if ?_
            walk_at "es"
            refine ⟨_, ⟨us, os, prs, ja, jb, ds, .lst ds, gd, hpr, by omega, hja, hjb, sin, lds2, .inl rfl, rfl, rfl⟩, _, rfl, if_false_of rfl ?_⟩
            walk_at "gs"
            exact wn_to ⟨_, _, _, _, _, _, _, _, _, _, _, _, _, _, rfl⟩
        · with_reducible refine wn_if ?_
          walk_at "es"
          refine ⟨by decide, fun q0 hq0 => ?_⟩
          walk_at "es"
          by_cases c : (q0 : Int) = 0
          · refine if_true_of (decide_eq_true c) ?_
            walk_at "gs"
            refine ⟨by rw [lnm]; omega, fun pb hpb => ?_⟩
            have hpb2 : pb < us.length := by rw [lnm] at hpb; omega
            refine w2_ixL ⟨_, _, _, rfl, rfl, us_atN hpb2, ?_⟩
            exact tail _ ⟨pb, hpb2, rfl⟩
          · refine if_false_of (decide_eq_false c) ?_
            refine wn_next ?_
            exact tail _ ⟨jb, hjb, rfl⟩
    · obtain ⟨e6, e7, e8, e9, e10, e11, e12, e13, e14, e15, e16, e17, e18, e19, rfl⟩ := hi
      walk_at "gs"
      refine (ww_lcT (S := [19]) (by decide) ?_).e
      walk_at "es"
      have enm : (us.map fun u => Da.str (S u)) = (List.range us.length).map fun p => Da.str (mS us p) := by rw [← mem_mS, List.map_map]; rfl
      refine ⟨Nat, List.range us.length, fun p => .str (mS us p), fun p => if p = 0 then .non else .int 0, enm, by rw [List.length_range]; omega, fun p D hp => wg_name ?_, ?_⟩
      · have hp := List.mem_range.mp hp
        walk_at "es"
        refine ⟨_, _, _, rfl, rfl, us_atN (p := 0) (by omega), ?_⟩
        walk_at "es"
        refine ⟨_, sd_ok gd hpr (by omega) (ia := 0) (ib := p) (by omega) hp (sts := []) (fun _ h => (by cases h)) (Nat.zero_le _) (.inl rfl), ?_⟩
        show optDa (if 0 = p then none else some 0) = if p = 0 then Da.non else .int 0
        by_cases c : p = 0
        · rw [if_pos c, if_pos c.symm]; rfl
        · rw [if_neg c, if_neg (Ne.symm c)]; rfl
      walk_at "gs"
      have heq : (List.range us.length).map (fun p => if p = 0 then Da.non else .int 0) = [cD V.non] ++ (List.replicate (((us.length - 1 : Nat) : Int).toNat) [cD (V.int 0)]).flatten := by
        obtain ⟨m, hm⟩ : ∃ m, us.length = m + 1 := ⟨us.length - 1, by omega⟩
        rw [hm, List.range_succ_eq_map, List.map_cons, List.map_map]
        have e1 : (((m + 1 - 1 : Nat) : Int).toNat) = m := by omega
        rw [e1]
        have e2 : ∀ m : Nat, (List.replicate m [cD (V.int 0)]).flatten = List.replicate m (Da.int 0) := fun m => by
          induction m with
          | zero => rfl
          | succ m ih => rw [List.replicate_succ, List.flatten_cons, List.replicate_succ, ih]; rfl
        have e3 : (List.range m).map ((fun p => if p = 0 then Da.non else .int 0) ∘ Nat.succ) = List.replicate m (Da.int 0) := by
          refine List.ext_getElem (by simp) fun i h1 h2 => ?_
          rw [List.getElem_map, List.getElem_replicate]
          rfl
        rw [e2, e3]
        rfl
      refine ⟨_, ((us.length - 1 : Nat) : Int), rfl, ?_, by omega, by omega, ?_, ?_⟩
      · show Da.int _ = Da.int _
        rw [lnm]
        congr 1
        omega
      · show 1 * _ ≤ _
        omega
      refine w2_cat ⟨_, _, rfl, rfl, ?_, ?_⟩
      · have z := congrArg List.length heq
        rw [List.length_map, List.length_range, List.length_append] at z
        omega
      rw [← heq]
      have pm : plD (.lst ((List.range us.length).map fun p => if p = 0 then Da.non else .int 0)) = true := plDs_map fun p _ => by
        split <;> rfl
      have dm : dpD (.lst ((List.range us.length).map fun p => if p = 0 then Da.non else .int 0)) ≤ 64 := by
        have z : dpDs ((List.range us.length).map fun p => if p = 0 then Da.non else .int 0) ≤ 0 := dpDs_le fun a ha => by
          obtain ⟨p, _, rfl⟩ := List.mem_map.mp ha
          split <;> exact Nat.le_refl _
        show dpDs _ + 1 ≤ 64
        omega
      refine w2_eqD ⟨pm, pm, dm, dm, true, iff_of_true rfl rfl, ?_⟩
      refine rt_S (hd := .inl rfl) (hL := .inr rfl) fun v H' k j rr => ?_
      cases rr
      exact g H'
end
end K43


set_option Elab.async false
set_option linter.all false
set_option maxRecDepth 100000
set_option maxHeartbeats 4000000
namespace K43
open PySem PySem.Spec PyProof.Rows L2 Evl NdefX SX StX Dl
/-! ### what the top has written -/
def pick : List Addr → Nat → Addr
  | [], _ => 0
  | a :: _, 0 => a
  | _ :: r, i + 1 => pick r i
theorem at_rep {α : Type} {n : Nat} {f : Nat → α} {c : α} (h : (List.range n).map f = List.replicate n c) (i : Nat) (hi : i < n) : f i = c := by
  have e := congrArg (fun l : List α => l[i]?) h
  simp only [List.getElem?_map, List.getElem?_range hi, List.getElem?_replicate, if_pos hi] at e
  exact Option.some.inj e
def bases (i : Nat) : List Value := if i < 2 then [.type "ValueError", .type "Exception", .type "BaseException", .type "object"] else [.type "LookupError", .type "Exception", .type "BaseException", .type "object"]
def news (i : Nat) : String := if i < 2 then "ValueError.__new__" else "LookupError.__new__"
structure TabE (K : PySem.W.Frag) (E : Nat → Addr) : Prop where
  ci : (List.range 4).map (fun i => PySem.W.excInitIn K (E i) (bases i) (news i)) = List.replicate 4 true
  ov : (List.range 4).map (fun i => PySem.W.excOver K (E i) (bases i)) = List.replicate 4 true
  sa : (List.range 4).map (fun i => PySem.W.findIn K (.ref (E i)) "__setattr__") = List.replicate 4 (some (some (.builtin "object.__setattr__")))
  hd : (List.range 4).map (fun i => PySem.W.hasDictIn K (E i)) = List.replicate 4 true
  eb : (List.range 4).map (fun i => PySem.W.subIn K (.ref (E i)) (.type "BaseException")) = List.replicate 4 (some true)
  ty : (List.range 4).map (fun i => PySem.W.typeIn K (.ref (E i))) = List.replicate 4 (some (.type "type"))
  kp : (List.range 4).map (fun i => PySem.W.keepIn K (.ref (E i))) = List.replicate 4 true
  hi : (List.range 2).map (fun i => PySem.W.findIn K (.ref (E i)) "__init__") = List.replicate 2 (some (some (.builtin "ValueError.__init__")))
  f2_name : PySem.W.findIn K (.ref (E 2)) "name" = some none
  f3_name : PySem.W.findIn K (.ref (E 3)) "name" = some none
  xf2 : xfB K (E 2) = true
  x22 : PySem.W.exmOne K (.ref (E 2)) (.ref (E 2)) = some true
structure TabC (K : PySem.W.Frag) (C : Addr) (M : Nat → Addr) : Prop where
  pg : PySem.W.plainGet K C Str.empty = true
  hd : PySem.W.hasDictIn K C = true
  po : PySem.W.plainOver K C = true
  sa : PySem.W.findIn K (.ref C) "__setattr__" = some (some (.builtin "object.__setattr__"))
  n1 : PySem.W.findIn K (.ref C) "signature" = some none
  n2 : PySem.W.findIn K (.ref C) "_names" = some none
  n3 : PySem.W.findIn K (.ref C) "_places" = some none
  n4 : PySem.W.findIn K (.ref C) "_arities" = some none
  n5 : PySem.W.findIn K (.ref C) "_tables" = some none
  mkd : PySem.W.makesIn K C = true
  kp : PySem.W.keepIn K (.ref C) = true
  m0 : PySem.W.findIn K (.ref C) "__init__" = some (some (.ref (M 0)))
  fn0 : PySem.W.isFn K (.ref (M 0)) = true
  fk0 : PySem.W.keepIn K (.ref (M 0)) = true
  m1 : PySem.W.findIn K (.ref C) "_fill" = some (some (.ref (M 1)))
  fn1 : PySem.W.isFn K (.ref (M 1)) = true
  fk1 : PySem.W.keepIn K (.ref (M 1)) = true
  m2 : PySem.W.findIn K (.ref C) "value" = some (some (.ref (M 2)))
  fn2 : PySem.W.isFn K (.ref (M 2)) = true
  fk2 : PySem.W.keepIn K (.ref (M 2)) = true
  m3 : PySem.W.findIn K (.ref C) "__contains__" = some (some (.ref (M 3)))
  fn3 : PySem.W.isFn K (.ref (M 3)) = true
  fk3 : PySem.W.keepIn K (.ref (M 3)) = true
section
variable {P : Program} {w : World} {K : PySem.W.Frag} {mg : Str → Option Value} {h : Heap} {E M : Nat → Addr} {C : Addr}
theorem TabE.cls (t : TabE K E) (i : Nat) (hi : i < 4) : XCls K (E i) (news i) (bases i) := ⟨at_rep t.ci i hi, at_rep t.ov i hi, at_rep t.sa i hi, at_rep t.hd i hi, at_rep t.eb i hi, at_rep t.ty i hi, at_rep t.kp i hi⟩
theorem TabC.cls (t : TabC K C M) : Cls K C := ⟨t.pg, t.hd, t.po, t.sa⟩
theorem TabC.ac (t : TabC K C M) : AlgC K C := ⟨t.cls, t.n1, t.n2, t.n3, t.n4, t.n5⟩
theorem TabC.me0 (t : TabC K C M) : Meth K C "__init__" (M 0) := ⟨t.m0, t.fn0, t.fk0⟩
theorem TabC.me1 (t : TabC K C M) : Meth K C "_fill" (M 1) := ⟨t.m1, t.fn1, t.fk1⟩
theorem TabC.me2 (t : TabC K C M) : Meth K C "value" (M 2) := ⟨t.m2, t.fn2, t.fk2⟩
theorem TabC.me3 (t : TabC K C M) : Meth K C "__contains__" (M 3) := ⟨t.m3, t.fn3, t.fk3⟩
theorem TabC.maker (t : TabC K C M) : Mk K C (M 0) := ⟨t.mkd, t.m0, t.fn0, t.kp⟩
end
section
variable {P : Program} {w : World} {K : PySem.W.Frag} {mg : Str → Option Value} {h : Heap} {E M : Nat → Addr} {C : Addr}
theorem xi_mk (KX : K.In h) (G : h.Ns mainGlobals mg) {x q : Str} {st : Stmt} {ps : List Str} {D f cc c : Addr} {B nI iI : String} {bB : List Value} {oc kV doc pm ct o1 o2 : Value} {od an d1 d2 : Option Addr} {osl s1 s2 : Array (Option Value)} {vs : Array Value} {file : Str} {tf : Tok} {cd : ClassData}
    (xb : XBase B nI iI bB) (xc : XCls K D nI bB) (g : PySem.W.nsIn K mainGlobals x = some (some (.ref D))) (iC : PySem.W.findIn K (.ref D) "__init__" = some (some (.ref f))) (tI : PySem.W.typeIn K (.ref f) = some (.type "function"))
    (l : K.lookup f = some ⟨oc, od, .func (PySem.W.fnX "__init__" q (defArgs st) (defBody st) (defScope st) [(("__class__" : Str), cc)] .none kV doc pm an (.ref c) ct), osl⟩)
    (lc : K.lookup cc = some ⟨o1, d1, .cell (some (.ref D)), s1⟩) (lo : K.lookup c = some ⟨o2, d2, .fields vs, s2⟩) (lv : vs[2]? = some (.str file tf)) (lf : ((P.main.file : Str) == file) = true)
    (cl : PySem.W.clsIn K D = some cd) (sb : PySem.W.mroIn K D (.ref D) = some true) (up : PySem.W.ks_superIn K D D "__init__" = some (some (.builtin iI))) (isB : PySem.W.subIn K (.ref D) (.type B) = some true)
    (opq : PySem.W.nsIn K cStatics "thirdparty.any" = some none) (noS : mg "super" = none) (tp : (P.main.scope.names.lookup ("super" : Str)).isSome = false)
    (sf : ∃ ar, ((defArgs st).posonlyargs ++ (defArgs st).args).head? = some ar ∧ ar.arg = "self") (kS : (defScope st).names.lookup ("super" : Str) = some .globalImplicit) (kC : (defScope st).names.lookup ("__class__" : Str) = some .free) (kA : (defScope st).names.lookup ("self" : Str) = some .local)
    (hc : PySem.W.codeIn K (.ref c) q = true) (bd : ∀ us : List Value, us.length = ps.length → bindArgs (PySem.W.fnX "__init__" q (defArgs st) (defBody st) (defScope st) [(("__class__" : Str), cc)] .none kV doc pm an (.ref c) ct) ⟨us, []⟩ = pure (ps.zip us)) :
    XI P K mg x q st ps D f cc c B nI iI bB (PySem.W.fnX "__init__" q (defArgs st) (defBody st) (defScope st) [(("__class__" : Str), cc)] .none kV doc pm an (.ref c) ct) where
  xb := xb
  g := PySem.W.mg_of KX G g
  xc := xc
  iC := iC
  tI := tI
  xs := { cl := rfl, cell := ⟨_, _, _, lc⟩, code := ⟨_, _, _, _, _, _, lo, lv, lf⟩, cls := ⟨_, cl⟩, sub := sb, up := up, isB := isB, opq := opq, noS := noS, top := tp, self := sf, kS := kS, kC := kC, kA := kA }
  lk := ⟨_, _, _, _, _, _, _, _, rfl, l⟩
  cd := hc
  bd := .all bd
end
section
variable {P : Program} {w : World} {K : PySem.W.Frag} {mg : Str → Option Value} {h : Heap}
set_option maxHeartbeats 16000000 in
theorem all_mk {fa : Addr} (X : K.In h) (G : h.Ns mainGlobals mg) (hfa : mg "law" = some (.ref fa)) (lf : ((P.main.file : Str) == "/claim/cut.py") = true) (tp : (P.main.scope.names.lookup ("super" : Str)).isSome = false)
    {f2 f3 : Addr}
    {q2 q3 : Addr}
    {c2 c3 : Addr}
    {oc2 oc3 : Value}
    {kV2 kV3 : Value}
    {dc2 dc3 : Value}
    {pm2 pm3 : Value}
    {ct2 ct3 : Value}
    {oo2 oo3 : Value}
    {pp2 pp3 : Value}
    {od2 od3 : Option Addr}
    {an2 an3 : Option Addr}
    {dd2 dd3 : Option Addr}
    {ee2 ee3 : Option Addr}
    {sl2 sl3 : Array (Option Value)}
    {sm2 sm3 : Array (Option Value)}
    {sn2 sn3 : Array (Option Value)}
    {vs2 vs3 : Array Value}
    {tf2 tf3 : Tok}
    {cd2 cd3 : ClassData}
    {E0 E1 E2 E3 C0 M0 M1 M2 M3 : Addr}
    {tk0 tk1 tk2 tk3 tk4 : Tok}
    {g0 g1 g2 g3 g4 g5 g6 g7 g8 g9 g10 g11 g12 g13 g14 g15 g16 g17 g18 g19 g20 g21 g22 g23 g24 g25 g26 g27 g28 g29 g30 g31 : Addr}
    {Oc0 Oc1 Oc2 Oc3 Oc4 Oc5 Oc6 Oc7 Oc8 Oc9 Oc10 Oc11 Oc12 Oc13 Oc14 Oc15 Oc16 Oc17 Oc18 Oc19 Oc20 Oc21 Oc22 Oc23 Oc24 Oc25 Oc26 Oc27 Oc28 Oc29 Oc30 Oc31 Ocm0 Ocm1 Ocm2 Ocm3 : Value}
    {Kv0 Kv1 Kv2 Kv3 Kv4 Kv5 Kv6 Kv7 Kv8 Kv9 Kv10 Kv11 Kv12 Kv13 Kv14 Kv15 Kv16 Kv17 Kv18 Kv19 Kv20 Kv21 Kv22 Kv23 Kv24 Kv25 Kv26 Kv27 Kv28 Kv29 Kv30 Kv31 Kvm0 Kvm1 Kvm2 Kvm3 : Value}
    {Dc0 Dc1 Dc2 Dc3 Dc4 Dc5 Dc6 Dc7 Dc8 Dc9 Dc10 Dc11 Dc12 Dc13 Dc14 Dc15 Dc16 Dc17 Dc18 Dc19 Dc20 Dc21 Dc22 Dc23 Dc24 Dc25 Dc26 Dc27 Dc28 Dc29 Dc30 Dc31 Dcm0 Dcm1 Dcm2 Dcm3 : Value}
    {Pm0 Pm1 Pm2 Pm3 Pm4 Pm5 Pm6 Pm7 Pm8 Pm9 Pm10 Pm11 Pm12 Pm13 Pm14 Pm15 Pm16 Pm17 Pm18 Pm19 Pm20 Pm21 Pm22 Pm23 Pm24 Pm25 Pm26 Pm27 Pm28 Pm29 Pm30 Pm31 Pmm0 Pmm1 Pmm2 Pmm3 : Value}
    {Cd0 Cd1 Cd2 Cd3 Cd4 Cd5 Cd6 Cd7 Cd8 Cd9 Cd10 Cd11 Cd12 Cd13 Cd14 Cd15 Cd16 Cd17 Cd18 Cd19 Cd20 Cd21 Cd22 Cd23 Cd24 Cd25 Cd26 Cd27 Cd28 Cd29 Cd30 Cd31 Cdm0 Cdm1 Cdm2 Cdm3 : Value}
    {Ct0 Ct1 Ct2 Ct3 Ct4 Ct5 Ct6 Ct7 Ct8 Ct9 Ct10 Ct11 Ct12 Ct13 Ct14 Ct15 Ct16 Ct17 Ct18 Ct19 Ct20 Ct21 Ct22 Ct23 Ct24 Ct25 Ct26 Ct27 Ct28 Ct29 Ct30 Ct31 Ctm0 Ctm1 Ctm2 Ctm3 : Value}
    {Od0 Od1 Od2 Od3 Od4 Od5 Od6 Od7 Od8 Od9 Od10 Od11 Od12 Od13 Od14 Od15 Od16 Od17 Od18 Od19 Od20 Od21 Od22 Od23 Od24 Od25 Od26 Od27 Od28 Od29 Od30 Od31 Odm0 Odm1 Odm2 Odm3 : Option Addr}
    {An0 An1 An2 An3 An4 An5 An6 An7 An8 An9 An10 An11 An12 An13 An14 An15 An16 An17 An18 An19 An20 An21 An22 An23 An24 An25 An26 An27 An28 An29 An30 An31 Anm0 Anm1 Anm2 Anm3 : Option Addr}
    {Sl0 Sl1 Sl2 Sl3 Sl4 Sl5 Sl6 Sl7 Sl8 Sl9 Sl10 Sl11 Sl12 Sl13 Sl14 Sl15 Sl16 Sl17 Sl18 Sl19 Sl20 Sl21 Sl22 Sl23 Sl24 Sl25 Sl26 Sl27 Sl28 Sl29 Sl30 Sl31 Slm0 Slm1 Slm2 Slm3 : Array (Option Value)}
    (e0 : PySem.W.nsIn K mainGlobals "BadAlgebra" = some (some (.ref E0)))
    (e1 : PySem.W.nsIn K mainGlobals "BadCount" = some (some (.ref E1)))
    (e2 : PySem.W.nsIn K mainGlobals "UnknownMember" = some (some (.ref E2)))
    (e3 : PySem.W.nsIn K mainGlobals "UnknownSign" = some (some (.ref E3)))
    (a0 : PySem.W.nsIn K mainGlobals "Algebra" = some (some (.ref C0)))
    (i2 : PySem.W.findIn K (.ref E2) "__init__" = some (some (.ref f2)))
    (l2 : K.lookup f2 = some ⟨oc2, od2, .func (PySem.W.fnX "__init__" "UnknownMember.__init__" (defArgs (inClass (top 5) 0)) (defBody (inClass (top 5) 0)) (defScope (inClass (top 5) 0)) [(("__class__" : Str), q2)] .none kV2 dc2 pm2 an2 (.ref c2) ct2), sl2⟩)
    (m2 : K.lookup q2 = some ⟨oo2, dd2, .cell (some (.ref E2)), sm2⟩)
    (n2 : K.lookup c2 = some ⟨pp2, ee2, .fields vs2, sn2⟩)
    (v2 : vs2[2]? = some (.str "/claim/cut.py" tf2))
    (d2 : PySem.W.clsIn K E2 = some cd2)
    (t2 : PySem.W.typeIn K (.ref f2) = some (.type "function"))
    (s2 : PySem.W.mroIn K E2 (.ref E2) = some true)
    (u2 : PySem.W.ks_superIn K E2 E2 "__init__" = some (some (.builtin "LookupError.__init__")))
    (b2 : PySem.W.subIn K (.ref E2) (.type "LookupError") = some true)
    (h2 : PySem.W.codeIn K (.ref c2) "UnknownMember.__init__" = true)
    (i3 : PySem.W.findIn K (.ref E3) "__init__" = some (some (.ref f3)))
    (l3 : K.lookup f3 = some ⟨oc3, od3, .func (PySem.W.fnX "__init__" "UnknownSign.__init__" (defArgs (inClass (top 6) 0)) (defBody (inClass (top 6) 0)) (defScope (inClass (top 6) 0)) [(("__class__" : Str), q3)] .none kV3 dc3 pm3 an3 (.ref c3) ct3), sl3⟩)
    (m3 : K.lookup q3 = some ⟨oo3, dd3, .cell (some (.ref E3)), sm3⟩)
    (n3 : K.lookup c3 = some ⟨pp3, ee3, .fields vs3, sn3⟩)
    (v3 : vs3[2]? = some (.str "/claim/cut.py" tf3))
    (d3 : PySem.W.clsIn K E3 = some cd3)
    (t3 : PySem.W.typeIn K (.ref f3) = some (.type "function"))
    (s3 : PySem.W.mroIn K E3 (.ref E3) = some true)
    (u3 : PySem.W.ks_superIn K E3 E3 "__init__" = some (some (.builtin "LookupError.__init__")))
    (b3 : PySem.W.subIn K (.ref E3) (.type "LookupError") = some true)
    (h3 : PySem.W.codeIn K (.ref c3) "UnknownSign.__init__" = true)
    (A0 : PySem.W.nsIn K mainGlobals "_law_source" = some (some (.ref g0)))
    (Lk0 : K.lookup g0 = some ⟨Oc0, Od0, .func (PySem.W.fnOf "_law_source" "_law_source" (defArgs s__law_source) (defBody s__law_source) (defScope s__law_source) .none Kv0 Dc0 Pm0 An0 Cd0 Ct0), Sl0⟩)
    (Hk0 : PySem.W.codeIn K Cd0 "_law_source" = true)
    (Kk0 : PySem.W.keepIn K (.ref g0) = true)
    (A1 : PySem.W.nsIn K mainGlobals "_law_pick" = some (some (.ref g1)))
    (Lk1 : K.lookup g1 = some ⟨Oc1, Od1, .func (PySem.W.fnOf "_law_pick" "_law_pick" (defArgs sPick) (defBody sPick) (defScope sPick) .none Kv1 Dc1 Pm1 An1 Cd1 Ct1), Sl1⟩)
    (Hk1 : PySem.W.codeIn K Cd1 "_law_pick" = true)
    (Kk1 : PySem.W.keepIn K (.ref g1) = true)
    (A2 : PySem.W.nsIn K mainGlobals "is_plain" = some (some (.ref g2)))
    (Lk2 : K.lookup g2 = some ⟨Oc2, Od2, .func (PySem.W.fnOf "is_plain" "is_plain" (defArgs s_is_plain) (defBody s_is_plain) (defScope s_is_plain) .none Kv2 Dc2 Pm2 An2 Cd2 Ct2), Sl2⟩)
    (Hk2 : PySem.W.codeIn K Cd2 "is_plain" = true)
    (Kk2 : PySem.W.keepIn K (.ref g2) = true)
    (A3 : PySem.W.nsIn K mainGlobals "is_word" = some (some (.ref g3)))
    (Lk3 : K.lookup g3 = some ⟨Oc3, Od3, .func (PySem.W.fnOf "is_word" "is_word" (defArgs s_is_word) (defBody s_is_word) (defScope s_is_word) .none Kv3 Dc3 Pm3 An3 Cd3 Ct3), Sl3⟩)
    (Hk3 : PySem.W.codeIn K Cd3 "is_word" = true)
    (Kk3 : PySem.W.keepIn K (.ref g3) = true)
    (A4 : PySem.W.nsIn K mainGlobals "_check_members" = some (some (.ref g4)))
    (Lk4 : K.lookup g4 = some ⟨Oc4, Od4, .func (PySem.W.fnOf "_check_members" "_check_members" (defArgs s__check_members) (defBody s__check_members) (defScope s__check_members) .none Kv4 Dc4 Pm4 An4 Cd4 Ct4), Sl4⟩)
    (Hk4 : PySem.W.codeIn K Cd4 "_check_members" = true)
    (Kk4 : PySem.W.keepIn K (.ref g4) = true)
    (A5 : PySem.W.nsIn K mainGlobals "_check_values" = some (some (.ref g5)))
    (Lk5 : K.lookup g5 = some ⟨Oc5, Od5, .func (PySem.W.fnOf "_check_values" "_check_values" (defArgs s__check_values) (defBody s__check_values) (defScope s__check_values) .none Kv5 Dc5 Pm5 An5 Cd5 Ct5), Sl5⟩)
    (Hk5 : PySem.W.codeIn K Cd5 "_check_values" = true)
    (Kk5 : PySem.W.keepIn K (.ref g5) = true)
    (A6 : PySem.W.nsIn K mainGlobals "_check_operations" = some (some (.ref g6)))
    (Lk6 : K.lookup g6 = some ⟨Oc6, Od6, .func (PySem.W.fnOf "_check_operations" "_check_operations" (defArgs s__check_operations) (defBody s__check_operations) (defScope s__check_operations) .none Kv6 Dc6 Pm6 An6 Cd6 Ct6), Sl6⟩)
    (Hk6 : PySem.W.codeIn K Cd6 "_check_operations" = true)
    (Kk6 : PySem.W.keepIn K (.ref g6) = true)
    (A7 : PySem.W.nsIn K mainGlobals "_law_names" = some (some (.ref g7)))
    (Lk7 : K.lookup g7 = some ⟨Oc7, Od7, .func (PySem.W.fnOf "_law_names" "_law_names" (defArgs s__law_names) (defBody s__law_names) (defScope s__law_names) .none Kv7 Dc7 Pm7 An7 Cd7 Ct7), Sl7⟩)
    (Hk7 : PySem.W.codeIn K Cd7 "_law_names" = true)
    (Kk7 : PySem.W.keepIn K (.ref g7) = true)
    (A8 : PySem.W.nsIn K mainGlobals "_law_rows" = some (some (.ref g8)))
    (Lk8 : K.lookup g8 = some ⟨Oc8, Od8, .func (PySem.W.fnOf "_law_rows" "_law_rows" (defArgs s__law_rows) (defBody s__law_rows) (defScope s__law_rows) .none Kv8 Dc8 Pm8 An8 Cd8 Ct8), Sl8⟩)
    (Hk8 : PySem.W.codeIn K Cd8 "_law_rows" = true)
    (Kk8 : PySem.W.keepIn K (.ref g8) = true)
    (A9 : PySem.W.nsIn K mainGlobals "_law_operation" = some (some (.ref g9)))
    (Lk9 : K.lookup g9 = some ⟨Oc9, Od9, .func (PySem.W.fnOf "_law_operation" "_law_operation" (defArgs s__law_operation) (defBody s__law_operation) (defScope s__law_operation) .none Kv9 Dc9 Pm9 An9 Cd9 Ct9), Sl9⟩)
    (Hk9 : PySem.W.codeIn K Cd9 "_law_operation" = true)
    (Kk9 : PySem.W.keepIn K (.ref g9) = true)
    (A10 : PySem.W.nsIn K mainGlobals "_law_algebra" = some (some (.ref g10)))
    (Lk10 : K.lookup g10 = some ⟨Oc10, Od10, .func (PySem.W.fnOf "_law_algebra" "_law_algebra" (defArgs s__law_algebra) (defBody s__law_algebra) (defScope s__law_algebra) .none Kv10 Dc10 Pm10 An10 Cd10 Ct10), Sl10⟩)
    (Hk10 : PySem.W.codeIn K Cd10 "_law_algebra" = true)
    (Kk10 : PySem.W.keepIn K (.ref g10) = true)
    (A11 : PySem.W.nsIn K mainGlobals "_law_told" = some (some (.ref g11)))
    (Lk11 : K.lookup g11 = some ⟨Oc11, Od11, .func (PySem.W.fnOf "_law_told" "_law_told" (defArgs s__law_told) (defBody s__law_told) (defScope s__law_told) .none Kv11 Dc11 Pm11 An11 Cd11 Ct11), Sl11⟩)
    (Hk11 : PySem.W.codeIn K Cd11 "_law_told" = true)
    (Kk11 : PySem.W.keepIn K (.ref g11) = true)
    (A12 : PySem.W.nsIn K mainGlobals "_law_made" = some (some (.ref g12)))
    (Lk12 : K.lookup g12 = some ⟨Oc12, Od12, .func (PySem.W.fnOf "_law_made" "_law_made" (defArgs s__law_made) (defBody s__law_made) (defScope s__law_made) .none Kv12 Dc12 Pm12 An12 Cd12 Ct12), Sl12⟩)
    (Hk12 : PySem.W.codeIn K Cd12 "_law_made" = true)
    (Kk12 : PySem.W.keepIn K (.ref g12) = true)
    (A13 : PySem.W.nsIn K mainGlobals "check_known" = some (some (.ref g13)))
    (Lk13 : K.lookup g13 = some ⟨Oc13, Od13, .func (PySem.W.fnOf "check_known" "check_known" (defArgs s_check_known) (defBody s_check_known) (defScope s_check_known) .none Kv13 Dc13 Pm13 An13 Cd13 Ct13), Sl13⟩)
    (Hk13 : PySem.W.codeIn K Cd13 "check_known" = true)
    (Kk13 : PySem.W.keepIn K (.ref g13) = true)
    (A14 : PySem.W.nsIn K mainGlobals "_placed" = some (some (.ref g14)))
    (Lk14 : K.lookup g14 = some ⟨Oc14, Od14, .func (PySem.W.fnOf "_placed" "_placed" (defArgs s__placed) (defBody s__placed) (defScope s__placed) .none Kv14 Dc14 Pm14 An14 Cd14 Ct14), Sl14⟩)
    (Hk14 : PySem.W.codeIn K Cd14 "_placed" = true)
    (Kk14 : PySem.W.keepIn K (.ref g14) = true)
    (A15 : PySem.W.nsIn K mainGlobals "_check_pairs" = some (some (.ref g15)))
    (Lk15 : K.lookup g15 = some ⟨Oc15, Od15, .func (PySem.W.fnOf "_check_pairs" "_check_pairs" (defArgs s__check_pairs) (defBody s__check_pairs) (defScope s__check_pairs) .none Kv15 Dc15 Pm15 An15 Cd15 Ct15), Sl15⟩)
    (Hk15 : PySem.W.codeIn K Cd15 "_check_pairs" = true)
    (Kk15 : PySem.W.keepIn K (.ref g15) = true)
    (A16 : PySem.W.nsIn K mainGlobals "_moved" = some (some (.ref g16)))
    (Lk16 : K.lookup g16 = some ⟨Oc16, Od16, .func (PySem.W.fnOf "_moved" "_moved" (defArgs s__moved) (defBody s__moved) (defScope s__moved) .none Kv16 Dc16 Pm16 An16 Cd16 Ct16), Sl16⟩)
    (Hk16 : PySem.W.codeIn K Cd16 "_moved" = true)
    (Kk16 : PySem.W.keepIn K (.ref g16) = true)
    (A17 : PySem.W.nsIn K mainGlobals "_check_ends" = some (some (.ref g17)))
    (Lk17 : K.lookup g17 = some ⟨Oc17, Od17, .func (PySem.W.fnOf "_check_ends" "_check_ends" (defArgs s__check_ends) (defBody s__check_ends) (defScope s__check_ends) .none Kv17 Dc17 Pm17 An17 Cd17 Ct17), Sl17⟩)
    (Hk17 : PySem.W.codeIn K Cd17 "_check_ends" = true)
    (Kk17 : PySem.W.keepIn K (.ref g17) = true)
    (A18 : PySem.W.nsIn K mainGlobals "judge_chain" = some (some (.ref g18)))
    (Lk18 : K.lookup g18 = some ⟨Oc18, Od18, .func (PySem.W.fnOf "judge_chain" "judge_chain" (defArgs s_judge_chain) (defBody s_judge_chain) (defScope s_judge_chain) .none Kv18 Dc18 Pm18 An18 Cd18 Ct18), Sl18⟩)
    (Hk18 : PySem.W.codeIn K Cd18 "judge_chain" = true)
    (Kk18 : PySem.W.keepIn K (.ref g18) = true)
    (A19 : PySem.W.nsIn K mainGlobals "_step_ends" = some (some (.ref g19)))
    (Lk19 : K.lookup g19 = some ⟨Oc19, Od19, .func (PySem.W.fnOf "_step_ends" "_step_ends" (defArgs s__step_ends) (defBody s__step_ends) (defScope s__step_ends) .none Kv19 Dc19 Pm19 An19 Cd19 Ct19), Sl19⟩)
    (Hk19 : PySem.W.codeIn K Cd19 "_step_ends" = true)
    (Kk19 : PySem.W.keepIn K (.ref g19) = true)
    (A20 : PySem.W.nsIn K mainGlobals "_is_step" = some (some (.ref g20)))
    (Lk20 : K.lookup g20 = some ⟨Oc20, Od20, .func (PySem.W.fnOf "_is_step" "_is_step" (defArgs s__is_step) (defBody s__is_step) (defScope s__is_step) .none Kv20 Dc20 Pm20 An20 Cd20 Ct20), Sl20⟩)
    (Hk20 : PySem.W.codeIn K Cd20 "_is_step" = true)
    (Kk20 : PySem.W.keepIn K (.ref g20) = true)
    (A21 : PySem.W.nsIn K mainGlobals "_is_move" = some (some (.ref g21)))
    (Lk21 : K.lookup g21 = some ⟨Oc21, Od21, .func (PySem.W.fnOf "_is_move" "_is_move" (defArgs s__is_move) (defBody s__is_move) (defScope s__is_move) .none Kv21 Dc21 Pm21 An21 Cd21 Ct21), Sl21⟩)
    (Hk21 : PySem.W.codeIn K Cd21 "_is_move" = true)
    (Kk21 : PySem.W.keepIn K (.ref g21) = true)
    (A22 : PySem.W.nsIn K mainGlobals "_is_number_below" = some (some (.ref g22)))
    (Lk22 : K.lookup g22 = some ⟨Oc22, Od22, .func (PySem.W.fnOf "_is_number_below" "_is_number_below" (defArgs s__is_number_below) (defBody s__is_number_below) (defScope s__is_number_below) .none Kv22 Dc22 Pm22 An22 Cd22 Ct22), Sl22⟩)
    (Hk22 : PySem.W.codeIn K Cd22 "_is_number_below" = true)
    (Kk22 : PySem.W.keepIn K (.ref g22) = true)
    (A23 : PySem.W.nsIn K mainGlobals "_law_at" = some (some (.ref g23)))
    (Lk23 : K.lookup g23 = some ⟨Oc23, Od23, .func (PySem.W.fnOf "_law_at" "_law_at" (defArgs s__law_at) (defBody s__law_at) (defScope s__law_at) .none Kv23 Dc23 Pm23 An23 Cd23 Ct23), Sl23⟩)
    (Hk23 : PySem.W.codeIn K Cd23 "_law_at" = true)
    (Kk23 : PySem.W.keepIn K (.ref g23) = true)
    (A24 : PySem.W.nsIn K mainGlobals "_law_drawn" = some (some (.ref g24)))
    (Lk24 : K.lookup g24 = some ⟨Oc24, Od24, .func (PySem.W.fnOf "_law_drawn" "_law_drawn" (defArgs s__law_drawn) (defBody s__law_drawn) (defScope s__law_drawn) .none Kv24 Dc24 Pm24 An24 Cd24 Ct24), Sl24⟩)
    (Hk24 : PySem.W.codeIn K Cd24 "_law_drawn" = true)
    (Kk24 : PySem.W.keepIn K (.ref g24) = true)
    (A25 : PySem.W.nsIn K mainGlobals "_law_move" = some (some (.ref g25)))
    (Lk25 : K.lookup g25 = some ⟨Oc25, Od25, .func (PySem.W.fnOf "_law_move" "_law_move" (defArgs s__law_move) (defBody s__law_move) (defScope s__law_move) .none Kv25 Dc25 Pm25 An25 Cd25 Ct25), Sl25⟩)
    (Hk25 : PySem.W.codeIn K Cd25 "_law_move" = true)
    (Kk25 : PySem.W.keepIn K (.ref g25) = true)
    (A26 : PySem.W.nsIn K mainGlobals "_law_ends" = some (some (.ref g26)))
    (Lk26 : K.lookup g26 = some ⟨Oc26, Od26, .func (PySem.W.fnOf "_law_ends" "_law_ends" (defArgs s__law_ends) (defBody s__law_ends) (defScope s__law_ends) .none Kv26 Dc26 Pm26 An26 Cd26 Ct26), Sl26⟩)
    (Hk26 : PySem.W.codeIn K Cd26 "_law_ends" = true)
    (Kk26 : PySem.W.keepIn K (.ref g26) = true)
    (A27 : PySem.W.nsIn K mainGlobals "_law_spoilt" = some (some (.ref g27)))
    (Lk27 : K.lookup g27 = some ⟨Oc27, Od27, .func (PySem.W.fnOf "_law_spoilt" "_law_spoilt" (defArgs s__law_spoilt) (defBody s__law_spoilt) (defScope s__law_spoilt) .none Kv27 Dc27 Pm27 An27 Cd27 Ct27), Sl27⟩)
    (Hk27 : PySem.W.codeIn K Cd27 "_law_spoilt" = true)
    (Kk27 : PySem.W.keepIn K (.ref g27) = true)
    (A28 : PySem.W.nsIn K mainGlobals "_law_due" = some (some (.ref g28)))
    (Lk28 : K.lookup g28 = some ⟨Oc28, Od28, .func (PySem.W.fnOf "_law_due" "_law_due" (defArgs s__law_due) (defBody s__law_due) (defScope s__law_due) .none Kv28 Dc28 Pm28 An28 Cd28 Ct28), Sl28⟩)
    (Hk28 : PySem.W.codeIn K Cd28 "_law_due" = true)
    (Kk28 : PySem.W.keepIn K (.ref g28) = true)
    (A29 : PySem.W.nsIn K mainGlobals "_law_said" = some (some (.ref g29)))
    (Lk29 : K.lookup g29 = some ⟨Oc29, Od29, .func (PySem.W.fnOf "_law_said" "_law_said" (defArgs s__law_said) (defBody s__law_said) (defScope s__law_said) .none Kv29 Dc29 Pm29 An29 Cd29 Ct29), Sl29⟩)
    (Hk29 : PySem.W.codeIn K Cd29 "_law_said" = true)
    (Kk29 : PySem.W.keepIn K (.ref g29) = true)
    (A30 : PySem.W.nsIn K mainGlobals "_law_lost_right" = some (some (.ref g30)))
    (Lk30 : K.lookup g30 = some ⟨Oc30, Od30, .func (PySem.W.fnOf "_law_lost_right" "_law_lost_right" (defArgs s__law_lost_right) (defBody s__law_lost_right) (defScope s__law_lost_right) .none Kv30 Dc30 Pm30 An30 Cd30 Ct30), Sl30⟩)
    (Hk30 : PySem.W.codeIn K Cd30 "_law_lost_right" = true)
    (Kk30 : PySem.W.keepIn K (.ref g30) = true)
    (A31 : PySem.W.nsIn K mainGlobals "law" = some (some (.ref g31)))
    (Lk31 : K.lookup g31 = some ⟨Oc31, Od31, .func (PySem.W.fnOf "law" "law" (defArgs s_law) (defBody s_law) (defScope s_law) .none Kv31 Dc31 Pm31 An31 Cd31 Ct31), Sl31⟩)
    (Hk31 : PySem.W.codeIn K Cd31 "law" = true)
    (Kk31 : PySem.W.keepIn K (.ref g31) = true)
    (Am0 : PySem.W.findIn K (.ref C0) "__init__" = some (some (.ref M0)))
    (Lm0 : K.lookup M0 = some ⟨Ocm0, Odm0, .func (PySem.W.fnOf "__init__" "Algebra.__init__" (defArgs s_Algebra___init__) (defBody s_Algebra___init__) (defScope s_Algebra___init__) .none Kvm0 Dcm0 Pmm0 Anm0 Cdm0 Ctm0), Slm0⟩)
    (Hm0 : PySem.W.codeIn K Cdm0 "Algebra.__init__" = true)
    (Km0 : PySem.W.keepIn K (.ref M0) = true)
    (Am1 : PySem.W.findIn K (.ref C0) "_fill" = some (some (.ref M1)))
    (Lm1 : K.lookup M1 = some ⟨Ocm1, Odm1, .func (PySem.W.fnOf "_fill" "Algebra._fill" (defArgs s_Algebra__fill) (defBody s_Algebra__fill) (defScope s_Algebra__fill) .none Kvm1 Dcm1 Pmm1 Anm1 Cdm1 Ctm1), Slm1⟩)
    (Hm1 : PySem.W.codeIn K Cdm1 "Algebra._fill" = true)
    (Km1 : PySem.W.keepIn K (.ref M1) = true)
    (Am2 : PySem.W.findIn K (.ref C0) "value" = some (some (.ref M2)))
    (Lm2 : K.lookup M2 = some ⟨Ocm2, Odm2, .func (PySem.W.fnOf "value" "Algebra.value" (defArgs s_Algebra_value) (defBody s_Algebra_value) (defScope s_Algebra_value) .none Kvm2 Dcm2 Pmm2 Anm2 Cdm2 Ctm2), Slm2⟩)
    (Hm2 : PySem.W.codeIn K Cdm2 "Algebra.value" = true)
    (Km2 : PySem.W.keepIn K (.ref M2) = true)
    (Am3 : PySem.W.findIn K (.ref C0) "__contains__" = some (some (.ref M3)))
    (Lm3 : K.lookup M3 = some ⟨Ocm3, Odm3, .func (PySem.W.fnOf "__contains__" "Algebra.__contains__" (defArgs s_Algebra___contains__) (defBody s_Algebra___contains__) (defScope s_Algebra___contains__) .none Kvm3 Dcm3 Pmm3 Anm3 Cdm3 Ctm3), Slm3⟩)
    (Hm3 : PySem.W.codeIn K Cdm3 "Algebra.__contains__" = true)
    (Km3 : PySem.W.keepIn K (.ref M3) = true)
    (z_len : PySem.W.nsIn K mainGlobals "len" = some none)
    (z_int : PySem.W.nsIn K mainGlobals "int" = some none)
    (z_abs : PySem.W.nsIn K mainGlobals "abs" = some none)
    (z_range : PySem.W.nsIn K mainGlobals "range" = some none)
    (z_str : PySem.W.nsIn K mainGlobals "str" = some none)
    (z_list : PySem.W.nsIn K mainGlobals "list" = some none)
    (z_tuple : PySem.W.nsIn K mainGlobals "tuple" = some none)
    (z_isinstance : PySem.W.nsIn K mainGlobals "isinstance" = some none)
    (z_all : PySem.W.nsIn K mainGlobals "all" = some none)
    (z_set : PySem.W.nsIn K mainGlobals "set" = some none)
    (z_enumerate : PySem.W.nsIn K mainGlobals "enumerate" = some none)
    (z_sum : PySem.W.nsIn K mainGlobals "sum" = some none)
    (z_max : PySem.W.nsIn K mainGlobals "max" = some none)
    (z_min : PySem.W.nsIn K mainGlobals "min" = some none)
    (z_bool : PySem.W.nsIn K mainGlobals "bool" = some none)
    (z_dict : PySem.W.nsIn K mainGlobals "dict" = some none)
    (z_super : PySem.W.nsIn K mainGlobals "super" = some none)
    (y0 : PySem.W.nsIn K mainGlobals "_LETTERS" = some (some (.str "abcdefghijklmnopqrstuvwxyz" tk0)))
    (y1 : PySem.W.nsIn K mainGlobals "_CHARACTERS" = some (some (.str "abcdefghijklmnopqrstuvwxyz0123456789" tk1)))
    (y2 : PySem.W.nsIn K mainGlobals "_LONGEST" = some (some (.int 12 tk2)))
    (y3 : PySem.W.nsIn K mainGlobals "_MOST_MEMBERS" = some (some (.int 6 tk3)))
    (y4 : PySem.W.nsIn K mainGlobals "_MOST_OPERATIONS" = some (some (.int 5 tk4)))
    (opq : PySem.W.nsIn K cStatics "thirdparty.any" = some none)
    (te : TabE K (pick [E0, E1, E2, E3]))
    (tc : TabC K C0 (pick [M0, M1, M2, M3]))
    : ∃ fd : FuncData, (∀ (s : Shared) (v : Value), BindsTo s fd ⟨[v], []⟩ [("script", v)]) ∧ ∀ base : Heap, K.In base → base.Ns mainGlobals mg → FnOk P w K mg base CX0 24 fa fd ["script"] (spLaw K) := by
  have e := hfa.symm.trans (PySem.W.mg_of X G A31)
  cases e
  have BL : Blt mg := {
    len := PySem.W.mg_none_of X G z_len
    int := PySem.W.mg_none_of X G z_int
    abs := PySem.W.mg_none_of X G z_abs
    range := PySem.W.mg_none_of X G z_range
    str := PySem.W.mg_none_of X G z_str
    list := PySem.W.mg_none_of X G z_list
    tuple := PySem.W.mg_none_of X G z_tuple
    isinstance := PySem.W.mg_none_of X G z_isinstance
    all := PySem.W.mg_none_of X G z_all
    set := PySem.W.mg_none_of X G z_set
    enumerate := PySem.W.mg_none_of X G z_enumerate
    sum := PySem.W.mg_none_of X G z_sum
    max := PySem.W.mg_none_of X G z_max
    min := PySem.W.mg_none_of X G z_min
    bool := PySem.W.mg_none_of X G z_bool
    c_LETTERS := ⟨_, PySem.W.mg_of X G y0, ⟨_, rfl⟩⟩
    c_CHARACTERS := ⟨_, PySem.W.mg_of X G y1, ⟨_, rfl⟩⟩
    c_LONGEST := ⟨_, PySem.W.mg_of X G y2, ⟨_, rfl⟩⟩
    c_MOST_MEMBERS := ⟨_, PySem.W.mg_of X G y3, ⟨_, rfl⟩⟩
    c_MOST_OPERATIONS := ⟨_, PySem.W.mg_of X G y4, ⟨_, rfl⟩⟩ }
  have noS : mg "super" = none := PySem.W.mg_none_of X G z_super
  have x2 : XI P K mg "UnknownMember" "UnknownMember.__init__" (inClass (top 5) 0) ["self", "name"] E2 f2 q2 c2 "LookupError" "LookupError.__new__" "LookupError.__init__" [.type "LookupError", .type "Exception", .type "BaseException", .type "object"] (PySem.W.fnX "__init__" "UnknownMember.__init__" (defArgs (inClass (top 5) 0)) (defBody (inClass (top 5) 0)) (defScope (inClass (top 5) 0)) [(("__class__" : Str), q2)] .none kV2 dc2 pm2 an2 (.ref c2) ct2) := xi_mk X G xbL (te.cls 2 (by decide)) e2 i2 t2 l2 m2 n2 v2 lf d2 s2 u2 b2 opq noS tp ⟨_, rfl, rfl⟩ (by decide +kernel) (by decide +kernel) (by decide +kernel) h2 fun us hl => match us, hl with | [_, _], _ => rfl
  have x3 : XI P K mg "UnknownSign" "UnknownSign.__init__" (inClass (top 6) 0) ["self", "name"] E3 f3 q3 c3 "LookupError" "LookupError.__new__" "LookupError.__init__" [.type "LookupError", .type "Exception", .type "BaseException", .type "object"] (PySem.W.fnX "__init__" "UnknownSign.__init__" (defArgs (inClass (top 6) 0)) (defBody (inClass (top 6) 0)) (defScope (inClass (top 6) 0)) [(("__class__" : Str), q3)] .none kV3 dc3 pm3 an3 (.ref c3) ct3) := xi_mk X G xbL (te.cls 3 (by decide)) e3 i3 t3 l3 m3 n3 v3 lf d3 s3 u3 b3 opq noS tp ⟨_, rfl, rfl⟩ (by decide +kernel) (by decide +kernel) (by decide +kernel) h3 fun us hl => match us, hl with | [_, _], _ => rfl
  have XE0 : X0 K mg "BadAlgebra" E0 "ValueError" "ValueError.__new__" "ValueError.__init__" [.type "ValueError", .type "Exception", .type "BaseException", .type "object"] := ⟨xbV, PySem.W.mg_of X G e0, te.cls 0 (by decide), at_rep te.hi 0 (by decide)⟩
  have XE1 : X0 K mg "BadCount" E1 "ValueError" "ValueError.__new__" "ValueError.__init__" [.type "ValueError", .type "Exception", .type "BaseException", .type "object"] := ⟨xbV, PySem.W.mg_of X G e1, te.cls 1 (by decide), at_rep te.hi 1 (by decide)⟩
  have F0 := fun_mk (st := s__law_source) Lk0 Hk0 Kk0
  have B0 := F0.binds (ps := ["script"]) fun _ _ _ _ _ _ us hl => match us, hl with | [_], _ => rfl
  have F1 := fun_mk (st := sPick) Lk1 Hk1 Kk1
  have B1 := F1.binds (ps := ["source", "many"]) fun _ _ _ _ _ _ us hl => match us, hl with | [_, _], _ => rfl
  have F2 := fun_mk (st := s_is_plain) Lk2 Hk2 Kk2
  have B2 := F2.binds (ps := ["thing"]) fun _ _ _ _ _ _ us hl => match us, hl with | [_], _ => rfl
  have F3 := fun_mk (st := s_is_word) Lk3 Hk3 Kk3
  have B3 := F3.binds (ps := ["thing"]) fun _ _ _ _ _ _ us hl => match us, hl with | [_], _ => rfl
  have F4 := fun_mk (st := s__check_members) Lk4 Hk4 Kk4
  have B4 := F4.binds (ps := ["members"]) fun _ _ _ _ _ _ us hl => match us, hl with | [_], _ => rfl
  have F5 := fun_mk (st := s__check_values) Lk5 Hk5 Kk5
  have B5 := F5.binds (ps := ["members", "arity", "values"]) fun _ _ _ _ _ _ us hl => match us, hl with | [_, _, _], _ => rfl
  have F6 := fun_mk (st := s__check_operations) Lk6 Hk6 Kk6
  have B6 := F6.binds (ps := ["members", "operations"]) fun _ _ _ _ _ _ us hl => match us, hl with | [_, _], _ => rfl
  have F7 := fun_mk (st := s__law_names) Lk7 Hk7 Kk7
  have B7 := F7.binds (ps := ["source", "many"]) fun _ _ _ _ _ _ us hl => match us, hl with | [_, _], _ => rfl
  have F8 := fun_mk (st := s__law_rows) Lk8 Hk8 Kk8
  have B8 := F8.binds (ps := ["many", "arity"]) fun _ _ _ _ _ _ us hl => match us, hl with | [_, _], _ => rfl
  have F9 := fun_mk (st := s__law_operation) Lk9 Hk9 Kk9
  have B9 := F9.binds (ps := ["source", "many"]) fun _ _ _ _ _ _ us hl => match us, hl with | [_, _], _ => rfl
  have F10 := fun_mk (st := s__law_algebra) Lk10 Hk10 Kk10
  have B10 := F10.binds (ps := ["source", "most", "signs"]) fun _ _ _ _ _ _ us hl => match us, hl with | [_, _, _], _ => rfl
  have F11 := fun_mk (st := s__law_told) Lk11 Hk11 Kk11
  have B11 := F11.binds (ps := ["algebra"]) fun _ _ _ _ _ _ us hl => match us, hl with | [_], _ => rfl
  have F12 := fun_mk (st := s__law_made) Lk12 Hk12 Kk12
  have B12 := F12.binds (ps := ["algebra"]) fun _ _ _ _ _ _ us hl => match us, hl with | [_], _ => rfl
  have F13 := fun_mk (st := s_check_known) Lk13 Hk13 Kk13
  have B13 := F13.binds (ps := ["algebra", "names"]) fun _ _ _ _ _ _ us hl => match us, hl with | [_, _], _ => rfl
  have F14 := fun_mk (st := s__placed) Lk14 Hk14 Kk14
  have B14 := F14.binds (ps := ["name", "place", "others"]) fun _ _ _ _ _ _ us hl => match us, hl with | [_, _, _], _ => rfl
  have F15 := fun_mk (st := s__check_pairs) Lk15 Hk15 Kk15
  have B15 := F15.binds (ps := ["algebra", "pairs"]) fun _ _ _ _ _ _ us hl => match us, hl with | [_, _], _ => rfl
  have F16 := fun_mk (st := s__moved) Lk16 Hk16 Kk16
  have B16 := F16.binds (ps := ["algebra", "name", "moves"]) fun _ _ _ _ _ _ us hl => match us, hl with | [_, _, _], _ => rfl
  have F17 := fun_mk (st := s__check_ends) Lk17 Hk17 Kk17
  have B17 := F17.binds (ps := ["algebra", "pairs", "first", "second"]) fun _ _ _ _ _ _ us hl => match us, hl with | [_, _, _, _], _ => rfl
  have F18 := fun_mk (st := s_judge_chain) Lk18 Hk18 Kk18
  have B18 := F18.binds (ps := ["algebra", "pairs", "first", "second", "steps"]) fun _ _ _ _ _ _ us hl => match us, hl with | [_, _, _, _, _], _ => rfl
  have F19 := fun_mk (st := s__step_ends) Lk19 Hk19 Kk19
  have B19 := F19.binds (ps := ["algebra", "pairs", "step"]) fun _ _ _ _ _ _ us hl => match us, hl with | [_, _, _], _ => rfl
  have F20 := fun_mk (st := s__is_step) Lk20 Hk20 Kk20
  have B20 := F20.binds (ps := ["algebra", "many", "thing"]) fun _ _ _ _ _ _ us hl => match us, hl with | [_, _, _], _ => rfl
  have F21 := fun_mk (st := s__is_move) Lk21 Hk21 Kk21
  have B21 := F21.binds (ps := ["algebra", "arities", "thing"]) fun _ _ _ _ _ _ us hl => match us, hl with | [_, _, _], _ => rfl
  have F22 := fun_mk (st := s__is_number_below) Lk22 Hk22 Kk22
  have B22 := F22.binds (ps := ["many", "thing"]) fun _ _ _ _ _ _ us hl => match us, hl with | [_, _], _ => rfl
  have F23 := fun_mk (st := s__law_at) Lk23 Hk23 Kk23
  have B23 := F23.binds (ps := ["algebra", "k", "row"]) fun _ _ _ _ _ _ us hl => match us, hl with | [_, _, _], _ => rfl
  have F24 := fun_mk (st := s__law_drawn) Lk24 Hk24 Kk24
  have B24 := F24.binds (ps := ["source", "algebra", "pairs"]) fun _ _ _ _ _ _ us hl => match us, hl with | [_, _, _], _ => rfl
  have F25 := fun_mk (st := s__law_move) Lk25 Hk25 Kk25
  have B25 := F25.binds (ps := ["algebra", "move"]) fun _ _ _ _ _ _ us hl => match us, hl with | [_, _], _ => rfl
  have F26 := fun_mk (st := s__law_ends) Lk26 Hk26 Kk26
  have B26 := F26.binds (ps := ["algebra", "pairs", "step"]) fun _ _ _ _ _ _ us hl => match us, hl with | [_, _, _], _ => rfl
  have F27 := fun_mk (st := s__law_spoilt) Lk27 Hk27 Kk27
  have B27 := F27.binds (ps := ["source", "step", "member"]) fun _ _ _ _ _ _ us hl => match us, hl with | [_, _, _], _ => rfl
  have F28 := fun_mk (st := s__law_due) Lk28 Hk28 Kk28
  have B28 := F28.binds (ps := ["algebra", "pairs", "first", "last", "steps"]) fun _ _ _ _ _ _ us hl => match us, hl with | [_, _, _, _, _], _ => rfl
  have F29 := fun_mk (st := s__law_said) Lk29 Hk29 Kk29
  have B29 := F29.binds (ps := ["made", "pairs", "ends", "steps"]) fun _ _ _ _ _ _ us hl => match us, hl with | [_, _, _, _], _ => rfl
  have F30 := fun_mk (st := s__law_lost_right) Lk30 Hk30 Kk30
  have B30 := F30.binds (ps := ["made", "pairs", "first", "last", "steps"]) fun _ _ _ _ _ _ us hl => match us, hl with | [_, _, _, _, _], _ => rfl
  have F31 := fun_mk (st := s_law) Lk31 Hk31 Kk31
  have Fm0 := fun_mk (st := s_Algebra___init__) Lm0 Hm0 Km0
  have Bm0 := Fm0.binds (ps := ["self", "members", "operations"]) fun _ _ _ _ _ _ us hl => match us, hl with | [_, _, _], _ => rfl
  have Fm1 := fun_mk (st := s_Algebra__fill) Lm1 Hm1 Km1
  have Bm1 := Fm1.binds (ps := ["self", "members", "operations"]) fun _ _ _ _ _ _ us hl => match us, hl with | [_, _, _], _ => rfl
  have Fm2 := fun_mk (st := s_Algebra_value) Lm2 Hm2 Km2
  have Bm2 := Fm2.binds (ps := ["self", "sign", "arguments"]) fun _ _ _ _ _ _ us hl => match us, hl with | [_, _, _], _ => rfl
  have Fm3 := fun_mk (st := s_Algebra___contains__) Lm3 Hm3 Km3
  have Bm3 := Fm3.binds (ps := ["self", "name"]) fun _ _ _ _ _ _ us hl => match us, hl with | [_, _], _ => rfl
  have gA : mg "Algebra" = some (.ref C0) := PySem.W.mg_of X G a0
  have zdict : mg "dict" = none := PySem.W.mg_none_of X G z_dict
  have zsuper : mg "super" = none := PySem.W.mg_none_of X G z_super
  refine ⟨PySem.W.fnOf "law" "law" (defArgs s_law) (defBody s_law) (defScope s_law) .none Kv31 Dc31 Pm31 An31 Cd31 Ct31, fun s v => .of_eq rfl, fun base _ _ => ?_⟩
  have k__law_source : Cal P w K mg base 1 "_law_source" ["script"] (spSource K) := ⟨_, _, PySem.W.mg_of X G A0, Kk0, B0, (ok_source F0 BL).toX⟩
  have k__law_pick : Cal P w K mg base 1 "_law_pick" ["source", "many"] spPick := ⟨_, _, PySem.W.mg_of X G A1, Kk1, B1, (ok_pick F1 BL).toX⟩
  have k_is_plain : Cal P w K mg base 1 "is_plain" ["thing"] (spText plainB) := ⟨_, _, PySem.W.mg_of X G A2, Kk2, B2, (ok_is_plain F2 BL).toX⟩
  have k_is_word : Cal P w K mg base 2 "is_word" ["thing"] (spText wordB) := ⟨_, _, PySem.W.mg_of X G A3, Kk3, B3, (ok_is_word F3 BL k_is_plain).toX⟩
  have k__check_members : Cal P w K mg base 2 "_check_members" ["members"] (spChkM K) := ⟨_, _, PySem.W.mg_of X G A4, Kk4, B4, (ok_check_members F4 BL k_is_plain).toX⟩
  have k__check_values : Cal P w K mg base 1 "_check_values" ["members", "arity", "values"] (spChkV K) := ⟨_, _, PySem.W.mg_of X G A5, Kk5, B5, (ok_check_values F5 BL).toX⟩
  have k__check_operations : Cal P w K mg base 3 "_check_operations" ["members", "operations"] (spChkO K) := ⟨_, _, PySem.W.mg_of X G A6, Kk6, B6, (ok_check_operations F6 BL k_is_word k__check_values).toX⟩
  have FA : FnOk P w K mg base CX0 4 M0 _ ["self", "members", "operations"] (spAlg K C0) := ok_alg Fm0 k__check_members k__check_operations ⟨tc.cls, _, _, tc.me1, Bm1, (ok_fill Fm1 BL tc.ac).toX⟩
  have k__law_names : Cal P w K mg base 2 "_law_names" ["source", "many"] spNamesL := ⟨_, _, PySem.W.mg_of X G A7, Kk7, B7, (ok_lnames F7 BL k__law_pick).toX⟩
  have k__law_rows : Cal P w K mg base 1 "_law_rows" ["many", "arity"] spRows := ⟨_, _, PySem.W.mg_of X G A8, Kk8, B8, (ok_rows F8 BL).toX⟩
  have k__law_operation : Cal P w K mg base 2 "_law_operation" ["source", "many"] spOp := ⟨_, _, PySem.W.mg_of X G A9, Kk9, B9, (ok_op F9 BL k__law_pick k__law_rows).toX⟩
  have k__law_algebra : Cal P w K mg base 3 "_law_algebra" ["source", "most", "signs"] spAlgD := ⟨_, _, PySem.W.mg_of X G A10, Kk10, B10, (ok_algd F10 BL k__law_pick k__law_rows k__law_names k__law_operation).toX⟩
  have k__law_told : Cal P w K mg base 1 "_law_told" ["algebra"] (spTold K) := ⟨_, _, PySem.W.mg_of X G A11, Kk11, B11, (ok_told F11 BL).toX⟩
  have k__law_made : Cal P w K mg base 6 "_law_made" ["algebra"] (spMadeD C0) := ⟨_, _, PySem.W.mg_of X G A12, Kk12, B12, (ok_madeD F12 BL gA k__law_told ⟨_, _, tc.maker, gA, Bm0, FA.toX⟩).toX⟩
  have s__law_names : Cal P w K mg base 2 "_law_names" ["source", "many"] (spS PNames) := ⟨_, _, PySem.W.mg_of X G A7, Kk7, B7, (names_s (ok_lnames F7 BL k__law_pick)).toX⟩
  have s__law_algebra : Cal P w K mg base 3 "_law_algebra" ["source", "most", "signs"] (spS PAlg) := ⟨_, _, PySem.W.mg_of X G A10, Kk10, B10, (algd_s (ok_algd F10 BL k__law_pick k__law_rows k__law_names k__law_operation)).toX⟩
  have p__law_made : Cal P w K mg base 6 "_law_made" ["algebra"] (spP (PMade C0)) := ⟨_, _, PySem.W.mg_of X G A12, Kk12, B12, (made_p (ok_madeD F12 BL gA k__law_told ⟨_, _, tc.maker, gA, Bm0, FA.toX⟩)).toX⟩
  have U : ErrC P K mg E0 E1 E2 E3 f2 q2 c2 f3 q3 c3 _ _ := ⟨XE0, XE1, x2, x3, te.f2_name, te.f3_name⟩
  have FHp : FnOk P w K mg base (L2.CX P w) 1 M3 _ ["self", "name"] (spP (PHas C0)) := (has_p (ok_has Fm3 BL tc.ac)).toX
  have FHp0 : FnOk P w K mg base CX0 1 M3 _ ["self", "name"] (spP (PHas C0)) := has_p (ok_has Fm3 BL tc.ac)
  have FH : FnOk P w K mg base CX0 1 M3 _ ["self", "name"] (spHasM C0) := ok_has Fm3 BL tc.ac
  have FV : FnOk P w K mg base (L2.CX P w) 3 M2 _ ["self", "sign", "arguments"] (spVal K C0 E1 E2 E3) := ok_value Fm2 BL tc.ac U tc.me3 FH.toX Bm3
  have m_value : Mtd P w K mg base 3 C0 "value" ["self", "sign", "arguments"] (spX (PVal C0 E1 E2 E3)) := ⟨tc.cls, _, _, tc.me2, Bm2, val_x FV⟩
  have k_check_known : Cal P w K mg base 3 "check_known" ["algebra", "names"] (spX (PCk C0 E2)) := ⟨_, _, PySem.W.mg_of X G A13, Kk13, B13, ok_ck F13 BL tc.ac U tc.me3 FHp Bm3⟩
  have k__placed : Cal P w K mg base 1 "_placed" ["name", "place", "others"] (spP PPd) := ⟨_, _, PySem.W.mg_of X G A14, Kk14, B14, (ok_placed F14 BL).toX⟩
  have k__moved : Cal P w K mg base 4 "_moved" ["algebra", "name", "moves"] (spP (PMo C0)) := ⟨_, _, PySem.W.mg_of X G A16, Kk16, B16, (ok_moved F16 BL tc.ac k__placed m_value).toX⟩
  have k__is_number_below : Cal P w K mg base 1 "_is_number_below" ["many", "thing"] (spP PNb) := ⟨_, _, PySem.W.mg_of X G A22, Kk22, B22, (ok_nb F22 BL).toX⟩
  have k__is_move : Cal P w K mg base 2 "_is_move" ["algebra", "arities", "thing"] (spP (PIm C0)) := ⟨_, _, PySem.W.mg_of X G A21, Kk21, B21, (ok_im F21 BL tc.ac tc.me3 FHp0 Bm3 k__is_number_below).toX⟩
  have k__is_step : Cal P w K mg base 3 "_is_step" ["algebra", "many", "thing"] (spP (PIs2 C0)) := ⟨_, _, PySem.W.mg_of X G A20, Kk20, B20, (ok_is2 F20 BL tc.ac k__is_number_below k__is_move).toX⟩
  have k__check_pairs : Cal P w K mg base 4 "_check_pairs" ["algebra", "pairs"] (spX (PCp C0 E2)) := ⟨_, _, PySem.W.mg_of X G A15, Kk15, B15, ok_cp F15 BL k_check_known⟩
  have k__check_ends : Cal P w K mg base 5 "_check_ends" ["algebra", "pairs", "first", "second"] (spX (PCe C0 E2)) := ⟨_, _, PySem.W.mg_of X G A17, Kk17, B17, ok_ce F17 BL k_check_known k__check_pairs⟩
  have k__step_ends : Cal P w K mg base 5 "_step_ends" ["algebra", "pairs", "step"] (spP (PSe C0)) := ⟨_, _, PySem.W.mg_of X G A19, Kk19, B19, (ok_se F19 BL k__moved).toX⟩
  have k_judge_chain : Cal P w K mg base 6 "judge_chain" ["algebra", "pairs", "first", "second", "steps"] (spX (PJc C0 E2)) := ⟨_, _, PySem.W.mg_of X G A18, Kk18, B18, ok_jc F18 BL k__check_ends k__is_step k__step_ends⟩
  have k__law_at : Cal P w K mg base 1 "_law_at" ["algebra", "k", "row"] (spP PAt) := ⟨_, _, PySem.W.mg_of X G A23, Kk23, B23, (at_p (ok_at F23 BL)).toX⟩
  have k__law_move : Cal P w K mg base 1 "_law_move" ["algebra", "move"] (spP PLm) := ⟨_, _, PySem.W.mg_of X G A25, Kk25, B25, (ok_lmove F25 BL).toX⟩
  have k__law_ends : Cal P w K mg base 2 "_law_ends" ["algebra", "pairs", "step"] (spP PLe) := ⟨_, _, PySem.W.mg_of X G A26, Kk26, B26, (ok_lends F26 BL k__law_move k__law_at).toX⟩
  have k__law_due : Cal P w K mg base 3 "_law_due" ["algebra", "pairs", "first", "last", "steps"] (spP PLd) := ⟨_, _, PySem.W.mg_of X G A28, Kk28, B28, (ok_ldue F28 BL k__law_ends).toX⟩
  have k__law_said : Cal P w K mg base 7 "_law_said" ["made", "pairs", "ends", "steps"] (spP (PSd C0)) := ⟨_, _, PySem.W.mg_of X G A29, Kk29, B29, (ok_said F29 BL U (xfB_ok te.xf2) te.x22 k_judge_chain).toX⟩
  have k__law_lost_right : Cal P w K mg base 8 "_law_lost_right" ["made", "pairs", "first", "last", "steps"] (spP (PLr C0)) := ⟨_, _, PySem.W.mg_of X G A30, Kk30, B30, (ok_lr F30 BL k__law_said).toX⟩
  have k__law_drawn : Cal P w K mg base 2 "_law_drawn" ["source", "algebra", "pairs"] (spS PDr) := ⟨_, _, PySem.W.mg_of X G A24, Kk24, B24, (ok_drawn F24 BL k__law_pick).toX⟩
  have k__law_spoilt : Cal P w K mg base 2 "_law_spoilt" ["source", "step", "member"] (spS PSp) := ⟨_, _, PySem.W.mg_of X G A27, Kk27, B27, (ok_spo F27 BL k__law_pick).toX⟩
  exact ok_law F31 BL k__law_source k__law_pick s__law_algebra p__law_made k__law_drawn k__law_ends k__law_spoilt k__law_due k__law_said k__law_lost_right
end
theorem walk {l : PySem.W.OpenLaw} {q : Program} {loose : List Str} {XP : (Str → Option Value) → Heap → Prop} {YP : World → Heap → Prop} {d : DefRec} {K : Params → PySem.W.Frag} (hn : l.most = some 63) (hdf : d.params.defaults = [])
    (hY : ∀ (w : World) (h : Heap), YP w h → (K w.params).In h)
    (F : ∀ (w : World) (mg : Str → Option Value) (fa : Addr) (h : Heap), (K w.params).In h → h.Ns mainGlobals mg → mg d.name = some (.ref fa) →
      ∃ fd : FuncData, (∀ (s : Shared) (u : Value), BindsTo s fd ⟨[u], []⟩ [("script", u)]) ∧ ∀ base : Heap, (K w.params).In base → base.Ns mainGlobals mg → FnOk l.prog w (K w.params) mg base CX0 24 fa fd ["script"] (spLaw (K w.params))) :
    PySem.W.WalkO q loose XP YP l.row.toRowW d [] (fun f vs => PySem.call f vs) :=
  L2.walk_of (n := 63) (k := 24) (x := "script") (CX := fun _ => CX0) (sp := fun w => spLaw (K w.params)) hn (by decide) hdf ⟨rfl, by decide, by decide⟩ hY F (fun _ _ a ns hl _ hS => ⟨a, ns, rfl, hS, hl, fun _ => rfl⟩) fun _ _ _ _ _ z => z
end K43


set_option Elab.async false
set_option linter.all false
open PySem PySem.W PyProof.Rows
set_option maxRecDepth 100000 in
set_option maxHeartbeats 0 in
theorem PySem.Challenge.cw_equalkin_k43_chains_judged_holds : PySem.Challenge.rw_equalkin_k43_chains_judged.Holds := by
  w_on; o_law; k_head; (case hw => w_witness2)
  k_fill
  refine K43.walk (l := PySem.Challenge.rw_equalkin_k43_chains_judged) rfl rfl (fun w h Y => PySem.W.kIn_of Y) ?F
  case F =>
    intro w mg fa h KX G hmg
    refine' K43.all_mk KX G hmg ?lf ?tp ?e0 ?e1 ?e2 ?e3 ?a0 ?i2 ?l2 ?m2 ?n2 ?v2 ?d2 ?t2 ?s2 ?u2 ?b2 ?h2 ?i3 ?l3 ?m3 ?n3 ?v3 ?d3 ?t3 ?s3 ?u3 ?b3 ?h3 ?A0 ?Lk0 ?Hk0 ?Kk0 ?A1 ?Lk1 ?Hk1 ?Kk1 ?A2 ?Lk2 ?Hk2 ?Kk2 ?A3 ?Lk3 ?Hk3 ?Kk3 ?A4 ?Lk4 ?Hk4 ?Kk4 ?A5 ?Lk5 ?Hk5 ?Kk5 ?A6 ?Lk6 ?Hk6 ?Kk6 ?A7 ?Lk7 ?Hk7 ?Kk7 ?A8 ?Lk8 ?Hk8 ?Kk8 ?A9 ?Lk9 ?Hk9 ?Kk9 ?A10 ?Lk10 ?Hk10 ?Kk10 ?A11 ?Lk11 ?Hk11 ?Kk11 ?A12 ?Lk12 ?Hk12 ?Kk12 ?A13 ?Lk13 ?Hk13 ?Kk13 ?A14 ?Lk14 ?Hk14 ?Kk14 ?A15 ?Lk15 ?Hk15 ?Kk15 ?A16 ?Lk16 ?Hk16 ?Kk16 ?A17 ?Lk17 ?Hk17 ?Kk17 ?A18 ?Lk18 ?Hk18 ?Kk18 ?A19 ?Lk19 ?Hk19 ?Kk19 ?A20 ?Lk20 ?Hk20 ?Kk20 ?A21 ?Lk21 ?Hk21 ?Kk21 ?A22 ?Lk22 ?Hk22 ?Kk22 ?A23 ?Lk23 ?Hk23 ?Kk23 ?A24 ?Lk24 ?Hk24 ?Kk24 ?A25 ?Lk25 ?Hk25 ?Kk25 ?A26 ?Lk26 ?Hk26 ?Kk26 ?A27 ?Lk27 ?Hk27 ?Kk27 ?A28 ?Lk28 ?Hk28 ?Kk28 ?A29 ?Lk29 ?Hk29 ?Kk29 ?A30 ?Lk30 ?Hk30 ?Kk30 ?A31 ?Lk31 ?Hk31 ?Kk31 ?Am0 ?Lm0 ?Hm0 ?Km0 ?Am1 ?Lm1 ?Hm1 ?Km1 ?Am2 ?Lm2 ?Hm2 ?Km2 ?Am3 ?Lm3 ?Hm3 ?Km3 ?z_len ?z_int ?z_abs ?z_range ?z_str ?z_list ?z_tuple ?z_isinstance ?z_all ?z_set ?z_enumerate ?z_sum ?z_max ?z_min ?z_bool ?z_dict ?z_super ?y0 ?y1 ?y2 ?y3 ?y4 ?opq ?te ?tc
    (case lf => kernel_rfl); (case tp => kernel_rfl)
    (case e0 => k_is); (case e1 => k_is); (case e2 => k_is); (case e3 => k_is); (case a0 => k_is); (case i2 => k_is)
    (case l2 => k_is); (case m2 => k_is); (case n2 => k_is); (case v2 => rfl); (case d2 => k_is); (case t2 => k_is)
    (case s2 => k_is); (case u2 => ks_is); (case b2 => k_is); (case h2 => k_is); (case i3 => k_is); (case l3 => k_is)
    (case m3 => k_is); (case n3 => k_is); (case v3 => rfl); (case d3 => k_is); (case t3 => k_is); (case s3 => k_is)
    (case u3 => ks_is); (case b3 => k_is); (case h3 => k_is); (case A0 => k_is); (case Lk0 => k_is); (case Hk0 => k_is)
    (case Kk0 => k_is); (case A1 => k_is); (case Lk1 => k_is); (case Hk1 => k_is); (case Kk1 => k_is); (case A2 => k_is)
    (case Lk2 => k_is); (case Hk2 => k_is); (case Kk2 => k_is); (case A3 => k_is); (case Lk3 => k_is); (case Hk3 => k_is)
    (case Kk3 => k_is); (case A4 => k_is); (case Lk4 => k_is); (case Hk4 => k_is); (case Kk4 => k_is); (case A5 => k_is)
    (case Lk5 => k_is); (case Hk5 => k_is); (case Kk5 => k_is); (case A6 => k_is); (case Lk6 => k_is); (case Hk6 => k_is)
    (case Kk6 => k_is); (case A7 => k_is); (case Lk7 => k_is); (case Hk7 => k_is); (case Kk7 => k_is); (case A8 => k_is)
    (case Lk8 => k_is); (case Hk8 => k_is); (case Kk8 => k_is); (case A9 => k_is); (case Lk9 => k_is); (case Hk9 => k_is)
    (case Kk9 => k_is); (case A10 => k_is); (case Lk10 => k_is); (case Hk10 => k_is); (case Kk10 => k_is); (case A11 => k_is)
    (case Lk11 => k_is); (case Hk11 => k_is); (case Kk11 => k_is); (case A12 => k_is); (case Lk12 => k_is); (case Hk12 => k_is)
    (case Kk12 => k_is); (case A13 => k_is); (case Lk13 => k_is); (case Hk13 => k_is); (case Kk13 => k_is); (case A14 => k_is)
    (case Lk14 => k_is); (case Hk14 => k_is); (case Kk14 => k_is); (case A15 => k_is); (case Lk15 => k_is); (case Hk15 => k_is)
    (case Kk15 => k_is); (case A16 => k_is); (case Lk16 => k_is); (case Hk16 => k_is); (case Kk16 => k_is); (case A17 => k_is)
    (case Lk17 => k_is); (case Hk17 => k_is); (case Kk17 => k_is); (case A18 => k_is); (case Lk18 => k_is); (case Hk18 => k_is)
    (case Kk18 => k_is); (case A19 => k_is); (case Lk19 => k_is); (case Hk19 => k_is); (case Kk19 => k_is); (case A20 => k_is)
    (case Lk20 => k_is); (case Hk20 => k_is); (case Kk20 => k_is); (case A21 => k_is); (case Lk21 => k_is); (case Hk21 => k_is)
    (case Kk21 => k_is); (case A22 => k_is); (case Lk22 => k_is); (case Hk22 => k_is); (case Kk22 => k_is); (case A23 => k_is)
    (case Lk23 => k_is); (case Hk23 => k_is); (case Kk23 => k_is); (case A24 => k_is); (case Lk24 => k_is); (case Hk24 => k_is)
    (case Kk24 => k_is); (case A25 => k_is); (case Lk25 => k_is); (case Hk25 => k_is); (case Kk25 => k_is); (case A26 => k_is)
    (case Lk26 => k_is); (case Hk26 => k_is); (case Kk26 => k_is); (case A27 => k_is); (case Lk27 => k_is); (case Hk27 => k_is)
    (case Kk27 => k_is); (case A28 => k_is); (case Lk28 => k_is); (case Hk28 => k_is); (case Kk28 => k_is); (case A29 => k_is)
    (case Lk29 => k_is); (case Hk29 => k_is); (case Kk29 => k_is); (case A30 => k_is); (case Lk30 => k_is); (case Hk30 => k_is)
    (case Kk30 => k_is); (case A31 => k_is); (case Lk31 => k_is); (case Hk31 => k_is); (case Kk31 => k_is); (case Am0 => k_is)
    (case Lm0 => k_is); (case Hm0 => k_is); (case Km0 => k_is); (case Am1 => k_is); (case Lm1 => k_is); (case Hm1 => k_is)
    (case Km1 => k_is); (case Am2 => k_is); (case Lm2 => k_is); (case Hm2 => k_is); (case Km2 => k_is); (case Am3 => k_is)
    (case Lm3 => k_is); (case Hm3 => k_is); (case Km3 => k_is); (case z_len => k_is); (case z_int => k_is); (case z_abs => k_is)
    (case z_range => k_is); (case z_str => k_is); (case z_list => k_is); (case z_tuple => k_is); (case z_isinstance => k_is); (case z_all => k_is)
    (case z_set => k_is); (case z_enumerate => k_is); (case z_sum => k_is); (case z_max => k_is); (case z_min => k_is); (case z_bool => k_is)
    (case z_dict => k_is); (case z_super => k_is); (case y0 => k_is); (case y1 => k_is); (case y2 => k_is); (case y3 => k_is)
    (case y4 => k_is); (case opq => k_is)
    case te =>
      refine' ⟨?_, ?_, ?_, ?_, ?_, ?_, ?_, ?_, ?_, ?_, ?_, ?_⟩ <;> kernel_rfl
    case tc =>
      refine' ⟨?_, ?_, ?_, ?_, ?_, ?_, ?_, ?_, ?_, ?_, ?_, ?_, ?_, ?_, ?_, ?_, ?_, ?_, ?_, ?_, ?_, ?_, ?_⟩ <;> kernel_rfl

