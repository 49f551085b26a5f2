import PyProof.Rows.All
import Wide.All
import OpenK.AllK
import Wide.FinOn
import HandS.ForMost
import HandS.ForExc
import HandS.ExcInit
import HandS.IsInst
import HandS.Wide
import HandS.EndBits
import HandS.Conv
import HandS.Defaults
import KE.KExcIs
import HandS.MakeKw
import HandS.Codes
import HandS.ExcValue
import HandS.Walk
import HandS.Style
import HandS.TupMul
import HandS.TupAny
import HandS.ExcOwn
import HandS.WordsExc
import HandS.Property
import KE.KAssignIn
import HandS.Lambda
import HandS.ClsMeth
import HandS.EndTab
import HandS.HeadHook4
import HandS.HeadNt
import KE.KStateDown
import Lean
import HandS.Head0
import HandS.Head1
import HandS.Head2
import HandS.Head3
import HandS.HeadEnd
import PySem.Challenge.RW_lanebanks_k25_kinds_of_rules_refused
set_option Elab.async false
set_option linter.all false
set_option maxRecDepth 100000
namespace L2
open PySem PySem.Spec PyProof.Rows
/-! exceptions of the program's own as values -/
structure XvC (K : PySem.W.Frag) (C : Addr) : Prop where
  oex : OexC K C
  ga : PySem.W.findIn K (.ref C) "__getattribute__" = some (some (.builtin "BaseException.__getattribute__"))
  gg : PySem.W.findIn K (.ref C) "__getattr__" = some none
  dd : PySem.W.hasDictIn K C = true
  ic : (PySem.W.clsIn K C).isSome = true
  ca : PySem.W.findIn K (.ref C) "__class__" = some (some (.builtin "object.__class__"))
  gs : PySem.W.specialIn K (.builtin "object.__class__") "__get__" = some (some (.builtin "getset_descriptor.__get__"))
  tk : PySem.W.takesIn K (.builtin "object.__class__") = some true
  mo : PySem.W.mroIn K C (.type "object") = some true
/-- an exception object with (some) dict -/
def XvD (H : Hp) (d : Option Addr) : Prop := ∀ b, d = some b → ∃ fs, H b = some (exd b fs)
section
variable {X : Cx} {pins : List (Addr × Obj)} {σ : St} {H : Hp} {s : Shared}
theorem xv_inst {a C : Addr} {d : Option Addr} (I : Inv X pins σ H s) (e : H a = some (exo a C d)) (hd : XvD H d) : ∃ oe od, PySem.W.InstAt s.heap a oe C od := by
  obtain ⟨t1, ho⟩ := exo_at I.hok e
  cases d with
  | none => exact ⟨_, none, ho, rfl, rfl, trivial⟩
  | some b =>
    obtain ⟨fs, eb⟩ := hd b rfl
    obtain ⟨mA, hns, hr⟩ := exd_at I.hok eb
    obtain ⟨od, hod, hl⟩ := lookIn_ns hns
    exact ⟨_, some od, ho, rfl, rfl, hod⟩
/-- e.f off such a value -/
def tXat (K : PySem.W.Frag) (te : TE) (f : Str) : TE := fun σ H Q => te σ H fun x H1 => ∃ (a C d : Addr) (fs : List (Str × V)) (v : V), x = .ref a ∧ H1 a = some (exo a C (some d)) ∧ H1 d = some (exd d fs) ∧ XvC K C ∧ PySem.W.findIn K (.ref C) f = some none ∧ fs.lookup f = some v ∧ Q v H1
theorem pe_xat {e : Expr} {te : TE} {f : Str} {pos : Pos} (he : PE X e te) (hb : attributeBase e f X.env (eval e X.env) = eval e X.env := by rfl) : PE X (.Attribute e f pos) (tXat X.K te f) := by
  refine ⟨fun pins s σ H Q I h => ?_⟩
  refine attr_of hb (thn (he.run pins s σ H _ I h) fun u s1 hh => ?_)
  obtain ⟨x, H1, I1, rx, a, C, d, fs, v, ex, ea, ed, T, no, l, q⟩ := hh
  subst ex
  obtain rfl : u = Value.ref a := rx
  obtain ⟨t1, ho⟩ := exo_at I1.hok ea
  obtain ⟨mA, hns, hr⟩ := exd_at I1.hok ed
  obtain ⟨od, hod, hl⟩ := lookIn_ns hns
  obtain ⟨u, hu, ru⟩ := RelO.some_of (v := v) (o := mA f) (by rw [← l]; exact hr f)
  have J : PySem.W.InstAt s1.heap a _ C (some od) := ⟨ho, rfl, rfl, hod⟩
  exact HandSPX.exc_get I1.kIn J T.ga T.gg T.oex.exC (PySem.W.findObj_own T.dd no rfl (by rw [hl, hu])) (handed_of ru) ⟨v, H1, I1.tok _, ru, q⟩
/-- isinstance(e, c) -/
def rIsX (K : PySem.W.Frag) : List V → Hp → VK → Prop := fun xs H Q => ∃ (a C : Addr) (d : Option Addr) (c : V) (cv : Value) (b : Bool), xs = [.ref a, c] ∧ H a = some (exo a C d) ∧ XvD H d ∧ XvC K C ∧ ClsV c cv ∧ PySem.W.kitOne K (.ref C) cv = some b ∧ Q (.bl b) H
theorem call_isx : CallR X (.builtin "isinstance") (rIsX X.K) := by
  intro pins s σ H xs us Q I r h
  obtain ⟨a, C, d, c, cv, b, rfl, ea, hd, T, k, e, q⟩ := h
  obtain ⟨u1, u2, rfl, r1, r2⟩ := vals2 r
  have e2 := k.eq r2
  subst e2
  obtain rfl : u1 = Value.ref a := r1
  obtain ⟨oe, od, J⟩ := xv_inst I ea hd
  exact PySem.W.kia_one (PySem.W.kitx_exc T.ic T.ga T.gg T.oex.exC T.ca T.gs T.tk T.mo) I.kIn J e (fun z => nomatch z) fun tk => ⟨.bl b, H, I.tok tk, rfl, q⟩
end
end L2
set_option maxRecDepth 100000
namespace PySem
namespace XKw
open Builtin Builtin.ObjectAttr PySem.HandSPX
section
variable {M : Model} {A : Around} {E : Value → Shared → Prop} {hh : Heap} {gg : Array GenState} {dr : Drawn} {tt : Nat} {oss : OsState}
variable {nm q : Str} {C N : Addr} {bs bm bmB : List Value} {hdct : Bool} {sn : List Str} {sub : List Value} {ab : Bool} {col : Option Bool} {dd : Option Addr} {k0 k1 k2 k3 k5 : Option Value} {B nid iid : String}
theorem chk_new (FF : ExcBaseFacts B nid iid bmB) (hT : ∀ Y : String, bm.contains (.type Y) = bmB.contains (.type Y)) {us : List Value} {kw : List (Str × Value)} {Q : Unit → Shared → Prop}
    (hC : hh.get? C = some (excClassObj nm q C N bs bm hdct sn sub ab col dd k0 k1 k2 k3 k5 nid))
    (hq : Q () ⟨hh, gg, dr, tt, oss⟩) : wpAny M A (checkBuiltinCall nid ⟨.ref C :: us, kw⟩) Q E ⟨hh, gg, dr, tt, oss⟩ := by
  have hc : (Value.ref C :: bm).contains (.type B) = true := by rw [List.contains_cons, hT, FF.hasB]; exact Bool.or_true _
  have hs := FF.noStar
  simp only [checkBuiltinCall, FF.newKind, FF.newSplit, FF.newRow]
  repeat (first
    | refine wpAny_loadPart_at hC ?_
    | (refine wpAny_isSubtype_exc hC ?_; rw [hc])
    | refine wpAny_staticBase_exc hC ?_
    | refine wpAny_madeBy_exc hC ?_
    | simp only [bne_self_eq_false, Bool.false_eq_true, if_false]
    | wp_step)
  exact hq
end
section
variable {prog : Program} {w : World} {A : Around} {E : Value → Shared → Prop} {R : Result → Shared → Prop} {hh : Heap} {gg : Array GenState} {dr : Drawn} {tt : Nat} {oss : OsState}
variable {nm q : Str} {C N : Addr} {bs bm bmB : List Value} {hdct : Bool} {sn : List Str} {sub : List Value} {ab : Bool} {col : Option Bool} {dd : Option Addr} {k0 k1 k2 k3 k5 : Option Value} {B nid iid : String} {kw : List (Str × Value)}
theorem mk_new (FF : ExcBaseFacts B nid iid bmB) (hT : ∀ Y : String, bm.contains (.type Y) = bmB.contains (.type Y)) {us : List Value}
    (hC : hh.get? C = some (excClassObj nm q C N bs bm hdct sn sub ab col dd k0 k1 k2 k3 k5 nid))
    (hq : R (.ok (.ret (.ref (hh.objs.size + 1)))) ⟨(hh.push (W.kdv_tup us)).push (excO C hh.objs.size), gg, dr, tt, oss⟩) (hu : us.length ≤ sizeLine) :
    codeAny (model prog w) A (.builtin nid ⟨.ref C :: us, kw⟩) R ⟨hh, gg, dr, tt, oss⟩ := by
  have he := FF.ends
  have c1 : (Value.ref C :: bm).contains (.type B) = true := by rw [List.contains_cons, hT, FF.hasB]; exact Bool.or_true _
  have c2 : (Value.ref C :: bm).contains (.type "AttributeError") = false := by rw [List.contains_cons, hT, FF.noAttr]; exact Bool.or_false _
  have c3 : (Value.ref C :: bm).contains (.type "NameError") = false := by rw [List.contains_cons, hT, FF.noName]; exact Bool.or_false _
  refine codeAny_builtinAt FF.entry ?_
  unfold Builtin.«BaseException.__new__»
  refine wpAt_bind ?_
  show wpAt _ _ _ (PySem.stack >>= _) _ _ _
  refine wpAt_bind (wpAt_stack fun _ _ => wpAt_of_wpAny ?_)
  wp_walk
  refine wpAt_of_wpAny ?_
  rw [FF.owner]
  repeat (first
    | with_reducible refine wpAny_madeHere_exc FF.canon hC ?_
    | with_reducible refine wpAny_loadPart_at hC ?_
    | (with_reducible refine wpAny_isSubtype_exc hC ?_; first | rw [c1] | rw [c2] | rw [c3])
    | wp_step)
  show R _ _
  rw [Heap.size_push]
  exact hq
theorem mk_type (FF : ExcBaseFacts B nid iid bmB) (hT : ∀ Y : String, bm.contains (.type Y) = bmB.contains (.type Y)) {us : List Value} {fI : Addr} {Q : Fin → Shared → Prop}
    (hC : hh.get? C = some (excClassObj nm q C N bs bm hdct sn sub ab col dd k0 k1 k2 k3 k5 nid))
    (hi : W.Looks (model prog w) hh (typeLookup (.ref C) "__init__") (some (.ref fI)))
    (hb : ∀ y, W.Looks (model prog w) hh (bindSpecial (.ref fI) y) (.ref fI, [y])) (hu : us.length ≤ sizeLine)
    (hq : codeAny (model prog w) A (.call (.ref fI) ⟨.ref (hh.objs.size + 1) :: us, kw⟩)
      (fun r z => match r with
        | .ok (.ret v) => v = .none ∧ Q (.done (.ret (.ref (hh.objs.size + 1)))) z
        | .ok _ => False
        | .error e => E e z)
      ⟨(hh.push (W.kdv_tup us)).push (excO C hh.objs.size), gg, dr, tt, oss⟩) :
    wpAny (model prog w) A (Builtin.«type.__call__» ⟨.ref C :: us, kw⟩) Q E ⟨hh, gg, dr, tt, oss⟩ := by
  repeat (first
    | with_reducible refine wpAny_loadPart_at hC ?_
    | with_reducible refine wpAny_madeBy_exc hC ?_
    | wp_step)
  refine codeAny_call_builtin_code (Code.quiet_builtin _ FF.quiet) (chk_new FF hT hC ?_)
  refine mk_new FF hT hC ?_ hu
  show wpAny _ _ _ _ _ _
  have k : ∀ b o, hh.get? b = some o → ((hh.push (W.kdv_tup us)).push (excO C hh.objs.size)).get? b = some o :=
    fun _ _ e => Heap.get?_push_of_some _ (Heap.get?_push_of_some _ e)
  have hC1 := k _ _ hC
  have hg : ((hh.push (W.kdv_tup us)).push (excO C hh.objs.size)).get? (hh.objs.size + 1) = some (excO C hh.objs.size) := by
    heap_get
  have cC : (Value.ref C :: bm).contains (.ref C) = true := by simp
  have i1 := hi.keeps k
  have b1 := (hb (.ref (hh.objs.size + 1))).keeps k
  unfold isInstance
  repeat (first
    | with_reducible refine wpAny_loadPart_at hg ?_
    | (with_reducible refine wpAny_isSubtype_exc hC1 ?_; rw [cC])
    | wp_step)
  show wpAny _ _ (typeLookup (.ref C) _) _ _ _
  refine i1.at ?_
  refine wpAny_holding (wpAny_bind (b1.at ?_))
  refine wpAny_bind (wpAny_call (codeAny_mono hq fun r z y => ?_))
  cases r with
  | error e => exact y
  | ok fl =>
    cases fl with
    | ret v =>
      obtain ⟨rfl, y⟩ := y
      first
        | exact wpAny_pure (wpAny_pure y)
        | (wp_walk; done)
        | (wp_walk; exact y)
    | next => exact y.elim
    | brk => exact y.elim
    | cont => exact y.elim
theorem mk_call (FF : ExcBaseFacts B nid iid bmB) (hT : ∀ Y : String, bm.contains (.type Y) = bmB.contains (.type Y)) {us : List Value} {fI : Addr}
    (hC : hh.get? C = some (excClassObj nm q C N bs bm hdct sn sub ab col dd k0 k1 k2 k3 k5 nid))
    (hi : W.Looks (model prog w) hh (typeLookup (.ref C) "__init__") (some (.ref fI)))
    (hb : ∀ y, W.Looks (model prog w) hh (bindSpecial (.ref fI) y) (.ref fI, [y])) (hu : us.length ≤ sizeLine)
    (hq : codeAny (model prog w) (A.under (.builtin "type.__call__" ⟨.ref C :: us, kw⟩)) (.call (.ref fI) ⟨.ref (hh.objs.size + 1) :: us, kw⟩) (W.InitBack (hh.objs.size + 1) R)
      ⟨(hh.push (W.kdv_tup us)).push (excO C hh.objs.size), gg, dr, tt, oss⟩) :
    codeAny (model prog w) A (.call (.ref C) ⟨us, kw⟩) R ⟨hh, gg, dr, tt, oss⟩ := by
  have f1 := tc_lookup
  have f2 := tc_bind (.ref C)
  have hTy : (⟨hh, gg, dr, tt, oss⟩ : Shared).TypeIs (.ref C) "type" := ⟨_, hC, rfl⟩
  refine codeAny_of_tree ?_
  show wpAny _ _ (callAny (.ref C) _) _ _ _
  repeat (any_goals (first
    | assumption
    | with_reducible refine wpAny_loadPart_at hC ?_
    | wp_step))
  refine ⟨rfl, ?_⟩
  refine codeAny_call_builtin_at (Code.quiet_builtin _ (by decide +kernel)) entry_typeCall (wpAny_check_type_call_sub hC (mk_type FF hT hC hi hb hu ?_))
  refine codeAny_mono hq fun r z y => ?_
  rcases r with e | (v | _ | _ | _) <;> exact y
end
end XKw
end PySem
set_option maxRecDepth 100000
namespace L2
open PySem PySem.Spec PyProof.Rows
/-- a def's promise where nothing is being shown around it (repr asks that) -/
structure FnG (P : Program) (w : World) (K : PySem.W.Frag) (mg : Str → Option Value) (base : Heap) (CX : CXT) (k : Nat) (f : Addr) (fd : FuncData) (ps : List Str) (sp : Sp) : Prop where
  len : ∀ vs H Q E, sp vs H Q E → vs.length = ps.length
  run : ∀ (A : Around) (outer : List Env) (s : Shared) (H : Hp) (args : Args) (us : List Value) (vs : List V) (Q : VK) (E : XK), A.guards = some [] → Room k A →
    Env0 P w K mg base A outer s H → BindsTo s fd args (ps.zip us) → Vals vs us → sp vs H Q E →
    codeAny (model P w) A (.call (.ref f) args) (CR CX outer P w H s Q E) s
section
variable {P : Program} {w : World} {K : PySem.W.Frag} {mg : Str → Option Value} {base : Heap} {CX : CXT} {k : Nat} {f : Addr} {fd : FuncData} {ps : List Str} {sp : Sp}
theorem FnOk.g (F : FnOk P w K mg base CX k f fd ps sp) : FnG P w K mg base CX k f fd ps sp :=
  ⟨F.len, fun A o s H a us vs Q E _ => F.run A o s H a us vs Q E⟩
theorem FnG.mono {j : Nat} (F : FnG P w K mg base CX j f fd ps sp) (h : j ≤ k) : FnG P w K mg base CX k f fd ps sp :=
  ⟨F.len, fun A o s H a us vs Q E g r => F.run A o s H a us vs Q E g (r.mono h)⟩
end
/-- a def by its body -/
theorem Fun.okG {P : Program} {w : World} {K : PySem.W.Frag} {mg : Str → Option Value} {base : Heap} {x qual : Str} {st : Stmt} {f : Addr} {fd : FuncData} {N ps : List Str} {k : Nat} {sp : Sp}
    (F : Fun K x qual st f fd) (S : FnScope N ps (defScope st)) (len : ∀ vs H Q E, sp vs H Q E → vs.length = ps.length)
    (body : ∀ (cdv : Value) (A : Around) (outer : List Env) (s : Shared) (H : Hp) (vs : List V) (Q : VK) (E : XK), A.guards = some [] →
      Room k (A.deeper (envOfC qual (defScope st) s.heap.objs.size f cdv)) → sp vs H Q E →
      ∃ t, PSs (cxOf CX0 P w K mg base N qual (defScope st) f cdv A outer s H E).nox (defBody st) t ∧
        t { nx := fun _ H' => Q .non H', rt := Q } (start N vs) H) :
    FnG P w K mg base CX0 (k + 1) f fd ps sp := by
  obtain ⟨oc, od, kV, doc, pm, an, cdv, ct, osl, rfl, lk, hcd⟩ := F.ex
  refine ⟨len, fun A outer s H args us vs Q E hgd hr e0 hb r hsp => ?_⟩
  have hn := len _ _ _ _ hsp
  have bk : ∀ b o, base.get? b = some o → s.heap.get? b = some o := fun b o e => (e0.bs b o e).1
  have kin := e0.mod.kin.keeps bk
  have lim := e0.mod.nolimit.keeps bk
  have kinds : ∀ y ∈ ps.zip us, (defScope st).names.lookup y.1 = some .local ∨
      ((defScope st).names.lookup y.1 = some .cell ∧ ((cellsFrom (s.heap.objs.size + 1) (defScope st).names []).lookup y.1).isSome = true) := by
    rintro ⟨n, v⟩ hy
    cases S.par n (List.of_mem_zip hy).1 with
    | inl q => exact .inl q
    | inr q => exact .inr ⟨q, PySem.W.cellsFrom_some _ _ _ (.inl q)⟩
  refine codeAny_call_function hr.depth (kin _ _ lk) rfl S.co S.gen rfl (PySem.W.codeRec_of kin hcd) (hb _ _ _ _ ?_)
  refine wpAny_newFunctionEnv_cells S.kind kinds fun env he s1 x => ?_
  subst he
  refine ⟨lim.keeps x.toInCall.keep, codeAny_func ?_⟩
  obtain ⟨t, ht, hq⟩ := body cdv A outer s H vs Q E hgd (hr.deeper _) hsp
  have I := inv_start (CX := CX0) (P := P) (w := w) (K := K) (mg := mg) (base := base) (E := E) S hr.hd e0 hn r x
  refine wpAny_mono (ht.nox.run [] s1 (start N vs) H _ I hq) (fun fl s' hs => ?_) fun _ _ hs => hs
  cases fl with
  | brk =>
    obtain ⟨_, _, _, q⟩ := hs
    exact q.elim
  | cont =>
    obtain ⟨_, _, _, q⟩ := hs
    exact q.elim
  | next =>
    obtain ⟨σ', H', J, q⟩ := hs
    exact ⟨V.non, H', J.os, J.bare, J.base, J.hok, rfl, q⟩
  | ret u =>
    obtain ⟨v, σ', H', J, rv, q⟩ := hs
    exact ⟨v, H', J.os, J.bare, J.base, J.hok, rv, q⟩
section
variable {X : Cx} {CX : CXT} {k : Nat} {f : Addr} {fd : FuncData} {ps ks : List Str} {sp : Sp} {dvs : List V} {ds : List Value} {E : XK} {x : Str} {p pos : Pos} {e : Expr} {es : List Expr} {t : TA}
theorem run_g {pins : List (Addr × Obj)} {σ : St} {H : Hp} {s : Shared} {Q : VK} {us : List Value} {vs : List V} (F : FnG X.prog X.w X.K X.mg X.base CX k f fd ps sp) (gd : X.A.guards = some []) (hr : Room k X.A)
    (hb : Binds X.K fd ps ds) (hd : Vals dvs ds) (hx : Passes CX X E) (I : Inv X pins σ H s) (r : Vals vs us) (h : sp (vs ++ dvs) H Q E) :
    wpAny (model X.prog X.w) X.A (call (.ref f) us) (EP X pins σ Q) X.xe s := by
  have rr := Vals.append r hd
  have hl : (us ++ ds).length = ps.length := (rr.length.symm).trans (F.len _ _ _ _ h)
  refine wpAny_call (codeAny_mono (F.run X.A X.stack s H _ _ _ Q E gd hr I.env0 (hb s us I.kIn hl) rr h) fun r s' hq => ?_)
  cases r with
  | error er => exact hx pins σ H s er s' I hq
  | ok fl =>
    cases fl with
    | ret u => exact I.after hq
    | next => exact hq.elim
    | brk => exact hq.elim
    | cont => exact hq.elim
theorem pe_callG (F : FnG X.prog X.w X.K X.mg X.base CX k f fd ps sp) (gd : X.A.guards = some []) (hr : Room k X.A) (hg : Gl X x) (hm : X.mg x = some (.ref f)) (hk : PySem.W.keepIn X.K (.ref f) = true)
    (hb : Binds X.K fd ps ds) (hd : Vals dvs ds) (hx : Passes CX X E) (ha : PA X (e :: es) t) (hdb : (x == ("__debug__" : Str)) = false := by decide)
    (he : starEach (e :: es) X.env = (false, eval e X.env) :: starEach es X.env := by rfl) (hpl : (backTo pos (starEach es X.env)).any (·.1) = false := by rfl) :
    PE X (.Call (.Name x p) (e :: es) [] pos) (tCall sp dvs E t) := by
  refine ⟨fun pins s σ H Q I h => wpAny_Call_Name_kw (ld_glob I hg hm ?_ hdb)⟩
  refine PySem.W.callWith_K (h₀ := X.base) I.ok.mod.kin hk (thn (ha.run pos pins s σ H _ I h) fun us s1 hh => ?_) he hpl
  obtain ⟨vs, H1, I1, r, q⟩ := hh
  exact ⟨I1.kIn, run_g F gd hr hb hd hx I1 r q⟩
/-! repr -/
/-- x reads as d, in every state over H -/
def RdV (X : Cx) (H : Hp) (x : V) (d : PyData) : Prop := ∀ (pins : List (Addr × Obj)) (σ : St) (s : Shared) (u : Value), Inv X pins σ H s → RelV x u → ∃ as, Reads s.heap u d as ∧ (d.hasDict = true → sysModules ∉ as)
def rRepr (X : Cx) : List V → Hp → VK → Prop := fun xs H Q => ∃ (x : V) (d : PyData), xs = [x] ∧ RdV X H x d ∧ d.showable = true ∧ d.depth ≤ 20 ∧ d.shown.length ≤ sizeLine ∧ Q (.str d.shown) H
theorem call_reprG (gd : X.A.guards = some []) (hu : X.A.units + 64 < cLine) : CallR X (.builtin "repr") (rRepr X) := by
  intro pins s σ H xs us Q I r h
  obtain ⟨x, d, rfl, rd, sh, dp, sz, q⟩ := h
  obtain ⟨u, rfl, ru⟩ : ∃ u, us = [u] ∧ RelV x u := by
    cases r with
    | cons a b =>
      cases b
      exact ⟨_, rfl, a⟩
  obtain ⟨as, rr, hsm⟩ := rd pins σ s u I ru
  have fin : ∀ (h' : Heap) (t : Tok) (tk : Nat), (∀ b o, s.heap.get? b = some o → h'.get? b = some o) → EP X pins σ Q (.str d.shown t) { s with heap := h', toks := tk } :=
    fun h' t tk k => ⟨.str d.shown, H, I.kept (t' := tk) k, ⟨t, rfl⟩, q⟩
  cases rr with
  | none => exact PySem.P.repr_of_none (fin s.heap s.toks _ fun _ _ z => z)
  | bool b => exact PySem.P.repr_of_bool (fin s.heap s.toks _ fun _ _ z => z)
  | int i t =>
    have hb : i.natAbs.log2 < 1920 := by simpa [PyData.showable] using sh
    exact PySem.P.repr_of_int hb (fin s.heap s.toks _ fun _ _ z => z)
  | str y t => exact PySem.P.repr_of_str (fin s.heap s.toks _ fun _ _ z => z) sz
  | list h1 h2 h3 h4 => exact repr_of_reads' (.list h1 h2 h3 h4) sh hsm gd (by omega) (fun _ _ z => z) (fun h' u tk k => fin h' u tk k) sz
  | tuple h1 h2 h3 h4 => exact repr_of_reads' (.tuple h1 h2 h3 h4) sh hsm gd (by omega) (fun _ _ z => z) (fun h' u tk k => fin h' u tk k) sz
  | dict h1 h2 h3 h4 h5 => exact repr_of_reads' (.dict h1 h2 h3 h4 h5) sh hsm gd (by omega) (fun _ _ z => z) (fun h' u tk k => fin h' u tk k) sz
end
end L2
set_option maxRecDepth 100000
namespace L2
open PySem PySem.Spec PyProof.Rows
/-- the law's call, by a promise that holds where nothing is being shown -/
theorem end_core {P : Program} {w : World} {K : PySem.W.Frag} {mg mb : Str → Option Value} {k : Nat} {fa a : Addr} {fd : FuncData} {x : Str} {sp : Sp} {s₁ : Shared} {vs : List Value} {H : Hp}
    (KX : K.In s₁.heap) (hns : s₁.heap.Ns mainGlobals mg) (hb : s₁.heap.Ns builtinsNs mb) (hbb : ∀ y : Str, y ≠ "__name__" → mb y = bootBuiltins y)
    (lim : s₁.heap.NoLimit) (hg : s₁.gens = #[]) (ha : s₁.heap.get? a = some { cls := .type "list", data := .seq vs.toArray }) (hr : Room k callerA)
    (F : ∀ base : Heap, K.In base → base.Ns mainGlobals mg → FnG P w K mg base CX0 k fa fd [x] sp) (bind : ∀ (s : Shared) (u : Value), BindsTo s fd ⟨[u], []⟩ [(x, u)])
    (hO : Only H) (hok : HOk P w H s₁.heap) (hA : ∀ b, H b ≠ none → b = a) (hK : H a ≠ none → K.lookup a = none)
    (hsp : sp [.ref a] H (fun v _ => v = .bl true) fun _ _ _ => False) :
    codeAny (model P w) callerA (.call (.ref fa) ⟨[.ref a], []⟩) (fun r s' => r = .ok (.ret (.bool true)) ∧ OldK s₁.heap s'.heap ∧ s'.os = s₁.os ∧ AllBare s'.gens) s₁ := by
  have free : ∀ {b : Addr} {o : Obj} {es : Array DictEntry} {ep : Nat}, s₁.heap.get? b = some o → o.data = .dict es ep → H b = none := by
    intro b o es ep e d
    refine Classical.byContradiction fun n => ?_
    have eb := hA b n
    subst eb
    have eo := Option.some.inj (e.symm.trans ha)
    subst eo
    cases d
  have ns' : ∀ {b : Addr} {m : Str → Option Value}, s₁.heap.Ns b m → (hidT s₁.heap H).Ns b m := by
    rintro b m ⟨o, es, ep, e, d, r⟩
    exact ⟨o, es, ep, hidT_get e (free e d), d, r⟩
  have kb : K.In (hidT s₁.heap H) := by
    intro b o e
    refine hidT_get (KX b o e) (Classical.byContradiction fun n => ?_)
    have eb := hA b n
    subst eb
    rw [hK n] at e
    cases e
  have md : Mod K mg (hidT s₁.heap H) := by
    obtain ⟨mc, h1, h2⟩ := lim
    exact ⟨kb, ns' hns, ⟨mb, ns' hb, hbb⟩, ⟨mc, ns' h1, h2⟩⟩
  have ev : Env0 P w K mg (hidT s₁.heap H) callerA [] s₁ H :=
    ⟨rfl, md, fun b o e => of_hidT e, Nat.le_of_eq (hidT_size _ _), trivial, fun b hb => (nomatch hb), hok, .of_eq hg⟩
  refine codeAny_mono ((F _ kb (ns' hns)).run callerA [] s₁ H _ [.ref a] [.ref a] _ _ rfl hr ev (bind s₁ (.ref a)) (.cons rfl .nil) hsp) fun r s' h => ?_
  cases r with
  | error e => exact (h : False).elim
  | ok fl =>
    cases fl with
    | next => exact (h : False).elim
    | brk => exact (h : False).elim
    | cont => exact (h : False).elim
    | ret u =>
      obtain ⟨v, H', os, bare, un, hok', r', q⟩ := h
      have q' : v = .bl true := q
      subst q'
      obtain rfl : u = Value.bool true := r'
      refine ⟨rfl, OldK.of_keep fun b o e => ?_, os, bare⟩
      rcases hO b with z | ⟨ob, xs, z⟩
      · exact un.keep b o e z (fun m => nomatch m) (fun m => nomatch m)
      · have e1 := (hok b _ z).1
        have e2 := (hok' b _ (un.frzs b ob _ z)).1
        exact (Option.some.inj (e.symm.trans e1)) ▸ e2
theorem end_call {P : Program} {w : World} {K : PySem.W.Frag} {mg mb : Str → Option Value} {k : Nat} {fa a : Addr} {fd : FuncData} {x : Str} {sp : Sp} {s₁ : Shared} {vs : List Value} {ns : List Int}
    (KX : K.In s₁.heap) (hns : s₁.heap.Ns mainGlobals mg) (hb : s₁.heap.Ns builtinsNs mb) (hbb : ∀ y : Str, y ≠ "__name__" → mb y = bootBuiltins y)
    (lim : s₁.heap.NoLimit) (hg : s₁.gens = #[]) (ha : s₁.heap.get? a = some { cls := .type "list", data := .seq vs.toArray }) (hi : IntsAre vs ns) (hl : ns.length ≤ sizeLine) (hr : Room k callerA)
    (F : ∀ base : Heap, K.In base → base.Ns mainGlobals mg → FnG P w K mg base CX0 k fa fd [x] sp) (bind : ∀ (s : Shared) (u : Value), BindsTo s fd ⟨[u], []⟩ [(x, u)])
    (hsp : ∀ H : Hp, Only H → SqL K H a (ns.map V.int) → sp [.ref a] H (fun v _ => v = .bl true) fun _ _ _ => False) :
    codeAny (model P w) callerA (.call (.ref fa) ⟨[.ref a], []⟩) (fun r s' => r = .ok (.ret (.bool true)) ∧ OldK s₁.heap s'.heap ∧ s'.os = s₁.os ∧ AllBare s'.gens) s₁ := by
  have rv := vals_ints hi
  cases hk : K.lookup a with
  | some o =>
    have eo := Option.some.inj ((KX a o hk).symm.trans ha)
    subst eo
    refine end_core (H := fun _ => none) KX hns hb hbb lim hg ha hr F bind (fun _ => .inl rfl) (fun _ _ z => nomatch z) (fun _ z => (z rfl).elim) (fun z => (z rfl).elim) (hsp _ (fun _ => .inl rfl) ?_)
    exact .inr ⟨_, vs.toArray, _, hk, rfl, rfl, rfl, by rw [List.size_toArray, hi.length]; exact hl, by simpa using rv⟩
  | none =>
    have at_ : ∀ b, (if b = a then some (HO.frz { cls := .type "list", data := .seq vs.toArray } (.lst (ns.map V.int))) else none) ≠ none → b = a := by
      intro b n
      refine Classical.byContradiction fun z => n (if_neg z)
    have on : Only (fun b => if b = a then some (HO.frz { cls := .type "list", data := .seq vs.toArray } (.lst (ns.map V.int))) else none) := by
      intro b
      by_cases eb : b = a
      · exact .inr ⟨_, _, if_pos eb⟩
      · exact .inl (if_neg eb)
    refine end_core KX hns hb hbb lim hg ha hr F bind on (fun b u z => ?_) at_ (fun _ => hk) (hsp _ on (.inl (.inr ⟨_, if_pos rfl⟩)))
    have eb := at_ b (fun n => nomatch z.symm.trans n)
    subst eb
    have eu := Option.some.inj ((if_pos rfl).symm.trans z)
    subst eu
    exact ⟨ha, by rw [List.length_map]; exact hl, vs, _, rv, ha⟩
theorem walk_ofG {l : PySem.W.OpenLaw} {n k : Nat} {q : Program} {loose : List Str} {XP : (Str → Option Value) → Heap → Prop} {YP : World → Heap → Prop} {d : DefRec} {K : Params → PySem.W.Frag} {sp : World → Sp} {x : Str}
    (hn : l.most = some n) (hn2 : n ≤ sizeLine) (hdf : d.params.defaults = []) (hr : Room k callerA)
    (hY : ∀ (w : World) (h : Heap), YP w h → (K w.params).In h)
    (F : ∀ (w : World) (mg : Str → Option Value) (fa : Addr) (h : Heap), (K w.params).In h → h.Ns mainGlobals mg → mg d.name = some (.ref fa) →
      ∃ fd : FuncData, (∀ (s : Shared) (u : Value), BindsTo s fd ⟨[u], []⟩ [(x, u)]) ∧
        ∀ base : Heap, (K w.params).In base → base.Ns mainGlobals mg → FnG l.prog w (K w.params) mg base CX0 k fa fd [x] (sp w))
    (hsp : ∀ (w : World) (H : Hp) (a : Addr) (ns : List Int), ns.length ≤ n → (∀ z ∈ ns, Builtin.Int.intBits z ≤ 1048576) → Only H → SqL (K w.params) H a (ns.map V.int) →
      sp w [.ref a] H (fun v _ => v = .bl true) fun _ _ _ => False) :
    PySem.W.WalkO q loose XP YP l.row.toRowW d [] (fun f vs => PySem.call f vs) := by
  refine Att.attach_callB hn hdf fun w s₀ s₁ mg mb fa o pm cd doc a vs ns G Y ho hd hcd hmg hobj hints hlen hbits hg => ?_
  obtain ⟨fd, b, f⟩ := F w mg fa _ (hY w _ Y) G.T.g hmg
  exact end_call (hY w _ Y) G.T.g G.T.b G.T.builtins G.T.nolimit hg hobj hints (Nat.le_trans hlen hn2) hr f b fun H hO hS => hsp w H a ns hlen hbits hO hS
end L2
set_option maxRecDepth 100000
namespace L2
open PySem PySem.Spec PyProof.Rows
/-- an own exception class with an own __init__ -/
structure XvI (K : PySem.W.Frag) (C fI : Addr) : Prop where
  cls : XvC K C
  ini : PySem.W.findIn K (.ref C) "__init__" = some (some (.ref fI))
  ty : PySem.W.typeIn K (.ref fI) = some (.type "function")
theorem Vals.rev : ∀ {xs : List V} {us : List Value}, Vals xs us → Vals xs.reverse us.reverse
  | _, _, .nil => .nil
  | _, _, .cons r t => by
    rw [List.reverse_cons, List.reverse_cons]
    exact Vals.append (Vals.rev t) (.cons r .nil)
theorem Fun.kbn {K : PySem.W.Frag} {x qual : Str} {st : Stmt} {f : Addr} {fd : FuncData} {ps : List Str} (F : Fun K x qual st f fd) (n : Nat) (ks : List Str) (g : List Value → List Value → List Value) (gV : List V → List V → List V)
    (h : ∀ (kV doc pm : Value) (an : Option Addr) (cdv ct : Value) (us ws : List Value), us.length = n → ws.length = ks.length →
      bindArgs (PySem.W.fnOf x qual (defArgs st) (defBody st) (defScope st) .none kV doc pm an cdv ct) ⟨us, ks.zip ws⟩ = pure (ps.zip (g us ws)))
    (rel : ∀ {vs : List V} {us : List Value} {zs : List V} {ws : List Value}, Vals vs us → Vals zs ws → Vals (gV vs zs) (g us ws)) : KBn K fd ps n ks g gV := by
  obtain ⟨oc, od, kV, doc, pm, an, cdv, ct, osl, rfl, lk, hcd⟩ := F.ex
  exact ⟨fun s us ws _ l1 l2 => BindsTo.of_eq (h kV doc pm an cdv ct us ws l1 l2), rel⟩
section
variable {X : Cx} {k n : Nat} {fI C : Addr} {fd : FuncData} {ps ks : List Str} {sp : Sp} {x : Str} {p pos : Pos} {e : Expr} {es : List Expr} {kws : List Keyword} {t tk : TA} {g : List Value → List Value → List Value} {gV : List V → List V → List V}
theorem run_mkx {pins : List (Addr × Obj)} {σ : St} {H : Hp} {s : Shared} {Q : VK} {us ws : List Value} {vs zs : List V} (T : XvI X.K C fI) (F : FnOk X.prog X.w X.K X.mg X.base CX0 k fI fd ps sp) (hr : Room (k + 1) X.A)
    (hb : KBn X.K fd ps (n + 1) ks g gV) (hn : n ≤ 1000) (I : Inv X pins σ H s) (r : Vals vs us) (rz : Vals zs ws) (l1 : vs.length = n) (l2 : zs.length = ks.length)
    (h : ∀ a, H a = none → sp (gV (.ref a :: vs) zs) (upd H a (exo a C none)) (fun v H2 => v = .non ∧ Q (.ref a) H2) E0) :
    wpAny (model X.prog X.w) X.A (call (.ref C) us (ks.zip ws)) (EP X pins σ Q) X.xe s := by
  obtain ⟨nm, q, N, bs, bm, sn, sub, ab, col, dd, k0, k1, k2, k3, k5, hC, hbm⟩ := T.cls.oex.cls
  obtain ⟨hp, gn, dr, tt, oss⟩ := s
  have sz : hp.objs.size ≤ hp.objs.size + 1 := Nat.le_succ _
  have keep : ∀ b o, hp.get? b = some o → ((hp.push (PySem.W.kdv_tup us)).push (PySem.HandSPX.excO C hp.objs.size)).get? b = some o :=
    fun _ _ e => Heap.get?_push_of_some _ (Heap.get?_push_of_some _ e)
  have at_ : ((hp.push (PySem.W.kdv_tup us)).push (PySem.HandSPX.excO C hp.objs.size)).get? (hp.objs.size + 1) = some (PySem.HandSPX.excO C hp.objs.size) := by
    heap_get
  have I2 := I.laid (t' := tt) (a := hp.objs.size + 1) (o := exo (hp.objs.size + 1) C none) keep sz (exo_ok at_)
  have hq := h (hp.objs.size + 1) (I.hok.fresh sz)
  have rs : Vals (V.ref (hp.objs.size + 1) :: vs) (Value.ref (hp.objs.size + 1) :: us) := .cons rfl r
  have ln : (Value.ref (hp.objs.size + 1) :: us).length = n + 1 := by rw [List.length_cons, ← r.length, l1]
  have hus : us.length ≤ sizeLine := by
    rw [← r.length, l1, sizeLine_eq]
    omega
  refine wpAny_call (PySem.XKw.mk_call PySem.F.excBase_ValueError (fun Y => PySem.HandSPX.refsVE_contains Y bm hbm) (I.kIn _ _ hC) (PySem.W.looks_findIn I.kIn T.ini)
    (fun y => PySem.W.bind_fn I.kIn y T.ty) hus ?_)
  refine codeAny_mono (F.run _ X.stack _ _ _ _ _ _ _ (hr.make C us (ks.zip ws)) (I2.env0.make C us (ks.zip ws)) (hb.to _ _ ws I2.kIn ln (rz.length.symm.trans l2)) (hb.rel rs rz) hq) fun r s' hq' => ?_
  cases r with
  | error er => exact (hq' : False).elim
  | ok fl =>
    cases fl with
    | ret u =>
      obtain ⟨v, H3, I3, rv, ev, q3⟩ := I2.after hq'
      subst ev
      exact ⟨rv, V.ref (hp.objs.size + 1), H3, I3, rfl, q3⟩
    | next => exact (hq' : False).elim
    | brk => exact (hq' : False).elim
    | cont => exact (hq' : False).elim
/-- C(e, ..) -/
def tMkX (C : Addr) (n : Nat) (sp : Sp) (gV : List V → List V → List V) (t : TA) : TE := fun σ H Q => t σ H fun vs H1 => vs.length = n ∧ ∀ a, H1 a = none → sp (gV (.ref a :: vs) []) (upd H1 a (exo a C none)) (fun v H2 => v = .non ∧ Q (.ref a) H2) E0
theorem pe_mkx (T : XvI X.K C fI) (F : FnOk X.prog X.w X.K X.mg X.base CX0 k fI fd ps sp) (hr : Room (k + 1) X.A) (hb : KBn X.K fd ps (n + 1) [] g gV) (hg : Gl X x) (hm : X.mg x = some (.ref C)) (ha : PA X (e :: es) t)
    (hn : n ≤ 1000 := by decide) (hdb : (x == ("__debug__" : Str)) = false := by decide)
    (he : starEach (e :: es) X.env = (false, eval e X.env) :: starEach es X.env := by rfl) (hpl : (backTo pos (starEach es X.env)).any (·.1) = false := by rfl) :
    PE X (.Call (.Name x p) (e :: es) [] pos) (tMkX C n sp gV t) := by
  refine ⟨fun pins s σ H Q I h => wpAny_Call_Name_kw (ld_glob I hg hm ?_ hdb)⟩
  refine PySem.W.callWith_K (h₀ := X.base) I.ok.mod.kin T.cls.oex.kC (thn (ha.run pos pins s σ H _ I h) fun us s1 hh => ?_) he hpl
  obtain ⟨vs, H1, I1, r, l1, q⟩ := hh
  exact ⟨I1.kIn, run_mkx (ws := []) (zs := []) T F hr hb hn I1 r .nil l1 rfl q⟩
/-- C(k = v, ..) -/
def tMkXK (C : Addr) (m : Nat) (sp : Sp) (gV : List V → List V → List V) (tk : TA) : TE := fun σ H Q => tk σ H fun zs H1 => zs.length = m ∧ ∀ a, H1 a = none → sp (gV [.ref a] zs) (upd H1 a (exo a C none)) (fun v H2 => v = .non ∧ Q (.ref a) H2) E0
theorem pe_mkxK (T : XvI X.K C fI) (F : FnOk X.prog X.w X.K X.mg X.base CX0 k fI fd ps sp) (hr : Room (k + 1) X.A) (hb : KBn X.K fd ps 1 ks g gV) (hg : Gl X x) (hm : X.mg x = some (.ref C)) (hkw : PK X kws tk)
    (hall : (backToKw pos (keywordEach kws X.env)).all (·.1.isSome) = true := by rfl) (hks : (backToKw pos (keywordEach kws X.env)).filterMap (·.1) = ks := by rfl) (hdb : (x == ("__debug__" : Str)) = false := by decide)
    (hpl : ((backTo pos (starEach [] X.env)).any (·.1) || (backToKw pos (keywordEach kws X.env)).any (·.1.isNone)) = false := by rfl) :
    PE X (.Call (.Name x p) [] kws pos) (tMkXK C ks.length sp gV tk) := by
  refine ⟨fun pins s σ H Q I h => wpAny_Call_Name_kw (ld_glob I hg hm ?_ hdb)⟩
  refine PySem.W.callWith_KW0 (h₀ := X.base) I.ok.mod.kin T.cls.oex.kC hall ?_ hpl
  refine thn (hkw.run pos pins s σ H _ I h) fun ws s2 hh => ?_
  obtain ⟨zs, H2, I2, rz, l2, q2⟩ := hh
  refine ⟨I2.kIn, ?_⟩
  rw [hks]
  exact run_mkx (n := 0) (us := []) (vs := []) T F hr hb (Nat.zero_le _) I2 .nil rz rfl l2 q2
/-- C(), no __init__ of its own -/
theorem pe_mkx0 {bmB : List Value} {B newId initId : String} (FF : ExcBaseFacts B newId initId bmB) (q : PySem.W.excIn X.K C bmB newId = true) (kC : PySem.W.keepIn X.K (.ref C) = true) (hg : Gl X x) (hm : X.mg x = some (.ref C))
    (hdb : (x == ("__debug__" : Str)) = false := by decide) : PE X (.Call (.Name x p) [] [] pos) (fun _ H Q => ∀ a, H a = none → Q (.ref a) (upd H a (exo a C none))) := by
  refine ⟨fun pins s σ H Q I h => wpAny_Call_Name_kw (ld_glob I hg hm ?_ hdb)⟩
  refine PySem.W.callWith_K0 I.kIn kC ?_
  obtain ⟨bm, N, nm, qn, bs, hdct, sn, sub, ab, col, dd, k0, k1, k2, k3, k5, mN, hC, hN, hni, T⟩ := exc_obj I.kIn q
  refine wpAny_call_exc_subT FF T hC hN hni (fun h' a hm => ?_) (Nat.zero_le _)
  have hn : H a = none := I.hok.gone hm.new
  obtain ⟨t, ht, _⟩ := hm.there
  exact ⟨V.ref a, upd H a (exo a C none), I.laidN hm.keeps hm.new hn (exo_ok ht), rfl, h a hn⟩
end
end L2
set_option maxRecDepth 100000
namespace Toy
open PySem L2
def top (i : Nat) : Stmt := PySem.Challenge.pw_lanebanks_k25_kinds_of_rules_refused.main.body.getD i (.Pass ⟨0, 0, 0, 0⟩)
abbrev s__law_pen : Stmt := top 38
abbrev s__law_draw : Stmt := top 39
abbrev s__law_pick : Stmt := top 40
/-- the built-ins' names stand for themselves -/
structure TB (mg : Str → Option Value) : Prop where
  m_int : mg "int" = none
  m_abs : mg "abs" = none
  m_len : mg "len" = none
  m_list : mg "list" = none
/-- the pen at p: the cells ns at l, how many were drawn, what is left of a great one -/
structure PenAt (H : Hp) (p l : Addr) (ns : List Int) (at_ left : Int) : Prop where
  pen : H p = some (.lst [.ref l, .int at_, .int left])
  cells : H l = some (.lst (ns.map V.int))
  few : ns.length ≤ 63
  bits : ∀ z ∈ ns, Builtin.Int.intBits z ≤ 1048576
  low : 0 ≤ at_
theorem PenAt.ne {H : Hp} {p l : Addr} {ns : List Int} {a b : Int} (P : PenAt H p l ns a b) : l ≠ p := fun e => by
  have h1 := P.cells
  rw [e, P.pen] at h1
  cases ns with
  | nil => cases h1
  | cons z r => cases r with
    | nil => cases h1
    | cons y r => cases h1
theorem PenAt.put {H : Hp} {p l : Addr} {ns : List Int} {a b : Int} (P : PenAt H p l ns a b) (c d : Int) (h : 0 ≤ c) : PenAt (upd H p (.lst [.ref l, .int c, .int d])) p l ns c d :=
  ⟨upd_same, by rw [upd_ne P.ne]; exact P.cells, P.few, P.bits, h⟩
/-- all that was tracked but p is as it was -/
def But (p : Addr) (H H' : Hp) : Prop := ∀ b o, b ≠ p → H b = some o → H' b = some o
theorem But.refl (p : Addr) (H : Hp) : But p H H := fun _ _ _ h => h
theorem But.of {p : Addr} {H H' : Hp} (h : Same H H') : But p H H' := fun b o _ e => h b o e
theorem But.trans {p : Addr} {H H1 H2 : Hp} (a : But p H H1) (b : But p H1 H2) : But p H H2 := fun c o n h => b c o n (a c o n h)
theorem But.put {p : Addr} {H H1 : Hp} {o : HO} (a : But p H H1) : But p H (upd H1 p o) := fun c u n h => by
  rw [upd_ne n]
  exact a c u n h
theorem But.new {p q : Addr} {H H1 : Hp} {o : HO} (a : But p H H1) (hq : H1 q = none) : But p H (upd H1 q o) := fun c u n h => by
  rw [upd_ne (ne_of_none (a c u n h) hq)]
  exact a c u n h
theorem But.free {p q : Addr} {H H1 : Hp} (a : But p H H1) (hq : H1 q = none) (n : q ≠ p) : H q = none := by
  cases e : H q with
  | none => rfl
  | some o =>
    rw [a q o n e] at hq
    cases hq
theorem PenAt.new {H : Hp} {p l q : Addr} {ns : List Int} {a b : Int} {o : HO} (P : PenAt H p l ns a b) (hq : H q = none) : PenAt (upd H q o) p l ns a b :=
  ⟨by rw [upd_ne (ne_of_none P.pen hq)]; exact P.pen, by rw [upd_ne (ne_of_none P.cells hq)]; exact P.cells, P.few, P.bits, P.low⟩
theorem atI_of {α : Type} {xs : List α} {i : Int} {v : α} (h0 : 0 ≤ i) (h : xs[i.toNat]? = some v) : atI xs i = some v := by
  have e : i = ((i.toNat : Nat) : Int) := (Int.toNat_of_nonneg h0).symm
  rw [e]
  exact atI_nat h
theorem dp_ints {K : PySem.W.Frag} {H : Hp} : ∀ ns : List Int, DpAll K H (ns.map V.int) (ns.map PyData.int)
  | [] => .nil
  | z :: r => .cons (.int z) (dp_ints r)
theorem shaped_ints (ns : List Int) : SeqAt.shaped (.list (ns.map PyData.int)) = true := by
  have h : ∀ ns : List Int, PyData.canLayAll0 (ns.map PyData.int) = true ∧ PyData.depthAll (ns.map PyData.int) = 0 := by
    intro ns
    induction ns with
    | nil => exact ⟨rfl, rfl⟩
    | cons z r ih => exact ⟨by simp [PyData.canLayAll0, PyData.canLay0, ih.1], by simp [PyData.depthAll, PyData.depth, ih.2]⟩
  simp [SeqAt.shaped, PyData.canLay0, PyData.depth, h ns]
/-- _law_pen(script) -/
def spPen (K : PySem.W.Frag) : Sp := fun vs H Q _ => ∃ (a : Addr) (ns : List Int), vs = [.ref a] ∧ SqL K H a (ns.map V.int) ∧ ns.length ≤ 63 ∧ (∀ z ∈ ns, Builtin.Int.intBits z ≤ 1048576) ∧
  ∀ (H' : Hp) (p l : Addr), Same H H' → H p = none → PenAt H' p l ns 0 0 → Q (.ref p) H'
/-- _law_draw(pen, many): some digit below many; the pen goes on -/
def spDraw : Sp := fun vs H Q _ => ∃ (p l : Addr) (ns : List Int) (a b many : Int), vs = [.ref p, .int many] ∧ PenAt H p l ns a b ∧ a ≤ 1000000 ∧ 0 < many ∧ many.natAbs.log2 < 9000 ∧
  ∀ (H' : Hp) (d a' b' : Int), 0 ≤ d → d < many → a ≤ a' → a' ≤ a + 1 → But p H H' → PenAt H' p l ns a' b' → Q (.int d) H'
/-- _law_pick(pen, some): one of a list's items -/
def spPick (K : PySem.W.Frag) : Sp := fun vs H Q _ => ∃ (p l q : Addr) (ns : List Int) (a b : Int) (xs : List V), vs = [.ref p, .ref q] ∧ PenAt H p l ns a b ∧ a ≤ 1000000 ∧ SqL K H q xs ∧ q ≠ p ∧ 0 < xs.length ∧ xs.length ≤ 1000 ∧
  ∀ (H' : Hp) (i : Nat) (v : V) (a' b' : Int), xs[i]? = some v → a ≤ a' → a' ≤ a + 1 → But p H H' → PenAt H' p l ns a' b' → Q v H'
theorem sq_lt {a : Int} (h0 : 0 ≤ a) (h : a ≤ 1000000) : 0 ≤ a * a ∧ a * a ≤ 1000000000000 := by
  refine ⟨Int.mul_nonneg h0 h0, ?_⟩
  have := Int.mul_le_mul h h h0 (by decide)
  omega
theorem mul_lt_of {x y m n : Int} (h0 : 0 ≤ x) (h1 : x ≤ m) (h2 : 0 ≤ y) (h3 : y ≤ n) : 0 ≤ x * y ∧ x * y ≤ m * n :=
  ⟨Int.mul_nonneg h0 h2, Int.mul_le_mul h1 h3 h2 (Int.le_trans h0 h1)⟩
theorem mix_ok {x a c d : Int} (h0 : 0 ≤ x) (h1 : x < 2147483629) (a0 : 0 ≤ a) (a1 : a ≤ 1000000) (c0 : 0 ≤ c) (c1 : c ≤ 1000000) (d0 : 0 ≤ d) (d1 : d ≤ 1000000) :
    0 ≤ x * (2 * a + c) + d * a * a + 13 ∧ x * (2 * a + c) + d * a * a + 13 < 18446744073709551616 := by
  have h2 := mul_lt_of (m := 2147483629) (n := 3000000) h0 (by omega) (show 0 ≤ 2 * a + c by omega) (by omega)
  have h3 := mul_lt_of (m := 1000000) (n := 1000000000000) d0 d1 (sq_lt a0 a1).1 (sq_lt a0 a1).2
  rw [Int.mul_assoc d a a]
  omega
theorem natAbs_lt_of {x : Int} (h0 : 0 ≤ x) (h : x < 18446744073709551616) : x.natAbs < 2 ^ 64 := by
  have e : (2 : Nat) ^ 64 = 18446744073709551616 := by decide
  rw [e]
  omega
section
variable {P : Program} {w : World} {K : PySem.W.Frag} {mg : Str → Option Value} {base : Heap}
abbrev N__law_pen : List Str := ["_law_script"]
theorem sc__law_pen : FnScope N__law_pen ["_law_script"] (defScope s__law_pen) := ⟨rfl, rfl, rfl, by decide +kernel, rfl, by decide +kernel, by decide +kernel⟩
theorem ok__law_pen {f : Addr} {fd : FuncData} (F : Fun K "_law_pen" "_law_pen" s__law_pen f fd) (T : TB mg) : FnOk P w K mg base CX0 1 f fd ["_law_script"] (spPen K) := by
  refine F.ok sc__law_pen (fun vs H Q E h => ?_) (fun cdv A outer s H vs Q E hr h => ?_)
  · obtain ⟨a, ns, rfl, _⟩ := h
    rfl
  · obtain ⟨a, ns, rfl, hS, hl, hb, k⟩ := h
    refine ⟨_, (pss_one (ps_ret (pe_lst (pa_cons (pe_callTy call_list_of (by rfl) T.m_list (by decide +kernel) (pa_cons (pe_slice sl_list (pv 0) po_none (po_some pe_int)) pa_nil)) (pa_cons pe_int (pa_cons pe_int pa_nil)))))), ?_⟩
    refine ⟨_, rfl, _, rfl, _, _, rfl, hS, fun q hq => ?_⟩
    have e : cutV (ns.map V.int) none (some 63) = ns.map V.int := by
      show ((ns.map V.int).drop 0).take (HT.sIx _ _ _ - 0) = _
      have h2 : (ns.map V.int).length ≤ HT.sIx (ns.map V.int).length (ns.map V.int).length (some 63) - 0 := by
        rw [List.length_map]
        simp [HT.sIx]
        omega
      rw [List.drop_zero, List.take_of_length_le h2]
    refine ⟨q, _, rfl, .inl (SqL.of upd_same), fun l hl2 => ?_⟩
    have nlq : l ≠ q := fun e => by
      rw [e, upd_same] at hl2
      cases hl2
    refine ⟨(by show 3 ≤ sizeLine; decide), fun p hp => ?_⟩
    have npl : p ≠ l := fun e => by
      rw [e, upd_same] at hp
      cases hp
    rw [upd_ne npl] at hp
    have npq : p ≠ q := fun e => by
      rw [e, upd_same] at hp
      cases hp
    rw [upd_ne npq] at hp
    refine k _ p l (fun b o e2 => ?_) hp ⟨upd_same, ?_, hl, hb, Int.le_refl 0⟩
    · rw [upd_ne (ne_of_none e2 hp)]
      have hl3 := hl2
      rw [upd_ne nlq] at hl3
      rw [upd_ne (ne_of_none e2 hl3), upd_ne (ne_of_none e2 hq)]
      exact e2
    · rw [upd_ne npl.symm, upd_same, e]
abbrev N__law_draw : List Str := ["_law_pen_here", "_law_many", "_law_digit", "_law_at", "_law_cell", "_law_great", "_law_mixed"]
theorem sc__law_draw : FnScope N__law_draw ["_law_pen_here", "_law_many"] (defScope s__law_draw) := ⟨rfl, rfl, rfl, by decide +kernel, rfl, by decide +kernel, by decide +kernel⟩
set_option maxHeartbeats 4000000 in
theorem ok__law_draw {f : Addr} {fd : FuncData} (F : Fun K "_law_draw" "_law_draw" s__law_draw f fd) (T : TB mg) : FnOk P w K mg base CX0 1 f fd ["_law_pen_here", "_law_many"] spDraw := by
  refine F.ok sc__law_draw (fun vs H Q E h => ?_) (fun cdv A outer s H vs Q E hr h => ?_)
  · obtain ⟨p, l, ns, a, b, m, rfl, _⟩ := h
    rfl
  · obtain ⟨p, l, ns, a, b, m, rfl, hP, ha, hm, hml, k⟩ := h
    have hp := hP.pen
    have hc := hP.cells
    have h0 := hP.low
    refine ⟨_, (pss_cons (ps_if (pt_cmpR op_gt (pe_ix ix_list (pv 0) pe_int (fun _ _ => rfl)) pe_int (nomark _)) (pss_cons (ps_set (i := 2) sc__law_draw.nd rfl (Or.inl rfl) (pe_op op_mod (pe_callTy call_int1 (by rfl) T.m_int (by decide +kernel) (pa_cons (pe_ix ix_list (pv 0) pe_int (fun _ _ => rfl)) pa_nil)) (pv 1)))
 (pss_cons (ps_asg (pe_op op_fdivW (pe_callTy call_int1 (by rfl) T.m_int (by decide +kernel) (pa_cons (pe_ix ix_list (pv 0) pe_int (fun _ _ => rfl)) pa_nil)) (pv 1)) (pg_sub (pv 0) pe_int set_list))
 (pss_one (ps_ret (pv 2))))) pss_nil)
 (pss_cons (ps_set (i := 3) sc__law_draw.nd rfl (Or.inl rfl) (pe_ix ix_list (pv 0) pe_int (fun _ _ => rfl)))
 (pss_cons (ps_asg (pe_op op_add (pv 3) pe_int) (pg_sub (pv 0) pe_int set_list))
 (pss_cons (ps_set (i := 4) sc__law_draw.nd rfl (Or.inl rfl) (pe_op op_add (pe_op op_mul pe_int (pv 3)) pe_int))
 (C8.pss_cut (ps_if (pt_cmpR (op_neD hr.units) (pe_ix ix_list (pv 0) pe_int (fun _ _ => rfl)) (pe_lst pa_nil) (nomark _)) (pss_one (ps_set (i := 4) sc__law_draw.nd rfl (Or.inl rfl) (pe_ix ix_list (pe_ix ix_list (pv 0) pe_int (fun _ _ => rfl)) (pe_op op_mod (pe_callTy call_int1 (by rfl) T.m_int (by decide +kernel) (pa_cons (pv 3) pa_nil)) (pe_callB call_len_seq (by rfl) T.m_len (by decide +kernel) (pa_cons (pe_ix ix_list (pv 0) pe_int (fun _ _ => rfl)) pa_nil))) (fun _ _ => rfl)))) pss_nil)
 (C8.pss_cut (ps_if (PW.pt (pw_and (pt_cmpR op_lt (pv 3) (pe_callB call_len_seq (by rfl) T.m_len (by decide +kernel) (pa_cons (pe_ix ix_list (pv 0) pe_int (fun _ _ => rfl)) pa_nil)) (nomark _)) (pw_and1 (pt_cmpR op_ge (pe_callB call_abs (by rfl) T.m_abs (by decide +kernel) (pa_cons (pv 4) pa_nil)) (pe_op op_pow pe_int pe_int) (nomark _))))) (pss_cons (ps_set (i := 5) sc__law_draw.nd rfl (Or.inl rfl) (pe_op op_add (pe_op op_mul pe_int (pe_op op_sub (pe_callB call_abs (by rfl) T.m_abs (by decide +kernel) (pa_cons (pv 4) pa_nil)) (pe_op op_pow pe_int pe_int))) (pe_callTy call_int1 (by rfl) T.m_int (by decide +kernel) (pa_cons (pe_cmpR op_lt (pv 4) pe_int (nomark _)) pa_nil))))
 (pss_cons (ps_asg (pe_op op_fdivW (pe_callTy call_int1 (by rfl) T.m_int (by decide +kernel) (pa_cons (pv 5) pa_nil)) (pv 1)) (pg_sub (pv 0) pe_int set_list))
 (pss_one (ps_ret (pe_op op_mod (pe_callTy call_int1 (by rfl) T.m_int (by decide +kernel) (pa_cons (pv 5) pa_nil)) (pv 1)))))) pss_nil)
 (pss_cons (ps_set (i := 6) sc__law_draw.nd rfl (Or.inl rfl) (pe_op op_mod (pe_callTy call_int1 (by rfl) T.m_int (by decide +kernel) (pa_cons (pe_op op_pow (pe_op op_add (pe_op op_add (pe_op op_mod (pe_callTy call_int1 (by rfl) T.m_int (by decide +kernel) (pa_cons (pv 4) pa_nil)) pe_int) (pe_op op_mul pe_int (pv 3))) pe_int) pe_int) pa_nil)) pe_int))
 (pss_cons (ps_set (i := 6) sc__law_draw.nd rfl (Or.inl rfl) (pe_op op_mod (pe_callTy call_int1 (by rfl) T.m_int (by decide +kernel) (pa_cons (pe_op op_pow (pe_op op_add (pe_op op_add (pe_op op_mul (pv 6) (pe_op op_add (pe_op op_mul pe_int (pv 3)) pe_int)) (pe_op op_mul (pe_op op_mul pe_int (pv 3)) (pv 3))) pe_int) pe_int) pa_nil)) pe_int))
 (pss_one (ps_ret (pe_op op_mod (pe_callTy call_int1 (by rfl) T.m_int (by decide +kernel) (pa_cons (pe_op op_fdivW (pv 6) pe_int) pa_nil)) (pv 1)))))))))))), ?_⟩
    refine ⟨_, rfl, p, _, _, _, rfl, rfl, SqL.of hp, rfl, _, _, rfl, rfl, _, rfl, ?_⟩
    refine ite2 (fun c1 => ?_) (fun c1 => ?_)
    · -- a digit of what is left
      refine ⟨_, rfl, p, _, _, _, rfl, rfl, SqL.of hp, rfl, .inl ⟨_, rfl, _, rfl, _, _, rfl, rfl, hm, ?_⟩⟩
      refine ⟨_, rfl, p, _, _, _, rfl, rfl, SqL.of hp, rfl, .inl ⟨_, rfl, _, rfl, _, _, rfl, rfl, ⟨hm, hml⟩, ?_⟩⟩
      refine ⟨_, rfl, p, _, _, _, rfl, rfl, hp, rfl, ?_⟩
      refine ⟨_, rfl, ?_⟩
      exact k _ _ _ _ (Int.emod_nonneg _ (Int.ne_of_gt hm)) (Int.emod_lt_of_pos _ hm) (Int.le_refl _) (by omega) (But.refl _ _).put (hP.put _ _ h0)
    · refine ⟨_, rfl, p, _, _, _, rfl, rfl, SqL.of hp, rfl, ?_⟩
      refine ⟨_, rfl, _, _, rfl, rfl, _, rfl, p, _, _, _, rfl, rfl, hp, rfl, ?_⟩
      have hP1 : PenAt (upd H p (.lst [.ref l, .int (a + 1), .int b])) p l ns (a + 1) b := hP.put _ _ (by omega)
      have hB1 : But p H (upd H p (.lst [.ref l, .int (a + 1), .int b])) := (But.refl _ _).put
      refine ⟨_, rfl, _, _, rfl, rfl, .inl ⟨by omega, by omega⟩, _, _, rfl, rfl, ?_⟩
      refine ⟨fun σ H' => ∃ cell : Int, σ = [some (.ref p), some (.int m), none, some (.int a), some (.int cell), none, none] ∧ PenAt H' p l ns (a + 1) b ∧ But p H H', ?_, ?_⟩
      · refine ⟨_, rfl, p, _, _, _, rfl, rfl, SqL.of hP1.pen, rfl, Nat.zero_le _, fun q hq => ?_⟩
        have hP2 := hP1.new (o := .lst []) hq
        have hB2 := hB1.new (o := .lst []) hq
        refine ⟨.list (ns.map .int), .list [], .lst (SqL.of hP2.cells) (dp_ints ns), .lst (SqL.of upd_same) .nil, shaped_ints ns, rfl, _, rfl, ?_⟩
        refine ite2 (fun c2 => ?_) (fun c2 => ?_)
        · have hne : ns ≠ [] := by
            rintro rfl
            exact absurd c2 (by decide +kernel)
          have hpos : 0 < ns.length := List.length_pos_iff.mpr hne
          have hm1 := Int.emod_nonneg a (b := (ns.length : Int)) (by omega)
          have hm2 := Int.emod_lt_of_pos a (b := (ns.length : Int)) (by omega)
          have hi : (a % (ns.length : Int)).toNat < ns.length := by omega
          have hat : atI (ns.map V.int) (a % (ns.length : Int)) = some (.int ns[(a % (ns.length : Int)).toNat]) := atI_of hm1 (by
            rw [List.getElem?_map, List.getElem?_eq_getElem hi]
            rfl)
          refine ⟨_, rfl, p, _, _, _, rfl, rfl, SqL.of hP2.pen, rfl, ?_⟩
          refine ⟨_, rfl, .inl ⟨_, rfl, _, rfl, p, _, _, _, rfl, rfl, SqL.of hP2.pen, rfl, l, _, rfl, .inl (SqL.of hP2.cells), _, _, rfl, rfl, by rw [List.length_map]; omega, ?_⟩⟩
          refine ⟨l, _, _, _, rfl, rfl, SqL.of hP2.cells, by rw [List.length_map]; exact hat, ?_⟩
          exact ⟨_, rfl, hP2, hB2⟩
        · exact ⟨_, rfl, hP2, hB2⟩
      · rintro σ H' ⟨cell, rfl, hQ, hB⟩
        have hpw : CPow 10 18 := ⟨by decide, by decide, by decide⟩
        refine ⟨fun σ H3 => σ = [some (.ref p), some (.int m), none, some (.int a), some (.int cell), none, none] ∧ PenAt H3 p l ns (a + 1) b ∧ But p H H3, ?_, ?_⟩
        rotate_left
        · rintro σ H3 ⟨rfl, hR, hC⟩
          have b1 := Int.emod_nonneg cell (b := 2147483563) (by decide)
          have b2 := Int.emod_lt_of_pos cell (b := 2147483563) (by decide)
          refine ⟨_, rfl, .inl ⟨_, rfl, _, _, rfl, rfl, (by show (0 : Int) < 2147483563; decide), _, rfl, _, _, rfl, rfl, .inl ⟨by decide, by decide⟩, _, _, rfl, rfl, _, _, rfl, rfl, _, _, rfl, rfl, ⟨by decide, by decide, natAbs_lt_of (by omega) (by omega)⟩, ?_⟩⟩
          refine .inl ⟨_, rfl, _, _, rfl, rfl, (by show (0 : Int) < 2147483629; decide), ?_⟩
          have x1 := Int.emod_nonneg ((cell % 2147483563 + 79575 * a + 4875) ^ 5) (b := 2147483629) (by decide)
          have x2 := Int.emod_lt_of_pos ((cell % 2147483563 + 79575 * a + 4875) ^ 5) (b := 2147483629) (by decide)
          have mx := mix_ok (c := 391) (d := 54475) x1 x2 h0 ha (by decide) (by decide) (by decide) (by decide)
          refine ⟨_, rfl, _, rfl, _, _, rfl, rfl, .inl ⟨by decide, by decide⟩, _, _, rfl, rfl, _, _, rfl, rfl, .inl ⟨Int.lt_of_lt_of_le (by decide) x1, Int.lt_trans x2 (by decide)⟩, ?_⟩
          refine ⟨_, rfl, _, _, rfl, rfl, .inl ⟨by decide, by decide⟩, _, rfl, _, _, rfl, rfl, .inl ⟨by omega, by omega⟩, _, _, rfl, rfl, _, _, rfl, rfl, _, _, rfl, rfl, ⟨by decide, by decide, natAbs_lt_of mx.1 mx.2⟩, ?_⟩
          refine .inl ⟨_, rfl, _, _, rfl, rfl, (by show (0 : Int) < 2147483587; decide), ?_⟩
          refine ⟨_, rfl, _, _, rfl, rfl, ⟨by decide, by decide⟩, .inl ⟨_, rfl, _, rfl, _, _, rfl, rfl, hm, ?_⟩⟩
          exact k _ _ _ _ (Int.emod_nonneg _ (Int.ne_of_gt hm)) (Int.emod_lt_of_pos _ hm) (by omega) (Int.le_refl _) hC hR
        refine ⟨_, rfl, _, rfl, p, _, _, _, rfl, rfl, SqL.of hQ.pen, rfl, l, _, rfl, .inl (SqL.of hQ.cells), _, _, rfl, rfl, _, rfl, ?_⟩
        refine ite2 (fun c2 => ?_) (fun c2 => ?_)
        · refine ⟨_, rfl, _, rfl, _, _, rfl, rfl, hpw, _, _, rfl, rfl, _, rfl, ?_⟩
          refine ite2 (fun c3 => ?_) (fun c3 => ?_)
          · refine ⟨_, rfl, _, rfl, _, _, rfl, rfl, hpw, _, _, rfl, rfl, _, _, rfl, rfl, .inl ⟨by decide, by decide⟩, _, rfl, _, _, rfl, rfl, .inr ⟨_, rfl, _, _, rfl, rfl, ?_⟩⟩
            refine ⟨_, rfl, .inl ⟨_, rfl, _, rfl, _, _, rfl, rfl, ⟨hm, hml⟩, _, rfl, p, _, _, _, rfl, rfl, hQ.pen, rfl, ?_⟩⟩
            refine ⟨_, rfl, .inl ⟨_, rfl, _, rfl, _, _, rfl, rfl, hm, ?_⟩⟩
            exact k _ _ _ _ (Int.emod_nonneg _ (Int.ne_of_gt hm)) (Int.emod_lt_of_pos _ hm) (by omega) (Int.le_refl _) hB.put (hQ.put _ _ (by omega))
          · exact ⟨rfl, hQ, hB⟩
        · exact ⟨rfl, hQ, hB⟩
abbrev N__law_pick : List Str := ["_law_pen_here", "_law_some"]
theorem sc__law_pick : FnScope N__law_pick ["_law_pen_here", "_law_some"] (defScope s__law_pick) := ⟨rfl, rfl, rfl, by decide +kernel, rfl, by decide +kernel, by decide +kernel⟩
theorem ok__law_pick {f fD : Addr} {fd fdD : FuncData} (F : Fun K "_law_pick" "_law_pick" s__law_pick f fd) (T : TB mg) (FD : Fun K "_law_draw" "_law_draw" s__law_draw fD fdD) (gD : mg "_law_draw" = some (.ref fD)) (bD : Binds K fdD ["_law_pen_here", "_law_many"] []) :
    FnOk P w K mg base CX0 2 f fd ["_law_pen_here", "_law_some"] (spPick K) := by
  have GD : FnOk P w K mg base CX0 1 fD fdD ["_law_pen_here", "_law_many"] spDraw := ok__law_draw FD T
  have kD := FD.kp
  refine F.ok sc__law_pick (fun vs H Q E h => ?_) (fun cdv A outer s H vs Q E hr h => ?_)
  · obtain ⟨p, l, q, ns, a, b, xs, rfl, _⟩ := h
    rfl
  · obtain ⟨p, l, q, ns, a, b, xs, rfl, hP, ha, hq, nq, x0, x1, k⟩ := h
    refine ⟨_, (pss_one (ps_ret (pe_ix ix_list (pv 1) (pe_call GD hr rfl gD kD bD .nil pass0 (pa_cons (pv 0) (pa_cons (pe_callB call_len_seq (by rfl) T.m_len (by decide +kernel) (pa_cons (pv 1) pa_nil)) pa_nil))) (fun _ _ => rfl)))), ?_⟩
    refine ⟨_, rfl, _, rfl, _, rfl, q, _, rfl, .inl hq, p, l, ns, a, b, _, rfl, hP, ha, by omega, ?_, fun H' d a' b' d0 d1 e1 e2 hB hR => ?_⟩
    · have h2 : (xs.length : Int).natAbs < 2 ^ 10 := by
        have e : (2 : Nat) ^ 10 = 1024 := by decide
        rw [e]
        omega
      exact Nat.lt_of_lt_of_le (PySem.Flt.log2_lt_of (by decide) h2) (by decide)
    · have hi : d.toNat < xs.length := by omega
      refine ⟨q, xs, d, xs[d.toNat], rfl, rfl, ?_, atI_of d0 (List.getElem?_eq_getElem hi), k H' d.toNat _ a' b' (List.getElem?_eq_getElem hi) e1 e2 hB hR⟩
      rcases hq with (h | ⟨o, h⟩) | h
      · exact .inl (.inl (hB _ _ nq h))
      · exact .inl (.inr ⟨o, hB _ _ nq h⟩)
      · exact .inr h
end
end Toy
set_option maxRecDepth 100000
namespace L2
open PySem PySem.Spec PyProof.Rows
section
variable {X : Cx} {CX : CXT} {k n : Nat} {f : Addr} {fd : FuncData} {ps ks : List Str} {sp : Sp} {E : XK} {x : Str} {p pos : Pos} {kws : List Keyword} {tk : TA} {g : List Value → List Value → List Value} {gV : List V → List V → List V}
/-- f(k = v, ..) -/
def tCallK0 (m : Nat) (sp : Sp) (gV : List V → List V → List V) (E : XK) (tk : TA) : TE := fun σ H Q => tk σ H fun zs H1 => zs.length = m ∧ sp (gV [] zs) H1 Q E
theorem pe_callK0 (F : FnOk X.prog X.w X.K X.mg X.base CX k f fd ps sp) (hr : Room k X.A) (hg : Gl X x) (hm : X.mg x = some (.ref f)) (hk : PySem.W.keepIn X.K (.ref f) = true) (hb : KBn X.K fd ps 0 ks g gV) (hx : Passes CX X E) (hkw : PK X kws tk)
    (hall : (backToKw pos (keywordEach kws X.env)).all (·.1.isSome) = true := by rfl) (hks : (backToKw pos (keywordEach kws X.env)).filterMap (·.1) = ks := by rfl) (hdb : (x == ("__debug__" : Str)) = false := by decide)
    (hpl : ((backTo pos (starEach [] X.env)).any (·.1) || (backToKw pos (keywordEach kws X.env)).any (·.1.isNone)) = false := by rfl) :
    PE X (.Call (.Name x p) [] kws pos) (tCallK0 ks.length sp gV E tk) := by
  refine ⟨fun pins s σ H Q I h => wpAny_Call_Name_kw (ld_glob I hg hm ?_ hdb)⟩
  refine PySem.W.callWith_KW0 (h₀ := X.base) I.ok.mod.kin hk hall ?_ hpl
  refine thn (hkw.run pos pins s σ H _ I h) fun ws s2 hh => ?_
  obtain ⟨zs, H2, I2, rz, l2, q2⟩ := hh
  refine ⟨I2.kIn, ?_⟩
  rw [hks]
  exact run_fnN (n := 0) (us := []) (vs := []) F hr hb hx I2 .nil rz rfl l2 q2
end
/-- kinds of plain values -/
inductive Plain (K : PySem.W.Frag) (H : Hp) : V → String → Prop where
  | non : Plain K H .non "NoneType"
  | bl (b : Bool) : Plain K H (.bl b) "bool"
  | int (i : Int) : Plain K H (.int i) "int"
  | str (z : Str) : Plain K H (.str z) "str"
  | lst {a : Addr} {xs : List V} (e : H a = some (.lst xs)) : Plain K H (.ref a) "list"
  | tup {a : Addr} {xs : List V} (e : H a = some (.tup xs)) : Plain K H (.ref a) "tuple"
  | dK {a : Addr} {kvs : List (Key × V)} (e : H a = some (.dK kvs)) : Plain K H (.ref a) "dict"
theorem Plain.ty {K : PySem.W.Frag} {H : Hp} {x : V} {T : String} (h : Plain K H x T) : TyX K H x (.type T) := by
  cases h with
  | non => exact .base .non
  | bl b => exact .base (.bl b)
  | int i => exact .base (.int i)
  | str z => exact .base (.str z)
  | lst e => exact .base (.lst e)
  | tup e => exact .base (.tup e)
  | dK e => exact .base (.dK e)
def isI : V → Bool
  | .int _ => true
  | _ => false
def isB : V → Bool
  | .bl _ => true
  | _ => false
def isS : V → Bool
  | .str _ => true
  | _ => false
theorem Plain.kInt {K : PySem.W.Frag} {H : Hp} {x : V} {T : String} (h : Plain K H x T) : PySem.W.kitOne K (.type T) (.type "int") = some (isI x || isB x) := by
  cases h <;> first
    | exact kit_ty (show kitB _ _ = some true by decide +kernel)
    | exact kit_ty (show kitB _ _ = some false by decide +kernel)
theorem Plain.kBool {K : PySem.W.Frag} {H : Hp} {x : V} {T : String} (h : Plain K H x T) : PySem.W.kitOne K (.type T) (.type "bool") = some (isB x) := by
  cases h <;> first
    | exact kit_ty (show kitB _ _ = some true by decide +kernel)
    | exact kit_ty (show kitB _ _ = some false by decide +kernel)
theorem Plain.kStr {K : PySem.W.Frag} {H : Hp} {x : V} {T : String} (h : Plain K H x T) : PySem.W.kitOne K (.type T) (.type "str") = some (isS x) := by
  cases h <;> first
    | exact kit_ty (show kitB _ _ = some true by decide +kernel)
    | exact kit_ty (show kitB _ _ = some false by decide +kernel)
end L2
set_option maxRecDepth 100000
namespace L2
open PySem PySem.Spec PyProof.Rows
theorem PE.imp {X : Cx} {e : Expr} {t t' : TE} (h : PE X e t) (i : ∀ σ H Q, t' σ H Q → t σ H Q) : PE X e t' :=
  ⟨fun pins s σ H Q I q => h.run pins s σ H Q I (i σ H Q q)⟩
/-- an own exception's __init__ of n arguments that stores fields -/
def spX (C : Addr) (n : Nat) (fs : List V → List (Str × V)) : Sp := fun vs H Q _ => ∃ (a : Addr) (ys : List V), vs = .ref a :: ys ∧ ys.length = n ∧ H a = some (exo a C none) ∧
  ∀ (dx : Addr) (H' : Hp), H dx = none → dx ≠ a → H' a = some (exo a C (some dx)) → H' dx = some (exd dx (fs ys)) → (∀ b, b ≠ a → b ≠ dx → H' b = H b) → Q .non H'
/-- an exception of the class at C with these fields -/
def ErrAt (H : Hp) (a C : Addr) (fs : List (Str × V)) : Prop := ∃ d, H a = some (exo a C (some d)) ∧ H d = some (exd d fs)
theorem ErrAt.same {H H' : Hp} {a C : Addr} {fs : List (Str × V)} (s : Same H H') (h : ErrAt H a C fs) : ErrAt H' a C fs :=
  let ⟨d, h1, h2⟩ := h
  ⟨d, s _ _ h1, s _ _ h2⟩
theorem Same.new {H H' : Hp} {q : Addr} {o : HO} (s : Same H H') (hq : H' q = none) : Same H (upd H' q o) := fun b u e => by
  rw [upd_ne (ne_of_none (s b u e) hq)]
  exact s b u e
theorem spX_new {C : Addr} {n : Nat} {fs : List V → List (Str × V)} {H : Hp} {Q : VK} {a : Addr} {ys : List V} (ha : H a = none) (hn : ys.length = n)
    (h : ∀ H', Same H H' → ErrAt H' a C (fs ys) → Q (.ref a) H') : spX C n fs (.ref a :: ys) (upd H a (exo a C none)) (fun v H2 => v = .non ∧ Q (.ref a) H2) E0 := by
  refine ⟨a, ys, rfl, hn, upd_same, fun dx H' hd nd h1 h2 h3 => ⟨rfl, h H' (fun b o e => ?_) ⟨dx, h1, h2⟩⟩⟩
  have hd' : H dx = none := by
    rw [upd_ne nd] at hd
    exact hd
  rw [h3 b (ne_of_none e ha) (ne_of_none e hd'), upd_ne (ne_of_none e ha)]
  exact e
section
variable {X : Cx} {k n : Nat} {fI C : Addr} {fd : FuncData} {ps ks : List Str} {fs : List V → List (Str × V)} {x : Str} {p pos : Pos} {e : Expr} {es : List Expr} {kws : List Keyword} {t tk : TA} {g : List Value → List Value → List Value} {gV : List V → List V → List V}
/-- C(e, ..) where __init__ stores fields -/
def tNewX (C : Addr) (n : Nat) (fs : List V → List (Str × V)) (t : TA) : TE := fun σ H Q => t σ H fun vs H1 => vs.length = n ∧ ∀ a H', H1 a = none → Same H1 H' → ErrAt H' a C (fs vs) → Q (.ref a) H'
end
/-- the readings of argument lists go on with what follows -/
def Mono (t : TA) : Prop := ∀ σ H (Q Q' : List V → Hp → Prop), (∀ vs H', Q vs H' → Q' vs H') → t σ H Q → t σ H Q'
theorem mono_nil : Mono tNil := fun _ _ _ _ h q => h _ _ q
theorem mono_var {i : Nat} {t : TA} (h : Mono t) : Mono (tCons (tVar i) t) := fun σ H Q Q' i q => by
  obtain ⟨v, e, q⟩ := q
  exact ⟨v, e, h _ _ _ _ (fun vs H' z => i _ _ z) q⟩
section
variable {X : Cx} {k n : Nat} {fI C : Addr} {fd : FuncData} {ps ks : List Str} {fs : List V → List (Str × V)} {x : Str} {p pos : Pos} {e : Expr} {es : List Expr} {kws : List Keyword} {t tk : TA} {g : List Value → List Value → List Value} {gV : List V → List V → List V}
theorem pe_newX (T : XvI X.K C fI) (F : FnOk X.prog X.w X.K X.mg X.base CX0 k fI fd ps (spX C n fs)) (hr : Room (k + 1) X.A) (hb : KBn X.K fd ps (n + 1) [] g fun vs zs => vs ++ zs) (hg : Gl X x) (hm : X.mg x = some (.ref C)) (mo : Mono t) (ha : PA X (e :: es) t)
    (hn : n ≤ 1000 := by decide) (hdb : (x == ("__debug__" : Str)) = false := by decide)
    (he : starEach (e :: es) X.env = (false, eval e X.env) :: starEach es X.env := by rfl) (hpl : (backTo pos (starEach es X.env)).any (·.1) = false := by rfl) :
    PE X (.Call (.Name x p) (e :: es) [] pos) (tNewX C n fs t) := by
  refine (pe_mkx T F hr hb hg hm ha hn hdb he hpl).imp fun σ H Q q => mo _ _ _ _ (fun vs H1 z => ⟨z.1, fun a ha => ?_⟩) q
  show spX C n fs ((V.ref a :: vs) ++ []) _ _ _
  rw [List.append_nil]
  exact spX_new ha z.1 (z.2 a · ha)
/-- C(k = v, ..): the fields by all the values, in the parameters' order -/
def tNewXK (C : Addr) (m : Nat) (fs : List V → List (Str × V)) (tk : TA) : TE := fun σ H Q => tk σ H fun zs H1 => zs.length = m ∧ ∀ a H', H1 a = none → Same H1 H' → ErrAt H' a C (fs zs) → Q (.ref a) H'
theorem pe_newXK (T : XvI X.K C fI) (F : FnOk X.prog X.w X.K X.mg X.base CX0 k fI fd ps (spX C n fs)) (hr : Room (k + 1) X.A) (ord : List V → List V) (hb : KBn X.K fd ps 1 ks g fun vs zs => vs ++ ord zs) (ho : ∀ zs, (ord zs).length = zs.length) (hl : ks.length = n) (hg : Gl X x) (hm : X.mg x = some (.ref C)) (mo : Mono tk) (hkw : PK X kws tk)
    (hall : (backToKw pos (keywordEach kws X.env)).all (·.1.isSome) = true := by rfl) (hks : (backToKw pos (keywordEach kws X.env)).filterMap (·.1) = ks := by rfl) (hdb : (x == ("__debug__" : Str)) = false := by decide)
    (hpl : ((backTo pos (starEach [] X.env)).any (·.1) || (backToKw pos (keywordEach kws X.env)).any (·.1.isNone)) = false := by rfl) :
    PE X (.Call (.Name x p) [] kws pos) (tNewXK C ks.length (fun zs => fs (ord zs)) tk) := by
  refine (pe_mkxK T F hr hb hg hm hkw hall hks hdb hpl).imp fun σ H Q q => mo _ _ _ _ (fun zs H1 z => ⟨z.1, fun a ha => ?_⟩) q
  show spX C n fs (V.ref a :: ord zs) _ _ _
  exact spX_new ha ((ho zs).trans (z.1.trans hl)) (z.2 a · ha)
/-- e.f off an error -/
theorem xat_err {K : PySem.W.Frag} {f : Str} {H : Hp} {a C : Addr} {fs : List (Str × V)} {v : V} {Q : VK} (h : ErrAt H a C fs) (T : XvC K C) (no : PySem.W.findIn K (.ref C) f = some none) (l : fs.lookup f = some v) (q : Q v H) :
    ∃ (a' C' d : Addr) (fs' : List (Str × V)) (v' : V), V.ref a = .ref a' ∧ H a' = some (exo a' C' (some d)) ∧ H d = some (exd d fs') ∧ XvC K C' ∧ PySem.W.findIn K (.ref C') f = some none ∧ fs'.lookup f = some v' ∧ Q v' H :=
  let ⟨d, h1, h2⟩ := h
  ⟨a, C, d, fs, v, rfl, h1, h2, T, no, l, q⟩
/-- (C(e, ..), C(k = v, ..).f): the pair -/
def tRow (K : PySem.W.Frag) (C : Addr) (n m : Nat) (fs fs' : List V → List (Str × V)) (f : Str) (t tk : TA) : TE := fun σ H Q => ∃ (vs zs : List V) (v : V), (∀ H Q, Q vs H → t σ H Q) ∧ (∀ H Q, Q zs H → tk σ H Q) ∧ vs.length = n ∧ zs.length = m ∧
  XvC K C ∧ PySem.W.findIn K (.ref C) f = some none ∧ (fs' zs).lookup f = some v ∧ ∀ (p a : Addr) (H' : Hp), Same H H' → H p = none → H' p = some (.tup [.ref a, v]) → ErrAt H' a C (fs vs) → Q (.ref p) H'
theorem pe_row {m : Nat} {fs' : List V → List (Str × V)} {e1 e2 : Expr} {f : Str} {b : Nat} {p1 p2 : Pos} (h1 : PE X e1 (tNewX C n fs t)) (h2 : PE X e2 (tNewXK C m fs' tk)) (hb : attributeBase e2 f X.env (eval e2 X.env) = eval e2 X.env := by rfl)
    (hs : starEach [e1, .Attribute e2 f p1] X.env = (false, eval e1 X.env) :: starEach [.Attribute e2 f p1] X.env := by rfl) :
    PE X (.Tuple [e1, .Attribute e2 f p1] b p2) (tRow X.K C n m fs fs' f t tk) := by
  refine (pe_tup (pa_cons h1 (hs := hs) (pa_cons (pe_xat h2 hb) pa_nil))).imp fun σ H Q q => ?_
  obtain ⟨vs, zs, v, a1, a2, l1, l2, T, no, lk, q⟩ := q
  refine a1 _ _ ⟨l1, fun a Ha na sa ea => a2 _ _ ⟨l2, fun c Hc nc sc ec => ?_⟩⟩
  refine xat_err ec T no lk ⟨(by show 2 ≤ sizeLine; decide), fun p hp => ?_⟩
  have s2 : Same H Hc := sa.trans sc
  refine q p a _ (s2.new hp) (s2.free hp) upd_same ((ea.same sc).same ((Same.refl _).new hp))
end
end L2
set_option maxRecDepth 100000
namespace L2
open PySem PySem.Spec PyProof.Rows
/-! try: .. except X as n: suite, where the error outlives the suite by another name: it is tracked from then on -/
/-- at a: an error of the class cls that has been caught, its dict at d -/
def exz (a : Addr) (cls : Value) (d : Option Addr) : HO := .ext fun h => ∃ (oe : Obj) (vs : Array Value), h.get? a = some oe ∧ Zc cls d oe ∧ oe.data = .fields vs
theorem exz_ok {P : Program} {w : World} {H : Hp} {h : Heap} {a : Addr} {cls : Value} {d : Option Addr} {oe : Obj} {vs : Array Value} (e : h.get? a = some oe) (z : Zc cls d oe) (f : oe.data = .fields vs) : ObjOk P w H h a (exz a cls d) :=
  ⟨⟨oe, vs, e, z, f⟩, ⟨oe, e⟩, fun _ _ ⟨o, ws, e1, z1, f1⟩ k => ⟨o, ws, k _ e1, z1, f1⟩⟩
theorem exz_at {P : Program} {w : World} {H : Hp} {h : Heap} {a : Addr} {cls : Value} {d : Option Addr} (hok : HOk P w H h) (e : H a = some (exz a cls d)) : ∃ (oe : Obj) (vs : Array Value), h.get? a = some oe ∧ Zc cls d oe ∧ oe.data = .fields vs := by
  have x : ObjOk P w H h a (.ext fun h => ∃ (oe : Obj) (vs : Array Value), h.get? a = some oe ∧ Zc cls d oe ∧ oe.data = .fields vs) := hok a _ e
  exact x.1
theorem exz_ne_own {a x : Addr} {cls : Value} {d : Option Addr} : exz a cls d ≠ .own x := fun z => by
  have z2 : HO.ext _ = HO.own x := z
  cases z2
section
variable {X : Cx} {pins : List (Addr × Obj)} {σ : St} {H : Hp} {s : Shared}
/-- what was not tracked, is not of the entry and no cell, is tracked from now on -/
theorem Inv.track {a : Addr} {o : HO} (I : Inv X pins σ H s) (na : H a = none) (n0 : X.s_0.heap.get? a = none) (nl : a ≠ X.env.locals) (nc : ∀ x c, X.env.cells.lookup x = some c → c ≠ a) (np : ∀ p ∈ X.pn ++ pins, p.1 ≠ a)
    (new : ObjOk X.prog X.w (upd H a o) s.heap a o) : Inv X pins σ (upd H a o) s := by
  have old : ∀ {b : Addr} {u : Obj}, X.s_0.heap.get? b = some u → b ≠ a := fun {b u} e z => by
    rw [z, n0] at e
    cases e
  have tr : ∀ {b : Addr} {u : HO}, H b = some u → b ≠ a := fun e => ne_of_none e na
  refine ⟨I.ok, I.os, I.bare, ⟨I.base.keep, I.base.slot, fun b u e n x => ?_, I.base.there, fun b xs e => ?_, fun b u v e => ?_, fun b ps e => ?_⟩, I.loc, I.cell, ?_, fun x c e => ?_, fun p hp => ?_, fun b u e => ?_, I.len⟩
  · rw [upd_ne (old e)]
    exact I.base.free b u e n x
  · have q := I.base.tups b xs e
    rw [upd_ne (tr q)]
    exact q
  · have q := I.base.frzs b u v e
    rw [upd_ne (tr q)]
    exact q
  · obtain ⟨more, q⟩ := I.base.tbls b ps e
    exact ⟨more, by rw [upd_ne (tr q)]; exact q⟩
  · rw [upd_ne nl.symm]
    exact I.free
  · rw [upd_ne (nc x c e)]
    exact I.freeC x c e
  · obtain ⟨h1, h2, h3⟩ := I.pin p hp
    exact ⟨h1, by rw [upd_ne (np p hp)]; exact h2, h3⟩
  · by_cases hb : b = a
    · subst hb
      rw [upd_same] at e
      cases e
      exact new
    · rw [upd_ne hb] at e
      exact (I.hok b u e).stay (fun _ _ _ z => z) (fun _ z => by rw [upd_ne (tr z)]; exact z) fun _ _ z => by rw [upd_ne (tr z)]; exact z
/-- fewer pins -/
theorem Inv.unpin {q : Addr × Obj} (I : Inv X (q :: pins) σ H s) : Inv X pins σ H s :=
  ⟨I.ok, I.os, I.bare, I.base, I.loc, I.cell, I.free, I.freeC, fun p hp => I.pin p ((List.mem_append.mp hp).elim (fun z => List.mem_append_left _ z) fun z => List.mem_append_right _ (List.mem_cons_of_mem _ z)), I.hok, I.len⟩
/-- out of a suite, the error's object still pinned -/
theorem Inv.offSuite {a : Addr} {q : Addr × Obj} (I : Inv (X.suite a (q :: (X.pn ++ pins))) [] σ H s) (ok : X.Ok) : Inv X (q :: pins) σ H s := by
  refine ⟨ok, I.os, I.bare, I.base, I.loc, I.cell, I.free, I.freeC, fun p hp => I.pin p (List.mem_append_left _ ?_), I.hok, I.len⟩
  rcases List.mem_append.mp hp with z | z
  · exact List.mem_cons_of_mem _ (List.mem_append_left _ z)
  · rcases List.mem_cons.mp z with z | z
    · rw [z]
      exact List.mem_cons_self ..
    · exact List.mem_cons_of_mem _ (List.mem_append_right _ z)
end
/-- what the clause wishes: at the suite's end the error is tracked -/
def wKeep (K : PySem.W.Frag) (c : Value) (i m : Nat) (ts : Addr → Value → Option Addr → TS) (Wout : WX) (D : Ends) : WX := fun cls d σ H => ∃ b, PySem.W.exmOne K cls c = some b ∧
  (b = true → σ.length = m → ∀ a, H a = none → ts a cls d { nx := fun τ G => D.nx (τ.set i none) (upd G a (exz a cls d)), rt := fun _ _ => False, bk := fun _ _ => False, ct := fun _ _ => False } (σ.set i (some (.ref a))) H) ∧ (b = false → Wout cls d σ H)
section
variable {X : Cx} {x n : Str} {c : Value} {i : Nat} {body rest : List Stmt} {first : Stmt} {p1 p2 p3 : Pos} {tb : WX → TS} {ts : Addr → Value → Option Addr → TS} {Wout : WX}
theorem ps_try_keep (st : X.stack = X.env :: X.outer) (fr : X.env.frame = some X.env.locals) (nd : X.N.Nodup) (hi : X.N[i]? = some n) (kd : X.env.kindOf n = some .local) (nm : Names X x c) (tk : Takes X Wout) (nx : X.ex = [])
    (hb : ∀ (W : WX) (pn : List (Addr × Obj)) (xe : Value → Shared → Prop), Takes (X.tr pn xe) W → PassesOwn (model X.prog X.w) X.A X.env xe → PSs (X.tr pn xe) body (tb W))
    (hsu : ∀ (a : Addr) (oe : Obj) (cls : Value) (d : Option Addr) (pn : List (Addr × Obj)), Zc cls d oe → (∃ vs, oe.data = .fields vs) → PSs (X.suite a ((a, oe) :: pn)) (first :: rest) (ts a cls d)) :
    PS X (.Try body [.ExceptHandler (some (.Name x p1)) (some n) (first :: rest) p2] [] [] p3) (fun D σ H => tb (wKeep X.K c i X.N.length ts Wout D) D σ H) := by
  refine ⟨fun pins s σ H D I h => wpAny_Try_except ?_⟩
  have ok := I.ok
  have afr : X.A.frames = some (X.env :: X.outer) := by
    rw [ok.frames, st]
  let nxt : Value → Shared → Prop := fun e s₁ => wpAny (model X.prog X.w) X.A (noteFrame e X.env) (fun _ s₂ => wpAny (model X.prog X.w) X.A (setFlight e none)
    (fun _ s₃ => wpAny (model X.prog X.w) X.A (handleBy e X.env [.ExceptHandler (some (.Name x p1)) (some n) (first :: rest) p2]) (SP X pins D) X.xe s₃) X.xe s₂) X.xe s₁
  have caught : ∀ u s', XE (X.tr (X.pn ++ pins) nxt) (wKeep X.K c i X.N.length ts Wout D) u s' → nxt u s' := by
    rintro u s' ⟨a, B, sI, pinsI, σ1, H1, cls, d, rfl, J0, gb, us, sky, na, eo, ab, b, hm, yes, no⟩
    have J : Inv X pins σ1 H1 sI := J0.ofTry ok
    rw [show (X.tr (X.pn ++ pins) nxt).stack = X.env :: X.outer from st] at sky
    refine Sky.land Zc.steady afr fr sky fun hA flA uA => ?_
    have JA : Inv X pins σ1 H1 { s' with heap := hA } := J.landed gb flA.1 (us.trans uA) eo ab
    have off : ∀ {g : Heap} {o : Obj} {ws : Array Value}, g.FunFrames B (X.env :: X.outer) → g.get? a = some o → o.data = .fields ws → a ∉ frs (X.env :: X.outer) := by
      intro g o ws ff e dd z
      obtain ⟨_, o2, e2, k⟩ := ff.mem z
      rw [e] at e2
      cases e2
      exact k _ dd
    obtain ⟨o3, w3, a3, z3, d3⟩ := flA.there
    have nfr := off flA.2.2.1 a3 d3
    have nL : a ≠ X.env.locals := fun z => nfr (List.mem_filterMap.mpr ⟨X.env, List.mem_cons_self, by rw [fr, z]⟩)
    have nF : a ∉ X.fs := fun z => by
      obtain ⟨e, he, q⟩ := List.mem_filterMap.mp z
      exact nfr (List.mem_filterMap.mpr ⟨e, List.mem_cons_of_mem _ he, q⟩)
    have new : sI.heap.get? a = none := by
      cases q : sI.heap.get? a with
      | none => rfl
      | some o =>
        have z := gb a o q (by rw [show (X.tr (X.pn ++ pins) nxt).stack = X.env :: X.outer from st]; exact nfr)
        rw [flA.2.1] at z
        cases z
    have n0 : X.s_0.heap.get? a = none := by
      cases q : X.s_0.heap.get? a with
      | none => rfl
      | some o =>
        obtain ⟨o2, z⟩ := J.base.there a o q (by rw [nx]; simp)
        rw [new] at z
        cases z
    have np : ∀ p ∈ X.pn ++ pins, p.1 ≠ a := fun p hp z => by
      have q := (J.pin p hp).1
      rw [z, new] at q
      cases q
    have SA := JA.suite a3 d3 na nL nF
    have look : PySem.W.Looks (model X.prog X.w) hA (typeOf (.ref a)) cls := fun A Q E s k q => wpAny_typeOf_ref (k _ _ a3) (by rw [z3.1]; exact q)
    have which := PySem.W.exm_one (M := model X.prog X.w) JA.kIn look hm
    have name : ∀ {Q E : Value → Shared → Prop}, Q c { s' with heap := hA } → wpAny (model X.prog X.w) (X.A.mark (some (.ref a))) (eval (.Name x p1) X.env) Q E { s' with heap := hA } := by
      intro Q E q
      obtain ⟨g, db, g2⟩ := nm
      rcases g2 with g2 | ⟨g2, bv, nn⟩
      · exact ld_glob (X := X.suite a ((a, o3) :: (X.pn ++ pins))) SA g g2 q db
      · exact ld_blt (X := X.suite a ((a, o3) :: (X.pn ++ pins))) SA g g2 bv q nn db
    refine wpAny_handleBy_cons (codeAny_handlers_test (name (which.here ?_))) (by intro q; cases q)
    cases b with
    | true =>
      refine codeAny_handlers_suite_as (HandSPX.lands_againZ flA fun hB flB uB => ?_)
      have JB : Inv X pins σ1 H1 { s' with heap := hB } := J.landed gb flB.1 ((us.trans uA).trans uB) eo ab
      obtain ⟨o4, w4, a4, z4, d4⟩ := flB.there
      have SB := JB.suite a4 d4 na nL nF
      refine store_ok (X := X.suite a ((a, o4) :: (X.pn ++ pins))) (v := .ref a) SB nd hi (.inl kd) rfl (fun s5 S5 => ?_) (.inr kd)
      refine wpAny_mono ((hsu a o4 cls d (X.pn ++ pins) z4 ⟨_, d4⟩).run [] s5 _ H1 _ S5 (yes rfl J.len a na)) (fun f s6 sp => ?_) fun _ _ z => z.elim
      cases f with
      | next =>
        obtain ⟨σ6, H6, S6, q6⟩ := sp
        refine gone_ok (S6.offSuite ok) nd hi kd fun s7 J7 => ?_
        obtain ⟨at7, n7, _⟩ := J7.pin (a, o4) (List.mem_append_right _ (List.mem_cons_self ..))
        have cells : ∀ y c', X.env.cells.lookup y = some c' → c' ≠ a := fun y c' e z => by
          obtain ⟨v, o, ho, hd⟩ := J7.cell y c' e
          rw [z, at7] at ho
          cases ho
          rw [d4] at hd
          cases hd
        exact ⟨_, _, J7.unpin.track n7 n0 nL cells np (exz_ok at7 z4 d4), q6⟩
      | brk =>
        obtain ⟨_, _, _, q6⟩ := sp
        exact q6.elim
      | cont =>
        obtain ⟨_, _, _, q6⟩ := sp
        exact q6.elim
      | ret u =>
        obtain ⟨_, _, _, _, _, q6⟩ := sp
        exact q6.elim
    | false =>
      refine wpAny_handleBy_nil ?_
      obtain ⟨f1, f2, f3, oe, vs, T, oT, tr, e1, e2, e3, e4, e5⟩ := id flA
      have out : wpAny (model X.prog X.w) X.A (setFlight (.ref a) X.env.frame) (fun _ s4 => wpAny (model X.prog X.w) X.A (throw (.ref a) : Sem Flow) (SP X pins D) X.xe s4) X.xe { s' with heap := hA } := by
        rw [fr]
        refine HandSPX.setFlight_upZ flA fun hB up uB => wpAny_throw (tk _ _ ⟨a, B, sI, pins, σ1, H1, cls, d, rfl, J, gb, (us.trans uA).trans uB, .inr (.inr (by rw [st]; exact up)), na, eo, ab, no rfl⟩)
      unfold PySem.passOn
      refine wpAny_bind (wpAny_field e1 e3 e4 ?_)
      rw [if_neg (show ¬ (Value.ref T == Value.none) = true by simp)]
      first
        | exact wpAny_bind (wpAny_pure (wpAny_bind out))
        | exact wpAny_bind out
  refine wpAny_mono ((hb _ (X.pn ++ pins) nxt caught PassesOwn.looking).run [] s σ H D (I.toTry _) h) (fun f s1 sp => ?_) fun _ _ z => z
  cases f with
  | next =>
    obtain ⟨σ2, H2, J, q⟩ := sp
    exact wpAny_execs_nil ⟨σ2, H2, J.ofTry ok, q⟩
  | brk =>
    obtain ⟨σ2, H2, J, q⟩ := sp
    exact ⟨σ2, H2, J.ofTry ok, q⟩
  | cont =>
    obtain ⟨σ2, H2, J, q⟩ := sp
    exact ⟨σ2, H2, J.ofTry ok, q⟩
  | ret u =>
    obtain ⟨v, σ2, H2, J, r, q⟩ := sp
    exact ⟨v, σ2, H2, J.ofTry ok, r, q⟩
end
end L2
set_option maxRecDepth 100000
namespace L2
open PySem PySem.Spec PyProof.Rows
/-! a caught error by another name: its class asked, its fields read -/
/-- at a: a caught error of the class at C, with these fields -/
def Caught (H : Hp) (a C : Addr) (fs : List (Str × V)) : Prop := ∃ d, H a = some (exz a (.ref C) (some d)) ∧ H d = some (.xd fs)
theorem xd_at {P : Program} {w : World} {H : Hp} {h : Heap} {d : Addr} {fs : List (Str × V)} (hok : HOk P w H h) (e : H d = some (.xd fs)) : ∃ mA, h.Ns1 d mA ∧ ∀ f, RelO (fs.lookup f) (mA f) := by
  have x : ObjOk P w H h d (.xd fs) := hok d _ e
  exact x
theorem Caught.same {H H' : Hp} {a C : Addr} {fs : List (Str × V)} (s : Same H H') (h : Caught H a C fs) : Caught H' a C fs :=
  let ⟨d, h1, h2⟩ := h
  ⟨d, s _ _ h1, s _ _ h2⟩
section
variable {X : Cx} {pins : List (Addr × Obj)} {σ : St} {H : Hp} {s : Shared}
theorem caught_inst {a C : Addr} {fs : List (Str × V)} (I : Inv X pins σ H s) (h : Caught H a C fs) : ∃ (oe od : Obj) (mA : Str → Option Value), PySem.W.InstAt s.heap a oe C (some od) ∧ (∀ f, PySem.W.lookIn f od = some (mA f)) ∧ ∀ f, RelO (fs.lookup f) (mA f) := by
  obtain ⟨d, ea, ed⟩ := h
  obtain ⟨oe, vs, e1, z, e2⟩ := exz_at I.hok ea
  obtain ⟨mA, hns, hr⟩ := xd_at I.hok ed
  obtain ⟨od, hod, hl⟩ := lookIn_ns hns
  refine ⟨oe, od, mA, ⟨e1, z.1, ?_, ?_⟩, hl, hr⟩
  · unfold PySem.W.notCls
    rw [e2]
  · rw [z.2]
    exact hod
/-- isinstance(e, c) -/
def rIsZ (K : PySem.W.Frag) : List V → Hp → VK → Prop := fun xs H Q => ∃ (a C : Addr) (fs : List (Str × V)) (c : V) (cv : Value) (b : Bool), xs = [.ref a, c] ∧ Caught H a C fs ∧ XvC K C ∧ ClsV c cv ∧ PySem.W.kitOne K (.ref C) cv = some b ∧ Q (.bl b) H
theorem call_isz : CallR X (.builtin "isinstance") (rIsZ X.K) := by
  intro pins s σ H xs us Q I r h
  obtain ⟨a, C, fs, c, cv, b, rfl, ea, T, k, e, q⟩ := h
  obtain ⟨u1, u2, rfl, r1, r2⟩ := vals2 r
  have e2 := k.eq r2
  subst e2
  obtain rfl : u1 = Value.ref a := r1
  obtain ⟨oe, od, mA, J, _⟩ := caught_inst I ea
  exact PySem.W.kia_one (PySem.W.kitx_exc T.ic T.ga T.gg T.oex.exC T.ca T.gs T.tk T.mo) I.kIn J e (fun z => nomatch z) fun tk => ⟨.bl b, H, I.tok tk, rfl, q⟩
/-- e.f -/
def tZat (K : PySem.W.Frag) (te : TE) (f : Str) : TE := fun σ H Q => te σ H fun x H1 => ∃ (a C : Addr) (fs : List (Str × V)) (v : V), x = .ref a ∧ Caught H1 a C fs ∧ XvC K C ∧ PySem.W.findIn K (.ref C) f = some none ∧ fs.lookup f = some v ∧ Q v H1
theorem pe_zat {e : Expr} {te : TE} {f : Str} {pos : Pos} (he : PE X e te) (hb : attributeBase e f X.env (eval e X.env) = eval e X.env := by rfl) : PE X (.Attribute e f pos) (tZat X.K te f) := by
  refine ⟨fun pins s σ H Q I h => attr_of hb (thn (he.run pins s σ H _ I h) fun u s1 hh => ?_)⟩
  obtain ⟨x, H1, I1, rx, a, C, fs, v, ex, ea, T, no, l, q⟩ := hh
  subst ex
  obtain rfl : u = Value.ref a := rx
  obtain ⟨oe, od, mA, J, hl, hr⟩ := caught_inst I1 ea
  obtain ⟨u, hu, ru⟩ : ∃ u, mA f = some u ∧ RelV v u := RelO.some_of (v := v) (o := mA f) (by rw [← l]; exact hr f)
  exact HandSPX.exc_get I1.kIn J T.ga T.gg T.oex.exC (PySem.W.findObj_own T.dd no rfl (by rw [hl, hu])) (handed_of ru) ⟨v, H1, I1.tok _, ru, q⟩
end
end L2
set_option maxRecDepth 100000
set_option maxHeartbeats 4000000
namespace L2
open PySem PySem.Spec PyProof.Rows
/-! a tuple taken once: t * 1 is t itself -/
theorem tuple_mul_one (l : Addr) (its : Array Value) (n : Nat) (dd : Option Addr) (sl : Array (Option Value)) (u : Tok) :
    Meets (Builtin.«tuple.__mul__» ⟨[.ref l, .int 1 u], []⟩) (fun _ R s => s.heap.get? l = some { cls := .type "tuple", dict := dd, data := .seq its n, slots := sl } ∧ R (.ok (.ret (.ref l))) s) :=
  .of_wp fun prog w A R s h => by
    obtain ⟨hp, g, d, tk, os⟩ := s
    obtain ⟨hl, h⟩ := h
    have f1 := AutoSeq1.idx_int
    have c1 : (its.isEmpty || (1 : Int) == 1) = true := by simp
    wp_walk using wpAny_loadPart' hl
    repeat (first
      | (refine wpAny_ite_true (decide_eq_true c1) ?_; wp_walk using wpAny_loadPart' hl)
      | (refine wpAny_ite_false (decide_eq_false (by decide)) ?_; wp_walk using wpAny_loadPart' hl))
    exact ⟨_, rfl, h⟩
def rRep1 (K : PySem.W.Frag) : R2 := fun x y H Q => ∃ l xs, x = .ref l ∧ y = .int 1 ∧ SqT K H l xs ∧ Q (.ref l) H
theorem op_rep1 {X : Cx} : OpR X (binaryOp .Mult) (rRep1 X.K) := by
  intro pins s σ H x y v u Q I rx ry h
  obtain ⟨l, xs, rfl, rfl, hT, q⟩ := h
  cases rx
  obtain ⟨t, rfl⟩ := ry
  obtain ⟨its, r, ⟨⟨cls, dd, data, sl⟩, ho, hc, n, hd⟩, hs⟩ := I.tuple hT
  simp only at hc hd
  subst hc hd
  exact wpAny_binaryOp_repeat_ref (T := "tuple") (U := "int") (by decide) ⟨_, ho, rfl⟩ (fun s' => typeIs_int s' 1 t) noFill_tuple_mul F.fills_int_mul F.slot_int_rmul repeat_tuple F.slot_int_index.lookup
    (call_meets F.slot_int_rmul (typeIs_int s 1 t) F.entry_int_rmul (F.args_int_rmul_2 _ _) (int_rmul_tuple 1 t l its.toArray n dd sl)
      ⟨ho, rfl, ⟨_, ho, rfl⟩, call_meets F.slot_tuple_mul ⟨_, ho, rfl⟩ F.entry_tuple_mul (F.args_tuple_mul_2 _ _) (tuple_mul_one l its.toArray n dd sl t) ⟨ho, ⟨.ref l, H, I, rfl, q⟩⟩⟩)
/-- t * k -/
theorem op_repA {X : Cx} : OpR X (binaryOp .Mult) (fun x y H Q => rRep1 X.K x y H Q ∨ rRepT X.K x y H Q) := by
  intro pins s σ H x y v u Q I rx ry h
  rcases h with h | h
  · exact op_rep1 pins s σ H x y v u Q I rx ry h
  · exact op_repT pins s σ H x y v u Q I rx ry h
end L2
set_option maxRecDepth 100000
namespace L2
open PySem PySem.Spec PyProof.Rows
/-! a list or a tuple, walked -/
def Seq (K : PySem.W.Frag) (H : Hp) (a : Addr) (xs : List V) : Prop := SqL K H a xs ∨ SqT K H a xs
def iSeq (K : PySem.W.Frag) (tl : TE) : TI := fun σ H R => tl σ H fun x H1 => ∃ (a : Addr) (xs : List V), x = .ref a ∧ ((SqL K H1 a xs ∧ R (Itl K a) H1) ∨ (SqT K H1 a xs ∧ R (Itt K a) H1))
theorem pi_seq {X : Cx} {tg l : Expr} {tl : TE} (hl : PE X l tl) : PI X tg l (iSeq X.K tl) := by
  constructor
  intro pins s σ H R I h
  refine thn (hl.run pins s σ H _ I h) ?_
  rintro v s1 ⟨x, G, J, r, a, xs, rfl, q⟩
  obtain rfl : v = Value.ref a := r
  have fresh : ∀ b ∈ [s1.heap.objs.size], b = s1.heap.objs.size := fun b hb => List.mem_singleton.mp hb
  have nw := J.hok.fresh (Nat.le_refl s1.heap.objs.size)
  rcases q with ⟨hq, q⟩ | ⟨hq, q⟩
  · obtain ⟨_, _, p, _⟩ := J.list hq
    exact wpAny_pyIter_list p.isList ⟨_, [s1.heap.objs.size], _, _, G, rfl, J.kept (t' := s1.toks) (fun _ _ z => Heap.get?_push_of_some _ z), turn_list a _, ⟨_, Heap.get?_push_size _ rfl, rfl, rfl⟩, fun b hb => by rw [fresh b hb]; exact J.fpOk (Nat.le_refl _) nw, q⟩
  · obtain ⟨_, _, p, _⟩ := J.tuple hq
    exact wpAny_pyIter_tuple (show Heap.IsTuple s1.heap a _ from p) ⟨_, [s1.heap.objs.size], _, _, G, rfl, J.kept (t' := s1.toks) (fun _ _ z => Heap.get?_push_of_some _ z), turn_tuple a _, ⟨_, Heap.get?_push_size _ rfl, rfl, rfl⟩, fun b hb => by rw [fresh b hb]; exact J.fpOk (Nat.le_refl _) nw, q⟩
theorem Same.seqT {K : PySem.W.Frag} {H H' : Hp} {a : Addr} {xs : List V} (e : Same H H') (h : SqT K H a xs) : SqT K H' a xs := by
  rcases h with (z | ⟨o, z⟩) | z
  · exact .inl (.inl (e a _ z))
  · exact .inl (.inr ⟨o, e a _ z⟩)
  · exact .inr z
theorem Seq.same {K : PySem.W.Frag} {H H' : Hp} {a : Addr} {xs : List V} (s : Same H H') (h : Seq K H a xs) : Seq K H' a xs := h.elim (fun z => .inl (s.seq z)) fun z => .inr (s.seqT z)
end L2
set_option maxRecDepth 100000
namespace Toy
open PySem L2
abbrev s_is_integer : Stmt := top 3
abbrev s_is_within : Stmt := top 4
abbrev s_is_number : Stmt := top 5
abbrev s_banks_by : Stmt := top 9
abbrev s_are_moduli : Stmt := top 10
abbrev s_are_banks : Stmt := top 11
structure TR (mg : Str → Option Value) : Prop where
  m_isinstance : mg "isinstance" = none
  m_int : mg "int" = none
  m_bool : mg "bool" = none
  m_len : mg "len" = none
  m_all : mg "all" = none
  m_list : mg "list" = none
  m_tuple : mg "tuple" = none
  m_range : mg "range" = none
  g_MOST_MODULI : ∃ t, mg "MOST_MODULI" = some (.int 5 t)
  g_MOST_BANKS : ∃ t, mg "MOST_BANKS" = some (.int 32 t)
  g_MOST_PLACES : ∃ t, mg "MOST_PLACES" = some (.int 24 t)
def spIsInt (K : PySem.W.Frag) : Sp := fun vs H Q _ => ∃ (x : V) (S : String), vs = [x] ∧ Plain K H x S ∧ Q (.bl (isI x)) H
def numV : V → Bool
  | .int i => decide (0 ≤ i)
  | _ => false
def withinV (lo hi : Int) : V → Bool
  | .int i => decide (lo ≤ i ∧ i ≤ hi)
  | _ => false
def spNumber (K : PySem.W.Frag) : Sp := fun vs H Q _ => ∃ (x : V) (S : String), vs = [x] ∧ Plain K H x S ∧ Q (.bl (numV x)) H
def spWithin (K : PySem.W.Frag) : Sp := fun vs H Q _ => ∃ (x : V) (S : String) (lo hi : Int), vs = [x, .int lo, .int hi] ∧ Plain K H x S ∧ Q (.bl (withinV lo hi x)) H
/-- a list or a tuple -/
def SeqAt (H : Hp) (a : Addr) (xs : List V) : Prop := H a = some (.lst xs) ∨ H a = some (.tup xs)
theorem SeqAt.same {H H' : Hp} {a : Addr} {xs : List V} (s : Same H H') (h : SeqAt H a xs) : SeqAt H' a xs := h.elim (fun z => .inl (s _ _ z)) fun z => .inr (s _ _ z)
theorem plain_same {K : PySem.W.Frag} {H H' : Hp} {x : V} {S : String} (s : Same H H') (h : Plain K H x S) : Plain K H' x S := by
  cases h with
  | non => exact .non
  | bl b => exact .bl b
  | int i => exact .int i
  | str z => exact .str z
  | lst e => exact .lst (s _ _ e)
  | tup e => exact .tup (s _ _ e)
  | dK e => exact .dK (s _ _ e)
/-- what a caller may hand in: a list or tuple of plain values, or a plain value of another kind -/
inductive Arg (K : PySem.W.Frag) (H : Hp) : V → Option (List V) → Prop where
  | seq {a : Addr} {xs : List V} (e : SeqAt H a xs) (p : ∀ y ∈ xs, ∃ S, Plain K H y S) (l : xs.length ≤ 1000) : Arg K H (.ref a) (some xs)
  | other {x : V} {S : String} (p : Plain K H x S) (h : PySem.W.kitAny K (.type S) [.type "list", .type "tuple"] = some false) : Arg K H x none
theorem Arg.same {K : PySem.W.Frag} {H H' : Hp} {x : V} {o : Option (List V)} (s : Same H H') (h : Arg K H x o) : Arg K H' x o := by
  cases h with
  | seq e p l => exact .seq (e.same s) (fun y hy => let ⟨S, q⟩ := p y hy; ⟨S, plain_same s q⟩) l
  | other p h => exact .other (plain_same s p) h
theorem Arg.ty {K : PySem.W.Frag} {H : Hp} {x : V} {o : Option (List V)} (h : Arg K H x o) : ∃ t, TyX K H x t ∧ PySem.W.kitAny K t [.type "list", .type "tuple"] = some o.isSome := by
  cases h with
  | seq e p l =>
    rcases e with e | e
    · exact ⟨_, (Plain.lst (K := K) e).ty, rfl⟩
    · exact ⟨_, (Plain.tup (K := K) e).ty, rfl⟩
  | other p h => exact ⟨_, p.ty, h⟩
def intOf : V → Int
  | .int i => i
  | _ => 0
def prodV (xs : List V) : Int := xs.foldl (fun p x => p * intOf x) 1
def okMod : Option (List V) → Bool
  | none => false
  | some xs => decide (1 ≤ xs.length ∧ xs.length ≤ 5) && (xs.all (withinV 2 32) && decide (prodV xs ≤ 32))
def okBanks (n : Int) : Option (List V) → Bool
  | none => false
  | some xs => xs.all (withinV 0 (n - 1))
theorem within_int {lo hi : Int} {x : V} (h : withinV lo hi x = true) : ∃ i, x = .int i ∧ lo ≤ i ∧ i ≤ hi := by
  cases x with
  | int i => exact ⟨i, rfl, (of_decide_eq_true h).1, (of_decide_eq_true h).2⟩
  | _ => cases h
def spBanksBy (K : PySem.W.Frag) : Sp := fun vs H Q _ => ∃ (a : Addr) (xs : List V), vs = [.ref a] ∧ SeqAt H a xs ∧ xs.all (withinV 2 32) = true ∧ Q (.int (prodV xs)) H
def spAreModuli (K : PySem.W.Frag) : Sp := fun vs H Q _ => ∃ (x : V) (o : Option (List V)), vs = [x] ∧ Arg K H x o ∧ ∀ H', Same H H' → Q (.bl (okMod o)) H'
def spAreBanks (K : PySem.W.Frag) : Sp := fun vs H Q _ => ∃ (x : V) (n : Int) (o : Option (List V)), vs = [x, .int n] ∧ Arg K H x o ∧ ∀ H', Same H H' → Q (.bl (okBanks n o)) H'
section
variable {P : Program} {w : World} {K : PySem.W.Frag} {mg : Str → Option Value} {base : Heap}
theorem sc_is_integer : FnScope ["value"] ["value"] (defScope s_is_integer) := ⟨rfl, rfl, rfl, by decide +kernel, rfl, by decide +kernel, by decide +kernel⟩
theorem ok_is_integer {f : Addr} {fd : FuncData} (F : Fun K "is_integer" "is_integer" s_is_integer f fd) (T : TR mg) : FnOk P w K mg base CX0 1 f fd ["value"] (spIsInt K) := by
  refine F.ok sc_is_integer (fun vs H Q E h => ?_) (fun cdv A outer s H vs Q E hr h => ?_)
  · obtain ⟨x, S, rfl, _⟩ := h
    rfl
  · obtain ⟨x, S, rfl, hx, k⟩ := h
    refine ⟨_, (pss_one (ps_ret (pe_and (pe_callB call_isi (by rfl) T.m_isinstance (by decide +kernel) (pa_cons (pv 0) (pa_cons (pe_bltn (v := .ty "int") (u := .type "int") rfl T.m_int (by decide +kernel) rfl) pa_nil))) (pe_one (pe_not (pe_callB call_isi (by rfl) T.m_isinstance (by decide +kernel) (pa_cons (pv 0) (pa_cons (pe_bltn (v := .ty "bool") (u := .type "bool") rfl T.m_bool (by decide +kernel) rfl) pa_nil)))))))), ?_⟩
    refine ⟨_, rfl, _, _, _, _, _, rfl, .ty _, hx.ty, hx.kInt, _, rfl, ?_⟩
    cases hi : isI x with
    | true =>
      refine ⟨_, rfl, _, _, _, _, _, rfl, .ty _, hx.ty, hx.kBool, _, rfl, ?_⟩
      have hb : isB x = false := by
        cases x <;> first | rfl | (cases hi)
      rw [hb]
      rw [hi] at k
      exact k
    | false =>
      cases hb : isB x with
      | true =>
        refine ⟨_, rfl, _, _, _, _, _, rfl, .ty _, hx.ty, hx.kBool, _, rfl, ?_⟩
        rw [hb]
        rw [hi] at k
        exact k
      | false =>
        rw [hi] at k
        exact k
theorem sc_is_number : FnScope ["value"] ["value"] (defScope s_is_number) := ⟨rfl, rfl, rfl, by decide +kernel, rfl, by decide +kernel, by decide +kernel⟩
theorem ok_is_number {f fI : Addr} {fd fdI : FuncData} (F : Fun K "is_number" "is_number" s_is_number f fd) (T : TR mg) (FI : Fun K "is_integer" "is_integer" s_is_integer fI fdI) (gI : mg "is_integer" = some (.ref fI)) (bI : Binds K fdI ["value"] []) :
    FnOk P w K mg base CX0 2 f fd ["value"] (spNumber K) := by
  have GI : FnOk P w K mg base CX0 1 fI fdI ["value"] (spIsInt K) := ok_is_integer FI T
  have kI := FI.kp
  refine F.ok sc_is_number (fun vs H Q E h => ?_) (fun cdv A outer s H vs Q E hr h => ?_)
  · obtain ⟨x, S, rfl, _⟩ := h
    rfl
  · obtain ⟨x, S, rfl, hx, k⟩ := h
    refine ⟨_, (pss_one (ps_ret (pe_and (pe_call GI hr rfl gI kI bI .nil pass0 (pa_cons (pv 0) pa_nil)) (pe_one (pe_cmpR op_ge (pv 0) pe_int (nomark _)))))), ?_⟩
    refine ⟨_, rfl, _, _, rfl, hx, _, rfl, ?_⟩
    cases x with
    | int i => exact ⟨_, rfl, _, _, rfl, rfl, k⟩
    | _ => exact k
theorem sc_is_within : FnScope ["value", "least", "most"] ["value", "least", "most"] (defScope s_is_within) := ⟨rfl, rfl, rfl, by decide +kernel, rfl, by decide +kernel, by decide +kernel⟩
theorem ok_is_within {f fI : Addr} {fd fdI : FuncData} (F : Fun K "is_within" "is_within" s_is_within f fd) (T : TR mg) (FI : Fun K "is_integer" "is_integer" s_is_integer fI fdI) (gI : mg "is_integer" = some (.ref fI)) (bI : Binds K fdI ["value"] []) :
    FnOk P w K mg base CX0 2 f fd ["value", "least", "most"] (spWithin K) := by
  have GI : FnOk P w K mg base CX0 1 fI fdI ["value"] (spIsInt K) := ok_is_integer FI T
  have kI := FI.kp
  refine F.ok sc_is_within (fun vs H Q E h => ?_) (fun cdv A outer s H vs Q E hr h => ?_)
  · obtain ⟨x, S, lo, hi, rfl, _⟩ := h
    rfl
  · obtain ⟨x, S, lo, hi, rfl, hx, k⟩ := h
    refine ⟨_, (pss_one (ps_ret (pe_and (pe_call GI hr rfl gI kI bI .nil pass0 (pa_cons (pv 0) pa_nil)) (pe_one (pe_chain op_le op_le (pv 1) (pv 0) (pv 2)))))), ?_⟩
    refine ⟨_, rfl, _, _, rfl, hx, _, rfl, ?_⟩
    cases x with
    | int i =>
      refine ⟨_, rfl, _, rfl, _, _, rfl, rfl, _, rfl, ?_⟩
      refine ite2 (fun c1 => ?_) (fun c1 => ?_)
      · refine ⟨_, rfl, _, _, rfl, rfl, ?_⟩
        have e : decide (i ≤ hi) = withinV lo hi (.int i) := by
          have c2 := of_decide_eq_true c1
          simp [withinV, c2]
        show Q (V.bl (decide (i ≤ hi))) H
        rw [e]
        exact k
      · have e : withinV lo hi (.int i) = false := by
          have c2 : ¬ lo ≤ i := fun z => c1 (decide_eq_true z)
          simp [withinV, c2]
        rw [e] at k
        exact k
    | _ => exact k
theorem sc_banks_by : FnScope ["moduli", "banks", "modulus"] ["moduli"] (defScope s_banks_by) := ⟨rfl, rfl, rfl, by decide +kernel, rfl, by decide +kernel, by decide +kernel⟩
theorem ok_banks_by {f : Addr} {fd : FuncData} (F : Fun K "banks_by" "banks_by" s_banks_by f fd) : FnOk P w K mg base CX0 1 f fd ["moduli"] (spBanksBy K) := by
  refine F.ok sc_banks_by (fun vs H Q E h => ?_) (fun cdv A outer s H vs Q E hr h => ?_)
  · obtain ⟨a, xs, rfl, _⟩ := h
    rfl
  · obtain ⟨a, xs, rfl, he, hw, k⟩ := h
    refine ⟨_, (pss_cons (ps_set (i := 1) sc_banks_by.nd rfl (Or.inl rfl) pe_int)
 (pss_cons (ps_for PassesOwn.never rfl (pi_seq (pv 0)) (pg_name (i := 2) sc_banks_by.nd rfl (Or.inl rfl))
 (pss_one (ps_set (i := 1) sc_banks_by.nd rfl (Or.inl rfl) (pe_op op_mul (pv 1) (pv 2)))))
 (pss_one (ps_ret (pv 1))))), ?_⟩
    have turn : ∀ (i : Nat) (x : V) (u : Option V), xs[i]? = some x → ∃ n, x = .int n ∧ 2 ≤ n ∧ n ≤ 32 ∧ prodV (xs.take (i + 1)) = prodV (xs.take i) * n := by
      intro i x u hi
      obtain ⟨n, rfl, h1, h2⟩ := within_int (List.all_eq_true.mp hw x (List.mem_of_getElem? hi))
      refine ⟨n, rfl, h1, h2, ?_⟩
      rw [List.take_add_one, hi]
      simp [prodV, intOf]
    refine ⟨_, rfl, a, xs, rfl, ?_⟩
    rcases he with he | he
    · refine .inl ⟨SqL.of he, for_it walk_list (fun i σ G => G = H ∧ ∃ u, σ = [some (.ref a), some (.int (prodV (xs.take i))), u]) ⟨rfl, none, rfl⟩ (fun i σ G _ p => by rw [p.1]; exact SqL.of he) ?_ ?_⟩
      · rintro i x σ G G' hi ⟨rfl, u, rfl⟩ ⟨rfl, hx⟩
        obtain ⟨n, rfl, h1, h2, e⟩ := turn i x u hx
        refine ⟨_, rfl, _, rfl, _, _, rfl, rfl, .inr ⟨by omega, by omega⟩, rfl, some (.int n), ?_⟩
        rw [e]
        all_goals rfl
      · rintro σ G ⟨rfl, u, rfl⟩
        rw [List.take_length]
        exact ⟨_, rfl, k⟩
    · refine .inr ⟨SqT.of he, for_it walk_tup (fun i σ G => G = H ∧ ∃ u, σ = [some (.ref a), some (.int (prodV (xs.take i))), u]) ⟨rfl, none, rfl⟩ (fun i σ G _ p => by rw [p.1]; exact SqT.of he) ?_ ?_⟩
      · rintro i x σ G G' hi ⟨rfl, u, rfl⟩ ⟨rfl, hx⟩
        obtain ⟨n, rfl, h1, h2, e⟩ := turn i x u hx
        refine ⟨_, rfl, _, rfl, _, _, rfl, rfl, .inr ⟨by omega, by omega⟩, rfl, some (.int n), ?_⟩
        rw [e]
        all_goals rfl
      · rintro σ G ⟨rfl, u, rfl⟩
        rw [List.take_length]
        exact ⟨_, rfl, k⟩
end
end Toy
set_option maxRecDepth 100000
namespace Toy
open PySem L2
section
variable {P : Program} {w : World} {K : PySem.W.Frag} {mg : Str → Option Value} {base : Heap}
theorem cls2 : PySem.Paired ClsV [V.ty "list", V.ty "tuple"] [.type "list", .type "tuple"] := .cons (.ty _) (.cons (.ty _) .nil)
abbrev N_are_banks : List Str := ["value", "banks", "bank"]
theorem sc_are_banks : FnScope N_are_banks ["value", "banks"] (defScope s_are_banks) := ⟨rfl, rfl, rfl, by decide +kernel, rfl, by decide +kernel, by decide +kernel⟩
theorem ok_are_banks {f fI fW : Addr} {fd fdI fdW : FuncData} (F : Fun K "are_banks" "are_banks" s_are_banks f fd) (T : TR mg) (FI : Fun K "is_integer" "is_integer" s_is_integer fI fdI) (gI : mg "is_integer" = some (.ref fI)) (bI : Binds K fdI ["value"] [])
    (FW : Fun K "is_within" "is_within" s_is_within fW fdW) (gW : mg "is_within" = some (.ref fW)) (bW : Binds K fdW ["value", "least", "most"] []) : FnOk P w K mg base CX0 3 f fd ["value", "banks"] (spAreBanks K) := by
  have GW : FnOk P w K mg base CX0 2 fW fdW ["value", "least", "most"] (spWithin K) := ok_is_within FW T FI gI bI
  have kW := FW.kp
  refine F.ok sc_are_banks (fun vs H Q E h => ?_) (fun cdv A outer s H vs Q E hr h => ?_)
  · obtain ⟨x, n, o, rfl, _⟩ := h
    rfl
  · obtain ⟨x, n, o, rfl, ha, k⟩ := h
    refine ⟨_, (pss_one (ps_ret (pe_and (pe_callB call_isiT (by rfl) T.m_isinstance (by decide +kernel) (pa_cons (pv 0) (pa_cons (pe_tup (pa_cons (pe_bltn (v := .ty "list") (u := .type "list") rfl T.m_list (by decide +kernel) rfl) (pa_cons (pe_bltn (v := .ty "tuple") (u := .type "tuple") rfl T.m_tuple (by decide +kernel) rfl) pa_nil))) pa_nil))) (pe_one (pe_callB (cr_all rfl) (by rfl) T.m_all (by decide +kernel) (pa_cons (pe_lc (own := [("bank", 2)]) (g := (gName 2)) (tt := tYes) rfl sc_are_banks.nd (pi_seq (pv 0)) (blkOk_by (N := N_are_banks) (sc := defScope s_are_banks) (by decide +kernel)) (fun _ _ _ _ _ => (pg_name (i := 2) sc_are_banks.nd rfl (Or.inl rfl))) (fun _ _ _ _ _ => pts_nil) (fun _ _ _ _ _ => (pe_call GW hr rfl gW kW bW .nil pass0 (pa_cons (pv 2) (pa_cons pe_int (pa_cons (pe_op op_sub (pv 1) pe_int) pa_nil)))))) pa_nil)))))), ?_⟩
    refine ⟨_, rfl, (by show 2 ≤ sizeLine; decide), fun q hq => ?_⟩
    have s1 : Same H (upd H q (.tup [.ty "list", .ty "tuple"])) := (Same.refl H).new hq
    obtain ⟨t, ht, hk⟩ := (ha.same s1).ty
    refine ⟨_, q, _, t, _, _, rfl, upd_same, cls2, ht, hk, _, rfl, ?_⟩
    cases ha with
    | other p h => exact k _ s1
    | @seq a xs e p l =>
      have e1 := e.same s1
      have szl : ∀ i : Nat, i < xs.length → i < sizeLine := fun i hi => Nat.lt_of_lt_of_le hi (Nat.le_of_lt (small1000 (by omega)))
      have fin : ∀ (D : Addr) (G : Hp), upd H q (.tup [.ty "list", .ty "tuple"]) D = none → G = upd (upd H q (.tup [.ty "list", .ty "tuple"])) D (.lst (((xs.take xs.length).map (withinV 0 (n - 1))).map V.bl)) →
          ∃ (b : Addr) (bs : List Bool), [V.ref D] = [V.ref b] ∧ SqL K G b (bs.map V.bl) ∧ Q (.bl (bs.all id)) G := by
        rintro D G hD rfl
        refine ⟨D, _, rfl, SqL.of upd_same, ?_⟩
        rw [List.take_length, List.all_map]
        exact k _ (s1.new hD)
      refine ⟨_, rfl, a, xs, rfl, ?_⟩
      rcases e1 with e1 | e1
      · refine .inl ⟨SqL.of e1, fun D hD => lc_it walk_list (fun i G => G = upd (upd H q (.tup [.ty "list", .ty "tuple"])) D (.lst (((xs.take i).map (withinV 0 (n - 1))).map V.bl))) rfl (fun i G _ z => by rw [z, ]; exact SqL.of (by rw [upd_ne (ne_of_none e1 hD)]; exact e1)) ?_ (fun G z => fin D G hD z)⟩
        rintro i x G G' hi rfl ⟨rfl, hx⟩
        obtain ⟨S, hS⟩ := p x (List.mem_of_getElem? hx)
        refine ⟨rfl, _, rfl, _, rfl, _, _, rfl, rfl, x, S, 0, n - 1, rfl, plain_same (s1.new hD) hS, _, upd_same, by rw [List.length_map, List.length_map, List.length_take]; exact szl _ (by omega), ?_⟩
        rw [upd_upd, List.take_add_one, hx]
        simp
      · refine .inr ⟨SqT.of e1, fun D hD => lc_it walk_tup (fun i G => G = upd (upd H q (.tup [.ty "list", .ty "tuple"])) D (.lst (((xs.take i).map (withinV 0 (n - 1))).map V.bl))) rfl (fun i G _ z => by rw [z, ]; exact SqT.of (by rw [upd_ne (ne_of_none e1 hD)]; exact e1)) ?_ (fun G z => fin D G hD z)⟩
        rintro i x G G' hi rfl ⟨rfl, hx⟩
        obtain ⟨S, hS⟩ := p x (List.mem_of_getElem? hx)
        refine ⟨rfl, _, rfl, _, rfl, _, _, rfl, rfl, x, S, 0, n - 1, rfl, plain_same (s1.new hD) hS, _, upd_same, by rw [List.length_map, List.length_map, List.length_take]; exact szl _ (by omega), ?_⟩
        rw [upd_upd, List.take_add_one, hx]
        simp
abbrev N_are_moduli : List Str := ["value", "modulus"]
theorem sc_are_moduli : FnScope N_are_moduli ["value"] (defScope s_are_moduli) := ⟨rfl, rfl, rfl, by decide +kernel, rfl, by decide +kernel, by decide +kernel⟩
theorem ok_are_moduli {f fI fW fB : Addr} {fd fdI fdW fdB : FuncData} (F : Fun K "are_moduli" "are_moduli" s_are_moduli f fd) (T : TR mg) (FI : Fun K "is_integer" "is_integer" s_is_integer fI fdI) (gI : mg "is_integer" = some (.ref fI)) (bI : Binds K fdI ["value"] [])
    (FW : Fun K "is_within" "is_within" s_is_within fW fdW) (gW : mg "is_within" = some (.ref fW)) (bW : Binds K fdW ["value", "least", "most"] []) (FB : Fun K "banks_by" "banks_by" s_banks_by fB fdB) (gB : mg "banks_by" = some (.ref fB)) (bB : Binds K fdB ["moduli"] []) :
    FnOk P w K mg base CX0 3 f fd ["value"] (spAreModuli K) := by
  have GW : FnOk P w K mg base CX0 2 fW fdW ["value", "least", "most"] (spWithin K) := ok_is_within FW T FI gI bI
  have GB : FnOk P w K mg base CX0 1 fB fdB ["moduli"] (spBanksBy K) := ok_banks_by FB
  have kW := FW.kp
  have kB := FB.kp
  refine F.ok sc_are_moduli (fun vs H Q E h => ?_) (fun cdv A outer s H vs Q E hr h => ?_)
  · obtain ⟨x, o, rfl, _⟩ := h
    rfl
  · obtain ⟨x, o, rfl, ha, k⟩ := h
    have hrB : Room 1 _ := hr.mono (by decide)
    refine ⟨_, (pss_cons (ps_if (PW.pt (pw_or (pt_not (pt_val (pe_callB call_isiT (by rfl) T.m_isinstance (by decide +kernel) (pa_cons (pv 0) (pa_cons (pe_tup (pa_cons (pe_bltn (v := .ty "list") (u := .type "list") rfl T.m_list (by decide +kernel) rfl) (pa_cons (pe_bltn (v := .ty "tuple") (u := .type "tuple") rfl T.m_tuple (by decide +kernel) rfl) pa_nil))) pa_nil))))) (pw_or1 (pt_not (pt_chain op_le op_le pe_int (pe_callB call_len_seq (by rfl) T.m_len (by decide +kernel) (pa_cons (pv 0) pa_nil)) (pe_glob (v := .int 5) rfl T.g_MOST_MODULI.choose_spec ⟨_, rfl⟩)))))) (pss_one (ps_ret pe_bl)) pss_nil)
 (pss_one (ps_ret (pe_and (pe_callB (cr_all rfl) (by rfl) T.m_all (by decide +kernel) (pa_cons (pe_lc (own := [("modulus", 1)]) (g := (gName 1)) (tt := tYes) rfl sc_are_moduli.nd (pi_seq (pv 0)) (blkOk_by (N := N_are_moduli) (sc := defScope s_are_moduli) (by decide +kernel)) (fun _ _ _ _ _ => (pg_name (i := 1) sc_are_moduli.nd rfl (Or.inl rfl))) (fun _ _ _ _ _ => pts_nil) (fun _ _ _ _ _ => (pe_call GW hr rfl gW kW bW .nil pass0 (pa_cons (pv 1) (pa_cons pe_int (pa_cons (pe_glob (v := .int 32) rfl T.g_MOST_BANKS.choose_spec ⟨_, rfl⟩) pa_nil)))))) pa_nil)) (pe_one (pe_cmpR op_le (pe_call GB hrB rfl gB kB bB .nil pass0 (pa_cons (pv 0) pa_nil)) (pe_glob (v := .int 32) rfl T.g_MOST_BANKS.choose_spec ⟨_, rfl⟩) (nomark _))))))), ?_⟩
    refine ⟨_, rfl, (by show 2 ≤ sizeLine; decide), fun q hq => ?_⟩
    have s1 : Same H (upd H q (.tup [.ty "list", .ty "tuple"])) := (Same.refl H).new hq
    obtain ⟨t, ht, hk⟩ := (ha.same s1).ty
    refine ⟨_, q, _, t, _, _, rfl, upd_same, cls2, ht, hk, _, rfl, ?_⟩
    cases ha with
    | other p h => exact iteT (k _ s1)
    | @seq a xs e p l =>
      have e1 := e.same s1
      have szl : ∀ i : Nat, i < xs.length → i < sizeLine := fun i hi => Nat.lt_of_lt_of_le hi (Nat.le_of_lt (small1000 (by omega)))
      have no : ¬ (1 ≤ xs.length ∧ xs.length ≤ 5) → okMod (some xs) = false := fun z => by
        show (decide _ && _) = false
        rw [decide_eq_false z]
        rfl
      refine iteF ?_
      refine ⟨_, rfl, a, xs, rfl, e1.elim (fun z => .inl (SqL.of z)) (fun z => .inr (SqT.of z)), _, _, rfl, rfl, _, rfl, ?_⟩
      refine ite2 (fun c1 => ?_) (fun c1 => ?_)
      · refine ⟨_, _, rfl, rfl, _, rfl, ?_⟩
        refine ite2 (fun c2 => ?_) (fun c2 => ?_)
        · have a2 : ¬ xs.length ≤ 5 := fun z => by
            have y : decide ((xs.length : Int) ≤ 5) = true := decide_eq_true (by omega)
            rw [y] at c2
            cases c2
          have k' := k _ s1
          rw [no (fun z => a2 z.2)] at k'
          exact k'
        · have ok5 : 1 ≤ xs.length ∧ xs.length ≤ 5 := by
            have a1 := of_decide_eq_true c1
            have a2 : (xs.length : Int) ≤ 5 := by
              cases y : decide ((xs.length : Int) ≤ 5) with
              | true => exact of_decide_eq_true y
              | false => exact absurd (by rw [y]; rfl) c2
            omega
          have okE : okMod (some xs) = (xs.all (withinV 2 32) && decide (prodV xs ≤ 32)) := by
            show (decide _ && _) = _
            rw [decide_eq_true ok5]
            rfl
          rw [okE] at k
          have fin : ∀ (D : Addr) (G : Hp), upd H q (.tup [.ty "list", .ty "tuple"]) D = none → G = upd (upd H q (.tup [.ty "list", .ty "tuple"])) D (.lst (((xs.take xs.length).map (withinV 2 32)).map V.bl)) →
              ∃ bs : List Bool, SqL K G D (bs.map V.bl) ∧ bs.all id = xs.all (withinV 2 32) ∧ Same H G := by
            rintro D G hD rfl
            refine ⟨_, SqL.of upd_same, ?_, s1.new hD⟩
            rw [List.take_length, List.all_map]
            rfl
          refine ⟨_, rfl, a, xs, rfl, ?_⟩
          rcases e1 with e1 | e1
          · refine .inl ⟨SqL.of e1, fun D hD => lc_it walk_list (fun i G => G = upd (upd H q (.tup [.ty "list", .ty "tuple"])) D (.lst (((xs.take i).map (withinV 2 32)).map V.bl))) rfl (fun i G _ z => by rw [z]; exact SqL.of (by rw [upd_ne (ne_of_none e1 hD)]; exact e1)) ?_ (fun G z => ?_)⟩
            · rintro i x G G' hi rfl ⟨rfl, hx⟩
              obtain ⟨S, hS⟩ := p x (List.mem_of_getElem? hx)
              refine ⟨rfl, _, rfl, x, S, 2, 32, rfl, plain_same (s1.new hD) hS, _, upd_same, by rw [List.length_map, List.length_map, List.length_take]; exact szl _ (by omega), ?_⟩
              rw [upd_upd, List.take_add_one, hx]
              simp
            · obtain ⟨bs, b1, b2, b3⟩ := fin D G hD z
              refine ⟨D, bs, rfl, b1, ?_⟩
              rw [b2]
              cases hb : xs.all (withinV 2 32) with
              | false =>
                rw [hb] at k
                exact ⟨_, rfl, iteF (k _ b3)⟩
              | true =>
                rw [hb] at k
                exact ⟨_, rfl, iteT ⟨_, rfl, a, xs, rfl, e.same b3, hb, _, _, rfl, rfl, k _ b3⟩⟩
          · refine .inr ⟨SqT.of e1, fun D hD => lc_it walk_tup (fun i G => G = upd (upd H q (.tup [.ty "list", .ty "tuple"])) D (.lst (((xs.take i).map (withinV 2 32)).map V.bl))) rfl (fun i G _ z => by rw [z]; exact SqT.of (by rw [upd_ne (ne_of_none e1 hD)]; exact e1)) ?_ (fun G z => ?_)⟩
            · rintro i x G G' hi rfl ⟨rfl, hx⟩
              obtain ⟨S, hS⟩ := p x (List.mem_of_getElem? hx)
              refine ⟨rfl, _, rfl, x, S, 2, 32, rfl, plain_same (s1.new hD) hS, _, upd_same, by rw [List.length_map, List.length_map, List.length_take]; exact szl _ (by omega), ?_⟩
              rw [upd_upd, List.take_add_one, hx]
              simp
            · obtain ⟨bs, b1, b2, b3⟩ := fin D G hD z
              refine ⟨D, bs, rfl, b1, ?_⟩
              rw [b2]
              cases hb : xs.all (withinV 2 32) with
              | false =>
                rw [hb] at k
                exact ⟨_, rfl, iteF (k _ b3)⟩
              | true =>
                rw [hb] at k
                exact ⟨_, rfl, iteT ⟨_, rfl, a, xs, rfl, e.same b3, hb, _, _, rfl, rfl, k _ b3⟩⟩
      · have a1 : ¬ 1 ≤ xs.length := fun z => c1 (decide_eq_true (by omega))
        have k' := k _ s1
        rw [no (fun z => a1 z.1)] at k'
        exact ⟨_, rfl, iteT k'⟩
end
end Toy
set_option maxRecDepth 100000
namespace L2
open PySem PySem.Spec PyProof.Rows
/-! operations of tuples, whether the result is a new tuple or an old one -/
section
variable {X : Cx}
theorem OpR.imp {f : Value → Value → Sem Value} {r r' : R2} (h : OpR X f r) (i : ∀ x y H Q, r' x y H Q → r x y H Q) : OpR X f r' := fun pins s σ H x y v u Q I rx ry q => h pins s σ H x y v u Q I rx ry (i x y H Q q)
theorem SlR.imp {r r' : V → Option Int → Option Int → Hp → VK → Prop} (h : SlR X r) (i : ∀ x lo hi H Q, r' x lo hi H Q → r x lo hi H Q) : SlR X r' := fun pins s σ H x v vl vu lo hi sl Q I rx hs pl pu q => h pins s σ H x v vl vu lo hi sl Q I rx hs pl pu (i x lo hi H Q q)
theorem Same.lay {H : Hp} {p : Addr} {o : HO} (h : H p = none) : Same H (upd H p o) := (Same.refl H).new h
theorem cutV_all {xs : List V} {lo hi : Option Int} (h : HT.sIx xs.length 0 lo = 0 ∧ HT.sIx xs.length xs.length hi = xs.length) : cutV xs lo hi = xs := by
  unfold cutV
  rw [h.1, h.2]
  simp
/-- t[i:j] -/
def rSlP : V → Option Int → Option Int → Hp → VK → Prop := fun x lo hi H Q => ∃ (a : Addr) (xs : List V), x = .ref a ∧ H a = some (.tup xs) ∧ ∀ p H', Same H H' → H' p = some (.tup (cutV xs lo hi)) → Q (.ref p) H'
theorem sl_tupP : SlR X rSlP := sl_tupA.imp fun x lo hi H Q ⟨a, xs, e, h, q⟩ => ⟨a, xs, e, SqT.of h, fun z => q a H (Same.refl H) (by rw [cutV_all z]; exact h), fun _ p hp => q p _ (Same.lay hp) upd_same⟩
/-- t * k -/
def rRepP : R2 := fun x y H Q => ∃ (a : Addr) (k : Int) (xs : List V), x = .ref a ∧ y = .int k ∧ H a = some (.tup xs) ∧ xs ≠ [] ∧ 1 ≤ k ∧ k ≤ 1000 ∧ xs.length ≤ 1000 ∧ ∀ p H', Same H H' → H' p = some (.tup (List.replicate k.toNat xs).flatten) → Q (.ref p) H'
theorem op_repP : OpR X (binaryOp .Mult) rRepP := op_repA.imp fun x y H Q ⟨a, k, xs, e1, e2, h, ne, h1, h2, h3, q⟩ => by
  by_cases hk : k = 1
  · subst hk
    exact .inl ⟨a, xs, e1, e2, SqT.of h, q a H (Same.refl H) (by simpa using h)⟩
  · exact .inr ⟨a, k, xs, e1, e2, SqT.of h, ne, by omega, h2, h3, fun p hp => q p _ (Same.lay hp) upd_same⟩
/-- t + u -/
def rCatP : R2 := fun x y H Q => ∃ (a b : Addr) (xs ys : List V), x = .ref a ∧ y = .ref b ∧ H a = some (.tup xs) ∧ H b = some (.tup ys) ∧ xs.length + ys.length ≤ 1000 ∧ ∀ p H', Same H H' → H' p = some (.tup (xs ++ ys)) → Q (.ref p) H'
theorem op_catP : OpR X (binaryOp .Add) rCatP := op_catA.imp fun x y H Q ⟨a, b, xs, ys, e1, e2, h1, h2, l, q⟩ =>
  ⟨a, b, xs, ys, e1, e2, SqT.of h1, SqT.of h2, Nat.le_of_lt (small1000 (by omega)), fun z => q b H (Same.refl H) (by rw [z]; exact h2), fun _ z => q a H (Same.refl H) (by rw [z, List.append_nil]; exact h1), fun _ _ p hp => q p _ (Same.lay hp) upd_same⟩
end
/-! whole numbers in tuples, compared -/
theorem eqvAll_ints : ∀ a b : List Int, PyData.eqvAll (a.map .int) (b.map .int) = decide (a = b)
  | [], [] => rfl
  | [], _ :: _ => rfl
  | _ :: _, [] => rfl
  | x :: xs, y :: ys => by
    have ih := eqvAll_ints xs ys
    show (PyData.eqv (.int x) (.int y) && PyData.eqvAll (xs.map .int) (ys.map .int)) = _
    rw [ih]
    show ((x == y) && decide (xs = ys)) = decide (x :: xs = y :: ys)
    by_cases h : x = y
    · subst h
      simp
    · have h2 : (x == y) = false := by simpa using h
      rw [h2]
      simp [h]
theorem eqv_tups (a b : List Int) : PyData.eqv (.tuple (a.map .int)) (.tuple (b.map .int)) = decide (a = b) := by
  rw [← eqvAll_ints a b]
  rfl
theorem dp_ints' {K : PySem.W.Frag} {H : Hp} : ∀ ns : List Int, DpAll K H (ns.map V.int) (ns.map PyData.int)
  | [] => .nil
  | z :: r => .cons (.int z) (dp_ints' r)
theorem shaped_tup (ns : List Int) : PySem.SeqAt.shaped (.tuple (ns.map PyData.int)) = true := by
  have h : ∀ ns : List Int, PyData.canLayAll0 (ns.map PyData.int) = true ∧ PyData.depthAll (ns.map PyData.int) = 0 := by
    intro ns
    induction ns with
    | nil => exact ⟨rfl, rfl⟩
    | cons z r ih => exact ⟨by simp [PyData.canLayAll0, PyData.canLay0, ih.1], by simp [PyData.depthAll, PyData.depth, ih.2]⟩
  simp [PySem.SeqAt.shaped, PyData.canLay0, PyData.depth, h ns]
/-- t == u of whole numbers -/
def rEqP : R2 := fun x y H Q => ∃ (a b : Addr) (ns ms : List Int), x = .ref a ∧ y = .ref b ∧ H a = some (.tup (ns.map V.int)) ∧ H b = some (.tup (ms.map V.int)) ∧ Q (.bl (decide (ns = ms))) H
theorem op_eqP {X : Cx} (hu : X.A.units + 64 < cLine) : OpR X (compareOp .Eq) rEqP := (op_eqD hu).imp fun x y H Q ⟨a, b, ns, ms, e1, e2, h1, h2, q⟩ =>
  ⟨.tuple (ns.map .int), .tuple (ms.map .int), by rw [e1]; exact .tup (SqT.of h1) (dp_ints' ns), by rw [e2]; exact .tup (SqT.of h2) (dp_ints' ms), shaped_tup ns, shaped_tup ms, by rw [eqv_tups]; exact q⟩
theorem op_neP {X : Cx} (hu : X.A.units + 64 < cLine) : OpR X (compareOp .NotEq) (fun x y H Q => ∃ (a b : Addr) (ns ms : List Int), x = .ref a ∧ y = .ref b ∧ H a = some (.tup (ns.map V.int)) ∧ H b = some (.tup (ms.map V.int)) ∧ Q (.bl (decide (ns ≠ ms))) H) := (op_neD hu).imp fun x y H Q ⟨a, b, ns, ms, e1, e2, h1, h2, q⟩ =>
  ⟨.tuple (ns.map .int), .tuple (ms.map .int), by rw [e1]; exact .tup (SqT.of h1) (dp_ints' ns), by rw [e2]; exact .tup (SqT.of h2) (dp_ints' ms), shaped_tup ns, shaped_tup ms, by rw [eqv_tups, ← decide_not]; exact q⟩
/-- len, its reading by name -/
def rLenS (K : PySem.W.Frag) : List V → Hp → VK → Prop := fun xs H Q => ∃ p ys, xs = [V.ref p] ∧ (SqL K H p ys ∨ SqT K H p ys) ∧ Q (V.int (ys.length : Int)) H
theorem call_lenS {X : Cx} : CallR X (.builtin "len") (rLenS X.K) := call_len_seq
end L2
set_option maxRecDepth 100000
namespace Toy
open PySem L2
abbrev s_shortest_weights : Stmt := top 16
/-! the normal form of weights, as mathematics -/
def perOk (t : List Int) (n : Nat) : Bool := decide ((List.replicate (t.length / n) (t.take n)).flatten = t)
def divsTo (m i : Nat) : List Nat := ((List.range i).map (· + 1)).filter fun n => decide (m % n = 0)
def divs (t : List Int) : List Nat := divsTo t.length t.length
def ivs (ls : List Nat) : List V := ls.map fun (n : Nat) => V.int (n : Int)
theorem divsTo_succ (m i : Nat) : divsTo m (i + 1) = if m % (i + 1) = 0 then divsTo m i ++ [i + 1] else divsTo m i := by
  unfold divsTo
  rw [List.range_succ, List.map_append, List.filter_append]
  by_cases h : m % (i + 1) = 0
  · simp [h]
  · simp [h]
theorem divsTo_len (m i : Nat) : (divsTo m i).length ≤ i := by
  unfold divsTo
  exact Nat.le_trans (List.length_filter_le ..) (by simp)
theorem ivs_snoc (ls : List Nat) (n : Nat) : ivs (ls ++ [n]) = ivs ls ++ [V.int (n : Int)] := by simp [ivs]
def per (t : List Int) : Nat := (((divs t).filter (perOk t)).head?).getD t.length
def rotr (t : List Int) : List Int := t.drop (t.length - 1) ++ t.take (t.length - 1)
def trimW : Nat → List Int → List Int → List Int × List Int
  | 0, a, t => (a, t)
  | n + 1, a, t => if a ≠ [] ∧ a.getLast? = t.getLast? then trimW n a.dropLast (rotr t) else (a, t)
def normW (a t : List Int) : List Int × List Int := trimW a.length a (t.take (per t))
theorem mem_divs {t : List Int} {n : Nat} (h : n ∈ divs t) : 1 ≤ n ∧ n ≤ t.length ∧ t.length % n = 0 := by
  unfold divs divsTo at h
  obtain ⟨h1, h2⟩ := List.mem_filter.mp h
  obtain ⟨m, hm, rfl⟩ := List.mem_map.mp h1
  have := List.mem_range.mp hm
  exact ⟨by omega, by omega, of_decide_eq_true h2⟩
theorem len_in_divs {t : List Int} (h : t ≠ []) : t.length ∈ divs t := by
  have hp : 0 < t.length := List.length_pos_iff.mpr h
  exact List.mem_filter.mpr ⟨List.mem_map.mpr ⟨t.length - 1, List.mem_range.mpr (by omega), by omega⟩, by simp⟩
theorem perOk_len {t : List Int} (h : t ≠ []) : perOk t t.length = true := by
  have hp : 0 < t.length := List.length_pos_iff.mpr h
  unfold perOk
  rw [Nat.div_self hp, List.take_length]
  simp
theorem some_per {t : List Int} (h : t ≠ []) : (divs t).filter (perOk t) ≠ [] := fun z => by
  have m : t.length ∈ (divs t).filter (perOk t) := List.mem_filter.mpr ⟨len_in_divs h, perOk_len h⟩
  rw [z] at m
  cases m
theorem cut_take {xs : List V} {n : Nat} (h : n ≤ xs.length) : cutV xs none (some (n : Int)) = xs.take n := by
  unfold cutV
  rw [HT.sIx_none, HT.sIx_nat, Nat.min_eq_left h]
  simp
theorem sIx_m1 {m d : Nat} : HT.sIx m d (some (-1)) = m - 1 := by
  show (if (-1 : Int) < 0 then ((-1 : Int) + (m : Int)).toNat else min (-1 : Int).toNat m) = m - 1
  rw [if_pos (by decide)]
  omega
theorem cut_but (xs : List V) : cutV xs none (some (-1)) = xs.take (xs.length - 1) := by
  unfold cutV
  rw [HT.sIx_none, sIx_m1]
  simp
theorem cut_end (xs : List V) : cutV xs (some (-1)) none = xs.drop (xs.length - 1) := by
  unfold cutV
  rw [HT.sIx_none, sIx_m1]
  exact List.take_of_length_le (by simp)
theorem getLast_at {xs : List Int} {z : Int} (h : xs.getLast? = some z) : atI (xs.map V.int) (-1) = some (V.int z) := by
  cases hx : xs.length with
  | zero =>
    rw [List.length_eq_zero_iff.mp hx] at h
    cases h
  | succ n =>
    have e : ixN (xs.map V.int).length (-1) = some n := by
      rw [List.length_map, hx]
      show (if _ then _ else _) = _
      simp
      omega
    unfold atI
    rw [e]
    show (xs.map V.int)[n]? = _
    have e2 : xs[n]? = some z := by
      rw [← h, List.getLast?_eq_getElem?, hx]
      simp
    rw [List.getElem?_map, e2]
    rfl
theorem ivs_at {ls : List Nat} {i : Nat} {x : V} (h : (ivs ls)[i]? = some x) : ∃ n, ls[i]? = some n ∧ x = V.int (n : Int) := by
  unfold ivs at h
  rw [List.getElem?_map] at h
  cases e : ls[i]? with
  | none =>
    rw [e] at h
    cases h
  | some n =>
    rw [e] at h
    exact ⟨n, rfl, (Option.some.inj h).symm⟩
theorem take_len {ms : List Int} {n : Nat} (h : n ≤ ms.length) : (ms.take n).length = n := by
  rw [List.length_take]
  omega
/-- the second comprehension's list: the tuples of the periods found so far -/
def Found (ms : List Int) (ls : List Nat) (G : Hp) (rs : List V) : Prop := (rs = [] ∧ ls.filter (perOk ms) = []) ∨ ∃ (p : Addr) (r : List V) (n : Nat) (r' : List Nat), rs = .ref p :: r ∧ ls.filter (perOk ms) = n :: r' ∧ G p = some (.tup ((ms.take n).map V.int))
theorem Found.keep {ms : List Int} {ls : List Nat} {G G' : Hp} {rs : List V} {D : Addr} (h : Found ms ls G rs) (hD : ∃ xs, G D = some (.lst xs)) (k : But D G G') : Found ms ls G' rs := by
  rcases h with h | ⟨p, r, n, r', e1, e2, e3⟩
  · exact .inl h
  · refine .inr ⟨p, r, n, r', e1, e2, k p _ (fun z => ?_) e3⟩
    obtain ⟨xs, hD⟩ := hD
    rw [z, hD] at e3
    cases e3
theorem Found.more {ms : List Int} {ls : List Nat} {G : Hp} {rs : List V} {n : Nat} {p : Addr} (h : Found ms ls G rs) (ok : perOk ms n = true) (e : G p = some (.tup ((ms.take n).map V.int))) : Found ms (ls ++ [n]) G (rs ++ [.ref p]) := by
  have f1 : (ls ++ [n]).filter (perOk ms) = ls.filter (perOk ms) ++ [n] := by
    rw [List.filter_append]
    simp [ok]
  rcases h with ⟨h1, h2⟩ | ⟨q, r, m, r', e1, e2, e3⟩
  · exact .inr ⟨p, [], n, [], by rw [h1]; rfl, by rw [f1, h2]; rfl, e⟩
  · exact .inr ⟨q, r ++ [.ref p], m, r' ++ [n], by rw [e1]; rfl, by rw [f1, e2]; rfl, e3⟩
theorem Found.skip {ms : List Int} {ls : List Nat} {G : Hp} {rs : List V} {n : Nat} (h : Found ms ls G rs) (ok : perOk ms n = false) : Found ms (ls ++ [n]) G rs := by
  have f1 : (ls ++ [n]).filter (perOk ms) = ls.filter (perOk ms) := by
    rw [List.filter_append]
    simp [ok]
  unfold Found
  rw [f1]
  exact h
/-- the loop's measure: how long the tuple in slot 0 is -/
def lenAt (σ : L2.St) (G : Hp) : Nat := match σ with
  | some (.ref a) :: _ => match G a with
    | some (.tup xs) => xs.length
    | _ => 0
  | _ => 0
theorem lenAt_of {σ : L2.St} {G : Hp} {a : Addr} {xs : List V} (h : G a = some (.tup xs)) : lenAt (some (.ref a) :: σ) G = xs.length := by
  simp [lenAt, h]
theorem rotr_len (t : List Int) : (rotr t).length = t.length := by
  unfold rotr
  rw [List.length_append, List.length_drop, List.length_take]
  omega
theorem trim_go {A T : List Int} (h : A ≠ []) (e : A.getLast? = T.getLast?) : trimW A.length A T = trimW A.dropLast.length A.dropLast (rotr T) := by
  cases hA : A.length with
  | zero => exact absurd (List.length_eq_zero_iff.mp hA) h
  | succ n =>
    have e2 : A.dropLast.length = n := by
      rw [List.length_dropLast]
      omega
    rw [e2]
    show (if A ≠ [] ∧ A.getLast? = T.getLast? then _ else _) = _
    rw [if_pos ⟨h, e⟩]
theorem trim_stop {A T : List Int} (h : A = [] ∨ A.getLast? ≠ T.getLast?) : trimW A.length A T = (A, T) := by
  cases hA : A.length with
  | zero => rfl
  | succ n =>
    show (if A ≠ [] ∧ A.getLast? = T.getLast? then _ else _) = _
    rw [if_neg]
    rintro ⟨h1, h2⟩
    rcases h with h | h
    · exact h1 h
    · exact h h2
theorem last_some {A : List Int} (h : A ≠ []) : ∃ z, A.getLast? = some z := by
  cases e : A.getLast? with
  | none => exact absurd (List.getLast?_eq_none_iff.mp e) h
  | some z => exact ⟨z, rfl⟩
def spShort : Sp := fun vs H Q _ => ∃ (a b : Addr) (ns ms : List Int), vs = [.ref a, .ref b] ∧ H a = some (.tup (ns.map V.int)) ∧ H b = some (.tup (ms.map V.int)) ∧ ms ≠ [] ∧ ns.length ≤ 300 ∧ ms.length ≤ 300 ∧
  ∀ (H' : Hp) (p x y : Addr), Same H H' → H' p = some (.tup [.ref x, .ref y]) → H' x = some (.tup ((normW ns ms).1.map V.int)) → H' y = some (.tup ((normW ns ms).2.map V.int)) → Q (.ref p) H'
section
variable {P : Program} {w : World} {K : PySem.W.Frag} {mg : Str → Option Value} {base : Heap}
abbrev N_shortest_weights : List Str := ["ahead", "turn", "lengths", "length"]
theorem sc_shortest_weights : FnScope N_shortest_weights ["ahead", "turn"] (defScope s_shortest_weights) := ⟨rfl, rfl, rfl, by decide +kernel, rfl, by decide +kernel, by decide +kernel⟩
theorem ok_shortest_weights {f : Addr} {fd : FuncData} (F : Fun K "shortest_weights" "shortest_weights" s_shortest_weights f fd) (T : TR mg) : FnOk P w K mg base CX0 1 f fd ["ahead", "turn"] spShort := by
  refine F.ok sc_shortest_weights (fun vs H Q E h => ?_) (fun cdv A outer s H vs Q E hr h => ?_)
  · obtain ⟨a, b, ns, ms, rfl, _⟩ := h
    rfl
  · obtain ⟨a, b, ns, ms, rfl, ea, eb, hne, hn, hm, k⟩ := h
    refine ⟨_, (pss_cons (ps_setLc (i := 2) (own := [("length", 3)]) (g := (gName 3)) rfl sc_shortest_weights.nd rfl rfl (sw_true rfl rfl rfl (by decide +kernel)) (pi_range2 rfl T.m_range (pa_cons pe_int (pa_cons (pe_op op_add (pe_callB (show CallR _ (.builtin "len") (rLenS K) from call_lenS) (by rfl) T.m_len (by decide +kernel) (pa_cons (pv 1) pa_nil)) pe_int) pa_nil))) (blkOk_by (N := N_shortest_weights) (sc := defScope s_shortest_weights) (by decide +kernel)) (fun _ _ _ _ _ => (pg_name (i := 3) sc_shortest_weights.nd rfl (Or.inl rfl))) (fun _ _ _ _ _ => (pts_one (pt_cmpR op_eq (pe_op op_mod (pe_callB (show CallR _ (.builtin "len") (rLenS K) from call_lenS) (by rfl) T.m_len (by decide +kernel) (pa_cons (pv 1) pa_nil)) (pv 3)) pe_int (nomark _)))) (fun _ _ _ _ _ => (pv 3)))
 (pss_cons (ps_set (i := 1) sc_shortest_weights.nd rfl (Or.inr rfl) (pe_ix ix_list (pe_lc (own := [("length", 3)]) (g := (gName 3)) rfl sc_shortest_weights.nd (pi_list (pv 2)) (blkOk_by (N := N_shortest_weights) (sc := defScope s_shortest_weights) (by decide +kernel)) (fun _ _ _ _ _ => (pg_name (i := 3) sc_shortest_weights.nd rfl (Or.inl rfl))) (fun _ _ _ _ _ => (pts_one (pt_cmpR (op_eqP hr.units) (pe_op op_repP (pe_slice sl_tupP (pv 1) po_none (po_some (pv 3))) (pe_op op_fdiv (pe_callB (show CallR _ (.builtin "len") (rLenS K) from call_lenS) (by rfl) T.m_len (by decide +kernel) (pa_cons (pv 1) pa_nil)) (pv 3))) (pv 1) (nomark _)))) (fun _ _ _ _ _ => (pe_slice sl_tupP (pv 1) po_none (po_some (pv 3))))) pe_int (fun _ _ => rfl)))
 (pss_cons (ps_while PassesOwn.never (PW.pt (pw_and (pt_truth (pv 0) (fun _ => rfl)) (pw_and1 (pt_cmpR op_eq (pe_ix ix_tup (pv 0) (pe_un un_neg pe_int) (fun _ _ => rfl)) (pe_ix ix_tup (pv 1) (pe_un un_neg pe_int) (fun _ _ => rfl)) (nomark _)))))
 (pss_cons (ps_set (i := 0) sc_shortest_weights.nd rfl (Or.inl rfl) (pe_slice sl_tupP (pv 0) po_none (po_some (pe_un un_neg pe_int))))
 (pss_one (ps_set (i := 1) sc_shortest_weights.nd rfl (Or.inr rfl) (pe_op op_catP (pe_slice sl_tupP (pv 1) (po_some (pe_un un_neg pe_int)) po_none) (pe_slice sl_tupP (pv 1) po_none (po_some (pe_un un_neg pe_int))))))))
 (pss_one (ps_ret (pe_tup (pa_cons (pv 0) (pa_cons (pv 1) pa_nil)))))))), ?_⟩
    have lm : (ms.map V.int).length = ms.length := List.length_map ..
    have hu : ∀ i : Nat, i < 1000 → i < sizeLine := fun i hi => small1000 (by omega)
    have hp : 0 < ms.length := List.length_pos_iff.mpr hne
    refine ⟨_, rfl, b, _, rfl, .inr (SqT.of eb), _, _, rfl, rfl, _, _, rfl, ⟨by decide, by decide, by rw [lm]; omega, by rw [lm]; omega⟩, fun D hD => ?_⟩
    have eN : (((ms.map V.int).length : Int) + 1 - 1).toNat = ms.length := by rw [lm]; omega
    have nD : ∀ {b : Addr} {o : HO} {u : HO}, H b = some o → (upd H D u) b = some o := fun {b o u} e => by rw [upd_ne (ne_of_none e hD)]; exact e
    refine lc_it walk_range (fun i G => G = upd H D (.lst (ivs (divsTo ms.length i)))) rfl (fun _ _ _ _ => trivial) ?_ ?_
    · rintro i x G G' hi rfl ⟨rfl, rfl⟩
      have hi' : i < ms.length := by omega
      have dl := divsTo_len ms.length i
      refine ⟨rfl, _, rfl, b, _, rfl, .inr (SqT.of (nD eb)), _, rfl, _, _, rfl, rfl, (by show (0 : Int) < 1 + (i : Int); omega), rfl, _, rfl, ?_⟩
      have em : ((ms.map V.int).length : Int) % (1 + (i : Int)) = ((ms.length % (i + 1) : Nat) : Int) := by
        rw [lm, show (1 + (i : Int)) = ((i + 1 : Nat) : Int) by omega]
        rfl
      refine ite2 (fun c => ?_) (fun c => ?_)
      · have c2 : ms.length % (i + 1) = 0 := by
          have z := V.int.inj (of_decide_eq_true c)
          rw [em] at z
          omega
        refine ⟨_, rfl, _, upd_same, hu _ (by unfold ivs; rw [List.length_map]; omega), ?_⟩
        rw [upd_upd, divsTo_succ, if_pos c2, ivs_snoc]
        have e1 : (1 + (i : Int)) = ((i + 1 : Nat) : Int) := by omega
        rw [← e1]
      · have c2 : ¬ ms.length % (i + 1) = 0 := fun z => c (decide_eq_true (by show V.int (_ % _) = V.int 0; rw [em, z]; rfl))
        rw [divsTo_succ, if_neg c2]
    · rintro G rfl
      rw [eN]
      have s1 : Same H (upd H D (.lst (ivs (divs ms)))) := Same.lay hD
      refine ⟨_, rfl, D, rfl, ⟨_, SqL.of upd_same⟩, fun D2 hD2 => ?_⟩
      have nDD : D ≠ D2 := ne_of_none upd_same hD2
      refine lc_it (walk_list (xs := ivs (divs ms))) (fun i G => ∃ rs, But D2 (upd H D (.lst (ivs (divs ms)))) G ∧ G D2 = some (.lst rs) ∧ rs.length ≤ i ∧ Found ms ((divs ms).take i) G rs) ?_ ?_ ?_ ?_
      · exact ⟨[], (But.refl D2 _).put, upd_same, Nat.le_refl _, .inl ⟨rfl, by simp⟩⟩
      · rintro i G _ ⟨rs, kp, _⟩
        exact SqL.of (kp D _ nDD upd_same)
      · rintro i x G G' hi ⟨rs, kp, hG, hl, fo⟩ ⟨rfl, hx⟩
        obtain ⟨n, hn', rfl⟩ := ivs_at hx
        obtain ⟨n1, n2, n3⟩ := mem_divs (List.mem_of_getElem? hn')
        have ebG : G' b = some (.tup (ms.map V.int)) := kp b _ (ne_of_none (s1 _ _ eb) hD2) (s1 _ _ eb)
        have ct : cutV (ms.map V.int) none (some (n : Int)) = (ms.take n).map V.int := by rw [cut_take (by rw [lm]; exact n2), List.map_take]
        refine ⟨rfl, _, rfl, _, rfl, _, rfl, b, _, rfl, ebG, fun p1 G1 s2 h1 => ?_⟩
        rw [ct] at h1
        have q1 : ((ms.length : Int) / (n : Int)) = ((ms.length / n : Nat) : Int) := rfl
        have dv1 : 1 ≤ ms.length / n := (Nat.le_div_iff_mul_le (by omega)).mpr (by omega)
        have dv2 : ms.length / n ≤ ms.length := Nat.div_le_self ..
        have tl : ((ms.take n).map V.int).length = n := by rw [List.length_map, take_len n2]
        refine ⟨_, rfl, b, _, rfl, .inr (SqT.of (s2 _ _ ebG)), _, rfl, _, _, rfl, rfl, ⟨by omega, by omega⟩, p1, ((ms.map V.int).length : Int) / (n : Int), _, rfl, rfl, h1, (fun z => by rw [z] at tl; simp at tl; omega), by rw [lm, q1]; omega, by rw [lm, q1]; omega, by rw [tl]; omega, fun p2 G2 s3 h2 => ?_⟩
        have rp : (List.replicate (((ms.map V.int).length : Int) / (n : Int)).toNat ((ms.take n).map V.int)).flatten = ((List.replicate (ms.length / n) (ms.take n)).flatten).map V.int := by
          rw [lm, q1, Int.toNat_natCast, List.map_flatten, List.map_replicate]
        rw [rp] at h2
        refine ⟨_, rfl, p2, b, _, _, rfl, rfl, h2, s3 _ _ (s2 _ _ ebG), _, rfl, ?_⟩
        have s4 : Same G' G2 := fun _ _ z => s3 _ _ (s2 _ _ z)
        have tk : (divs ms).take (i + 1) = (divs ms).take i ++ [n] := by
          rw [List.take_add_one, hn']
          rfl
        refine ite2 (fun c => ?_) (fun c => ?_)
        · have ok : perOk ms n = true := c
          refine ⟨_, rfl, _, rfl, _, rfl, b, _, rfl, s4 _ _ ebG, fun p3 G3 s5 h3 => ?_⟩
          rw [ct] at h3
          have s6 : Same G' G3 := fun _ _ z => s5 _ _ (s4 _ _ z)
          have n3D : p3 ≠ D2 := fun z => by
            rw [z, s6 _ _ hG] at h3
            cases h3
          have il : i < ms.length := by
            have a1 := divsTo_len ms.length ms.length
            have a2 : (ivs (divs ms)).length = (divs ms).length := List.length_map ..
            have a3 : (divs ms).length ≤ ms.length := a1
            omega
          refine ⟨rs, s6 _ _ hG, hu _ (by omega), rs ++ [.ref p3], fun c' o nc e => ?_, upd_same, by simp; omega, ?_⟩
          · rw [upd_ne nc]
            exact s6 _ _ (kp _ _ nc e)
          · rw [tk]
            exact (fo.keep ⟨_, hG⟩ (fun c' o nc e => by rw [upd_ne nc]; exact s6 _ _ e)).more ok (by rw [upd_ne n3D]; exact h3)
        · have ok : perOk ms n = false := by
            cases z : perOk ms n with
            | true => exact absurd z c
            | false => rfl
          refine ⟨rs, fun c' o nc e => s4 _ _ (kp _ _ nc e), s4 _ _ hG, by omega, ?_⟩
          rw [tk]
          exact (fo.keep ⟨_, hG⟩ fun _ _ _ e => s4 _ _ e).skip ok
      · rintro G ⟨rs, kp, hG, hl, fo⟩
        have a2 : (ivs (divs ms)).length = (divs ms).length := List.length_map ..
        rw [a2, List.take_length] at fo
        have keep : Same H G := fun c' o e => kp c' o (ne_of_none (s1 _ _ e) hD2) (s1 _ _ e)
        obtain ⟨p, r, n, r', rfl, e2, e3⟩ : ∃ (p : Addr) (r : List V) (n : Nat) (r' : List Nat), rs = .ref p :: r ∧ (divs ms).filter (perOk ms) = n :: r' ∧ G p = some (.tup ((ms.take n).map V.int)) := by
          rcases fo with ⟨_, z⟩ | z
          · exact absurd z (some_per hne)
          · exact z
        have pe : per ms = n := by
          unfold per
          rw [e2]
          rfl
        have mn : n ∈ divs ms := by
          have z : n ∈ (divs ms).filter (perOk ms) := by
            rw [e2]
            exact List.mem_cons_self ..
          exact (List.mem_filter.mp z).1
        obtain ⟨n1, n2, _⟩ := mem_divs mn
        refine ⟨D2, _, 0, .ref p, rfl, rfl, SqL.of hG, atI_nat (j := 0) rfl, ?_⟩
        refine while_by (fun σ G2 => ∃ (x y : Addr) (A T : List Int), σ = [some (.ref x), some (.ref y), some (.ref D), none] ∧ Same H G2 ∧ G2 x = some (.tup (A.map V.int)) ∧ G2 y = some (.tup (T.map V.int)) ∧ T ≠ [] ∧ A.length ≤ 300 ∧ T.length ≤ 300 ∧ trimW A.length A T = normW ns ms) lenAt ?_ ?_ ?_
        · refine ⟨a, p, ns, ms.take n, rfl, keep, keep _ _ ea, e3, ?_, hn, ?_, ?_⟩
          · intro z
            have y := take_len n2
            rw [z] at y
            simp at y
            omega
          · rw [take_len n2]
            omega
          · unfold normW
            rw [pe]
        · rintro σ G2 ⟨x, y, A, T', rfl, s2, hx, hy, tne, al, tl, inv⟩
          have lA : (A.map V.int).length = A.length := List.length_map ..
          have lT : (T'.map V.int).length = T'.length := List.length_map ..
          have fin : (A = [] ∨ A.getLast? ≠ T'.getLast?) → ∀ q, G2 q = none → Q (.ref q) (upd G2 q (.tup [.ref x, .ref y])) := by
            intro z q hq
            rw [trim_stop z] at inv
            have s3 : Same G2 (upd G2 q (.tup [.ref x, .ref y])) := Same.lay hq
            exact k _ q x y (fun b o e => s3 _ _ (s2 _ _ e)) upd_same (by rw [← inv]; exact s3 _ _ hx) (by rw [← inv]; exact s3 _ _ hy)
          refine ⟨_, rfl, _, .inr (.inl ⟨_, SqT.of hx, rfl⟩), ?_⟩
          refine ite2 (fun c => ?_) (fun c => ?_)
          · have hA : A ≠ [] := fun z => by
              rw [z] at c
              cases c
            obtain ⟨u, hu1⟩ := last_some hA
            obtain ⟨v, hv1⟩ := last_some tne
            refine ⟨_, rfl, _, rfl, x, _, _, _, rfl, rfl, SqT.of hx, getLast_at hu1, _, rfl, _, rfl, y, _, _, _, rfl, rfl, SqT.of hy, getLast_at hv1, rfl, _, rfl, ?_⟩
            refine ite2 (fun c2 => ?_) (fun c2 => ?_)
            · have euv : u = v := V.int.inj (of_decide_eq_true c2)
              have eL : A.getLast? = T'.getLast? := by rw [hu1, hv1, euv]
              rw [trim_go hA eL] at inv
              refine ⟨_, rfl, _, rfl, _, rfl, x, _, rfl, hx, fun x1 G3 s3 hx1 => ?_⟩
              rw [cut_but, lA] at hx1
              refine ⟨_, rfl, _, rfl, _, rfl, y, _, rfl, s3 _ _ hy, fun y1 G4 s4 hy1 => ?_⟩
              rw [cut_end, lT] at hy1
              refine ⟨_, rfl, _, rfl, _, rfl, y, _, rfl, s4 _ _ (s3 _ _ hy), fun y2 G5 s5 hy2 => ?_⟩
              rw [cut_but, lT] at hy2
              refine ⟨y1, y2, _, _, rfl, rfl, s5 _ _ hy1, hy2, by rw [List.length_drop, List.length_take, lT]; omega, fun y3 G6 s6 hy3 => ?_⟩
              have s7 : Same G2 G6 := fun _ _ z => s6 _ _ (s5 _ _ (s4 _ _ (s3 _ _ z)))
              have hx2 : G6 x1 = some (.tup (A.dropLast.map V.int)) := by
                rw [List.dropLast_eq_take, List.map_take]
                exact s6 _ _ (s5 _ _ (s4 _ _ hx1))
              have hy4 : G6 y3 = some (.tup ((rotr T').map V.int)) := by
                unfold rotr
                rw [List.map_append, List.map_drop, List.map_take]
                exact hy3
              refine ⟨⟨x1, y3, A.dropLast, rotr T', rfl, fun _ _ z => s7 _ _ (s2 _ _ z), hx2, hy4, fun z => ?_, by rw [List.length_dropLast]; omega, by rw [rotr_len]; exact tl, inv⟩, ?_⟩
              · have y' := rotr_len T'
                rw [z] at y'
                exact tne (List.length_eq_zero_iff.mp y'.symm)
              · show lenAt (some (.ref x1) :: _) G6 < lenAt (some (.ref x) :: _) G2
                rw [lenAt_of hx2, lenAt_of hx, List.length_map, List.length_map, List.length_dropLast]
                have := List.length_pos_iff.mpr hA
                omega
            · exact ⟨_, rfl, _, rfl, (by show 2 ≤ sizeLine; decide), fin (.inr fun z => c2 (decide_eq_true (by rw [hu1, hv1] at z; show V.int u = V.int v; rw [Option.some.inj z])))⟩
          · have hA : A = [] := by
              cases A with
              | nil => rfl
              | cons z r => exact absurd rfl c
            exact iteF ⟨_, rfl, _, rfl, (by show 2 ≤ sizeLine; decide), fin (.inl hA)⟩
        · rintro σ G2 Q1 Q2 hi ⟨v, e, kk, ht, h⟩
          refine ⟨v, e, kk, ht, ?_⟩
          cases kk with
          | false => exact hi _ _ h
          | true =>
            obtain ⟨v1, w1, i1, w2, a1, x1, i2, u1, w3, w4, w5, w6, v2, y1, i3, y2, a3, x3, i4, u3, y3, y4, y5, y6, z1, c1, z2, z3⟩ := h
            exact ⟨v1, w1, i1, w2, a1, x1, i2, u1, w3, w4, w5, w6, v2, y1, i3, y2, a3, x3, i4, u3, y3, y4, y5, y6, z1, c1, z2, hi _ _ z3⟩
end
end Toy
set_option maxRecDepth 100000
namespace L2
open PySem PySem.Spec PyProof.Rows
/-- a target o.f among several -/
def gFld (K : PySem.W.Frag) (to : TE) (f : Str) : TG := fun v σ H Q => to σ H fun x H1 => ∃ a C dx fs, x = .ref a ∧ H1 a = some (.ins C dx fs) ∧ Cls K C ∧ NoAttr K C f ∧ fs.length < 1000 ∧ Q σ (upd H1 a (.ins C dx (putF f v fs)))
theorem pg_fld {X : Cx} {o : Expr} {f : Str} {p : Pos} {to : TE} (ho : PE X o to) : PG X (.Attribute o f p) (gFld X.K to f) := by
  constructor
  intro pins s σ H v u Q I r h
  refine PySem.W.kas_attr (thn (ho.run pins s σ H _ I h) ?_)
  rintro ov s1 ⟨x, H1, J, rx, a, C, dx, fs, rfl, ea, c, n, l, q⟩
  obtain rfl : ov = Value.ref a := rx
  exact setattr_ok J ea c n l r fun s2 J2 => ⟨σ, _, J2, q⟩
/-- raise C(e, ..), where C's __init__ stores fields -/
def tRaiseX (C : Addr) (n : Nat) (fs : List V → List (Str × V)) (t : TA) : St → Hp → XK → Prop := fun σ H Q => t σ H fun vs H1 => vs.length = n ∧ ∀ d H', H1 d = none → Same H1 H' → H' d = some (.xd (fs vs)) → Q (.ref C) (some d) H'
theorem pmk_x {X : Cx} {k n : Nat} {fI C : Addr} {fd : FuncData} {ps : List Str} {fs : List V → List (Str × V)} {x : Str} {p pos : Pos} {e : Expr} {es : List Expr} {t : TA} (T : XvI X.K C fI) (F : FnOk X.prog X.w X.K X.mg X.base CX0 k fI fd ps (spX C n fs)) (hr : Room (k + 1) X.A) (hb : Binds X.K fd ps []) (hn : n ≤ 1000)
    (hg : Gl X x) (hm : X.mg x = some (.ref C)) (mo : Mono t) (ha : PA X (e :: es) t) (hdb : (x == ("__debug__" : Str)) = false := by decide)
    (he : starEach (e :: es) X.env = (false, eval e X.env) :: starEach es X.env := by rfl) (hpl : (backTo pos (starEach es X.env)).any (·.1) = false := by rfl) : PMk X (.Call (.Name x p) (e :: es) [] pos) (tRaiseX C n fs t) := by
  intro pins s σ H Q I h
  refine pmk_oex T.cls.oex T.ini T.ty F hr hb .nil pass0 hg hm ha hdb he hpl pins s σ H Q I (mo _ _ _ _ (fun vs H1 z => ⟨by rw [z.1]; exact hn, fun a ha => ?_⟩) h)
  refine ⟨a, vs, by rw [List.append_nil], z.1, upd_same, fun dx H' hd nd h1 h2 h3 => ⟨rfl, dx, _, h1, h2, ?_, z.2 dx _ ?_ ?_ upd_same⟩⟩
  · rw [upd_ne nd] at hd
    exact hd
  · rw [upd_ne nd] at hd
    exact hd
  · intro b o eb
    have hd' : H1 dx = none := by
      rw [upd_ne nd] at hd
      exact hd
    have n1 := ne_of_none eb ha
    have n2 := ne_of_none eb hd'
    rw [upd_ne n2, del_ne n1, h3 b n1 n2, upd_ne n1]
    exact eb
end L2
set_option maxRecDepth 100000
namespace Toy
open PySem L2
abbrev s_BadRule : Stmt := (inClass (top 20) 0)
abbrev s_BadNumber : Stmt := (inClass (top 21) 0)
abbrev s_TooMany : Stmt := (inClass (top 23) 0)
abbrev s_Rule_init : Stmt := (inClass (top 36) 0)
abbrev s_Rule_classes : Stmt := (inClass (top 36) 9)
abbrev s_Rule_banks : Stmt := (inClass (top 36) 8)
/-! errors -/
def fs1 (f : Str) : List V → List (Str × V) := fun ys => match ys with
  | [y] => [(f, y)]
  | _ => []
def fs2 (f g : Str) : List V → List (Str × V) := fun ys => match ys with
  | [y, z] => [(g, z), (f, y)]
  | _ => []
/-- what the top has written of the errors' classes -/
structure TErr (K : PySem.W.Frag) (mg : Str → Option Value) (CR CN CT uR uN uT : Addr) (fdR fdN fdT : FuncData) : Prop where
  gBadRule : mg "BadRule" = some (.ref CR)
  iBadRule : XvI K CR uR
  fBadRule : Fun K "__init__" "BadRule.__init__" s_BadRule uR fdR
  nBadRule : PySem.W.findIn K (.ref CR) "part" = some none
  bBadRule : Binds K fdR ["self", "part"] []
  gBadNumber : mg "BadNumber" = some (.ref CN)
  iBadNumber : XvI K CN uN
  fBadNumber : Fun K "__init__" "BadNumber.__init__" s_BadNumber uN fdN
  nBadNumber : PySem.W.findIn K (.ref CN) "value" = some none
  bBadNumber : Binds K fdN ["self", "value"] []
  gTooMany : mg "TooMany" = some (.ref CT)
  iTooMany : XvI K CT uT
  fTooMany : Fun K "__init__" "TooMany.__init__" s_TooMany uT fdT
  nWhat : PySem.W.findIn K (.ref CT) "what" = some none
  nMost : PySem.W.findIn K (.ref CT) "most" = some none
  bTooMany : Binds K fdT ["self", "what", "most"] []
theorem mono_c {v : V} {t : TA} (h : Mono t) : Mono (tCons (tC v) t) := fun σ H Q Q' i q => h σ H _ _ (fun vs H' z => i _ _ z) q
theorem CallR.imp {X : Cx} {g : Value} {r r' : List V → Hp → VK → Prop} (h : CallR X g r) (i : ∀ xs H Q, r' xs H Q → r xs H Q) : CallR X g r' := fun pins s σ H xs us Q I rr q => h pins s σ H xs us Q I rr (i xs H Q q)
/-- tuple(x) -/
def rTupP : List V → Hp → VK → Prop := fun xs H Q => ∃ (a : Addr) (ys : List V), xs = [.ref a] ∧ SeqAt H a ys ∧ ∀ q H', Same H H' → H' q = some (.tup ys) → Q (.ref q) H'
theorem call_tupP {X : Cx} : CallR X (.type "tuple") rTupP := CallR.imp call_tuple_of fun xs H Q ⟨a, ys, e, h, q⟩ => by
  rcases h with h | h
  · exact ⟨a, ys, e, .inl ⟨SqL.of h, fun l hl => q l _ (Same.lay hl) upd_same⟩⟩
  · exact ⟨a, ys, e, .inr ⟨SqT.of h, q a H (Same.refl H) h⟩⟩
/-! rules -/
theorem ne1 : ¬ (("moduli" : Str) = "ahead") := by decide +kernel
theorem ne2 : ¬ (("moduli" : Str) = "turn") := by decide +kernel
theorem ne3 : ¬ (("ahead" : Str) = "turn") := by decide +kernel
def flds (m a t : V) : List (Str × V) := putF "turn" t (putF "ahead" a (putF "moduli" m []))
theorem flds_m (m a t : V) : (flds m a t).lookup ("moduli" : Str) = some m := by
  unfold flds
  rw [lookup_putF, if_neg ne2, lookup_putF, if_neg ne1, lookup_putF, if_pos rfl]
theorem flds_a (m a t : V) : (flds m a t).lookup ("ahead" : Str) = some a := by
  unfold flds
  rw [lookup_putF, if_neg ne3, lookup_putF, if_pos rfl]
theorem flds_t (m a t : V) : (flds m a t).lookup ("turn" : Str) = some t := by
  unfold flds
  rw [lookup_putF, if_pos rfl]
theorem flds_no {m a t : V} {x : Str} (h1 : ¬ x = "turn") (h2 : ¬ x = "ahead") (h3 : ¬ x = "moduli") : (flds m a t).lookup x = none := by
  unfold flds
  rw [lookup_putF, if_neg h1, lookup_putF, if_neg h2, lookup_putF, if_neg h3]
  rfl
/-- a Rule stands at p: its moduli, the weights ahead and in the round -/
def RuleAt (C : Addr) (H : Hp) (p : Addr) (ms : List V) (as ts : List Int) : Prop := ∃ (dx pm pa pt : Addr), H p = some (.ins C dx (flds (.ref pm) (.ref pa) (.ref pt))) ∧ H pm = some (.tup ms) ∧ H pa = some (.tup (as.map V.int)) ∧ H pt = some (.tup (ts.map V.int))
theorem RuleAt.same {C : Addr} {H H' : Hp} {p : Addr} {ms : List V} {as ts : List Int} (s : Same H H') (h : RuleAt C H p ms as ts) : RuleAt C H' p ms as ts :=
  let ⟨dx, pm, pa, pt, h1, h2, h3, h4⟩ := h
  ⟨dx, pm, pa, pt, s _ _ h1, s _ _ h2, s _ _ h3, s _ _ h4⟩
/-- what the top has written of the class -/
structure TRule (K : PySem.W.Frag) (mg : Str → Option Value) (C pc pb gc gb : Addr) : Prop where
  cl : Cls K C
  nM : NoAttr K C "moduli"
  nA : NoAttr K C "ahead"
  nT : NoAttr K C "turn"
  gC : mg "Rule" = some (.ref C)
  pC : PropOf K C "classes" pc gc
  pB : PropOf K C "banks" pb gb
def spClasses (C : Addr) : Sp := fun vs H Q _ => ∃ (p : Addr) (ms : List V) (as ts : List Int), vs = [.ref p] ∧ RuleAt C H p ms as ts ∧ Q (.int ((as.length : Int) + (ts.length : Int))) H
def spBanks (C : Addr) : Sp := fun vs H Q _ => ∃ (p : Addr) (ms : List V) (as ts : List Int), vs = [.ref p] ∧ RuleAt C H p ms as ts ∧ ms.all (withinV 2 32) = true ∧ Q (.int (prodV ms)) H
section
variable {P : Program} {w : World} {K : PySem.W.Frag} {mg : Str → Option Value} {base : Heap} {CR CN CT uR uN uT : Addr} {fdR fdN fdT : FuncData} {C pc pb gc gb : Addr}
theorem sc_BadRule : FnScope ["self", "part"] ["self", "part"] (defScope s_BadRule) := ⟨rfl, rfl, rfl, by decide +kernel, rfl, by decide +kernel, by decide +kernel⟩
theorem ok_BadRule (T : TErr K mg CR CN CT uR uN uT fdR fdN fdT) : FnOk P w K mg base CX0 1 uR fdR ["self", "part"] (spX CR 1 (fs1 "part")) := by
  refine T.fBadRule.ok sc_BadRule (fun vs H Q E h => ?_) (fun cdv A outer s H vs Q E hr h => ?_)
  · obtain ⟨a, ys, rfl, hl, _⟩ := h
    show ys.length + 1 = 2
    omega
  · obtain ⟨a, ys, rfl, hl, ha, k⟩ := h
    obtain ⟨y, rfl⟩ : ∃ y, ys = [y] := by
      match ys, hl with
      | [y], _ => exact ⟨y, rfl⟩
    refine ⟨_, (pss_one (ps_ost (pv 0) (pv 1))), ?_⟩
    refine ⟨_, rfl, _, rfl, a, CR, rfl, T.iBadRule.cls.oex, T.nBadRule, .inl ⟨ha, fun dx hd nd => ?_⟩⟩
    exact k dx _ hd nd upd_same (by rw [upd_ne nd]; exact upd_same) fun b h1 h2 => by rw [upd_ne h1, upd_ne h2]
theorem sc_BadNumber : FnScope ["self", "value"] ["self", "value"] (defScope s_BadNumber) := ⟨rfl, rfl, rfl, by decide +kernel, rfl, by decide +kernel, by decide +kernel⟩
theorem ok_BadNumber (T : TErr K mg CR CN CT uR uN uT fdR fdN fdT) : FnOk P w K mg base CX0 1 uN fdN ["self", "value"] (spX CN 1 (fs1 "value")) := by
  refine T.fBadNumber.ok sc_BadNumber (fun vs H Q E h => ?_) (fun cdv A outer s H vs Q E hr h => ?_)
  · obtain ⟨a, ys, rfl, hl, _⟩ := h
    show ys.length + 1 = 2
    omega
  · obtain ⟨a, ys, rfl, hl, ha, k⟩ := h
    obtain ⟨y, rfl⟩ : ∃ y, ys = [y] := by
      match ys, hl with
      | [y], _ => exact ⟨y, rfl⟩
    refine ⟨_, (pss_one (ps_ost (pv 0) (pv 1))), ?_⟩
    refine ⟨_, rfl, _, rfl, a, CN, rfl, T.iBadNumber.cls.oex, T.nBadNumber, .inl ⟨ha, fun dx hd nd => ?_⟩⟩
    exact k dx _ hd nd upd_same (by rw [upd_ne nd]; exact upd_same) fun b h1 h2 => by rw [upd_ne h1, upd_ne h2]
theorem sc_TooMany : FnScope ["self", "what", "most"] ["self", "what", "most"] (defScope s_TooMany) := ⟨rfl, rfl, rfl, by decide +kernel, rfl, by decide +kernel, by decide +kernel⟩
theorem ok_TooMany (T : TErr K mg CR CN CT uR uN uT fdR fdN fdT) : FnOk P w K mg base CX0 1 uT fdT ["self", "what", "most"] (spX CT 2 (fs2 "what" "most")) := by
  refine T.fTooMany.ok sc_TooMany (fun vs H Q E h => ?_) (fun cdv A outer s H vs Q E hr h => ?_)
  · obtain ⟨a, ys, rfl, hl, _⟩ := h
    show ys.length + 1 = 3
    omega
  · obtain ⟨a, ys, rfl, hl, ha, k⟩ := h
    obtain ⟨y, z, rfl⟩ : ∃ y z, ys = [y, z] := by
      match ys, hl with
      | [y, z], _ => exact ⟨y, z, rfl⟩
    refine ⟨_, (pss_cons (ps_ost (pv 0) (pv 1)) (pss_one (ps_ost (pv 0) (pv 2)))), ?_⟩
    refine ⟨_, rfl, _, rfl, a, CT, rfl, T.iTooMany.cls.oex, T.nWhat, .inl ⟨ha, fun dx hd nd => ?_⟩⟩
    refine ⟨_, rfl, _, rfl, a, CT, rfl, T.iTooMany.cls.oex, T.nMost, .inr ⟨dx, _, upd_same, (by rw [upd_ne nd]; exact upd_same), (by show 1 ≤ 900; decide), ?_⟩⟩
    exact k dx _ hd nd (by rw [upd_ne nd.symm]; exact upd_same) upd_same fun b h1 h2 => by rw [upd_ne h2, upd_ne h1, upd_ne h2]
theorem sc_Rule_classes : FnScope ["self"] ["self"] (defScope s_Rule_classes) := ⟨rfl, rfl, rfl, by decide +kernel, rfl, by decide +kernel, by decide +kernel⟩
theorem ok_Rule_classes {f : Addr} {fd : FuncData} (F : Fun K "classes" "Rule.classes" s_Rule_classes f fd) (T : TR mg) (TU : TRule K mg C pc pb gc gb) : FnOk P w K mg base CX0 1 f fd ["self"] (spClasses C) := by
  refine F.ok sc_Rule_classes (fun vs H Q E h => ?_) (fun cdv A outer s H vs Q E hr h => ?_)
  · obtain ⟨p, ms, as, ts, rfl, _⟩ := h
    rfl
  · obtain ⟨p, ms, as, ts, rfl, ⟨dx, pm, pa, pt, h1, h2, h3, h4⟩, k⟩ := h
    refine ⟨_, (pss_one (ps_ret (pe_op op_add (pe_callB call_len_seq (by rfl) T.m_len (by decide +kernel) (pa_cons (pe_fld (pv 0) rfl) pa_nil)) (pe_callB call_len_seq (by rfl) T.m_len (by decide +kernel) (pa_cons (pe_fld (pv 0) rfl) pa_nil))))), ?_⟩
    refine ⟨_, rfl, p, C, dx, _, _, rfl, h1, TU.cl, TU.nA, flds_a _ _ _, pa, _, rfl, .inr (SqT.of h3), _, rfl, p, C, dx, _, _, rfl, h1, TU.cl, TU.nT, flds_t _ _ _, pt, _, rfl, .inr (SqT.of h4), _, _, rfl, rfl, ?_⟩
    show Q (.int (((as.map V.int).length : Int) + ((ts.map V.int).length : Int))) H
    rw [List.length_map, List.length_map]
    exact k
theorem sc_Rule_banks : FnScope ["self"] ["self"] (defScope s_Rule_banks) := ⟨rfl, rfl, rfl, by decide +kernel, rfl, by decide +kernel, by decide +kernel⟩
theorem ok_Rule_banks {f fB : Addr} {fd fdB : FuncData} (F : Fun K "banks" "Rule.banks" s_Rule_banks f fd) (T : TR mg) (TU : TRule K mg C pc pb gc gb) (FB : Fun K "banks_by" "banks_by" s_banks_by fB fdB) (gB : mg "banks_by" = some (.ref fB)) (bB : Binds K fdB ["moduli"] []) :
    FnOk P w K mg base CX0 2 f fd ["self"] (spBanks C) := by
  have GB : FnOk P w K mg base CX0 1 fB fdB ["moduli"] (spBanksBy K) := ok_banks_by FB
  have kB := FB.kp
  refine F.ok sc_Rule_banks (fun vs H Q E h => ?_) (fun cdv A outer s H vs Q E hrB h => ?_)
  · obtain ⟨p, ms, as, ts, rfl, _⟩ := h
    rfl
  · obtain ⟨p, ms, as, ts, rfl, ⟨dx, pm, pa, pt, h1, h2, h3, h4⟩, hw, k⟩ := h
    refine ⟨_, (pss_one (ps_ret (pe_call GB hrB rfl gB kB bB .nil pass0 (pa_cons (pe_fld (pv 0) rfl) pa_nil)))), ?_⟩
    exact ⟨_, rfl, p, C, dx, _, _, rfl, h1, TU.cl, TU.nM, flds_m _ _ _, pm, ms, rfl, .inr h2, hw, k⟩
end
end Toy
set_option maxRecDepth 100000
namespace Toy
open PySem L2
/-! Rule.__init__ -/
/-- which part is refused -/
def ruleErr (om oa ot : Option (List V)) : Option Str :=
  if okMod om = false then some "moduli" else
  if okBanks (prodV (om.getD [])) oa = false then some "ahead" else
  if okBanks (prodV (om.getD [])) ot = false ∨ ot = some [] then some "turn" else none
def spInit (CR CT C : Addr) (K : PySem.W.Frag) : Sp := fun vs H Q E => ∃ (p dx : Addr) (m a t : V) (om oa ot : Option (List V)), vs = [.ref p, m, a, t] ∧ H p = some (.ins C dx []) ∧ Arg K H m om ∧ Arg K H a oa ∧ Arg K H t ot ∧
  (∀ ys, oa = some ys → ys.length ≤ 300) ∧ (∀ ys, ot = some ys → ys.length ≤ 300) ∧
  (∀ w, ruleErr om oa ot = some w → ∀ d H', H d = none → But p H H' → H' d = some (.xd [("part", .str w)]) → E (.ref CR) (some d) H') ∧
  (∀ ms ns ts, om = some ms → oa = some (ns.map V.int) → ot = some (ts.map V.int) → ruleErr om oa ot = none →
    (24 < (normW ns ts).1.length + (normW ns ts).2.length → ∀ d H', H d = none → But p H H' → H' d = some (.xd [("most", .int 24), ("what", .str "places")]) → E (.ref CT) (some d) H') ∧
    ((normW ns ts).1.length + (normW ns ts).2.length ≤ 24 → ∀ H', But p H H' → RuleAt C H' p ms (normW ns ts).1 (normW ns ts).2 → Q .non H'))
theorem all_ints {lo hi : Int} : ∀ {xs : List V}, xs.all (withinV lo hi) = true → ∃ ns : List Int, xs = ns.map V.int
  | [], _ => ⟨[], rfl⟩
  | x :: r, h => by
    have h2 : (withinV lo hi x && r.all (withinV lo hi)) = true := h
    obtain ⟨i, rfl, _⟩ := within_int (Bool.and_eq_true_iff.mp h2).1
    obtain ⟨ns, rfl⟩ := all_ints (Bool.and_eq_true_iff.mp h2).2
    exact ⟨i :: ns, rfl⟩
theorem but_same {p : Addr} {H H' : Hp} (h : But p H H') {b : Addr} {o : HO} (e : H b = some o) (n : b ≠ p) : H' b = some o := h b o n e
theorem seq_but {p : Addr} {H H' : Hp} {a : Addr} {xs : List V} (h : SeqAt H a xs) (k : But p H H') (n : a ≠ p) : SeqAt H' a xs := h.elim (fun z => .inl (k a _ n z)) fun z => .inr (k a _ n z)
theorem seq_ne {p : Addr} {H : Hp} {a C dx : Addr} {xs : List V} {fs : List (Str × V)} (h : SeqAt H a xs) (hp : H p = some (.ins C dx fs)) : a ≠ p := fun z => by
  rcases h with h | h
  all_goals
    rw [z, hp] at h
    cases h
section
variable {P : Program} {w : World} {K : PySem.W.Frag} {mg : Str → Option Value} {base : Heap} {CR CN CT uR uN uT : Addr} {fdR fdN fdT : FuncData} {C pc pb gc gb : Addr}
theorem sc_Rule_init : FnScope ["self", "moduli", "ahead", "turn"] ["self", "moduli", "ahead", "turn"] (defScope s_Rule_init) := ⟨rfl, rfl, rfl, by decide +kernel, rfl, by decide +kernel, by decide +kernel⟩
theorem ok_Rule_init {f fI fW fB fM fK fS : Addr} {fd fdI fdW fdB fdM fdK fdS fdC : FuncData} (F : Fun K "__init__" "Rule.__init__" s_Rule_init f fd) (T : TR mg) (TE : TErr K mg CR CN CT uR uN uT fdR fdN fdT) (TU : TRule K mg C pc pb gc gb)
    (FI : Fun K "is_integer" "is_integer" s_is_integer fI fdI) (gI : mg "is_integer" = some (.ref fI)) (bI : Binds K fdI ["value"] [])
    (FW : Fun K "is_within" "is_within" s_is_within fW fdW) (gW : mg "is_within" = some (.ref fW)) (bW : Binds K fdW ["value", "least", "most"] [])
    (FB : Fun K "banks_by" "banks_by" s_banks_by fB fdB) (gB : mg "banks_by" = some (.ref fB)) (bB : Binds K fdB ["moduli"] [])
    (FM : Fun K "are_moduli" "are_moduli" s_are_moduli fM fdM) (gM : mg "are_moduli" = some (.ref fM)) (bM : Binds K fdM ["value"] [])
    (FK : Fun K "are_banks" "are_banks" s_are_banks fK fdK) (gK : mg "are_banks" = some (.ref fK)) (bK : Binds K fdK ["value", "banks"] [])
    (FS : Fun K "shortest_weights" "shortest_weights" s_shortest_weights fS fdS) (gS : mg "shortest_weights" = some (.ref fS)) (bS : Binds K fdS ["ahead", "turn"] [])
    (FC : Fun K "classes" "Rule.classes" s_Rule_classes gc fdC) (bC : Binds K fdC ["self"] []) :
    FnOk P w K mg base (L2.CX P w) 4 f fd ["self", "moduli", "ahead", "turn"] (spInit CR CT C K) := by
  have GB : FnOk P w K mg base CX0 1 fB fdB ["moduli"] (spBanksBy K) := ok_banks_by FB
  have GM : FnOk P w K mg base CX0 3 fM fdM ["value"] (spAreModuli K) := ok_are_moduli FM T FI gI bI FW gW bW FB gB bB
  have GK : FnOk P w K mg base CX0 3 fK fdK ["value", "banks"] (spAreBanks K) := ok_are_banks FK T FI gI bI FW gW bW
  have GS : FnOk P w K mg base CX0 1 fS fdS ["ahead", "turn"] spShort := ok_shortest_weights FS T
  have GC : FnOk P w K mg base CX0 1 gc fdC ["self"] (spClasses C) := ok_Rule_classes FC T TU
  have kB := FB.kp
  have kM := FM.kp
  have kK := FK.kp
  have kS := FS.kp
  refine F.okX sc_Rule_init (fun vs H Q E h => ?_) (fun cdv A outer s H vs Q E hrM h => ?_)
  · obtain ⟨p, dx, m, a, t, om, oa, ot, rfl, _⟩ := h
    rfl
  · obtain ⟨p, dx, m, a, t, om, oa, ot, rfl, hp, hm, ha, ht, la, lt, kE, kQ⟩ := h
    have hrB : Room 1 _ := hrM.mono (by decide)
    have hrE : Room 2 _ := hrM.mono (by decide)
    have hrC : Room 2 _ := hrM.mono (by decide)
    refine ⟨_, (pss_cons (ps_if (pt_not (pt_val (pe_call GM hrM rfl gM kM bM .nil pass0 (pa_cons (pv 1) pa_nil)))) (pss_one (ps_raise rfl (takes_of rfl rfl rfl rfl) (pmk_x TE.iBadRule (ok_BadRule TE) hrE TE.bBadRule (by decide) rfl TE.gBadRule (mono_c mono_nil) (pa_cons pe_str pa_nil)))) pss_nil)
 (pss_cons (ps_if (pt_not (pt_val (pe_call GK hrM rfl gK kK bK .nil pass0 (pa_cons (pv 2) (pa_cons (pe_call GB hrB rfl gB kB bB .nil pass0 (pa_cons (pv 1) pa_nil)) pa_nil))))) (pss_one (ps_raise rfl (takes_of rfl rfl rfl rfl) (pmk_x TE.iBadRule (ok_BadRule TE) hrE TE.bBadRule (by decide) rfl TE.gBadRule (mono_c mono_nil) (pa_cons pe_str pa_nil)))) pss_nil)
 (pss_cons (ps_if (PW.pt (pw_or (pt_not (pt_val (pe_call GK hrM rfl gK kK bK .nil pass0 (pa_cons (pv 3) (pa_cons (pe_call GB hrB rfl gB kB bB .nil pass0 (pa_cons (pv 1) pa_nil)) pa_nil))))) (pw_or1 (pt_cmpR op_eq (pe_callB call_len_seq (by rfl) T.m_len (by decide +kernel) (pa_cons (pv 3) pa_nil)) pe_int (nomark _))))) (pss_one (ps_raise rfl (takes_of rfl rfl rfl rfl) (pmk_x TE.iBadRule (ok_BadRule TE) hrE TE.bBadRule (by decide) rfl TE.gBadRule (mono_c mono_nil) (pa_cons pe_str pa_nil)))) pss_nil)
 (pss_cons (ps_fld (pv 0) (pe_callTy call_tupP (by rfl) T.m_tuple (by decide +kernel) (pa_cons (pv 1) pa_nil)) rfl)
 (pss_cons (ps_asg (pe_call GS hrB rfl gS kS bS .nil pass0 (pa_cons (pe_callTy call_tupP (by rfl) T.m_tuple (by decide +kernel) (pa_cons (pv 2) pa_nil)) (pa_cons (pe_callTy call_tupP (by rfl) T.m_tuple (by decide +kernel) (pa_cons (pv 3) pa_nil)) pa_nil))) (pg_tup rfl (pgs_cons (pg_fld (pv 0)) (pgs_cons (pg_fld (pv 0)) pgs_nil))))
 (pss_one (ps_if (pt_cmpR op_gt (pe_prop (pv 0) TU.cl TU.pC GC hrC bC .nil pass0 rfl) (pe_glob (v := .int 24) rfl T.g_MOST_PLACES.choose_spec ⟨_, rfl⟩) (nomark _)) (pss_one (ps_raise rfl (takes_of rfl rfl rfl rfl) (pmk_x TE.iTooMany (ok_TooMany TE) hrE TE.bTooMany (by decide) rfl TE.gTooMany (mono_c (mono_c mono_nil)) (pa_cons pe_str (pa_cons (pe_glob (v := .int 24) rfl T.g_MOST_PLACES.choose_spec ⟨_, rfl⟩) pa_nil))))) pss_nil))))))), ?_⟩
    refine ⟨_, rfl, m, om, rfl, hm, fun H1 s1 => ⟨_, rfl, ?_⟩⟩
    cases hM : okMod om with
    | false => exact iteT ⟨rfl, fun d H' hd s2 e => kE "moduli" (by simp [ruleErr, hM]) d H' (s1.free hd) ((But.of s1).trans (But.of s2)) e⟩
    | true =>
      refine iteF ?_
      cases hm with
      | other _ _ => cases hM
      | @seq am ms em pm lm =>
        have wm : ms.all (withinV 2 32) = true := by
          have z : (decide (1 ≤ ms.length ∧ ms.length ≤ 5) && (ms.all (withinV 2 32) && decide (prodV ms ≤ 32))) = true := hM
          exact (Bool.and_eq_true_iff.mp (Bool.and_eq_true_iff.mp z).2).1
        refine ⟨_, rfl, _, rfl, am, ms, rfl, em.same s1, wm, a, prodV ms, oa, rfl, ha.same s1, fun H2 s2 => ⟨_, rfl, ?_⟩⟩
        have s12 : Same H H2 := fun _ _ z => s2 _ _ (s1 _ _ z)
        cases hA : okBanks (prodV ms) oa with
        | false => exact iteT ⟨rfl, fun d H' hd s3 e => kE "ahead" (by simp [ruleErr, hM, hA]) d H' (s12.free hd) ((But.of s12).trans (But.of s3)) e⟩
        | true =>
          refine iteF ?_
          refine ⟨_, rfl, _, rfl, am, ms, rfl, em.same s12, wm, t, prodV ms, ot, rfl, ht.same s12, fun H3 s3 => ⟨_, rfl, ?_⟩⟩
          have s13 : Same H H3 := fun _ _ z => s3 _ _ (s12 _ _ z)
          have badT : (okBanks (prodV ms) ot = false ∨ ot = some []) → ∀ d H', H3 d = none → Same H3 H' → H' d = some (.xd [("part", .str "turn")]) → E (.ref CR) (some d) H' := by
            intro z d H' hd s4 e
            refine kE "turn" ?_ d H' (s13.free hd) ((But.of s13).trans (But.of s4)) e
            unfold ruleErr
            rw [if_neg (by rw [hM]; exact Bool.noConfusion), if_neg (by show ¬ okBanks (prodV ms) oa = false; rw [hA]; exact Bool.noConfusion)]
            exact if_pos z
          cases hT : okBanks (prodV ms) ot with
          | false => exact iteT (iteT ⟨rfl, fun d H' hd s4 e => badT (.inl hT) d H' hd s4 e⟩)
          | true =>
            refine iteF ?_
            cases ht with
            | other _ _ => cases hT
            | @seq at_ xt et pt_ lt' =>
              cases ha with
              | other _ _ => cases hA
              | @seq aa xa ea pa_ la' =>
                obtain ⟨ts, rfl⟩ := all_ints (show xt.all (withinV 0 (prodV ms - 1)) = true from hT)
                obtain ⟨ns, rfl⟩ := all_ints (show xa.all (withinV 0 (prodV ms - 1)) = true from hA)
                refine ⟨_, rfl, at_, _, rfl, (et.same s13).elim (fun z => .inl (SqL.of z)) (fun z => .inr (SqT.of z)), rfl, _, rfl, ?_⟩
                refine ite2 (fun c => ?_) (fun c => ?_)
                · have z : ts = [] := by
                    cases ts with
                    | nil => rfl
                    | cons y r =>
                      exfalso
                      have z := V.int.inj (of_decide_eq_true c)
                      simp at z
                      omega
                  exact ⟨rfl, fun d H' hd s4 e => badT (.inr (by rw [z]; rfl)) d H' hd s4 e⟩
                · have tne : ts ≠ [] := fun z => c (decide_eq_true (by rw [z]; rfl))
                  have lns : ns.length ≤ 300 := by
                    have z := la _ rfl
                    rw [List.length_map] at z
                    exact z
                  have lts : ts.length ≤ 300 := by
                    have z := lt _ rfl
                    rw [List.length_map] at z
                    exact z
                  have none_ : ruleErr (some ms) (some (ns.map V.int)) (some (ts.map V.int)) = none := by
                    unfold ruleErr
                    rw [if_neg (by rw [hM]; exact Bool.noConfusion), if_neg (by show ¬ okBanks (prodV ms) _ = false; rw [hA]; exact Bool.noConfusion)]
                    refine if_neg ?_
                    rintro (z | z)
                    · rw [show okBanks (prodV ((some ms).getD [])) (some (ts.map V.int)) = true from hT] at z
                      cases z
                    · exact tne (List.map_eq_nil_iff.mp (Option.some.inj z))
                  obtain ⟨k1, k2⟩ := kQ ms ns ts rfl rfl rfl none_
                  have hp3 : H3 p = some (.ins C dx []) := s13 _ _ hp
                  refine ⟨_, rfl, am, ms, rfl, em.same s13, fun q1 H4 s4 h4 => ⟨_, rfl, p, C, dx, [], rfl, s4 _ _ hp3, TU.cl, TU.nM, (by show 0 < 1000; decide), ?_⟩⟩
                  have b5 : But p H (upd H4 p (.ins C dx (putF "moduli" (.ref q1) []))) := ((But.of s13).trans (But.of s4)).put
                  have n1 : q1 ≠ p := fun z => by
                    rw [z, s4 _ _ hp3] at h4
                    cases h4
                  refine ⟨_, rfl, aa, _, rfl, seq_but ea b5 (seq_ne ea hp), fun q2 H6 s6 h6 => ⟨_, rfl, at_, _, rfl, (seq_but et b5 (seq_ne et hp)).same s6, fun q3 H7 s7 h7 => ?_⟩⟩
                  refine ⟨q2, q3, ns, ts, rfl, s7 _ _ h6, h7, tne, lns, lts, fun H8 r x y s8 h8 hx hy => ?_⟩
                  have s58 : Same (upd H4 p (.ins C dx (putF "moduli" (.ref q1) []))) H8 := fun _ _ z => s8 _ _ (s7 _ _ (s6 _ _ z))
                  have hp8 : H8 p = some (.ins C dx (putF "moduli" (.ref q1) [])) := s58 _ _ upd_same
                  have hq8 : H8 q1 = some (.tup ms) := s58 _ _ (by rw [upd_ne n1]; exact h4)
                  have nx : x ≠ p := fun z => by
                    rw [z, hp8] at hx
                    cases hx
                  have ny : y ≠ p := fun z => by
                    rw [z, hp8] at hy
                    cases hy
                  refine ⟨r, _, rfl, SqT.of h8, rfl, _, _, rfl, _, rfl, p, C, dx, _, rfl, hp8, TU.cl, TU.nA, (by show 1 < 1000; decide), _, _, rfl, _, rfl, p, C, dx, _, rfl, upd_same, TU.cl, TU.nT, (by show 2 < 1000; decide), rfl, ?_⟩
                  rw [upd_upd]
                  have RA : RuleAt C (upd H8 p (.ins C dx (flds (.ref q1) (.ref x) (.ref y)))) p ms (normW ns ts).1 (normW ns ts).2 :=
                    ⟨dx, q1, x, y, upd_same, by rw [upd_ne n1]; exact hq8, by rw [upd_ne nx]; exact hx, by rw [upd_ne ny]; exact hy⟩
                  have b9 : But p H (upd H8 p (.ins C dx (flds (.ref q1) (.ref x) (.ref y)))) := (b5.trans (But.of s58)).put
                  refine ⟨_, rfl, p, dx, _, rfl, upd_same, p, ms, _, _, rfl, RA, _, _, rfl, rfl, _, rfl, ?_⟩
                  refine ite2 (fun c5 => ?_) (fun c5 => ?_)
                  · have c6 : ((normW ns ts).1.length : Int) + ((normW ns ts).2.length : Int) > 24 := of_decide_eq_true c5
                    refine ⟨rfl, fun d H' hd s9 e => k1 (by omega) d H' (b9.free hd fun z => ?_) (b9.trans (But.of s9)) e⟩
                    rw [z, upd_same] at hd
                    cases hd
                  · have c6 : ¬ ((normW ns ts).1.length : Int) + ((normW ns ts).2.length : Int) > 24 := fun z => c5 (decide_eq_true z)
                    exact k2 (by omega) _ b9 RA
end
end Toy
set_option maxRecDepth 100000
namespace L2
open PySem PySem.Spec PyProof.Rows
section
variable {X : Cx} {CX : CXT} {k : Nat} {f C : Addr} {fd : FuncData} {ps ks : List Str} {sp : Sp} {E : XK} {m : Str} {apos pos : Pos} {o : Expr} {kws : List Keyword} {ta : TE} {tk : TA} {g : List Value → List Value → List Value} {gV : List V → List V → List V}
/-- o.m(k = v, ..) -/
def tMethK0 (C : Addr) (m : Str) (n : Nat) (sp : Sp) (gV : List V → List V → List V) (E : XK) (ta : TE) (tk : TA) : TE := fun σ H Q => ta σ H fun x H1 => ∃ a dx fs, x = .ref a ∧ H1 a = some (.ins C dx fs) ∧ fs.lookup m = none ∧ tk σ H1 fun zs H2 => zs.length = n ∧ sp (gV [x] zs) H2 Q E
theorem pe_methK0 {pl : Sem Bool} (he : PE X o ta) (c : Cls X.K C) (hm : Meth X.K C m f) (F : FnOk X.prog X.w X.K X.mg X.base CX k f fd ps sp) (hr : Room k X.A) (hb : KBn X.K fd ps 1 ks g gV) (hx : Passes CX X E) (hkw : PK X kws tk)
    (hall : (backToKw pos (keywordEach kws X.env)).all (·.1.isSome) = true := by rfl) (hks : (backToKw pos (keywordEach kws X.env)).filterMap (·.1) = ks := by rfl)
    (hpl : ((backTo pos (starEach [] X.env)).any (·.1) || (backToKw pos (keywordEach kws X.env)).any (·.1.isNone)) = false := by rfl)
    (ht : eval (.Call (.Attribute o m apos) [] kws pos) X.env = (do
      let ov ← eval o X.env
      standAt apos.atName
      let (f, first) ← holding [ov] (getMethod ov m pl)
      callWith pos f first (backTo pos (starEach [] X.env)) (backToKw pos (keywordEach kws X.env))) := by rfl) :
    PE X (.Call (.Attribute o m apos) [] kws pos) (tMethK0 C m ks.length sp gV E ta tk) := by
  constructor
  intro pins s σ H Q I h
  refine PySem.W.methodCall_KW (pl := pl) (thn (he.run pins s σ H _ I h) ?_) ht
  rintro u s1 ⟨x, H1, J, rx, a, dx, fs, rfl, ea, l, q⟩
  obtain rfl : u = Value.ref a := rx
  refine getmeth_ok J ea c hm l (PySem.W.callWith_KW0 (first := [.ref a]) (h₀ := X.base) J.ok.mod.kin hm.kp hall (thn (hkw.run pos pins s1 σ H1 _ J q) ?_) hpl)
  rintro ws s2 ⟨zs, H2, J2, rz, l2, q2⟩
  rw [hks]
  exact ⟨J2.kIn, run_fnN (n := 1) (us := [.ref a]) (vs := [.ref a]) F hr hb hx J2 (.cons rfl .nil) rz rfl l2 q2⟩
end
end L2
set_option maxRecDepth 100000
namespace L2
open PySem PySem.Spec PyProof.Rows
/-- plain data that a law shows: ints, texts, lists and tuples of ints, one small dict -/
inductive Dat0 (H : Hp) : V → PyData → Prop where
  | non : Dat0 H .non .none
  | bl (b : Bool) : Dat0 H (.bl b) (.bool b)
  | int (i : Int) : Dat0 H (.int i) (.int i)
  | str (z : Str) : Dat0 H (.str z) (.str z)
  | tup {a : Addr} {ns : List Int} (e : H a = some (.tup (ns.map V.int))) : Dat0 H (.ref a) (.tuple (ns.map .int))
  | lst {a : Addr} {ns : List Int} (e : H a = some (.lst (ns.map V.int))) (n : a ≠ sysModules) : Dat0 H (.ref a) (.list (ns.map .int))
  | dct {a : Addr} {z : Str} {i : Int} (e : H a = some (.dK [(.inr z, .int i)])) : Dat0 H (.ref a) (.dict [(.str z, .int i)])
/-- x reads as d, in every state over H, and the modules' own dict is no part of it -/
def RdS (X : Cx) (H : Hp) (x : V) (d : PyData) : Prop := ∀ (pins : List (Addr × Obj)) (σ : St) (s : Shared) (u : Value), Inv X pins σ H s → RelV x u → ∃ as, Reads s.heap u d as ∧ sysModules ∉ as
theorem RdS.v {X : Cx} {H : Hp} {x : V} {d : PyData} (h : RdS X H x d) : RdV X H x d := fun pins σ s u I r =>
  let ⟨as, q, m⟩ := h pins σ s u I r
  ⟨as, q, fun _ => m⟩
theorem reads_ints {h : Heap} : ∀ {ns : List Int} {us : List Value}, Vals (ns.map V.int) us → ReadsAll h us (ns.map PyData.int) []
  | [], _, r => by
    cases r
    exact .nil
  | z :: ns, _, r => by
    cases r with
    | cons a b =>
      obtain ⟨t, rfl⟩ := a
      exact ReadsAll.cons (as := []) (.int z t) (reads_ints b)
theorem Dat0.rd {X : Cx} {H : Hp} {v : V} {d : PyData} (h : Dat0 H v d) : RdS X H v d := by
  cases h with
  | non =>
    intro pins σ s u I r
    obtain rfl : u = Value.none := r
    exact ⟨_, .none, fun m => nomatch m⟩
  | bl b =>
    intro pins σ s u I r
    obtain rfl : u = Value.bool b := r
    exact ⟨_, .bool b, fun m => nomatch m⟩
  | int i =>
    intro pins σ s u I r
    obtain ⟨t, rfl⟩ : ∃ t, u = Value.int i t := r
    exact ⟨_, .int i t, fun m => nomatch m⟩
  | str z =>
    intro pins σ s u I r
    obtain ⟨t, rfl⟩ : ∃ t, u = Value.str z t := r
    exact ⟨_, .str z t, fun m => nomatch m⟩
  | @tup a ns e =>
    intro pins σ s u I r
    obtain rfl : u = Value.ref a := r
    obtain ⟨its, rv, ⟨o, ho, hc, n, hd⟩, _⟩ := I.tuple (SqT.of e)
    exact ⟨_, .tuple ho hc hd (reads_ints rv), fun m => nomatch m⟩
  | @lst a ns e n =>
    intro pins σ s u I r
    obtain rfl : u = Value.ref a := r
    obtain ⟨its, rv, ⟨o, n', ho, hc, _, hd⟩, _⟩ := I.list (SqL.of e)
    refine ⟨_, .list ho hc hd (reads_ints rv), fun m => ?_⟩
    exact n (by simpa using m : sysModules = a).symm
  | @dct a z i e =>
    intro pins σ s u I r
    obtain rfl : u = Value.ref a := r
    obtain ⟨_, sm, vs, kv, o, es, ep, ho, ex, hd, kk, pr, _⟩ := dk_of I.hok e
    cases kv with
    | @cons p q _ r2 e1 e2 =>
      cases e2
      obtain ⟨k1, w1⟩ := q
      obtain ⟨f1, f2⟩ := e1
      obtain ⟨t2, rfl⟩ : ∃ t, w1 = Value.int i t := f2
      obtain rfl : Sum.inr z = k1 := f1
      obtain ⟨d0, rest, er, k0, v0, pr2⟩ : ∃ d0 rest, es.toList = d0 :: rest ∧ keyIs (.inr z) d0.key = true ∧ d0.val = Value.int i t2 ∧ Pairs (mixKind X.prog X.w) rest [] := by
        generalize es.toList = l at pr
        cases pr with
        | cons a b c => exact ⟨_, _, rfl, a, b, c⟩
      cases pr2
      rcases keyIs_shape k0 with ⟨_, _, q, _⟩ | ⟨z', t, q, ek⟩
      · cases q
      · cases q
        have h1 : ReadsAll s.heap (es.toList.map (·.key)) [PyData.str z] ([] ++ []) := by
          rw [er]
          show ReadsAll s.heap [d0.key] _ _
          rw [ek]
          exact .cons (.str z t) .nil
        have h2 : ReadsAll s.heap (es.toList.map (·.val)) [PyData.int i] ([] ++ []) := by
          rw [er]
          show ReadsAll s.heap [d0.val] _ _
          rw [v0]
          exact .cons (.int i t2) .nil
        refine ⟨_, Reads.dict (kvs := [(PyData.str z, PyData.int i)]) ho ex.1 hd h1 h2, fun m => ?_⟩
        have e1 : sysModules = a := by simpa using m
        rw [← e1] at sm
        exact absurd sm (by decide)
/-- a list of such, at an address that is not the modules' own -/
theorem rd_list {X : Cx} {H : Hp} {q : Addr} {vs : List V} {ds : List PyData} (hq : H q = some (.lst vs)) (nq : q ≠ sysModules) (h : Paired (fun v d => RdS X H v d) vs ds) : RdS X H (.ref q) (.list ds) := by
  intro pins σ s u I r
  obtain rfl : u = Value.ref q := r
  obtain ⟨its, rv, ⟨o, n, ho, hc, _, hd⟩, _⟩ := I.list (SqL.of hq)
  have all : ∀ {vs : List V} {ds : List PyData} {us : List Value}, Paired (fun v d => RdS X H v d) vs ds → Vals vs us → ∃ as, ReadsAll s.heap us ds as ∧ sysModules ∉ as := by
    intro vs ds us h
    induction h generalizing us with
    | nil =>
      intro r
      cases r
      exact ⟨_, .nil, fun m => nomatch m⟩
    | @cons v d vs ds a b ih =>
      intro r
      cases r with
      | cons r1 r2 =>
        obtain ⟨as, q1, m1⟩ := a pins σ s _ I r1
        obtain ⟨bs, q2, m2⟩ := ih r2
        exact ⟨_, .cons q1 q2, fun m => (List.mem_append.mp m).elim m1 m2⟩
  obtain ⟨as, q1, m1⟩ := all h rv
  refine ⟨_, Reads.list ho hc hd q1, fun m => ?_⟩
  rcases List.mem_cons.mp m with e | e
  · exact nq e.symm
  · exact m1 e
/-- a list display, with where it does not stand -/
def tLstS (t : TA) : TE := fun σ H Q => t σ H fun xs H1 => xs.length ≤ sizeLine ∧ ∀ p, H1 p = none → p ≠ sysModules → Q (.ref p) (upd H1 p (.lst xs))
theorem pe_lstS {X : Cx} {es : List Expr} {t : TA} {pos : Pos} (h : PA X es t) : PE X (.List es pos) (tLstS t) := by
  refine ⟨fun pins s σ H Q I hq => ?_⟩
  refine wpAny_List_spliced (thn (h.run pos pins s σ H _ I hq) fun us s1 hh => ?_)
  obtain ⟨xs, H1, I1, r, z, q⟩ := hh
  have z' : us.length ≤ sizeLine := by rw [← r.length]; exact z
  refine ⟨z', V.ref s1.heap.objs.size, upd H1 s1.heap.objs.size (.lst xs), ?_, rfl, q _ (I1.hok.fresh (Nat.le_refl _)) (Nat.ne_of_gt I1.big)⟩
  exact I1.laid (t' := s1.toks) (fun _ _ e => Heap.get?_push_of_some _ e) (Nat.le_refl _) ⟨z, us, 0, r, Heap.get?_push_size _ rfl⟩
end L2
set_option maxRecDepth 100000
namespace L2
open PySem PySem.Spec PyProof.Rows LamX
/-! C(k = v, ..) without positional arguments -/
def tMakeN0 (C : Addr) (m : Nat) (sp : Sp) (gV : List V → List V → List V) (E : XK) (tk : TA) : TE := fun σ H Q => tk σ H fun zs H2 => zs.length = m ∧
  ∀ x dx, H2 x = none → H2 dx = none → dx ≠ x → sp (gV [.ref x] zs) (upd (upd H2 dx (.own x)) x (.ins C dx [])) (fun v H3 => v = .non ∧ Q (.ref x) H3) E
section
variable {X : Cx} {CX : CXT} {k n : Nat} {f C : Addr} {fd : FuncData} {ps ks : List Str} {sp : Sp} {E : XK} {x : Str} {p pos : Pos} {kws : List Keyword} {tk : TA} {g : List Value → List Value → List Value} {gV : List V → List V → List V}
theorem pe_makeN0 (M : Mk X.K C f) (F : FnOk X.prog X.w X.K X.mg X.base CX k f fd ps sp) (hr : Room (k + 1) X.A) (hg : Gl X x) (hm : X.mg x = some (.ref C)) (hb : KBn X.K fd ps 1 ks g gV) (hx : Passes CX X E) (hkw : PK X kws tk)
    (hall : (backToKw pos (keywordEach kws X.env)).all (·.1.isSome) = true := by rfl) (hks : (backToKw pos (keywordEach kws X.env)).filterMap (·.1) = ks := by rfl) (hdb : (x == ("__debug__" : Str)) = false := by decide)
    (hpl : ((backTo pos (starEach [] X.env)).any (·.1) || (backToKw pos (keywordEach kws X.env)).any (·.1.isNone)) = false := by rfl) :
    PE X (.Call (.Name x p) [] kws pos) (tMakeN0 C ks.length sp gV E tk) := by
  refine ⟨fun pins s σ H Q I h => wpAny_Call_Name_kw (ld_glob I hg hm ?_ hdb)⟩
  refine PySem.W.callWith_KW0 (h₀ := X.base) I.ok.mod.kin M.kp hall ?_ hpl
  refine thn (hkw.run pos pins s σ H _ I h) fun ws s2 hh => ?_
  obtain ⟨zs, H2, I2, rz, l2, q2⟩ := hh
  refine ⟨I2.kIn, ?_⟩
  rw [hks]
  exact run_makeN (n := 0) (us := []) (vs := []) M F hr hb hx I2 .nil rz rfl l2 q2
end
/-! repr, its reading the same in each context -/
def rReprA : List V → Hp → VK → Prop := fun xs H Q => ∃ (x : V) (d : PyData), xs = [x] ∧ (∀ X : Cx, RdV X H x d) ∧ d.showable = true ∧ d.depth ≤ 20 ∧ d.shown.length ≤ sizeLine ∧ Q (.str d.shown) H
theorem call_reprA {X : Cx} (gd : X.A.guards = some []) (hu : X.A.units + 64 < cLine) : CallR X (.builtin "repr") rReprA := fun pins s σ H xs us Q I r h => by
  obtain ⟨x, d, e, rd, q⟩ := h
  exact call_reprG gd hu pins s σ H xs us Q I r ⟨x, d, e, rd X, q⟩
/-! what stays: all but the addresses in A, which hold lists, and tables -/
structure Ev (A : Addr → Prop) (H H' : Hp) : Prop where
  st : ∀ b o, ¬ A b → H b = some o → (∀ ps, o ≠ .tbl ps) → H' b = some o
  mu : ∀ b, A b → H b = none ∨ ∃ xs, H b = some (.lst xs)
theorem Ev.refl {A : Addr → Prop} {H : Hp} (mu : ∀ b, A b → H b = none ∨ ∃ xs, H b = some (.lst xs)) : Ev A H H := ⟨fun _ _ _ h _ => h, mu⟩
theorem Ev.same {A : Addr → Prop} {H G G' : Hp} (E : Ev A H G) (s : Same G G') : Ev A H G' := ⟨fun b o n h t => s _ _ (E.st b o n h t), E.mu⟩
theorem Ev.lay {A : Addr → Prop} {H G : Hp} {q : Addr} {o : HO} (E : Ev A H G) (h : G q = none) : Ev A H (upd G q o) := E.same ((Same.refl G).new h)
theorem Ev.ext {A : Addr → Prop} {H G G' : Hp} (E : Ev A H G) (e : ExtN G G') : Ev A H G' := ⟨fun b o n h t => e _ _ (E.st b o n h t) t, E.mu⟩
theorem Ev.put {A : Addr → Prop} {H G : Hp} {q : Addr} {o : HO} (E : Ev A H G) (h : A q) : Ev A H (upd G q o) := ⟨fun b u n e t => by
  rw [upd_ne (fun z => n (by rw [z]; exact h))]
  exact E.st b u n e t, E.mu⟩
theorem Ev.get {A : Addr → Prop} {H H' : Hp} {b : Addr} {o : HO} (E : Ev A H H') (h : H b = some o) (n1 : ∀ xs, o ≠ .lst xs) (n2 : ∀ ps, o ≠ .tbl ps) : H' b = some o :=
  E.st b o (fun z => by
    rcases E.mu b z with e | ⟨xs, e⟩
    · rw [e] at h
      cases h
    · rw [e] at h
      exact n1 xs (Option.some.inj h).symm) h n2
theorem Ev.tup {A : Addr → Prop} {H H' : Hp} {b : Addr} {xs : List V} (E : Ev A H H') (h : H b = some (.tup xs)) : H' b = some (.tup xs) := E.get h (fun _ z => by cases z) fun _ z => by cases z
theorem Ev.ins {A : Addr → Prop} {H H' : Hp} {b C dx : Addr} {fs : List (Str × V)} (E : Ev A H H') (h : H b = some (.ins C dx fs)) : H' b = some (.ins C dx fs) := E.get h (fun _ z => by cases z) fun _ z => by cases z
theorem Ev.dK {A : Addr → Prop} {H H' : Hp} {b : Addr} {xs : List (Key × V)} (E : Ev A H H') (h : H b = some (.dK xs)) : H' b = some (.dK xs) := E.get h (fun _ z => by cases z) fun _ z => by cases z
theorem Ev.xd {A : Addr → Prop} {H H' : Hp} {b : Addr} {fs : List (Str × V)} (E : Ev A H H') (h : H b = some (.xd fs)) : H' b = some (.xd fs) := E.get h (fun _ z => by cases z) fun _ z => by cases z
theorem Ev.lst {A : Addr → Prop} {H H' : Hp} {b : Addr} {xs : List V} (E : Ev A H H') (n : ¬ A b) (h : H b = some (.lst xs)) : H' b = some (.lst xs) := E.st b _ n h fun _ z => by cases z
theorem Ev.mono {A B : Addr → Prop} {H H' : Hp} (E : Ev A H H') (i : ∀ b, A b → B b) (mu : ∀ b, B b → H b = none ∨ ∃ xs, H b = some (.lst xs)) : Ev B H H' := ⟨fun b o n h t => E.st b o (fun z => n (i b z)) h t, mu⟩
theorem Ev.trans {A : Addr → Prop} {H G G' : Hp} (E : Ev A H G) (F : Ev A G G') : Ev A H G' := ⟨fun b o n h t => F.st b o n (E.st b o n h t) t, E.mu⟩
/-! rows of heard errors -/
inductive HE (H : Hp) : V → PyData → Prop where
  | ss {t : Addr} {a b : Str} (h : H t = some (.tup [.str a, .str b])) : HE H (.ref t) (.tuple [.str a, .str b])
  | si {t : Addr} {a : Str} {n : Int} (h : H t = some (.tup [.str a, .int n])) : HE H (.ref t) (.tuple [.str a, .int n])
inductive HRows (H : Hp) : List V → List PyData → Prop where
  | nil : HRows H [] []
  | cons {v : V} {d : PyData} {vs : List V} {ds : List PyData} (h : HE H v d) (r : HRows H vs ds) : HRows H (v :: vs) (d :: ds)
theorem HE.move {H H' : Hp} {v : V} {d : PyData} (st : ∀ b xs, H b = some (.tup xs) → H' b = some (.tup xs)) (h : HE H v d) : HE H' v d := by
  cases h with
  | ss h => exact .ss (st _ _ h)
  | si h => exact .si (st _ _ h)
theorem HRows.move {H H' : Hp} (st : ∀ b xs, H b = some (.tup xs) → H' b = some (.tup xs)) : ∀ {vs : List V} {ds : List PyData}, HRows H vs ds → HRows H' vs ds
  | _, _, .nil => .nil
  | _, _, .cons h r => .cons (h.move st) (HRows.move st r)
theorem HRows.app {H : Hp} : ∀ {vs us : List V} {ds es : List PyData}, HRows H vs ds → HRows H us es → HRows H (vs ++ us) (ds ++ es)
  | _, _, _, _, .nil, r => r
  | _, _, _, _, .cons h q, r => .cons h (HRows.app q r)
theorem HE.dp {K : PySem.W.Frag} {H : Hp} {v : V} {d : PyData} (h : HE H v d) : Dp K H v d := by
  cases h with
  | ss h => exact .tup (SqT.of h) (.cons (.str _) (.cons (.str _) .nil))
  | si h => exact .tup (SqT.of h) (.cons (.str _) (.cons (.int _) .nil))
theorem HRows.dp {K : PySem.W.Frag} {H : Hp} : ∀ {vs : List V} {ds : List PyData}, HRows H vs ds → DpAll K H vs ds
  | _, _, .nil => .nil
  | _, _, .cons h r => .cons h.dp r.dp
theorem HRows.len {H : Hp} : ∀ {vs : List V} {ds : List PyData}, HRows H vs ds → vs.length = ds.length
  | _, _, .nil => rfl
  | _, _, .cons h r => congrArg Nat.succ r.len
/-- a row that may be compared -/
def rowOk : PyData → Bool
  | .tuple [.str a, .str b] => PyData.strOk a && PyData.strOk b
  | .tuple [.str a, .int _] => PyData.strOk a
  | _ => false
theorem rowOk_lay {d : PyData} (h : rowOk d = true) : PyData.canLay0 d = true ∧ d.depth ≤ 1 ∧ PyData.eqv d d = true := by
  unfold rowOk at h
  split at h
  · rename_i a b
    obtain ⟨h1, h2⟩ := Bool.and_eq_true_iff.mp h
    simp [PyData.canLay0, PyData.canLayAll0, PyData.depth, PyData.depthAll, PyData.eqv, PyData.eqvAll, h1, h2]
  · rename_i a n
    simp [PyData.canLay0, PyData.canLayAll0, PyData.depth, PyData.depthAll, PyData.eqv, PyData.eqvAll, h]
  · cases h
theorem rows_lay : ∀ {ds : List PyData}, ds.all rowOk = true → PyData.canLayAll0 ds = true ∧ PyData.depthAll ds ≤ 1 ∧ PyData.eqvAll ds ds = true
  | [], _ => ⟨rfl, by simp [PyData.depthAll], rfl⟩
  | d :: r, h => by
    obtain ⟨h1, h2⟩ := Bool.and_eq_true_iff.mp (show (rowOk d && r.all rowOk) = true from h)
    obtain ⟨a1, a2, a3⟩ := rowOk_lay h1
    obtain ⟨b1, b2, b3⟩ := rows_lay h2
    refine ⟨by simp [PyData.canLayAll0, a1, b1], ?_, by simp [PyData.eqvAll, a3, b3]⟩
    simp only [PyData.depthAll]
    omega
theorem shaped_rows {ds : List PyData} (h : ds.all rowOk = true) : PySem.SeqAt.shaped (.list ds) = true := by
  obtain ⟨h1, h2, _⟩ := rows_lay h
  simp only [PySem.SeqAt.shaped, PyData.canLay0, PyData.depth, h1, Bool.true_and, Bool.and_true, decide_eq_true_eq]
  first | omega | exact decide_eq_true (by omega) | simp; omega
theorem eqv_rows {ds : List PyData} (h : ds.all rowOk = true) : PyData.eqv (.list ds) (.list ds) = true := (rows_lay h).2.2
end L2
set_option maxRecDepth 100000
namespace L2
open PySem PySem.Spec PyProof.Rows LamX
/-! cls(e, ..), cls a name of the def that holds the class -/
def tMakeV (i : Nat) (C : Addr) (sp : Sp) (dvs : List V) (E : XK) (t : TA) : TE := fun σ H Q => σ[i]? = some (some (.ref C)) ∧ tMake C sp dvs E t σ H Q
theorem pe_makeV {X : Cx} {CX : CXT} {k : Nat} {f C : Addr} {fd : FuncData} {ps : List Str} {ds : List Value} {dvs : List V} {sp : Sp} {E : XK} {x : Str} {p pos : Pos} {e : Expr} {es : List Expr} {t : TA} {i : Nat}
    (M : Mk X.K C f) (F : FnOk X.prog X.w X.K X.mg X.base CX k f fd ps sp) (hr : Room (k + 1) X.A) (hN : X.N[i]? = some x) (hv : Vis X.env.scope x) (hb : Binds X.K fd ps ds) (hd : Vals dvs ds) (hx : Passes CX X E)
    (ha : PA X (e :: es) t) (hdb : (x == ("__debug__" : Str)) = false := by decide) (hcd : (x == ("__classdict__" : Str)) = false := by decide) (he : starEach (e :: es) X.env = (false, eval e X.env) :: starEach es X.env := by rfl) (hpl : (backTo pos (starEach es X.env)).any (·.1) = false := by rfl) :
    PE X (.Call (.Name x p) (e :: es) [] pos) (tMakeV i C sp dvs E t) := by
  refine ⟨fun pins s σ H Q I h => ?_⟩
  obtain ⟨hs, h⟩ := h
  refine wpAny_Call_Name_kw (thn ((pe_var (pos := p) (i := i) hN hv hdb hcd).run pins s σ H (fun v H1 => v = .ref C ∧ H1 = H) I ⟨.ref C, hs, rfl, rfl⟩) fun u s1 ⟨v, H1, I1, r1, q1⟩ => ?_)
  obtain ⟨rfl, rfl⟩ := q1
  obtain rfl : u = Value.ref C := r1
  refine PySem.W.callWith_K (h₀ := X.base) I.ok.mod.kin M.kp (thn (ha.run pos pins s1 σ _ _ I1 h) fun us s2 ⟨vs, H2, I2, r, q⟩ => ⟨I2.kIn, ?_⟩) he hpl
  exact run_make M F hr hb hd hx I2 r q
end L2
namespace Toy
open PySem L2 LamX ClX
/-! what follows of the arguments of a Rule, as in the proof of the law of wrong parts -/
theorem okMod_all {ms : List V} (h : okMod (some ms) = true) : ms.all (withinV 2 32) = true ∧ prodV ms ≤ 32 := by
  have z : (decide (1 ≤ ms.length ∧ ms.length ≤ 5) && (ms.all (withinV 2 32) && decide (prodV ms ≤ 32))) = true := h
  have y := Bool.and_eq_true_iff.mp (Bool.and_eq_true_iff.mp z).2
  exact ⟨y.1, of_decide_eq_true y.2⟩
theorem map_int_inj {a b : List Int} (h : a.map V.int = b.map V.int) : a = b := by
  induction a generalizing b with
  | nil =>
    cases b with
    | nil => rfl
    | cons y r => cases h
  | cons x r ih =>
    cases b with
    | nil => cases h
    | cons y r' =>
      have h1 := List.cons.inj h
      rw [V.int.inj h1.1, ih h1.2]
/-! arguments that stay while the addresses in A change -/
def PlainA (K : PySem.W.Frag) (A : Addr → Prop) (H : Hp) (y : V) : Prop := ∃ S, Plain K H y S ∧ ∀ b, y = .ref b → ¬ A b
inductive ArgA (K : PySem.W.Frag) (A : Addr → Prop) (H : Hp) : V → Option (List V) → Prop where
  | seq {a : Addr} {xs : List V} (e : SeqAt H a xs) (n : ¬ A a) (q : ∀ y ∈ xs, PlainA K A H y) (l : xs.length ≤ 300) : ArgA K A H (.ref a) (some xs)
  | other {x : V} {S : String} (h : Plain K H x S) (n : ∀ b, x = .ref b → ¬ A b) (k : PySem.W.kitAny K (.type S) [.type "list", .type "tuple"] = some false) : ArgA K A H x none
theorem plain_move {K : PySem.W.Frag} {A : Addr → Prop} {H H' : Hp} {y : V} {S : String} (st : ∀ b o, ¬ A b → H b = some o → (∀ ps, o ≠ .tbl ps) → H' b = some o) (n : ∀ b, y = .ref b → ¬ A b) (h : Plain K H y S) : Plain K H' y S := by
  cases h with
  | non => exact .non
  | bl b => exact .bl b
  | int i => exact .int i
  | str z => exact .str z
  | lst e => exact .lst (st _ _ (n _ rfl) e fun _ z => by cases z)
  | tup e => exact .tup (st _ _ (n _ rfl) e fun _ z => by cases z)
  | dK e => exact .dK (st _ _ (n _ rfl) e fun _ z => by cases z)
theorem ArgA.move {K : PySem.W.Frag} {A : Addr → Prop} {H H' : Hp} {v : V} {o : Option (List V)} (h : ArgA K A H v o) (st : ∀ b o, ¬ A b → H b = some o → (∀ ps, o ≠ .tbl ps) → H' b = some o) : ArgA K A H' v o := by
  cases h with
  | seq e n q l => exact .seq (e.elim (fun z => .inl (st _ _ n z fun _ y => by cases y)) fun z => .inr (st _ _ n z fun _ y => by cases y)) n (fun y hy => let ⟨S, h1, h2⟩ := q y hy; ⟨S, plain_move st h2 h1, h2⟩) l
  | other h n k => exact .other (plain_move st n h) n k
theorem ArgA.same {K : PySem.W.Frag} {A : Addr → Prop} {H H' : Hp} {v : V} {o : Option (List V)} (h : ArgA K A H v o) (s : Same H H') : ArgA K A H' v o := h.move fun b o _ e _ => s b o e
theorem ArgA.ext {K : PySem.W.Frag} {A : Addr → Prop} {H H' : Hp} {v : V} {o : Option (List V)} (h : ArgA K A H v o) (s : ExtN H H') : ArgA K A H' v o := h.move fun b o _ e n => s b o e n
theorem ArgA.but {K : PySem.W.Frag} {A : Addr → Prop} {p : Addr} {H H' : Hp} {v : V} {o : Option (List V)} (h : ArgA K A H v o) (hp : A p) (s : But p H H') : ArgA K A H' v o := h.move fun b o n e _ => s b o (fun z => n (by rw [z]; exact hp)) e
theorem ArgA.put {K : PySem.W.Frag} {A : Addr → Prop} {p : Addr} {H : Hp} {v : V} {o : Option (List V)} {u : HO} (h : ArgA K A H v o) (hp : A p) : ArgA K A (upd H p u) v o := h.move fun b o n e _ => by
  rw [upd_ne (fun z => n (by rw [z]; exact hp))]
  exact e
theorem plain_there {K : PySem.W.Frag} {H : Hp} {y : V} {S : String} (h : Plain K H y S) {b : Addr} (e : y = .ref b) : ∃ o, H b = some o := by
  subst e
  cases h with
  | lst e => exact ⟨_, e⟩
  | tup e => exact ⟨_, e⟩
  | dK e => exact ⟨_, e⟩
theorem plain_avoid {K : PySem.W.Frag} {A : Addr → Prop} {H : Hp} {q : Addr} (hq : H q = none) {y : V} {S : String} (h : Plain K H y S) (n : ∀ b, y = .ref b → ¬ A b) : ∀ b, y = .ref b → ¬ (A b ∨ b = q) := fun b e z => by
  rcases z with z | z
  · exact n b e z
  · obtain ⟨o, h2⟩ := plain_there h e
    rw [z, hq] at h2
    cases h2
theorem ArgA.avoid {K : PySem.W.Frag} {A : Addr → Prop} {H : Hp} {q : Addr} {v : V} {o : Option (List V)} (h : ArgA K A H v o) (hq : H q = none) : ArgA K (fun b => A b ∨ b = q) H v o := by
  cases h with
  | seq e n q' l =>
    refine .seq e (fun z => ?_) (fun y hy => let ⟨S, h1, h2⟩ := q' y hy; ⟨S, h1, plain_avoid hq h1 h2⟩) l
    rcases z with z | z
    · exact n z
    · rcases e with e | e <;> (rw [z, hq] at e; cases e)
  | other h n k => exact .other h (plain_avoid hq h n) k
theorem ArgA.arg {K : PySem.W.Frag} {A : Addr → Prop} {H : Hp} {v : V} {o : Option (List V)} (h : ArgA K A H v o) : Arg K H v o ∧ ∀ ys, o = some ys → ys.length ≤ 300 := by
  cases h with
  | seq e n q l => exact ⟨.seq e (fun y hy => let ⟨S, h1, _⟩ := q y hy; ⟨S, h1⟩) (by omega), fun ys e => by rw [← Option.some.inj e]; exact l⟩
  | other h n k => exact ⟨.other h k, fun _ e => nomatch e⟩
theorem argA_ints {K : PySem.W.Frag} {A : Addr → Prop} {H : Hp} {a : Addr} {ns : List Int} (e : SeqAt H a (ns.map V.int)) (n : ¬ A a) (l : ns.length ≤ 300) : ArgA K A H (.ref a) (some (ns.map V.int)) :=
  .seq e n (fun y hy => by obtain ⟨i, _, rfl⟩ := List.mem_map.mp hy; exact ⟨_, .int i, fun _ z => nomatch z⟩) (by rw [List.length_map]; exact l)
theorem argA_mods {K : PySem.W.Frag} {A : Addr → Prop} {H : Hp} {a : Addr} {ms : List V} (e : SeqAt H a ms) (n : ¬ A a) (ok : okMod (some ms) = true) : ArgA K A H (.ref a) (some ms) := by
  obtain ⟨wm, _⟩ := okMod_all ok
  have z : (decide (1 ≤ ms.length ∧ ms.length ≤ 5) && (ms.all (withinV 2 32) && decide (prodV ms ≤ 32))) = true := ok
  have l := of_decide_eq_true (Bool.and_eq_true_iff.mp z).1
  refine .seq e n (fun y hy => ?_) (by omega)
  obtain ⟨i, rfl, _⟩ := within_int (List.all_eq_true.mp wm y hy)
  exact ⟨_, .int i, fun _ z => nomatch z⟩
/-! Rule(..) with such arguments -/
theorem made_same {G : Hp} {x dx C : Addr} (nx : G x = none) (ndx : G dx = none) : Same G (upd (upd G dx (.own x)) x (.ins C dx [])) := fun b o e => by
  rw [upd_ne (ne_of_none e nx), upd_ne (ne_of_none e ndx)]
  exact e
theorem init_bad {CR CT C x dx : Addr} {K : PySem.W.Frag} {A : Addr → Prop} {G : Hp} {m a t : V} {om oa ot : Option (List V)} {w : Str} {Q : VK} {E : XK} (nx : G x = none) (ndx : G dx = none) (hm : ArgA K A G m om) (ha : ArgA K A G a oa) (ht : ArgA K A G t ot)
    (he : ruleErr om oa ot = some w) (k : ∀ d H', Same G H' → H' d = some (.xd [("part", .str w)]) → E (.ref CR) (some d) H') : spInit CR CT C K [.ref x, m, a, t] (upd (upd G dx (.own x)) x (.ins C dx [])) Q E := by
  have s := made_same (C := C) nx ndx
  refine ⟨x, dx, m, a, t, om, oa, ot, rfl, upd_same, hm.arg.1.same s, ha.arg.1.same s, ht.arg.1.same s, ha.arg.2, ht.arg.2, fun w' hw d H' hd bt e => ?_, fun ms ns ts _ _ _ hn => ?_⟩
  · rw [he] at hw
    obtain rfl := Option.some.inj hw
    exact k d H' (fun b o z => bt b o (ne_of_none z nx) (s _ _ z)) e
  · rw [he] at hn
    cases hn
theorem init_ok {CR CT C x dx : Addr} {K : PySem.W.Frag} {A : Addr → Prop} {G : Hp} {m a t : V} {ms : List V} {ns ts : List Int} {Q : VK} {E : XK} (nx : G x = none) (ndx : G dx = none) (hm : ArgA K A G m (some ms)) (ha : ArgA K A G a (some (ns.map V.int))) (ht : ArgA K A G t (some (ts.map V.int)))
    (he : ruleErr (some ms) (some (ns.map V.int)) (some (ts.map V.int)) = none)
    (k1 : 24 < (normW ns ts).1.length + (normW ns ts).2.length → ∀ d H', Same G H' → H' d = some (.xd [("most", .int 24), ("what", .str "places")]) → E (.ref CT) (some d) H')
    (k2 : (normW ns ts).1.length + (normW ns ts).2.length ≤ 24 → ∀ H', Same G H' → RuleAt C H' x ms (normW ns ts).1 (normW ns ts).2 → Q .non H') : spInit CR CT C K [.ref x, m, a, t] (upd (upd G dx (.own x)) x (.ins C dx [])) Q E := by
  have s := made_same (C := C) nx ndx
  refine ⟨x, dx, m, a, t, _, _, _, rfl, upd_same, hm.arg.1.same s, ha.arg.1.same s, ht.arg.1.same s, ha.arg.2, ht.arg.2, fun w' hw => ?_, fun ms' ns' ts' e1 e2 e3 _ => ?_⟩
  · rw [he] at hw
    cases hw
  · obtain rfl := map_int_inj (Option.some.inj e2)
    obtain rfl := map_int_inj (Option.some.inj e3)
    obtain rfl := Option.some.inj e1
    exact ⟨fun big d H' hd bt e => k1 big d H' (fun b o z => bt b o (ne_of_none z nx) (s _ _ z)) e, fun le H' bt R => k2 le H' (fun b o z => bt b o (ne_of_none z nx) (s _ _ z)) R⟩

/-! doubled weights -/
abbrev s_doubled_weights : Stmt := top 17
def posI (w : Int) : List Int → Nat
  | [] => 0
  | x :: r => if x = w then 0 else posI w r + 1
def dbl : Nat → Int → List Int → Int → List Int × List Int
  | 0, _, ws, _ => (ws, [])
  | n + 1, m, ws, w => if w ∈ ws then (ws.take (posI w ws), ws.drop (posI w ws)) else dbl n m (ws ++ [w]) (2 * w % m)
def doubled (first m : Int) : List Int × List Int := dbl 33 m [] (first % m)
theorem posI_at {w : Int} : ∀ {ws : List Int}, w ∈ ws → ws[posI w ws]? = some w ∧ ∀ m < posI w ws, ∀ z, ws[m]? = some z → z ≠ w
  | [], h => nomatch h
  | x :: r, h => by
    unfold posI
    by_cases c : x = w
    · rw [if_pos c]
      exact ⟨by rw [c]; rfl, fun m hm => absurd hm (Nat.not_lt_zero m)⟩
    · rw [if_neg c]
      have hr : w ∈ r := (List.mem_cons.mp h).elim (fun z => absurd z.symm c) id
      obtain ⟨h1, h2⟩ := posI_at hr
      refine ⟨h1, fun m hm z hz => ?_⟩
      cases m with
      | zero => exact fun e => c (by rw [← e]; exact (Option.some.inj hz))
      | succ m => exact h2 m (by omega) z hz
theorem posI_le {w : Int} : ∀ ws : List Int, posI w ws ≤ ws.length
  | [] => Nat.le_refl _
  | x :: r => by
    unfold posI
    have := posI_le (w := w) r
    split
    · exact Nat.zero_le _
    · show _ ≤ r.length + 1
      omega
def dblOk (m : Int) (r : List Int × List Int) : Bool := decide (r.2 ≠ []) && (decide (r.1.length + r.2.length ≤ 33) && (r.1.all fun z => decide (0 ≤ z ∧ z ≤ m - 1)) && (r.2.all fun z => decide (0 ≤ z ∧ z ≤ m - 1)))
theorem dbl_all : ∀ m : Nat, m < 33 → ∀ w : Nat, w < m → dblOk (m : Int) (dbl 33 (m : Int) [] (w : Int)) = true := by decide +kernel
theorem doubled_ok {f m : Int} (h2 : 2 ≤ m) (h32 : m ≤ 32) : (doubled f m).2 ≠ [] ∧ (doubled f m).1.length + (doubled f m).2.length ≤ 33 ∧ (∀ z ∈ (doubled f m).1, 0 ≤ z ∧ z ≤ m - 1) ∧ ∀ z ∈ (doubled f m).2, 0 ≤ z ∧ z ≤ m - 1 := by
  obtain ⟨n, rfl⟩ : ∃ n : Nat, m = (n : Int) := ⟨m.toNat, by omega⟩
  have h0 := Int.emod_nonneg f (show (n : Int) ≠ 0 by omega)
  have h1 := Int.emod_lt_of_pos f (show (0 : Int) < n by omega)
  obtain ⟨w, hw⟩ : ∃ w : Nat, f % (n : Int) = (w : Int) := ⟨(f % (n : Int)).toNat, by omega⟩
  have q := dbl_all n (by omega) w (by omega)
  unfold doubled
  rw [hw]
  unfold dblOk at q
  simp only [Bool.and_eq_true, decide_eq_true_eq, List.all_eq_true] at q
  exact ⟨q.1, q.2.1.1, q.2.1.2, q.2.2⟩
theorem inV_ints (w : Int) (ws : List Int) : inV (.int w) (ws.map V.int) = decide (w ∈ ws) := by
  unfold inV
  rw [List.any_map]
  induction ws with
  | nil => rfl
  | cons x r ih =>
    rw [List.any_cons, ih]
    show ((x == w) || decide (w ∈ r)) = decide (w ∈ x :: r)
    by_cases c : x = w
    · simp [c]
    · have c2 : ¬ w = x := fun e => c e.symm
      simp [c, c2]
theorem flat_ints (ws : List Int) : (ws.map V.int).all flatV = true := by
  rw [List.all_map]
  exact List.all_eq_true.mpr fun _ _ => rfl
theorem cut_from {xs : List V} {n : Nat} (h : n ≤ xs.length) : cutV xs (some (n : Int)) none = xs.drop n := by
  unfold cutV
  rw [HT.sIx_none, HT.sIx_nat, Nat.min_eq_left h]
  rw [List.take_of_length_le]
  rw [List.length_drop]
  exact Nat.le_refl _
def lenD (σ : L2.St) (G : Hp) : Nat := match σ with
  | _ :: _ :: some (.ref a) :: _ => (match G a with
    | some (.lst xs) => 33 - xs.length
    | _ => 0)
  | _ => 0
theorem lenD_of {σ : L2.St} {u w : Option V} {G : Hp} {a : Addr} {xs : List V} (h : G a = some (.lst xs)) : lenD (u :: w :: some (.ref a) :: σ) G = 33 - xs.length := by
  simp [lenD, h]
def spDoubled : Sp := fun vs H Q _ => ∃ (f m : Int), vs = [.int f, .int m] ∧ 2 ≤ m ∧ m ≤ 32 ∧
  ∀ (H' : Hp) (q a t : Addr), Same H H' → H' q = some (.tup [.ref a, .ref t]) → H' a = some (.lst ((doubled f m).1.map V.int)) → H' t = some (.lst ((doubled f m).2.map V.int)) → Q (.ref q) H'
section
variable {P : Program} {w : World} {K : PySem.W.Frag} {mg : Str → Option Value} {base : Heap} {CR CN CT uR uN uT : Addr} {fdR fdN fdT : FuncData} {C pc pb gc gb : Addr}
abbrev N_doubled_weights : List Str := ["first", "banks", "weights", "weight", "begin"]
theorem sc_doubled_weights : FnScope N_doubled_weights ["first", "banks"] (defScope s_doubled_weights) := ⟨rfl, rfl, rfl, by decide +kernel, rfl, by decide +kernel, by decide +kernel⟩
theorem ok_doubled_weights {f : Addr} {fd : FuncData} (F : Fun K "doubled_weights" "doubled_weights" s_doubled_weights f fd) : FnOk P w K mg base CX0 1 f fd ["first", "banks"] spDoubled := by
  refine F.ok sc_doubled_weights (fun vs H Q E h => ?_) (fun cdv A outer s H vs Q E hr h => ?_)
  · obtain ⟨f, m, rfl, _⟩ := h
    rfl
  · obtain ⟨f, m, rfl, h2, h32, k⟩ := h
    obtain ⟨ok1, ok2, ok3, ok4⟩ := doubled_ok (f := f) h2 h32
    refine ⟨_, (pss_cons (ps_set (i := 2) sc_doubled_weights.nd rfl (Or.inl rfl) (pe_lst pa_nil))
 (pss_cons (ps_set (i := 3) sc_doubled_weights.nd rfl (Or.inl rfl) (pe_op op_mod (pv 0) (pv 1)))
 (pss_cons (ps_while PassesOwn.never (pt_cmpR op_notIn_seq (pv 3) (pv 2) (by rfl))
 (pss_cons (ps_expr (pe_bm PySem.F.plainAttrs_list PySem.F.slot_list_append PySem.F.type_list_append mt_append (pv 2) (pa_cons (pv 3) pa_nil)))
 (pss_one (ps_set (i := 3) sc_doubled_weights.nd rfl (Or.inl rfl) (pe_op op_mod (pe_op op_mul pe_int (pv 3)) (pv 1))))))
 (pss_cons (ps_set (i := 4) sc_doubled_weights.nd rfl (Or.inl rfl) (pe_bm PySem.F.plainAttrs_list PySem.F.slot_list_index PySem.F.type_list_index mt_index (pv 2) (pa_cons (pv 3) pa_nil)))
 (pss_one (ps_ret (pe_tup (pa_cons (pe_slice sl_list (pv 2) po_none (po_some (pv 4))) (pa_cons (pe_slice sl_list (pv 2) (po_some (pv 4)) po_none) pa_nil))))))))), ?_⟩
    refine ⟨(by show 0 ≤ PySem.sizeLine; decide), fun D hD => ⟨_, rfl, _, rfl, _, _, rfl, rfl, (by show (0 : Int) < m; omega), ?_⟩⟩
    refine while_by (fun σ G => ∃ (ws : List Int) (w : Int) (n : Nat), σ = [some (.int f), some (.int m), some (.ref D), some (.int w), none] ∧ Same H G ∧ G D = some (.lst (ws.map V.int)) ∧ dbl n m ws w = doubled f m ∧ n + ws.length = 33) lenD ?_ ?_ ?_
    · exact ⟨[], _, 33, rfl, Same.lay hD, upd_same, rfl, rfl⟩
    · rintro σ G ⟨ws, w, n, rfl, sG, hG, e, hn⟩
      refine ⟨_, rfl, _, rfl, D, _, rfl, .inl (SqL.of hG), rfl, flat_ints ws, _, rfl, ?_⟩
      rw [if_pos rfl, inV_ints]
      by_cases c : w ∈ ws
      · rw [decide_eq_true c]
        refine iteF ?_
        obtain ⟨p1, p2⟩ := posI_at c
        have hl := posI_le (w := w) ws
        have lm : posI w ws ≤ (ws.map V.int).length := by rw [List.length_map]; exact hl
        have e2 : doubled f m = (ws.take (posI w ws), ws.drop (posI w ws)) := by
          rw [← e]
          cases n with
          | zero =>
            exfalso
            exact ok1 (by rw [← e]; rfl)
          | succ n =>
            unfold dbl
            rw [if_pos c]
        refine ⟨_, rfl, .inl ⟨rfl, _, SqL.of hG⟩, _, rfl, D, _, _, posI w ws, .int w, rfl, rfl, SqL.of hG, rfl, flat_ints ws, (by rw [List.getElem?_map, p1]; rfl), (by show (w == w) = true; simp), (fun i z hi hz => ?_), ?_⟩
        · rw [List.getElem?_map] at hz
          cases e3 : ws[i]? with
          | none =>
            rw [e3] at hz
            cases hz
          | some y =>
            rw [e3] at hz
            obtain rfl := Option.some.inj hz
            show (y == w) = false
            have := p2 i hi y e3
            simpa using this
        · refine ⟨_, rfl, _, rfl, _, rfl, D, _, rfl, SqL.of hG, fun a ha => ?_⟩
          have s1 := Same.lay (o := .lst (cutV (ws.map V.int) none (some (posI w ws : Int)))) ha
          refine ⟨_, rfl, _, rfl, _, rfl, D, _, rfl, SqL.of (s1 _ _ hG), fun t ht => ⟨(by show 2 ≤ PySem.sizeLine; decide), fun q hq => ?_⟩⟩
          have s2 := Same.lay (o := .lst (cutV (ws.map V.int) (some (posI w ws : Int)) none)) ht
          have s3 := Same.lay (o := .tup [V.ref a, V.ref t]) hq
          refine k _ q a t (fun _ _ z => s3 _ _ (s2 _ _ (s1 _ _ (sG _ _ z)))) upd_same ?_ ?_
          · refine s3 _ _ (s2 _ _ ?_)
            rw [upd_same, cut_take lm, e2, List.map_take]
          · refine s3 _ _ ?_
            rw [upd_same, cut_from lm, e2, List.map_drop]
      · rw [decide_eq_false c]
        refine iteT ?_
        obtain ⟨n, rfl⟩ : ∃ n', n = n' + 1 := by
          cases n with
          | zero =>
            exfalso
            exact ok1 (by rw [← e]; rfl)
          | succ n => exact ⟨n, rfl⟩
        have e2 : dbl n m (ws ++ [w]) (2 * w % m) = doubled f m := by
          rw [← e]
          show _ = if w ∈ ws then _ else _
          rw [if_neg c]
        refine ⟨_, rfl, .inl ⟨rfl, _, SqL.of hG⟩, _, rfl, D, _, _, rfl, rfl, hG, small1000 (by rw [List.length_map]; omega), ?_⟩
        refine ⟨_, rfl, _, _, rfl, rfl, .inl ⟨by decide, by decide⟩, _, rfl, _, _, rfl, rfl, (by show (0 : Int) < m; omega), ?_⟩
        have hm : (ws.map V.int ++ [V.int w]) = (ws ++ [w]).map V.int := by rw [List.map_append]; rfl
        refine ⟨⟨ws ++ [w], _, n, rfl, fun b o z => ?_, (by rw [upd_same, hm]), e2, by rw [List.length_append]; show n + (ws.length + 1) = 33; omega⟩, ?_⟩
        · rw [upd_ne (ne_of_none z hD)]
          exact sG _ _ z
        · show lenD (_ :: _ :: some (.ref D) :: _) _ < lenD (_ :: _ :: some (.ref D) :: _) _
          rw [lenD_of hG, lenD_of (a := D) upd_same, List.length_append, List.length_map]
          show 33 - (ws.length + 1) < 33 - ws.length
          omega
    · rintro σ G Q1 Q2 i ⟨v, e1, hh⟩
      obtain ⟨v2, e2, a, xs, q1, q2, q3, q4, b, q5, q6⟩ := hh
      exact ⟨v, e1, v2, e2, a, xs, q1, q2, q3, q4, b, q5, i _ _ q6⟩
end
end Toy
set_option maxRecDepth 100000
namespace Toy
open PySem L2 LamX ClX
/-! the class methods that make rules of kinds -/
abbrev noA : Addr → Prop := fun _ => False
def badPart (CR : Addr) (H : Hp) (w : Str) (E : XK) : Prop := ∀ d H', Same H H' → H' d = some (.xd [("part", .str w)]) → E (.ref CR) (some d) H'
def RuleOut (CT C : Addr) (H : Hp) (ms : List V) (A T : List Int) (Q : VK) (E : XK) : Prop :=
  (24 < (normW A T).1.length + (normW A T).2.length → ∀ d H', Same H H' → H' d = some (.xd [("most", .int 24), ("what", .str "places")]) → E (.ref CT) (some d) H') ∧
  ((normW A T).1.length + (normW A T).2.length ≤ 24 → ∀ H' x, Same H H' → RuleAt C H' x ms (normW A T).1 (normW A T).2 → Q (.ref x) H')
theorem all_of {n : Int} {A : List Int} (h : ∀ z ∈ A, 0 ≤ z ∧ z ≤ n - 1) : (A.map V.int).all (withinV 0 (n - 1)) = true := by
  rw [List.all_map]
  exact List.all_eq_true.mpr fun z hz => decide_eq_true (h z hz)
theorem ruleErr_ok {ms : List V} {A T : List Int} (hm : okMod (some ms) = true) (ha : ∀ z ∈ A, 0 ≤ z ∧ z ≤ prodV ms - 1) (ht : ∀ z ∈ T, 0 ≤ z ∧ z ≤ prodV ms - 1) (ne : T ≠ []) : ruleErr (some ms) (some (A.map V.int)) (some (T.map V.int)) = none := by
  unfold ruleErr
  rw [if_neg (by rw [hm]; exact Bool.noConfusion), if_neg (by show ¬ (A.map V.int).all (withinV 0 (prodV ms - 1)) = false; rw [all_of ha]; exact Bool.noConfusion)]
  refine if_neg ?_
  rintro (z | z)
  · rw [show okBanks (prodV ((some ms).getD [])) (some (T.map V.int)) = true from all_of ht] at z
    cases z
  · exact ne (List.map_eq_nil_iff.mp (Option.some.inj z))
theorem made_out {CR CT C x dx : Addr} {K : PySem.W.Frag} {H0 G : Hp} {am aa at_ : Addr} {ms : List V} {A T : List Int} {Q : VK} {E : XK} (s0 : Same H0 G) (nx : G x = none) (ndx : G dx = none) (em : SeqAt G am ms) (ea : SeqAt G aa (A.map V.int)) (et : SeqAt G at_ (T.map V.int))
    (hm : okMod (some ms) = true) (ha : ∀ z ∈ A, 0 ≤ z ∧ z ≤ prodV ms - 1) (ht : ∀ z ∈ T, 0 ≤ z ∧ z ≤ prodV ms - 1) (ne : T ≠ []) (la : A.length ≤ 300) (lt : T.length ≤ 300) (o : RuleOut CT C H0 ms A T Q E) :
    spInit CR CT C K [.ref x, .ref am, .ref aa, .ref at_] (upd (upd G dx (.own x)) x (.ins C dx [])) (fun v H2 => v = .non ∧ Q (.ref x) H2) E :=
  init_ok nx ndx (argA_mods (A := noA) em (fun z => z) hm) (argA_ints (A := noA) ea (fun z => z) la) (argA_ints (A := noA) et (fun z => z) lt) (ruleErr_ok hm ha ht ne)
    (fun big d H' s e => o.1 big d H' (fun _ _ z => s _ _ (s0 _ _ z)) e) (fun le H' s R => ⟨rfl, o.2 le H' x (fun _ _ z => s _ _ (s0 _ _ z)) R⟩)
theorem mod_one {m : Int} (h2 : 2 ≤ m) (h32 : m ≤ 32) : okMod (some [.int m]) = true ∧ prodV [.int m] = m := by
  have e : prodV [.int m] = m := by
    show 1 * m = m
    omega
  refine ⟨?_, e⟩
  show (decide (1 ≤ 1 ∧ 1 ≤ 5) && ((decide (2 ≤ m ∧ m ≤ 32) && true) && decide (prodV [.int m] ≤ 32))) = true
  rw [e, decide_eq_true (show 2 ≤ m ∧ m ≤ 32 from ⟨h2, h32⟩), decide_eq_true h32]
  rfl
def powL (n : Nat) : List Int := (List.range n).map fun (i : Nat) => (2 : Int) ^ i
theorem xor_ok : ∀ n : Nat, n < 6 → 1 ≤ n → okMod (some (List.replicate n (V.int 2))) = true ∧ (powL n).all (fun z => decide (0 ≤ z ∧ z ≤ prodV (List.replicate n (V.int 2)) - 1)) = true ∧ 2 ≤ prodV (List.replicate n (V.int 2)) := by decide +kernel
def powM (m : Int) (n : Nat) : List Int := (List.range n).map fun (i : Nat) => (2 : Int) ^ i % m
def spModulo (CR CT C : Addr) (K : PySem.W.Frag) : Sp := fun vs H Q E => ∃ (x : V) (S : String), vs = [.ref C, x] ∧ Plain K H x S ∧ (withinV 2 32 x = false → badPart CR H "banks" E) ∧
  ∀ m, x = .int m → 2 ≤ m → m ≤ 32 → RuleOut CT C H [.int m] (doubled 1 m).1 (doubled 1 m).2 Q E
def spXor (CR CT C : Addr) (K : PySem.W.Frag) : Sp := fun vs H Q E => ∃ (x y : V) (S S2 : String), vs = [.ref C, x, y] ∧ Plain K H x S ∧ Plain K H y S2 ∧ (withinV 1 5 x = false → badPart CR H "bits" E) ∧ (withinV 1 5 x = true → withinV 0 8 y = false → badPart CR H "folds" E) ∧
  ∀ n j : Nat, x = .int n → y = .int j → 1 ≤ n → n ≤ 5 → j ≤ 8 → RuleOut CT C H (List.replicate n (V.int 2)) (if j = 0 then [] else (List.replicate j (powL n)).flatten) (if j = 0 then powL n else [0]) Q E
def spPadded (CR CT C : Addr) (K : PySem.W.Frag) : Sp := fun vs H Q E => ∃ (x y z : V) (S S2 S3 : String), vs = [.ref C, x, y, z] ∧ Plain K H x S ∧ Plain K H y S2 ∧ Plain K H z S3 ∧ (withinV 2 32 x = false → badPart CR H "banks" E) ∧ (∀ m, x = .int m → withinV 2 32 x = true → withinV 1 12 y = false → badPart CR H "every" E) ∧
  (∀ m, x = .int m → withinV 2 32 x = true → withinV 1 12 y = true → withinV 0 (m - 1) z = false → badPart CR H "pad" E) ∧
  ∀ (m q : Int) (e : Nat), x = .int m → y = .int e → z = .int q → 2 ≤ m → m ≤ 32 → 1 ≤ e → e ≤ 12 → 0 ≤ q → q ≤ m - 1 → RuleOut CT C H [.int m] (powM m e ++ (doubled (2 ^ e + q) m).1) (doubled (2 ^ e + q) m).2 Q E
/-- check_padding(banks, every) -/
def spCheckPad (CR : Addr) (K : PySem.W.Frag) : Sp := fun vs H Q E => ∃ (x y : V) (S S2 : String), vs = [x, y] ∧ Plain K H x S ∧ Plain K H y S2 ∧ (withinV 2 32 x = false → badPart CR H "banks" E) ∧ (∀ m, x = .int m → withinV 2 32 x = true → withinV 1 12 y = false → badPart CR H "every" E) ∧
  (withinV 2 32 x = true → withinV 1 12 y = true → Q .non H)
abbrev s_check_padding : Stmt := top 35
abbrev s_Rule_modulo : Stmt := (inClass (top 36) 1)
abbrev s_Rule_xor : Stmt := (inClass (top 36) 2)
abbrev s_Rule_padded : Stmt := (inClass (top 36) 3)
section
variable {P : Program} {w : World} {K : PySem.W.Frag} {mg : Str → Option Value} {base : Heap} {CR CN CT uR uN uT : Addr} {fdR fdN fdT : FuncData} {C pc pb gc gb : Addr}
abbrev N_Rule_modulo : List Str := ["cls", "banks", "ahead", "turn"]
abbrev N_Rule_xor : List Str := ["cls", "bits", "folds", "weights", "bit"]
abbrev N_Rule_padded : List Str := ["cls", "banks", "every", "pad", "first", "place", "ahead", "turn"]
theorem sc_Rule_modulo : FnScope N_Rule_modulo ["cls", "banks"] (defScope s_Rule_modulo) := ⟨rfl, rfl, rfl, by decide +kernel, rfl, by decide +kernel, by decide +kernel⟩
theorem sc_Rule_xor : FnScope N_Rule_xor ["cls", "bits", "folds"] (defScope s_Rule_xor) := ⟨rfl, rfl, rfl, by decide +kernel, rfl, by decide +kernel, by decide +kernel⟩
theorem sc_Rule_padded : FnScope N_Rule_padded ["cls", "banks", "every", "pad"] (defScope s_Rule_padded) := ⟨rfl, rfl, rfl, by decide +kernel, rfl, by decide +kernel, by decide +kernel⟩
theorem ok_Rule_modulo {f fI fW fDb fRI : Addr} {fd fdI fdW fdDb fdRI : FuncData} (F : Fun K "modulo" "Rule.modulo" s_Rule_modulo f fd) (T : TR mg) (TE : TErr K mg CR CN CT uR uN uT fdR fdN fdT)
    (FI : Fun K "is_integer" "is_integer" s_is_integer fI fdI) (gI : mg "is_integer" = some (.ref fI)) (bI : Binds K fdI ["value"] [])
    (FW : Fun K "is_within" "is_within" s_is_within fW fdW) (gW : mg "is_within" = some (.ref fW)) (bW : Binds K fdW ["value", "least", "most"] [])
    (GDb : FnOk P w K mg base CX0 1 fDb fdDb ["first", "banks"] spDoubled) (gDb : mg "doubled_weights" = some (.ref fDb)) (kDb : PySem.W.keepIn K (.ref fDb) = true) (bDb : Binds K fdDb ["first", "banks"] [])
    (MRI : Mk K C fRI) (GRI : FnOk P w K mg base (L2.CX P w) 4 fRI fdRI ["self", "moduli", "ahead", "turn"] (spInit CR CT C K)) (bRI : Binds K fdRI ["self", "moduli", "ahead", "turn"] []) :
    FnOk P w K mg base (L2.CX P w) 6 f fd ["cls", "banks"] (spModulo CR CT C K) := by
  have GW : FnOk P w K mg base CX0 2 fW fdW ["value", "least", "most"] (spWithin K) := ok_is_within FW T FI gI bI
  have kW := FW.kp
  refine F.okX sc_Rule_modulo (fun vs H Q E h => ?_) (fun cdv A outer s H vs Q E hrM h => ?_)
  · obtain ⟨x, S, rfl, _⟩ := h
    rfl
  · obtain ⟨x, S, rfl, hx, kE, kQ⟩ := h
    have hr : Room 2 _ := hrM.mono (by decide)
    have hrE : Room 2 _ := hr
    have hrB : Room 1 _ := hrM.mono (by decide)
    refine ⟨_, (pss_cons (ps_if (pt_not (pt_val (pe_call GW hr rfl gW kW bW .nil pass0 (pa_cons (pv 1) (pa_cons pe_int (pa_cons (pe_glob (v := .int 32) rfl T.g_MOST_BANKS.choose_spec ⟨_, rfl⟩) pa_nil)))))) (pss_one (ps_raise rfl (takes_of rfl rfl rfl rfl) (pmk_x TE.iBadRule (ok_BadRule TE) hrE TE.bBadRule (by decide) rfl TE.gBadRule (mono_c mono_nil) (pa_cons pe_str pa_nil)))) pss_nil)
 (pss_cons (ps_asg (pe_call GDb hrB rfl gDb kDb bDb .nil pass0 (pa_cons pe_int (pa_cons (pv 1) pa_nil))) (pg_tup rfl (pgs_cons (pg_name (i := 2) sc_Rule_modulo.nd rfl (Or.inl rfl)) (pgs_cons (pg_name (i := 3) sc_Rule_modulo.nd rfl (Or.inl rfl)) pgs_nil))))
 (pss_one (ps_ret (pe_makeV (i := 0) MRI GRI hrM rfl (Or.inl rfl) bRI .nil (passes_call (takes_of rfl rfl rfl rfl) fun _ _ _ _ h => h) (pa_cons (pe_tup (pa_cons (pv 1) pa_nil)) (pa_cons (pv 2) (pa_cons (pv 3) pa_nil)))))))), ?_⟩
    refine ⟨_, rfl, x, S, 2, 32, rfl, hx, _, rfl, ?_⟩
    cases hw : withinV 2 32 x with
    | false => exact iteT ⟨rfl, fun d H' hd s2 e => kE hw d H' s2 e⟩
    | true =>
      obtain ⟨m, rfl, h2, h32⟩ := within_int hw
      refine iteF ?_
      obtain ⟨o1, o2, o3, o4⟩ := doubled_ok (f := 1) h2 h32
      obtain ⟨p1, p2⟩ := mod_one h2 h32
      refine ⟨_, rfl, 1, m, rfl, h2, h32, fun H1 q a t s1 eq ea et => ⟨q, _, rfl, SqT.of eq, rfl, _, _, rfl, _, _, rfl, rfl, ?_⟩⟩
      refine ⟨rfl, _, rfl, (by show 1 ≤ PySem.sizeLine; decide), fun tm htm => ⟨_, rfl, _, rfl, fun x dx nx ndx nex => ?_⟩⟩
      have s2 := Same.lay (o := .tup [.int m]) htm
      exact made_out (fun _ _ z => s2 _ _ (s1 _ _ z)) nx ndx (.inr upd_same) (.inl (s2 _ _ ea)) (.inl (s2 _ _ et)) p1 (by rw [p2]; exact o3) (by rw [p2]; exact o4) o1 (by omega) (by omega) (kQ m rfl h2 h32)
theorem pow_row {H : Hp} {D : Addr} (hD : H D = none) {f : Nat → Int} : upd H D (.lst []) = upd H D (.lst ((((List.range 0).map f)).map V.int)) := rfl
theorem row_len {f : Nat → Int} {n i : Nat} (h : i < n) (l : n ≤ 100) : (((List.range i).map f).map V.int).length < PySem.sizeLine := small1000 (by rw [List.length_map, List.length_map, List.length_range]; omega)
theorem ok_Rule_xor {f fI fW fRI : Addr} {fd fdI fdW fdRI : FuncData} {dvs : List V} {kws : List (Str × V)} (F : FunD K "xor" "Rule.xor" (defArgs s_Rule_xor) (defBody s_Rule_xor) (defScope s_Rule_xor) dvs kws f fd) (T : TR mg) (TE : TErr K mg CR CN CT uR uN uT fdR fdN fdT)
    (FI : Fun K "is_integer" "is_integer" s_is_integer fI fdI) (gI : mg "is_integer" = some (.ref fI)) (bI : Binds K fdI ["value"] [])
    (FW : Fun K "is_within" "is_within" s_is_within fW fdW) (gW : mg "is_within" = some (.ref fW)) (bW : Binds K fdW ["value", "least", "most"] [])
    (MRI : Mk K C fRI) (GRI : FnOk P w K mg base (L2.CX P w) 4 fRI fdRI ["self", "moduli", "ahead", "turn"] (spInit CR CT C K)) (bRI : Binds K fdRI ["self", "moduli", "ahead", "turn"] []) :
    FnOk P w K mg base (L2.CX P w) 6 f fd ["cls", "bits", "folds"] (spXor CR CT C K) := by
  have GW : FnOk P w K mg base CX0 2 fW fdW ["value", "least", "most"] (spWithin K) := ok_is_within FW T FI gI bI
  have kW := FW.kp
  refine F.ok sc_Rule_xor (fun vs H Q E h => ?_) (fun cdv A outer s H vs Q E hrM h => ?_)
  · obtain ⟨x, y, S, S2, rfl, _⟩ := h
    rfl
  · obtain ⟨x, y, S, S2, rfl, hx, hy, kE, kE2, kQ⟩ := h
    have hr : Room 2 _ := hrM.mono (by decide)
    have hrE : Room 2 _ := hr
    refine ⟨_, (pss_cons (ps_if (pt_not (pt_val (pe_call GW hr rfl gW kW bW .nil pass0 (pa_cons (pv 1) (pa_cons pe_int (pa_cons pe_int pa_nil)))))) (pss_one (ps_raise rfl (takes_of rfl rfl rfl rfl) (pmk_x TE.iBadRule (ok_BadRule TE) hrE TE.bBadRule (by decide) rfl TE.gBadRule (mono_c mono_nil) (pa_cons pe_str pa_nil)))) pss_nil)
 (pss_cons (ps_if (pt_not (pt_val (pe_call GW hr rfl gW kW bW .nil pass0 (pa_cons (pv 2) (pa_cons pe_int (pa_cons pe_int pa_nil)))))) (pss_one (ps_raise rfl (takes_of rfl rfl rfl rfl) (pmk_x TE.iBadRule (ok_BadRule TE) hrE TE.bBadRule (by decide) rfl TE.gBadRule (mono_c mono_nil) (pa_cons pe_str pa_nil)))) pss_nil)
 (pss_cons (ps_setLc (i := 3) (own := [("bit", 4)]) (g := (gName 4)) (tt := tYes) rfl sc_Rule_xor.nd rfl rfl (sw_true rfl rfl rfl (by decide +kernel)) (pi_range1 rfl T.m_range (pa_cons (pv 1) pa_nil)) (blkOk_by (N := N_Rule_xor) (sc := defScope s_Rule_xor) (by decide +kernel)) (fun _ _ _ _ _ => (pg_name (i := 4) sc_Rule_xor.nd rfl (Or.inl rfl))) (fun _ _ _ _ _ => pts_nil) (fun _ _ _ _ _ => (pe_op op_shl pe_int (pv 4))))
 (pss_cons (ps_if (pt_cmpR op_eq (pv 2) pe_int (nomark _)) (pss_one (ps_ret (pe_makeV (i := 0) MRI GRI hrM rfl (Or.inl rfl) bRI .nil (passes_call (takes_of rfl rfl rfl rfl) fun _ _ _ _ h => h) (pa_cons (pe_op op_repP (pe_tup (pa_cons pe_int pa_nil)) (pv 1)) (pa_cons (pe_tup pa_nil) (pa_cons (pv 3) pa_nil)))))) pss_nil)
 (pss_one (ps_ret (pe_makeV (i := 0) MRI GRI hrM rfl (Or.inl rfl) bRI .nil (passes_call (takes_of rfl rfl rfl rfl) fun _ _ _ _ h => h) (pa_cons (pe_op op_repP (pe_tup (pa_cons pe_int pa_nil)) (pv 1)) (pa_cons (pe_op op_rep (pv 3) (pv 2)) (pa_cons (pe_tup (pa_cons pe_int pa_nil)) pa_nil)))))))))), ?_⟩
    refine ⟨_, rfl, x, S, 1, 5, rfl, hx, _, rfl, ?_⟩
    cases hw : withinV 1 5 x with
    | false => exact iteT ⟨rfl, fun d H' hd s2 e => kE hw d H' s2 e⟩
    | true =>
      refine iteF ?_
      refine ⟨_, rfl, y, S2, 0, 8, rfl, hy, _, rfl, ?_⟩
      cases hv : withinV 0 8 y with
      | false => exact iteT ⟨rfl, fun d H' hd s2 e => kE2 hw hv d H' s2 e⟩
      | true =>
        obtain ⟨n, rfl, n1, n5⟩ := within_int hw
        obtain ⟨j, rfl, j0, j8⟩ := within_int hv
        obtain ⟨n, rfl⟩ : ∃ k : Nat, n = (k : Int) := ⟨n.toNat, by omega⟩
        obtain ⟨j, rfl⟩ : ∃ k : Nat, j = (k : Int) := ⟨j.toNat, by omega⟩
        obtain ⟨p1, p2, p3⟩ := xor_ok n (by omega) (by omega)
        have p2' : ∀ z ∈ powL n, 0 ≤ z ∧ z ≤ prodV (List.replicate n (V.int 2)) - 1 := fun z hz => of_decide_eq_true (List.all_eq_true.mp p2 z hz)
        have kk := kQ n j rfl rfl (by omega) (by omega) (by omega)
        refine iteF ?_
        refine ⟨_, rfl, _, rfl, by omega, by omega, fun D hD => ?_⟩
        refine lc_it walk_range (fun i G => G = upd H D (.lst ((((List.range i).map fun (i : Nat) => (2 : Int) ^ i)).map V.int))) rfl (fun _ _ _ _ => trivial) ?_ ?_
        · rintro i v G G' hi rfl ⟨rfl, rfl⟩
          have hi2 : i < n := by omega
          refine ⟨rfl, _, rfl, _, _, rfl, rfl, ⟨by omega, by omega, by decide⟩, _, upd_same, row_len hi2 (by omega), ?_⟩
          rw [upd_upd, List.range_succ, List.map_append, List.map_append]
          simp
        · rintro G rfl
          have hn : ((n : Int)).toNat = n := by omega
          rw [hn]
          have ePow : ((List.range n).map fun (i : Nat) => (2 : Int) ^ i) = powL n := rfl
          rw [ePow]
          have sD : Same H (upd H D (.lst ((powL n).map V.int))) := Same.lay hD
          have hD1 : (upd H D (.lst ((powL n).map V.int))) D = some (.lst ((powL n).map V.int)) := upd_same
          generalize upd H D (.lst ((powL n).map V.int)) = G1 at sD hD1 ⊢
          have ne : powL n ≠ [] := fun z => by
            have : (powL n).length = 0 := by rw [z]; rfl
            unfold powL at this
            rw [List.length_map, List.length_range] at this
            omega
          have lp : (powL n).length = n := by
            unfold powL
            rw [List.length_map, List.length_range]
          refine ⟨_, rfl, rfl, _, rfl, ?_⟩
          refine ite2 (fun c => ?_) (fun c => ?_)
          · have c1 : (j : Int) = 0 := V.int.inj (of_decide_eq_true c)
            have c2 : j = 0 := by omega
            subst c2
            rw [if_pos rfl, if_pos rfl] at kk
            refine ⟨rfl, (by show 1 ≤ PySem.sizeLine; decide), fun t2 ht2 => ⟨_, rfl, t2, n, _, rfl, rfl, upd_same, by simp, by omega, by omega, by decide, fun tm G3 s3 e3 => ⟨(by show 0 ≤ PySem.sizeLine; decide), fun ta hta => ⟨_, rfl, fun x dx nx ndx nex => ?_⟩⟩⟩⟩
            rw [List.flatten_replicate_singleton, hn] at e3
            have s4 := Same.lay (o := .tup []) hta
            have s2 := Same.lay (o := .tup [V.int 2]) ht2
            exact made_out (A := []) (fun _ _ z => s4 _ _ (s3 _ _ (s2 _ _ (sD _ _ z)))) nx ndx (.inr (s4 _ _ e3)) (.inr upd_same) (.inl (s4 _ _ (s3 _ _ (s2 _ _ hD1)))) p1 (fun z hz => nomatch hz) p2' ne (by decide) (by omega) kk
          · have c2 : j ≠ 0 := fun z => c (by rw [z]; rfl)
            rw [if_neg c2, if_neg c2] at kk
            have lf : (List.replicate j (powL n)).flatten.length = j * n := by simp [List.length_flatten, lp]
            have bnd : j * n ≤ 8 * 5 := Nat.mul_le_mul (by omega) (by omega)
            refine ⟨rfl, (by show 1 ≤ PySem.sizeLine; decide), fun t2 ht2 => ⟨_, rfl, t2, n, _, rfl, rfl, upd_same, by simp, by omega, by omega, by decide, fun tm G3 s3 e3 => ?_⟩⟩
            rw [List.flatten_replicate_singleton, hn] at e3
            have s2 := Same.lay (o := .tup [V.int 2]) ht2
            have hD3 := s3 _ _ (s2 _ _ hD1)
            have bnd2 : n * j ≤ 8 * 5 := by rw [Nat.mul_comm]; exact bnd
            refine ⟨_, rfl, _, rfl, D, j, _, rfl, rfl, hD3, by omega, by omega, Nat.le_of_lt (small1000 (by rw [List.length_map, lp, show ((j : Int)).toNat = j by omega]; omega)), fun ta hta => ⟨(by show 1 ≤ PySem.sizeLine; decide), fun tz htz => fun x dx nx ndx nex => ?_⟩⟩
            have eA : (List.replicate ((j : Int)).toNat ((powL n).map V.int)).flatten = ((List.replicate j (powL n)).flatten).map V.int := by
              rw [show ((j : Int)).toNat = j by omega, List.map_flatten, List.map_replicate]
            have s4 := Same.lay (o := .lst (List.replicate ((j : Int)).toNat ((powL n).map V.int)).flatten) hta
            have s5 := Same.lay (o := .tup [V.int 0]) htz
            refine made_out (fun _ _ z => s5 _ _ (s4 _ _ (s3 _ _ (s2 _ _ (sD _ _ z))))) nx ndx (.inr (s5 _ _ (s4 _ _ e3))) (.inl (s5 _ _ (by rw [upd_same, eA]))) (T := [0]) (.inr upd_same) p1 (fun z hz => ?_) (fun z hz => ?_) (by decide) (by rw [lf]; omega) (by decide) kk
            · obtain ⟨l, hl, hz2⟩ := List.mem_flatten.mp hz
              rw [List.eq_of_mem_replicate hl] at hz2
              exact p2' z hz2
            · rw [List.mem_singleton.mp hz]
              omega
abbrev N_check_padding : List Str := ["banks", "every"]
theorem sc_check_padding : FnScope N_check_padding ["banks", "every"] (defScope s_check_padding) := ⟨rfl, rfl, rfl, by decide +kernel, rfl, by decide +kernel, by decide +kernel⟩
theorem ok_check_padding {f fI fW : Addr} {fd fdI fdW : FuncData} (F : Fun K "check_padding" "check_padding" s_check_padding f fd) (T : TR mg) (TE : TErr K mg CR CN CT uR uN uT fdR fdN fdT)
    (FI : Fun K "is_integer" "is_integer" s_is_integer fI fdI) (gI : mg "is_integer" = some (.ref fI)) (bI : Binds K fdI ["value"] [])
    (FW : Fun K "is_within" "is_within" s_is_within fW fdW) (gW : mg "is_within" = some (.ref fW)) (bW : Binds K fdW ["value", "least", "most"] []) :
    FnOk P w K mg base (L2.CX P w) 3 f fd ["banks", "every"] (spCheckPad CR K) := by
  have GW : FnOk P w K mg base CX0 2 fW fdW ["value", "least", "most"] (spWithin K) := ok_is_within FW T FI gI bI
  have kW := FW.kp
  refine F.okX sc_check_padding (fun vs H Q E h => ?_) (fun cdv A outer s H vs Q E hrM h => ?_)
  · obtain ⟨x, y, S, S2, rfl, _⟩ := h
    rfl
  · obtain ⟨x, y, S, S2, rfl, hx, hy, kE, kE2, kQ⟩ := h
    have hr : Room 2 _ := hrM
    have hrE : Room 2 _ := hr
    refine ⟨_, (pss_cons (ps_if (pt_not (pt_val (pe_call GW hr rfl gW kW bW .nil pass0 (pa_cons (pv 0) (pa_cons pe_int (pa_cons (pe_glob (v := .int 32) rfl T.g_MOST_BANKS.choose_spec ⟨_, rfl⟩) pa_nil)))))) (pss_one (ps_raise rfl (takes_of rfl rfl rfl rfl) (pmk_x TE.iBadRule (ok_BadRule TE) hrE TE.bBadRule (by decide) rfl TE.gBadRule (mono_c mono_nil) (pa_cons pe_str pa_nil)))) pss_nil)
 (pss_one (ps_if (pt_not (pt_val (pe_call GW hr rfl gW kW bW .nil pass0 (pa_cons (pv 1) (pa_cons pe_int (pa_cons pe_int pa_nil)))))) (pss_one (ps_raise rfl (takes_of rfl rfl rfl rfl) (pmk_x TE.iBadRule (ok_BadRule TE) hrE TE.bBadRule (by decide) rfl TE.gBadRule (mono_c mono_nil) (pa_cons pe_str pa_nil)))) pss_nil))), ?_⟩
    refine ⟨_, rfl, x, S, 2, 32, rfl, hx, _, rfl, ?_⟩
    cases hw : withinV 2 32 x with
    | false => exact iteT ⟨rfl, fun d H' hd s2 e => kE hw d H' s2 e⟩
    | true =>
      obtain ⟨m, rfl, h2, h32⟩ := within_int hw
      refine iteF ?_
      refine ⟨_, rfl, y, S2, 1, 12, rfl, hy, _, rfl, ?_⟩
      cases hv : withinV 1 12 y with
      | false => exact iteT ⟨rfl, fun d H' hd s2 e => kE2 m rfl hw hv d H' s2 e⟩
      | true => exact iteF (kQ hw hv)
theorem ok_Rule_padded {f fI fW fDb fRI fCp : Addr} {fd fdI fdW fdDb fdRI fdCp : FuncData} (F : Fun K "padded" "Rule.padded" s_Rule_padded f fd) (T : TR mg) (TE : TErr K mg CR CN CT uR uN uT fdR fdN fdT)
    (FI : Fun K "is_integer" "is_integer" s_is_integer fI fdI) (gI : mg "is_integer" = some (.ref fI)) (bI : Binds K fdI ["value"] [])
    (FW : Fun K "is_within" "is_within" s_is_within fW fdW) (gW : mg "is_within" = some (.ref fW)) (bW : Binds K fdW ["value", "least", "most"] [])
    (GDb : FnOk P w K mg base CX0 1 fDb fdDb ["first", "banks"] spDoubled) (gDb : mg "doubled_weights" = some (.ref fDb)) (kDb : PySem.W.keepIn K (.ref fDb) = true) (bDb : Binds K fdDb ["first", "banks"] [])
    (GCp : FnOk P w K mg base (L2.CX P w) 3 fCp fdCp ["banks", "every"] (spCheckPad CR K)) (gCp : mg "check_padding" = some (.ref fCp)) (kCp : PySem.W.keepIn K (.ref fCp) = true) (bCp : Binds K fdCp ["banks", "every"] [])
    (MRI : Mk K C fRI) (GRI : FnOk P w K mg base (L2.CX P w) 4 fRI fdRI ["self", "moduli", "ahead", "turn"] (spInit CR CT C K)) (bRI : Binds K fdRI ["self", "moduli", "ahead", "turn"] []) :
    FnOk P w K mg base (L2.CX P w) 6 f fd ["cls", "banks", "every", "pad"] (spPadded CR CT C K) := by
  have GW : FnOk P w K mg base CX0 2 fW fdW ["value", "least", "most"] (spWithin K) := ok_is_within FW T FI gI bI
  have kW := FW.kp
  refine F.okX sc_Rule_padded (fun vs H Q E h => ?_) (fun cdv A outer s H vs Q E hrM h => ?_)
  · obtain ⟨x, y, z, S, S2, S3, rfl, _⟩ := h
    rfl
  · obtain ⟨x, y, z, S, S2, S3, rfl, hx, hy, hz, kE, kE2, kE3, kQ⟩ := h
    have hr : Room 2 _ := hrM.mono (by decide)
    have hrE : Room 2 _ := hr
    have hrB : Room 1 _ := hrM.mono (by decide)
    have hrCp : Room 3 _ := hrM.mono (by decide)
    refine ⟨_, (pss_cons (ps_expr (pe_call GCp hrCp rfl gCp kCp bCp .nil (passes_call (takes_of rfl rfl rfl rfl) fun _ _ _ _ h => h) (pa_cons (pv 1) (pa_cons (pv 2) pa_nil))))
 (pss_cons (ps_if (pt_not (pt_val (pe_call GW hr rfl gW kW bW .nil pass0 (pa_cons (pv 3) (pa_cons pe_int (pa_cons (pe_op op_sub (pv 1) pe_int) pa_nil)))))) (pss_one (ps_raise rfl (takes_of rfl rfl rfl rfl) (pmk_x TE.iBadRule (ok_BadRule TE) hrE TE.bBadRule (by decide) rfl TE.gBadRule (mono_c mono_nil) (pa_cons pe_str pa_nil)))) pss_nil)
 (pss_cons (ps_setLc (i := 4) (own := [("place", 5)]) (g := (gName 5)) (tt := tYes) rfl sc_Rule_padded.nd rfl rfl (sw_true rfl rfl rfl (by decide +kernel)) (pi_range1 rfl T.m_range (pa_cons (pv 2) pa_nil)) (blkOk_by (N := N_Rule_padded) (sc := defScope s_Rule_padded) (by decide +kernel)) (fun _ _ _ _ _ => (pg_name (i := 5) sc_Rule_padded.nd rfl (Or.inl rfl))) (fun _ _ _ _ _ => pts_nil) (fun _ _ _ _ _ => (pe_op op_mod (pe_op op_shl pe_int (pv 5)) (pv 1))))
 (pss_cons (ps_asg (pe_call GDb hrB rfl gDb kDb bDb .nil pass0 (pa_cons (pe_op op_add (pe_op op_shl pe_int (pv 2)) (pv 3)) (pa_cons (pv 1) pa_nil))) (pg_tup rfl (pgs_cons (pg_name (i := 6) sc_Rule_padded.nd rfl (Or.inl rfl)) (pgs_cons (pg_name (i := 7) sc_Rule_padded.nd rfl (Or.inl rfl)) pgs_nil))))
 (pss_one (ps_ret (pe_makeV (i := 0) MRI GRI hrM rfl (Or.inl rfl) bRI .nil (passes_call (takes_of rfl rfl rfl rfl) fun _ _ _ _ h => h) (pa_cons (pe_tup (pa_cons (pv 1) pa_nil)) (pa_cons (pe_op op_cat (pv 4) (pv 6)) (pa_cons (pv 7) pa_nil)))))))))), ?_⟩
    refine ⟨_, rfl, _, rfl, x, y, S, S2, rfl, hx, hy, kE, kE2, fun hw hv => ?_⟩
    · 
      · obtain ⟨m, rfl, h2, h32⟩ := within_int hw
        obtain ⟨e, rfl, e1, e12⟩ := within_int hv
        obtain ⟨e, rfl⟩ : ∃ k : Nat, e = (k : Int) := ⟨e.toNat, by omega⟩
        refine ⟨_, rfl, _, rfl, _, _, rfl, rfl, z, S3, 0, m - 1, rfl, hz, _, rfl, ?_⟩
        cases hu : withinV 0 (m - 1) z with
        | false => exact iteT ⟨rfl, fun d H' hd s2 e => kE3 m rfl hw hv hu d H' s2 e⟩
        | true =>
          obtain ⟨q, rfl, q0, q1⟩ := within_int hu
          refine iteF ?_
          have kk := kQ m q e rfl rfl rfl h2 h32 (by omega) (by omega) q0 q1
          obtain ⟨o1, o2, o3, o4⟩ := doubled_ok (f := 2 ^ e + q) h2 h32
          obtain ⟨p1, p2⟩ := mod_one h2 h32
          refine ⟨_, rfl, _, rfl, by omega, by omega, fun D hD => ?_⟩
          refine lc_it walk_range (fun i G => G = upd H D (.lst ((((List.range i).map fun (i : Nat) => (2 : Int) ^ i % m)).map V.int))) rfl (fun _ _ _ _ => trivial) ?_ ?_
          · rintro i v G G' hi rfl ⟨rfl, rfl⟩
            have hi2 : i < e := by omega
            refine ⟨rfl, _, rfl, _, _, rfl, rfl, ⟨by omega, by omega, by decide⟩, _, rfl, _, _, rfl, rfl, (by show (0 : Int) < m; omega), _, upd_same, row_len hi2 (by omega), ?_⟩
            rw [upd_upd, List.range_succ, List.map_append, List.map_append]
            simp
          · rintro G rfl
            rw [show ((e : Int)).toNat = e by omega]
            have ePow : ((List.range e).map fun (i : Nat) => (2 : Int) ^ i % m) = powM m e := rfl
            rw [ePow]
            have sD : Same H (upd H D (.lst ((powM m e).map V.int))) := Same.lay hD
            have hD1 : (upd H D (.lst ((powM m e).map V.int))) D = some (.lst ((powM m e).map V.int)) := upd_same
            generalize upd H D (.lst ((powM m e).map V.int)) = G1 at sD hD1 ⊢
            have lp : (powM m e).length = e := by
              unfold powM
              rw [List.length_map, List.length_range]
            refine ⟨_, rfl, _, _, rfl, rfl, ⟨by omega, by omega, by decide⟩, _, rfl, _, _, rfl, rfl, _, rfl, 2 ^ e + q, m, ?_, h2, h32, fun H1 u a t s1 eq ea et => ⟨u, _, rfl, SqT.of eq, rfl, _, _, rfl, _, _, rfl, rfl, ?_⟩⟩
            · rw [show ((e : Int)).toNat = e by omega, Int.one_mul]
              rfl
            · refine ⟨rfl, _, rfl, (by show 1 ≤ PySem.sizeLine; decide), fun tm htm => ⟨_, rfl, _, rfl, ?_⟩⟩
              have s2 := Same.lay (o := .tup [.int m]) htm
              refine ⟨D, a, _, _, rfl, rfl, s2 _ _ (s1 _ _ hD1), s2 _ _ ea, Nat.le_of_lt (small1000 (by rw [List.length_map, List.length_map, lp]; omega)), fun tc htc => ⟨_, rfl, fun x dx nx ndx nex => ?_⟩⟩
              have s3 := Same.lay (o := .lst ((powM m e).map V.int ++ ((doubled (2 ^ e + q) m).1).map V.int)) htc
              refine made_out (fun _ _ z => s3 _ _ (s2 _ _ (s1 _ _ (sD _ _ z)))) nx ndx (.inr (s3 _ _ upd_same)) (.inl (by rw [upd_same, List.map_append])) (.inl (s3 _ _ (s2 _ _ et))) p1 (fun z hz => ?_) (by rw [p2]; exact o4) o1 (by rw [List.length_append, lp]; omega) (by omega) kk
              rw [p2]
              rcases List.mem_append.mp hz with h | h
              · obtain ⟨i, _, rfl⟩ := List.mem_map.mp h
                have g0 := Int.emod_nonneg ((2 : Int) ^ i) (show m ≠ 0 by omega)
                have g1 := Int.emod_lt_of_pos ((2 : Int) ^ i) (show (0 : Int) < m by omega)
                omega
              · exact o3 z h
end
end Toy
set_option maxRecDepth 100000
namespace Toy
open PySem L2 LamX
abbrev s__law_heard : Stmt := top 41
theorem dat_same {H H' : Hp} {v : V} {d : PyData} (s : Same H H') (h : Dat0 H v d) : Dat0 H' v d := by
  cases h with
  | non => exact .non
  | bl b => exact .bl b
  | int i => exact .int i
  | str z => exact .str z
  | tup e => exact .tup (s _ _ e)
  | lst e n => exact .lst (s _ _ e) n
  | dct e => exact .dct (s _ _ e)
/-- plain data, the empty dict too -/
inductive Dat1 (H : Hp) : V → PyData → Prop where
  | d0 {v : V} {d : PyData} (h : Dat0 H v d) : Dat1 H v d
  | emp {a : Addr} (e : H a = some (.dK [])) : Dat1 H (.ref a) (.dict [])
theorem dat_same1 {H H' : Hp} {v : V} {d : PyData} (s : Same H H') (h : Dat1 H v d) : Dat1 H' v d := by
  cases h with
  | d0 h => exact .d0 (dat_same s h)
  | emp e => exact .emp (s _ _ e)
theorem Dat1.rd {X : Cx} {H : Hp} {v : V} {d : PyData} (h : Dat1 H v d) : RdS X H v d := by
  cases h with
  | d0 h => exact h.rd
  | @emp a e =>
    intro pins σ s u I r
    obtain rfl : u = Value.ref a := r
    obtain ⟨_, sm, vs, kv, o, es, ep, ho, ex, hd, kk, pr, _⟩ := dk_of I.hok e
    cases kv
    have e0 : es.toList = [] := by
      generalize es.toList = l at pr
      cases pr
      rfl
    have h1 : ReadsAll s.heap (es.toList.map (·.key)) [] [] := by
      rw [e0]
      exact .nil
    have h2 : ReadsAll s.heap (es.toList.map (·.val)) [] [] := by
      rw [e0]
      exact .nil
    refine ⟨_, Reads.dict (kvs := []) ho ex.1 hd h1 h2, fun m => ?_⟩
    have e1 : sysModules = a := by simpa using m
    rw [← e1] at sm
    exact absurd sm (by decide)
/-- how the law tells what it caught: by the error's class -/
structure THeard (K : PySem.W.Frag) (mg : Str → Option Value) (CR CN CT B : Addr) : Prop where
  gB : mg "BankError" = some (.ref B)
  gR : mg "BadRule" = some (.ref CR)
  gN : mg "BadNumber" = some (.ref CN)
  gT : mg "TooMany" = some (.ref CT)
  xR : XvC K CR
  xN : XvC K CN
  xT : XvC K CT
  nR : PySem.W.findIn K (.ref CR) "part" = some none
  nN : PySem.W.findIn K (.ref CN) "value" = some none
  nW : PySem.W.findIn K (.ref CT) "what" = some none
  nM : PySem.W.findIn K (.ref CT) "most" = some none
  eR : PySem.W.exmOne K (.ref CR) (.ref B) = some true
  eN : PySem.W.exmOne K (.ref CN) (.ref B) = some true
  eT : PySem.W.exmOne K (.ref CT) (.ref B) = some true
  RR : PySem.W.kitOne K (.ref CR) (.ref CR) = some true
  RN : PySem.W.kitOne K (.ref CR) (.ref CN) = some false
  RT : PySem.W.kitOne K (.ref CR) (.ref CT) = some false
  NR : PySem.W.kitOne K (.ref CN) (.ref CR) = some false
  NN : PySem.W.kitOne K (.ref CN) (.ref CN) = some true
  NT : PySem.W.kitOne K (.ref CN) (.ref CT) = some false
  T_R : PySem.W.kitOne K (.ref CT) (.ref CR) = some false
  T_N : PySem.W.kitOne K (.ref CT) (.ref CN) = some false
  TT : PySem.W.kitOne K (.ref CT) (.ref CT) = some true
  m_isinstance : mg "isinstance" = none
  m_repr : mg "repr" = none
  m_len : mg "len" = none
/-- a value that repr shows, as the text z -/
def Shows (H : Hp) (v : V) (z : Str) : Prop := ∃ d, Dat1 H v d ∧ d.showable = true ∧ d.depth ≤ 20 ∧ d.shown.length ≤ PySem.sizeLine ∧ d.shown = z
theorem Shows.same {H H' : Hp} {v : V} {z : Str} (s : Same H H') (h : Shows H v z) : Shows H' v z :=
  let ⟨d, h1, h2⟩ := h
  ⟨d, dat_same1 s h1, h2⟩
/-- what the law makes of an error: a pair -/
def Told (CR CN CT : Addr) (H : Hp) (cls : Value) (d : Option Addr) (x y : V) : Prop := ∃ dd, d = some dd ∧
  ((cls = .ref CR ∧ ∃ v z, H dd = some (.xd [("part", v)]) ∧ Shows H v z ∧ x = .str "rule" ∧ y = .str z) ∨
   (cls = .ref CN ∧ ∃ v z, H dd = some (.xd [("value", v)]) ∧ Shows H v z ∧ x = .str "number" ∧ y = .str z) ∨
   (cls = .ref CT ∧ H dd = some (.xd [("most", y), ("what", x)])))
/-- heard: the list of the answer, or the pair -/
def TTH (CR CN CT : Addr) : (XK → Hp → VK → Prop) → Hp → VK → Prop := fun tl H Q =>
  tl (fun cls d H' => ∃ x y, Told CR CN CT H' cls d x y ∧ ∀ H'' p, Same H' H'' → H'' p = some (.tup [x, y]) → Q (.ref p) H'') H (fun v H' => [v].length ≤ PySem.sizeLine ∧ ∀ p, H' p = none → Q (.ref p) (upd H' p (.lst [v])))
abbrev N__law_heard : List Str := ["_law_ask", "_law_caught", "error", "_law_found"]
theorem sc__law_heard : FnScope N__law_heard ["_law_ask"] (defScope s__law_heard) := ⟨rfl, rfl, rfl, by decide +kernel, rfl, by decide +kernel, by decide +kernel⟩
theorem heard_gives {X : Cx} {k : Nat} {g : Addr} {cdg : Value} {q : Str} {CR CN CT B : Addr} (T : THeard X.K X.mg CR CN CT B) (hr : Room (k + 2) X.A) (hgd : X.A.guards = some []) :
    GivesTo X N__law_heard "_law_heard" (defScope s__law_heard) g cdg (defBody s__law_heard) "_law_ask" q (TTH CR CN CT) := by
  intro f c' s H Q tl act hc h
  have gd : (cxOf C8.CX0 X.prog X.w X.K X.mg X.base N__law_heard "_law_heard" (defScope s__law_heard) g cdg X.A X.stack s H C8.E0).nox.A.guards = some [] := hgd
  have hr' : Room (k + 1) (cxOf C8.CX0 X.prog X.w X.K X.mg X.base N__law_heard "_law_heard" (defScope s__law_heard) g cdg X.A X.stack s H C8.E0).nox.A := hr.deeper _
  refine ⟨_, (pss_cons (ps_set (i := 1) sc__law_heard.nd rfl (Or.inl rfl) pe_non)
 (pss_cons (ps_try_keep (i := 2) (c := .ref B) (tb := fun W D σ H => ∃ Ech : XK, (∀ cls d σ' H', Ech cls d H' → W cls d σ' H') ∧ σ[0]? = some (some (.ref f)) ∧ H c' = some (CodeO c' q) ∧ tl Ech H (fun v H' => [v].length ≤ PySem.sizeLine ∧ ∀ p, H' p = none → D.rt (.ref p) (upd H' p (.lst [v])))) rfl rfl sc__law_heard.nd rfl rfl ⟨rfl, by decide, .inl T.gB⟩ L2.takes0 rfl (fun W pn xe tk _ => ?_) (fun a oe cls d pn _ _ => pss_one (ps_set (i := 1) sc__law_heard.nd rfl (Or.inl rfl) (pv 2))))
 (pss_cons (ps_set (i := 3) sc__law_heard.nd rfl (Or.inl rfl) (pe_lst pa_nil))
 (pss_cons (ps_if (pt_val (pe_callB call_isz (by rfl) T.m_isinstance (by decide +kernel) (pa_cons (pv 1) (pa_cons (pe_glob (v := .ref CR) rfl T.gR rfl) pa_nil)))) (pss_one (ps_expr (pe_bm PySem.F.plainAttrs_list PySem.F.slot_list_append PySem.F.type_list_append mt_append (pv 3) (pa_cons (pe_tup (pa_cons pe_str (pa_cons (pe_callB (call_reprG gd hr'.units) (by rfl) T.m_repr (by decide +kernel) (pa_cons (pe_zat (pv 1)) pa_nil)) pa_nil))) pa_nil)))) pss_nil)
 (pss_cons (ps_if (pt_val (pe_callB call_isz (by rfl) T.m_isinstance (by decide +kernel) (pa_cons (pv 1) (pa_cons (pe_glob (v := .ref CN) rfl T.gN rfl) pa_nil)))) (pss_one (ps_expr (pe_bm PySem.F.plainAttrs_list PySem.F.slot_list_append PySem.F.type_list_append mt_append (pv 3) (pa_cons (pe_tup (pa_cons pe_str (pa_cons (pe_callB (call_reprG gd hr'.units) (by rfl) T.m_repr (by decide +kernel) (pa_cons (pe_zat (pv 1)) pa_nil)) pa_nil))) pa_nil)))) pss_nil)
 (pss_cons (ps_if (pt_val (pe_callB call_isz (by rfl) T.m_isinstance (by decide +kernel) (pa_cons (pv 1) (pa_cons (pe_glob (v := .ref CT) rfl T.gT rfl) pa_nil)))) (pss_one (ps_expr (pe_bm PySem.F.plainAttrs_list PySem.F.slot_list_append PySem.F.type_list_append mt_append (pv 3) (pa_cons (pe_tup (pa_cons (pe_zat (pv 1)) (pa_cons (pe_zat (pv 1)) pa_nil))) pa_nil)))) pss_nil)
 (pss_one (ps_ret (pe_ifExp (pt_cmpR op_eq (pe_callB call_len_seq (by rfl) T.m_len (by decide +kernel) (pa_cons (pv 3) pa_nil)) pe_int (nomark _)) (pe_ix ix_list (pv 3) pe_int (fun _ _ => rfl)) (pe_tup (pa_cons pe_str pa_nil))))))))))), ?_⟩
  · refine ⟨fun pins s' σ G D I h' => ?_⟩
    obtain ⟨Ech, hW, h1, h2, h3⟩ := h'
    exact (pss_one (ps_ret (pe_lst (pa_cons (act W pn xe Ech _ _ tk hW) pa_nil)))).run pins s' σ G D I ⟨h1, h2, h3⟩
  · refine ⟨_, fun cls d σ' G e => ?_, rfl, hc, h⟩
    obtain ⟨x, y, ⟨dd, rfl, hT⟩, hq⟩ := e
    have shape : σ'.length = 4 → ∃ w0 w1 w2 w3, σ' = [w0, w1, w2, w3] := fun hl => by
      match σ', hl with
      | [w0, w1, w2, w3], _ => exact ⟨w0, w1, w2, w3, rfl⟩
    rcases hT with ⟨rfl, v, z, hd, hs, rfl, rfl⟩ | ⟨rfl, v, z, hd, hs, rfl, rfl⟩ | ⟨rfl, hd⟩
    · refine ⟨true, T.eR, fun _ hl a na => ?_, fun z => nomatch z⟩
      obtain ⟨w0, w1, w2, w3, rfl⟩ := shape hl
      have nda : dd ≠ a := ne_of_none hd na
      have s1 : Same G (upd G a (exz a (.ref CR) (some dd))) := Same.lay na
      have c1 : Caught (upd G a (exz a (.ref CR) (some dd))) a CR [("part", v)] := ⟨dd, upd_same, s1 _ _ hd⟩
      refine ⟨_, rfl, (by show 0 ≤ PySem.sizeLine; decide), fun l hl => ?_⟩
      have nl : G l = none := s1.free hl
      have c2 : Caught (upd (upd G a (exz a (.ref CR) (some dd))) l (.lst [])) a CR [("part", v)] := c1.same (Same.lay hl)
      have s2 : Same G (upd (upd G a (exz a (.ref CR) (some dd))) l (.lst [])) := fun _ _ z => Same.lay hl _ _ (s1 _ _ z)
      refine ⟨_, rfl, a, CR, _, _, _, true, rfl, c2, T.xR, .own _, T.RR, _, rfl, ?_⟩
      refine iteT ?_
      obtain ⟨dv, w4, w5, w6, w7, rfl⟩ := hs
      refine ⟨_, rfl, .inl ⟨rfl, _, SqL.of upd_same⟩, _, rfl, a, CR, _, v, rfl, c2, T.xR, T.nR, rfl, v, dv, rfl, (dat_same1 s2 w4).rd.v, w5, w6, w7, (by show 2 ≤ PySem.sizeLine; decide), fun t ht => ?_⟩
      have nlt : l ≠ t := fun z => by
        rw [← z, upd_same] at ht
        cases ht
      refine ⟨l, [], .ref t, rfl, rfl, (by rw [upd_ne nlt]; exact upd_same), (by show 0 < PySem.sizeLine; decide), ?_⟩
      have s3 : Same G (upd (upd (upd (upd G a (exz a (.ref CR) (some dd))) l (.lst [])) t (.tup [.str "rule", .str dv.shown])) l (.lst ([] ++ [.ref t]))) := fun b o z => by
        rw [upd_ne (ne_of_none z nl)]
        exact Same.lay ht _ _ (s2 _ _ z)
      have nal : a ≠ l := fun z => by
        rw [← z, upd_same] at hl
        cases hl
      have c3 : Caught (upd (upd (upd (upd G a (exz a (.ref CR) (some dd))) l (.lst [])) t (.tup [.str "rule", .str dv.shown])) l (.lst ([] ++ [.ref t]))) a CR [("part", v)] := by
        obtain ⟨d', e1, e2⟩ := c2
        have nd' : d' ≠ l := fun z => by
          rw [z, upd_same] at e2
          cases e2
        exact ⟨d', by rw [upd_ne nal]; exact Same.lay ht _ _ e1, by rw [upd_ne nd']; exact Same.lay ht _ _ e2⟩
      have tup3 : (upd (upd (upd (upd G a (exz a (.ref CR) (some dd))) l (.lst [])) t (.tup [.str "rule", .str dv.shown])) l (.lst ([] ++ [.ref t]))) t = some (.tup [.str "rule", .str dv.shown]) := by
        rw [upd_ne nlt.symm]
        exact upd_same
      refine ⟨_, rfl, a, CR, _, _, _, false, rfl, c3, T.xR, .own _, T.RN, _, rfl, ?_⟩
      refine iteF ?_
      refine ⟨_, rfl, a, CR, _, _, _, false, rfl, c3, T.xR, .own _, T.RT, _, rfl, ?_⟩
      refine iteF ?_
      refine ⟨_, rfl, l, _, rfl, .inl (SqL.of upd_same), rfl, _, rfl, ?_⟩
      refine iteT ⟨_, rfl, l, _, 0, .ref t, rfl, rfl, SqL.of upd_same, atI_nat (j := 0) rfl, ?_⟩
      exact hq _ t s3 tup3
    · refine ⟨true, T.eN, fun _ hl a na => ?_, fun z => nomatch z⟩
      obtain ⟨w0, w1, w2, w3, rfl⟩ := shape hl
      have nda : dd ≠ a := ne_of_none hd na
      have s1 : Same G (upd G a (exz a (.ref CN) (some dd))) := Same.lay na
      have c1 : Caught (upd G a (exz a (.ref CN) (some dd))) a CN [("value", v)] := ⟨dd, upd_same, s1 _ _ hd⟩
      refine ⟨_, rfl, (by show 0 ≤ PySem.sizeLine; decide), fun l hl => ?_⟩
      have nl : G l = none := s1.free hl
      have c2 : Caught (upd (upd G a (exz a (.ref CN) (some dd))) l (.lst [])) a CN [("value", v)] := c1.same (Same.lay hl)
      have s2 : Same G (upd (upd G a (exz a (.ref CN) (some dd))) l (.lst [])) := fun _ _ z => Same.lay hl _ _ (s1 _ _ z)
      refine ⟨_, rfl, a, CN, _, _, _, false, rfl, c2, T.xN, .own _, T.NR, _, rfl, ?_⟩
      refine iteF ?_
      refine ⟨_, rfl, a, CN, _, _, _, true, rfl, c2, T.xN, .own _, T.NN, _, rfl, ?_⟩
      refine iteT ?_
      obtain ⟨dv, w4, w5, w6, w7, rfl⟩ := hs
      refine ⟨_, rfl, .inl ⟨rfl, _, SqL.of upd_same⟩, _, rfl, a, CN, _, v, rfl, c2, T.xN, T.nN, rfl, v, dv, rfl, (dat_same1 s2 w4).rd.v, w5, w6, w7, (by show 2 ≤ PySem.sizeLine; decide), fun t ht => ?_⟩
      have nlt : l ≠ t := fun z => by
        rw [← z, upd_same] at ht
        cases ht
      refine ⟨l, [], .ref t, rfl, rfl, (by rw [upd_ne nlt]; exact upd_same), (by show 0 < PySem.sizeLine; decide), ?_⟩
      have s3 : Same G (upd (upd (upd (upd G a (exz a (.ref CN) (some dd))) l (.lst [])) t (.tup [.str "number", .str dv.shown])) l (.lst ([] ++ [.ref t]))) := fun b o z => by
        rw [upd_ne (ne_of_none z nl)]
        exact Same.lay ht _ _ (s2 _ _ z)
      have nal : a ≠ l := fun z => by
        rw [← z, upd_same] at hl
        cases hl
      have c3 : Caught (upd (upd (upd (upd G a (exz a (.ref CN) (some dd))) l (.lst [])) t (.tup [.str "number", .str dv.shown])) l (.lst ([] ++ [.ref t]))) a CN [("value", v)] := by
        obtain ⟨d', e1, e2⟩ := c2
        have nd' : d' ≠ l := fun z => by
          rw [z, upd_same] at e2
          cases e2
        exact ⟨d', by rw [upd_ne nal]; exact Same.lay ht _ _ e1, by rw [upd_ne nd']; exact Same.lay ht _ _ e2⟩
      have tup3 : (upd (upd (upd (upd G a (exz a (.ref CN) (some dd))) l (.lst [])) t (.tup [.str "number", .str dv.shown])) l (.lst ([] ++ [.ref t]))) t = some (.tup [.str "number", .str dv.shown]) := by
        rw [upd_ne nlt.symm]
        exact upd_same
      refine ⟨_, rfl, a, CN, _, _, _, false, rfl, c3, T.xN, .own _, T.NT, _, rfl, ?_⟩
      refine iteF ?_
      refine ⟨_, rfl, l, _, rfl, .inl (SqL.of upd_same), rfl, _, rfl, ?_⟩
      refine iteT ⟨_, rfl, l, _, 0, .ref t, rfl, rfl, SqL.of upd_same, atI_nat (j := 0) rfl, ?_⟩
      exact hq _ t s3 tup3
    · refine ⟨true, T.eT, fun _ hl a na => ?_, fun z => nomatch z⟩
      obtain ⟨w0, w1, w2, w3, rfl⟩ := shape hl
      have nda : dd ≠ a := ne_of_none hd na
      have s1 : Same G (upd G a (exz a (.ref CT) (some dd))) := Same.lay na
      have c1 : Caught (upd G a (exz a (.ref CT) (some dd))) a CT [("most", y), ("what", x)] := ⟨dd, upd_same, s1 _ _ hd⟩
      refine ⟨_, rfl, (by show 0 ≤ PySem.sizeLine; decide), fun l hl => ?_⟩
      have nl : G l = none := s1.free hl
      have c2 : Caught (upd (upd G a (exz a (.ref CT) (some dd))) l (.lst [])) a CT [("most", y), ("what", x)] := c1.same (Same.lay hl)
      have s2 : Same G (upd (upd G a (exz a (.ref CT) (some dd))) l (.lst [])) := fun _ _ z => Same.lay hl _ _ (s1 _ _ z)
      refine ⟨_, rfl, a, CT, _, _, _, false, rfl, c2, T.xT, .own _, T.T_R, _, rfl, ?_⟩
      refine iteF ?_
      refine ⟨_, rfl, a, CT, _, _, _, false, rfl, c2, T.xT, .own _, T.T_N, _, rfl, ?_⟩
      refine iteF ?_
      refine ⟨_, rfl, a, CT, _, _, _, true, rfl, c2, T.xT, .own _, T.TT, _, rfl, ?_⟩
      refine iteT ?_
      refine ⟨_, rfl, .inl ⟨rfl, _, SqL.of upd_same⟩, _, rfl, a, CT, _, x, rfl, c2, T.xT, T.nW, rfl, _, rfl, a, CT, _, y, rfl, c2, T.xT, T.nM, rfl, (by show 2 ≤ PySem.sizeLine; decide), fun t ht => ?_⟩
      have nlt : l ≠ t := fun z => by
        rw [← z, upd_same] at ht
        cases ht
      refine ⟨l, [], .ref t, rfl, rfl, (by rw [upd_ne nlt]; exact upd_same), (by show 0 < PySem.sizeLine; decide), ?_⟩
      have s3 : Same G (upd (upd (upd (upd G a (exz a (.ref CT) (some dd))) l (.lst [])) t (.tup [x, y])) l (.lst ([] ++ [.ref t]))) := fun b o z => by
        rw [upd_ne (ne_of_none z nl)]
        exact Same.lay ht _ _ (s2 _ _ z)
      have nal : a ≠ l := fun z => by
        rw [← z, upd_same] at hl
        cases hl
      have c3 : Caught (upd (upd (upd (upd G a (exz a (.ref CT) (some dd))) l (.lst [])) t (.tup [x, y])) l (.lst ([] ++ [.ref t]))) a CT [("most", y), ("what", x)] := by
        obtain ⟨d', e1, e2⟩ := c2
        have nd' : d' ≠ l := fun z => by
          rw [z, upd_same] at e2
          cases e2
        exact ⟨d', by rw [upd_ne nal]; exact Same.lay ht _ _ e1, by rw [upd_ne nd']; exact Same.lay ht _ _ e2⟩
      have tup3 : (upd (upd (upd (upd G a (exz a (.ref CT) (some dd))) l (.lst [])) t (.tup [x, y])) l (.lst ([] ++ [.ref t]))) t = some (.tup [x, y]) := by
        rw [upd_ne nlt.symm]
        exact upd_same
      refine ⟨_, rfl, l, _, rfl, .inl (SqL.of upd_same), rfl, _, rfl, ?_⟩
      refine iteT ⟨_, rfl, l, _, 0, .ref t, rfl, rfl, SqL.of upd_same, atI_nat (j := 0) rfl, ?_⟩
      exact hq _ t s3 tup3
end Toy
set_option maxRecDepth 100000
namespace L2
open PySem PySem.Spec PyProof.Rows
/-- a def whose code object is known, by its body -/
theorem fnG_of {P : Program} {w : World} {K : PySem.W.Frag} {mg : Str → Option Value} {base : Heap} {x qual : Str} {st : Stmt} {f : Addr} {N ps : List Str} {k : Nat} {sp : Sp} {oc kV doc pm cdv ct : Value} {od an : Option Addr} {osl : Array (Option Value)}
    (lk : K.lookup f = some ⟨oc, od, .func (PySem.W.fnOf x qual (defArgs st) (defBody st) (defScope st) .none kV doc pm an cdv ct), osl⟩) (hcd : PySem.W.codeIn K cdv qual = true) (S : FnScope N ps (defScope st)) (len : ∀ vs H Q E, sp vs H Q E → vs.length = ps.length)
    (body : ∀ (A : Around) (outer : List Env) (s : Shared) (H : Hp) (vs : List V) (Q : VK) (E : XK), A.guards = some [] →
      Room k (A.deeper (envOfC qual (defScope st) s.heap.objs.size f cdv)) → sp vs H Q E →
      ∃ t, PSs (cxOf CX0 P w K mg base N qual (defScope st) f cdv A outer s H E).nox (defBody st) t ∧
        t { nx := fun _ H' => Q .non H', rt := Q } (start N vs) H) :
    FnG P w K mg base CX0 (k + 1) f (PySem.W.fnOf x qual (defArgs st) (defBody st) (defScope st) .none kV doc pm an cdv ct) ps sp := by
  refine ⟨len, fun A outer s H args us vs Q E gd hr e0 bi r h => ?_⟩
  have hn := len _ _ _ _ h
  have up : ∀ b o, base.get? b = some o → s.heap.get? b = some o := fun b o e => (e0.bs b o e).1
  have kin := e0.mod.kin.keeps up
  refine codeAny_call_function hr.depth (kin _ _ lk) rfl S.co S.gen rfl (PySem.W.codeRec_of kin hcd) (bi _ _ _ _ (wpAny_newFunctionEnv_cells S.kind ?_ ?_))
  · intro y hy
    have hm : y.1 ∈ ps := by
      obtain ⟨n, v⟩ := y
      exact (List.of_mem_zip hy).1
    exact (S.par _ hm).elim Or.inl fun q => Or.inr ⟨q, PySem.W.cellsFrom_some _ _ _ (.inl q)⟩
  · rintro env rfl s1 x
    refine ⟨(e0.mod.nolimit.keeps up).keeps x.toInCall.keep, codeAny_func ?_⟩
    obtain ⟨t, ht, hq⟩ := body A outer s H vs Q E gd (hr.deeper _) h
    have I := inv_start (CX := CX0) (P := P) (w := w) (K := K) (mg := mg) (base := base) (E := E) S hr.hd e0 hn r x
    refine wpAny_mono (ht.nox.run [] s1 (start N vs) H _ I hq) (fun fl s' hs => ?_) fun _ _ hs => hs
    cases fl with
    | next =>
      obtain ⟨_, H', J, q⟩ := hs
      exact ⟨V.non, H', J.os, J.bare, J.base, J.hok, rfl, q⟩
    | ret u =>
      obtain ⟨v, _, H', J, rv, q⟩ := hs
      exact ⟨v, H', J.os, J.bare, J.base, J.hok, rv, q⟩
    | brk =>
      obtain ⟨_, _, _, q⟩ := hs
      exact q.elim
    | cont =>
      obtain ⟨_, _, _, q⟩ := hs
      exact q.elim
end L2
set_option maxRecDepth 100000
namespace Toy
open PySem L2 LamX ClX
abbrev s__law_turn_right : Stmt := top 42
abbrev qLam : Str := "_law_turn_right" ++ ".<locals>." ++ "<lambda>"
abbrev qLaw : Str := "law" ++ ".<locals>." ++ "<lambda>"
/-- the tables of both defs that make lambdas -/
def TT2 (PT PL : Addr) : List (Addr × Str) := [(PT, qLam), (PL, qLaw)]
theorem tt2_t {PT PL : Addr} (h : PT ≠ PL) : ∀ p ∈ TT2 PT PL, p.1 = PT → p.2 = qLam := fun p hp e => by
  rcases List.mem_cons.mp hp with z | z
  · rw [z]
  · rw [List.mem_singleton.mp z] at e
    exact absurd e.symm h
theorem tt2_l {PT PL : Addr} (h : PT ≠ PL) : ∀ p ∈ TT2 PT PL, p.1 = PL → p.2 = qLaw := fun p hp e => by
  rcases List.mem_cons.mp hp with z | z
  · rw [z] at e
    exact absurd e h
  · rw [List.mem_singleton.mp z]
theorem tt2_m {PT PL : Addr} : (PT, qLam) ∈ TT2 PT PL := List.mem_cons_self
theorem tt2_n {PT PL : Addr} : (PL, qLaw) ∈ TT2 PT PL := List.mem_cons_of_mem _ List.mem_cons_self
theorem tabs_but {p : Addr} {T : List (Addr × Str)} {G G' : Hp} {xs : List V} (hp : G p = some (.lst xs)) (bt : But p G G') (t : Tabs T G) : Tabs T G' := fun y hy => by
  obtain ⟨ps, h1, h2, h3⟩ := t y hy
  refine ⟨ps, bt _ _ (fun z => ?_) h1, h2, fun pos cv hc => ?_⟩
  · rw [z, hp] at h1
    cases h1
  · obtain ⟨c, e1, e2⟩ := h3 pos cv hc
    refine ⟨c, e1, bt _ _ (fun z => ?_) e2⟩
    rw [z, hp] at e2
    have e3 : HO.lst xs = HO.ext _ := Option.some.inj e2
    cases e3

theorem pen_lay {H : Hp} {p l D : Addr} {ns : List Int} {a b : Int} {o : HO} (P : PenAt H p l ns a b) (h1 : D ≠ p) (h2 : D ≠ l) : PenAt (upd H D o) p l ns a b :=
  ⟨by rw [upd_ne h1.symm]; exact P.pen, by rw [upd_ne h2.symm]; exact P.cells, P.few, P.bits, P.low⟩
theorem pen_same {H H' : Hp} {p l : Addr} {ns : List Int} {a b : Int} (s : Same H H') (P : PenAt H p l ns a b) : PenAt H' p l ns a b := ⟨s _ _ P.pen, s _ _ P.cells, P.few, P.bits, P.low⟩
/-- a turn: true, the pen goes on -/
def spTurn (PT PL : Addr) : Sp := fun vs H Q _ => ∃ (p l : Addr) (ns : List Int) (a b : Int), vs = [.ref p] ∧ PenAt H p l ns a b ∧ a ≤ 990000 ∧ Tabs (TT2 PT PL) H ∧
  ∀ (H' : Hp) (a' b' : Int), PenAt H' p l ns a' b' → a' ≤ a + 40 → Tabs (TT2 PT PL) H' → Q (.bl true) H'
theorem PlainA.move {K : PySem.W.Frag} {A : Addr → Prop} {H H' : Hp} {y : V} (h : PlainA K A H y) (st : ∀ b o, ¬ A b → H b = some o → (∀ ps, o ≠ .tbl ps) → H' b = some o) : PlainA K A H' y :=
  let ⟨S, h1, h2⟩ := h
  ⟨S, plain_move st h2 h1, h2⟩
theorem PlainA.avoid {K : PySem.W.Frag} {A : Addr → Prop} {H : Hp} {q : Addr} {y : V} (h : PlainA K A H y) (hq : H q = none) : PlainA K (fun b => A b ∨ b = q) H y :=
  let ⟨S, h1, h2⟩ := h
  ⟨S, h1, plain_avoid hq h1 h2⟩
/-! what stays through a turn: the pen, the tables, some drawn values -/
structure Hd (K : PySem.W.Frag) (A : Addr → Prop) (T : List (Addr × Str)) (p l : Addr) (ns : List Int) (hi : Int) (vals : List V) (G : Hp) : Prop where
  pen : ∃ a b, PenAt G p l ns a b ∧ a ≤ hi
  tb : Tabs T G
  pl : ∀ v ∈ vals, PlainA K A G v
section
variable {K : PySem.W.Frag} {A : Addr → Prop} {T : List (Addr × Str)} {p l : Addr} {ns : List Int} {hi hi' : Int} {vals : List V} {G G' : Hp}
theorem Hd.ext (h : Hd K A T p l ns hi vals G) (e : ExtN G G') (tb : Tabs T G') : Hd K A T p l ns hi vals G' := by
  obtain ⟨a, b, h1, h2⟩ := h.pen
  exact ⟨⟨a, b, ⟨e _ _ h1.pen (fun _ z => by cases z), e _ _ h1.cells (fun _ z => by cases z), h1.few, h1.bits, h1.low⟩, h2⟩, tb, fun v hv => (h.pl v hv).move fun b o _ z n => e b o z n⟩
theorem Hd.same (h : Hd K A T p l ns hi vals G) (s : Same G G') : Hd K A T p l ns hi vals G' := h.ext (ExtN.of s) (h.tb.ext s)
theorem Hd.draw (h : Hd K A T p l ns hi vals G) (hp : A p) (bt : But p G G') {a' b' : Int} (P : PenAt G' p l ns a' b') (ha : a' ≤ hi') : Hd K A T p l ns hi' vals G' := by
  obtain ⟨a, b, h1, h2⟩ := h.pen
  exact ⟨⟨a', b', P, ha⟩, tabs_but h1.pen bt h.tb, fun v hv => (h.pl v hv).move fun b o n z _ => bt b o (fun e => n (by rw [e]; exact hp)) z⟩
theorem Hd.add (h : Hd K A T p l ns hi vals G) {v : V} (hv : PlainA K A G v) : Hd K A T p l ns hi (vals ++ [v]) G := ⟨h.pen, h.tb, fun u hu => (List.mem_append.mp hu).elim (h.pl u) fun z => by rw [List.mem_singleton.mp z]; exact hv⟩
theorem Hd.avoid (h : Hd K A T p l ns hi vals G) {q : Addr} (hq : G q = none) : Hd K (fun b => A b ∨ b = q) T p l ns hi vals G ∧ q ≠ p ∧ q ≠ l := by
  obtain ⟨a, b, h1, h2⟩ := h.pen
  exact ⟨⟨h.pen, h.tb, fun v hv => (h.pl v hv).avoid hq⟩, (ne_of_none h1.pen hq).symm, (ne_of_none h1.cells hq).symm⟩
theorem Hd.put (h : Hd K A T p l ns hi vals G) {q : Addr} {xs ys : List V} (hq : A q) (hl : G q = some (.lst xs)) (n1 : q ≠ p) (n2 : q ≠ l) : Hd K A T p l ns hi vals (upd G q (.lst ys)) := by
  obtain ⟨a, b, h1, h2⟩ := h.pen
  exact ⟨⟨a, b, pen_lay h1 n1 n2, h2⟩, tabs_but hl (But.refl _ _).put h.tb, fun v hv => (h.pl v hv).move fun b o n z _ => by
    rw [upd_ne (fun e => n (by rw [e]; exact hq))]
    exact z⟩
end
/-! the list of what was heard -/
structure Lh (G : Hp) (LH : Addr) (vs : List V) (ds : List PyData) : Prop where
  at_ : G LH = some (.lst vs)
  rows : HRows G vs ds
theorem Lh.ext {G G' : Hp} {LH : Addr} {vs : List V} {ds : List PyData} (h : Lh G LH vs ds) (e : ExtN G G') : Lh G' LH vs ds := ⟨e _ _ h.at_ (fun _ z => by cases z), h.rows.move fun b xs z => e b _ z fun _ y => by cases y⟩
theorem Lh.same {G G' : Hp} {LH : Addr} {vs : List V} {ds : List PyData} (h : Lh G LH vs ds) (e : Same G G') : Lh G' LH vs ds := h.ext (ExtN.of e)
theorem Lh.app {G G' : Hp} {LH w : Addr} {vs : List V} {ds : List PyData} {d : PyData} (h : Lh G LH vs ds) (s : Same G G') (he : HE G' (.ref w) d) : Lh (upd G' LH (.lst (vs ++ [.ref w]))) LH (vs ++ [.ref w]) (ds ++ [d]) := by
  have mv : ∀ b xs, G' b = some (.tup xs) → (upd G' LH (.lst (vs ++ [.ref w]))) b = some (.tup xs) := fun b xs e => by
    rw [upd_ne (fun z => by rw [z, s _ _ h.at_] at e; cases e)]
    exact e
  exact ⟨upd_same, HRows.app (h.rows.move fun b xs e => mv b xs (s _ _ e)) (.cons (he.move mv) .nil)⟩
/-! menus of values without a place within bounds -/
structure MenuW (K : PySem.W.Frag) (A : Addr → Prop) (lo hi : Int) (H0 H : Hp) (xs : List V) : Prop where
  same : Same H0 H
  all : ∀ v ∈ xs, PlainA K A H v ∧ withinV lo hi v = false
section
variable {K : PySem.W.Frag} {A : Addr → Prop} {lo hi : Int} {H0 H : Hp} {xs : List V}
theorem MenuW.start : MenuW K A lo hi H0 H0 [] := ⟨Same.refl H0, fun _ z => nomatch z⟩
theorem MenuW.val (M : MenuW K A lo hi H0 H xs) {v : V} {S : String} (h : Plain K H v S) (r : ∀ b, v ≠ .ref b) (w : withinV lo hi v = false) : MenuW K A lo hi H0 H (xs ++ [v]) := ⟨M.same, fun u hu => (List.mem_append.mp hu).elim (M.all u) fun z => by
  rw [List.mem_singleton.mp z]
  exact ⟨⟨S, h, fun b e => absurd e (r b)⟩, w⟩⟩
theorem MenuW.obj (M : MenuW K A lo hi H0 H xs) {q : Addr} {o : HO} {S : String} (ha : ∀ b, A b → H0 b ≠ none) (h : H q = none) (pl : ∀ H', H' q = some o → Plain K H' (.ref q) S) : MenuW K A lo hi H0 (upd H q o) (xs ++ [.ref q]) := by
  have s := Same.lay (o := o) h
  refine ⟨fun _ _ z => s _ _ (M.same _ _ z), fun u hu => ?_⟩
  rcases List.mem_append.mp hu with z | z
  · obtain ⟨h1, h2⟩ := M.all u z
    exact ⟨h1.move fun b o _ e _ => s b o e, h2⟩
  · rw [List.mem_singleton.mp z]
    refine ⟨⟨S, pl _ upd_same, fun b e z2 => ?_⟩, rfl⟩
    obtain rfl := V.ref.inj e
    cases e2 : H0 q with
    | none => exact ha q z2 e2
    | some o =>
      rw [M.same _ _ e2] at h
      cases h
end
/-! words of the errors -/
def words7 : List Str := ["banks", "bits", "folds", "banks", "every", "pad", "every"]
def rowW (w : Str) : PyData := .tuple [.str "rule", .str (PyData.str w).shown]
theorem word_ok : ∀ w : Str, w ∈ words7 → (PyData.str w).showable = true ∧ (PyData.str w).depth ≤ 20 ∧ (PyData.str w).shown.length ≤ PySem.sizeLine := by decide +kernel
theorem words_rows : (words7.map rowW).all rowOk = true := by decide +kernel
theorem told_part {CR CN CT : Addr} {H' : Hp} {d : Addr} {w : Str} (hw : w ∈ words7) (e : H' d = some (.xd [("part", .str w)])) : Told CR CN CT H' (.ref CR) (some d) (.str "rule") (.str (PyData.str w).shown) := by
  obtain ⟨h1, h2, h3⟩ := word_ok w hw
  exact ⟨d, rfl, .inl ⟨rfl, _, _, e, ⟨_, .d0 (.str _), h1, h2, h3, rfl⟩, rfl, rfl⟩⟩
theorem not_in {lo hi m : Int} {x : V} (h : withinV lo hi x = false) (e : x = .int m) (l : lo ≤ m) (u : m ≤ hi) {X : Prop} : X := by
  rw [e, show withinV lo hi (.int m) = true from decide_eq_true ⟨l, u⟩] at h
  cases h
section
variable {P : Program} {w : World} {K : PySem.W.Frag} {mg : Str → Option Value} {base : Heap} {CR CN CT uR uN uT B : Addr} {fdR fdN fdT : FuncData} {C pc pb gc gb : Addr}
abbrev N__law_turn_right : List Str := ["_law_pen_here", "_law_banks", "_law_bits", "_law_folds", "_law_every", "_law_pad", "_law_heard_here", "_law_names", "_law_name"]
theorem sc__law_turn_right : FnScope N__law_turn_right ["_law_pen_here"] (defScope s__law_turn_right) := ⟨rfl, rfl, rfl, by decide +kernel, rfl, by decide +kernel, by decide +kernel⟩
set_option maxHeartbeats 4000000 in
theorem ok__law_turn_right {f fPk fHe c PT PL pM pX pP gM gX gP : Addr} {mc : Value} {fdPk : FuncData} {oc kV doc pm ct : Value} {od an : Option Addr} {osl : Array (Option Value)} {och kVh doch pmh cdvh cth : Value} {odh anh : Option Addr} {oslh : Array (Option Value)}
    (lk : K.lookup f = some ⟨oc, od, .func (PySem.W.fnOf "_law_turn_right" "_law_turn_right" (defArgs s__law_turn_right) (defBody s__law_turn_right) (defScope s__law_turn_right) .none kV doc pm an (.ref c) ct), osl⟩) (hcd : PySem.W.codeIn K (.ref c) "_law_turn_right" = true) (TBt : TabB base mg c PT) (hPP : PT ≠ PL)
    (T : TR mg) (m_repr : mg "repr" = none) (TU : TRule K mg C pc pb gc gb) (THd : THeard K mg CR CN CT B)
    (GPk : FnOk P w K mg base CX0 2 fPk fdPk ["_law_pen_here", "_law_some"] (spPick K)) (gPk : mg "_law_pick" = some (.ref fPk)) (kPk : PySem.W.keepIn K (.ref fPk) = true) (bPk : Binds K fdPk ["_law_pen_here", "_law_some"] [])
    (rcR : CRead K C mc) (cmM : CMet K C mc "modulo" pM gM) (cmX : CMet K C mc "xor" pX gX) (cmP : CMet K C mc "padded" pP gP)
    (GMd : FnR P w K mg base (L2.CX P w) 6 gM (spModulo CR CT C K)) (GXr : FnR P w K mg base (L2.CX P w) 6 gX (spXor CR CT C K)) (GPd : FnR P w K mg base (L2.CX P w) 6 gP (spPadded CR CT C K))
    (gHe : mg "_law_heard" = some (.ref fHe)) (kHe : PySem.W.keepIn K (.ref fHe) = true) (lkHe : K.lookup fHe = some ⟨och, odh, .func (PySem.W.fnOf "_law_heard" "_law_heard" (defArgs s__law_heard) (defBody s__law_heard) (defScope s__law_heard) .none kVh doch pmh anh cdvh cth), oslh⟩) (hcHe : PySem.W.codeIn K cdvh "_law_heard" = true)
    (bHe : L2.Binds K (PySem.W.fnOf "_law_heard" "_law_heard" (defArgs s__law_heard) (defBody s__law_heard) (defScope s__law_heard) .none kVh doch pmh anh cdvh cth) ["_law_ask"] []) :
    FnG P w K mg base CX0 9 f (PySem.W.fnOf "_law_turn_right" "_law_turn_right" (defArgs s__law_turn_right) (defBody s__law_turn_right) (defScope s__law_turn_right) .none kV doc pm an (.ref c) ct) ["_law_pen_here"] (spTurn PT PL) := by
  refine fnG_of lk hcd sc__law_turn_right (fun vs H Q E h => ?_) (fun A outer s H vs Q E hgd hr h => ?_)
  · obtain ⟨p, l, ns, a, b, rfl, _⟩ := h
    rfl
  · obtain ⟨p, l, ns, a, b, rfl, hP, ha, hTb, k⟩ := h
    have hrD2 : Room 2 _ := hr.mono (by decide)
    have hrH : Room 8 _ := hr
    refine ⟨_, (pss_cons (ps_set (i := 1) sc__law_turn_right.nd rfl (Or.inr rfl) (by exact (pe_call GPk hrD2 rfl gPk kPk bPk .nil pass0 (pa_cons (pv 0) (pa_cons (pe_lst (pa_cons pe_non (pa_cons pe_int (pa_cons pe_int (pa_cons pe_bl (pa_cons pe_str (pa_cons (pe_tup (pa_cons pe_int pa_nil)) (pa_cons pe_int (pa_cons (pe_un un_neg pe_int) pa_nil))))))))) pa_nil)))))
 (pss_cons (ps_asg (pe_tup (pa_cons (pe_call GPk hrD2 rfl gPk kPk bPk .nil pass0 (pa_cons (pv 0) (pa_cons (pe_lst (pa_cons pe_non (pa_cons pe_int (pa_cons pe_int (pa_cons pe_bl (pa_cons pe_str (pa_cons (pe_lst (pa_cons pe_int pa_nil)) pa_nil))))))) pa_nil))) (pa_cons (pe_call GPk hrD2 rfl gPk kPk bPk .nil pass0 (pa_cons (pv 0) (pa_cons (pe_lst (pa_cons pe_non (pa_cons (pe_un un_neg pe_int) (pa_cons pe_int (pa_cons pe_bl (pa_cons pe_str (pa_cons (pe_tup (pa_cons pe_int pa_nil)) pa_nil))))))) pa_nil))) pa_nil))) (pg_tup rfl (pgs_cons (pg_name (i := 2) sc__law_turn_right.nd rfl (Or.inr rfl)) (pgs_cons (pg_name (i := 3) sc__law_turn_right.nd rfl (Or.inr rfl)) pgs_nil))))
 (pss_cons (ps_asg (pe_tup (pa_cons (pe_call GPk hrD2 rfl gPk kPk bPk .nil pass0 (pa_cons (pv 0) (pa_cons (pe_lst (pa_cons pe_non (pa_cons pe_int (pa_cons pe_int (pa_cons pe_bl (pa_cons pe_str (pa_cons pe_dnewK pa_nil))))))) pa_nil))) (pa_cons (pe_call GPk hrD2 rfl gPk kPk bPk .nil pass0 (pa_cons (pv 0) (pa_cons (pe_lst (pa_cons pe_non (pa_cons (pe_un un_neg pe_int) (pa_cons pe_int (pa_cons pe_bl (pa_cons pe_str (pa_cons (pe_op op_pow pe_int pe_int) pa_nil))))))) pa_nil))) pa_nil))) (pg_tup rfl (pgs_cons (pg_name (i := 4) sc__law_turn_right.nd rfl (Or.inr rfl)) (pgs_cons (pg_name (i := 5) sc__law_turn_right.nd rfl (Or.inr rfl)) pgs_nil))))
 (pss_cons (ps_set (i := 6) sc__law_turn_right.nd rfl (Or.inl rfl) (pe_lst (pa_cons (pe_lamcall (T := TT2 PT PL) (TT := TTH CR CN CT) (k := 6) (t := (fun E => tCMeth C (spModulo CR CT C K) E (tC (.ref C)) (tCons (tVar 1) tNil))) rfl gHe kHe lkHe hcHe bHe sc__law_heard rfl (Or.inl rfl) (heard_gives THd hrH hgd) TBt rfl tt2_m (tt2_t hPP) hrH (lamS_by (show lamSB (defScope s__law_turn_right) _ = true by decide +kernel)) rfl (fun _ _ _ _ _ => rfl) (fun A outer s H E f c' hr => (pe_cmeth (pe_glob (v := .ref C) rfl TU.gC rfl) rcR cmM GMd hr (passes_call (takes_of rfl rfl rfl rfl) fun _ _ _ _ h => h) (pa_cons (pv 1) pa_nil)))) pa_nil)))
 (pss_cons (ps_expr (pe_bm PySem.F.plainAttrs_list PySem.F.slot_list_append PySem.F.type_list_append mt_append (pv 6) (pa_cons (pe_lamcall (T := TT2 PT PL) (TT := TTH CR CN CT) (k := 6) (t := (fun E => tCMeth C (spXor CR CT C K) E (tC (.ref C)) (tCons (tVar 2) (tCons (tVar 3) tNil)))) rfl gHe kHe lkHe hcHe bHe sc__law_heard rfl (Or.inl rfl) (heard_gives THd hrH hgd) TBt rfl tt2_m (tt2_t hPP) hrH (lamS_by (show lamSB (defScope s__law_turn_right) _ = true by decide +kernel)) rfl (fun _ _ _ _ _ => rfl) (fun A outer s H E f c' hr => (pe_cmeth (pe_glob (v := .ref C) rfl TU.gC rfl) rcR cmX GXr hr (passes_call (takes_of rfl rfl rfl rfl) fun _ _ _ _ h => h) (pa_cons (pv 2) (pa_cons (pv 3) pa_nil))))) pa_nil)))
 (pss_cons (ps_expr (pe_bm PySem.F.plainAttrs_list PySem.F.slot_list_append PySem.F.type_list_append mt_append (pv 6) (pa_cons (pe_lamcall (T := TT2 PT PL) (TT := TTH CR CN CT) (k := 6) (t := (fun E => tCMeth C (spXor CR CT C K) E (tC (.ref C)) (tCons (tC (.int 2)) (tCons (tVar 3) tNil)))) rfl gHe kHe lkHe hcHe bHe sc__law_heard rfl (Or.inl rfl) (heard_gives THd hrH hgd) TBt rfl tt2_m (tt2_t hPP) hrH (lamS_by (show lamSB (defScope s__law_turn_right) _ = true by decide +kernel)) rfl (fun _ _ _ _ _ => rfl) (fun A outer s H E f c' hr => (pe_cmeth (pe_glob (v := .ref C) rfl TU.gC rfl) rcR cmX GXr hr (passes_call (takes_of rfl rfl rfl rfl) fun _ _ _ _ h => h) (pa_cons pe_int (pa_cons (pv 3) pa_nil))))) pa_nil)))
 (pss_cons (ps_expr (pe_bm PySem.F.plainAttrs_list PySem.F.slot_list_append PySem.F.type_list_append mt_append (pv 6) (pa_cons (pe_lamcall (T := TT2 PT PL) (TT := TTH CR CN CT) (k := 6) (t := (fun E => tCMeth C (spPadded CR CT C K) E (tC (.ref C)) (tCons (tVar 1) (tCons (tVar 4) (tCons (tVar 5) tNil))))) rfl gHe kHe lkHe hcHe bHe sc__law_heard rfl (Or.inl rfl) (heard_gives THd hrH hgd) TBt rfl tt2_m (tt2_t hPP) hrH (lamS_by (show lamSB (defScope s__law_turn_right) _ = true by decide +kernel)) rfl (fun _ _ _ _ _ => rfl) (fun A outer s H E f c' hr => (pe_cmeth (pe_glob (v := .ref C) rfl TU.gC rfl) rcR cmP GPd hr (passes_call (takes_of rfl rfl rfl rfl) fun _ _ _ _ h => h) (pa_cons (pv 1) (pa_cons (pv 4) (pa_cons (pv 5) pa_nil)))))) pa_nil)))
 (pss_cons (ps_expr (pe_bm PySem.F.plainAttrs_list PySem.F.slot_list_append PySem.F.type_list_append mt_append (pv 6) (pa_cons (pe_lamcall (T := TT2 PT PL) (TT := TTH CR CN CT) (k := 6) (t := (fun E => tCMeth C (spPadded CR CT C K) E (tC (.ref C)) (tCons (tC (.int 4)) (tCons (tVar 4) (tCons (tVar 5) tNil))))) rfl gHe kHe lkHe hcHe bHe sc__law_heard rfl (Or.inl rfl) (heard_gives THd hrH hgd) TBt rfl tt2_m (tt2_t hPP) hrH (lamS_by (show lamSB (defScope s__law_turn_right) _ = true by decide +kernel)) rfl (fun _ _ _ _ _ => rfl) (fun A outer s H E f c' hr => (pe_cmeth (pe_glob (v := .ref C) rfl TU.gC rfl) rcR cmP GPd hr (passes_call (takes_of rfl rfl rfl rfl) fun _ _ _ _ h => h) (pa_cons pe_int (pa_cons (pv 4) (pa_cons (pv 5) pa_nil)))))) pa_nil)))
 (pss_cons (ps_expr (pe_bm PySem.F.plainAttrs_list PySem.F.slot_list_append PySem.F.type_list_append mt_append (pv 6) (pa_cons (pe_lamcall (T := TT2 PT PL) (TT := TTH CR CN CT) (k := 6) (t := (fun E => tCMeth C (spPadded CR CT C K) E (tC (.ref C)) (tCons (tC (.int 4)) (tCons (tC (.int 2)) (tCons (tVar 5) tNil))))) rfl gHe kHe lkHe hcHe bHe sc__law_heard rfl (Or.inl rfl) (heard_gives THd hrH hgd) TBt rfl tt2_m (tt2_t hPP) hrH (lamS_by (show lamSB (defScope s__law_turn_right) _ = true by decide +kernel)) rfl (fun _ _ _ _ _ => rfl) (fun A outer s H E f c' hr => (pe_cmeth (pe_glob (v := .ref C) rfl TU.gC rfl) rcR cmP GPd hr (passes_call (takes_of rfl rfl rfl rfl) fun _ _ _ _ h => h) (pa_cons pe_int (pa_cons pe_int (pa_cons (pv 5) pa_nil)))))) pa_nil)))
 (pss_cons (ps_expr (pe_bm PySem.F.plainAttrs_list PySem.F.slot_list_append PySem.F.type_list_append mt_append (pv 6) (pa_cons (pe_lamcall (T := TT2 PT PL) (TT := TTH CR CN CT) (k := 6) (t := (fun E => tCMeth C (spPadded CR CT C K) E (tC (.ref C)) (tCons (tC (.int 29)) (tCons (tVar 4) (tCons (tC (.int 0)) tNil))))) rfl gHe kHe lkHe hcHe bHe sc__law_heard rfl (Or.inl rfl) (heard_gives THd hrH hgd) TBt rfl tt2_m (tt2_t hPP) hrH (lamS_by (show lamSB (defScope s__law_turn_right) _ = true by decide +kernel)) rfl (fun _ _ _ _ _ => rfl) (fun A outer s H E f c' hr => (pe_cmeth (pe_glob (v := .ref C) rfl TU.gC rfl) rcR cmP GPd hr (passes_call (takes_of rfl rfl rfl rfl) fun _ _ _ _ h => h) (pa_cons pe_int (pa_cons (pv 4) (pa_cons pe_int pa_nil)))))) pa_nil)))
 (pss_cons (ps_set (i := 7) sc__law_turn_right.nd rfl (Or.inl rfl) (pe_lst (pa_cons pe_str (pa_cons pe_str (pa_cons pe_str (pa_cons pe_str (pa_cons pe_str (pa_cons pe_str (pa_cons pe_str pa_nil)))))))))
 (pss_one (ps_ret (pe_cmpR (op_eqD hrD2.units) (pv 6) (pe_lc (own := [("_law_name", 8)]) (g := (gName 8)) (tt := tYes) rfl sc__law_turn_right.nd (pi_list (pv 7)) (blkOk_by (N := N__law_turn_right) (sc := defScope s__law_turn_right) (by decide +kernel)) (fun _ _ _ _ _ => (pg_name (i := 8) sc__law_turn_right.nd rfl (Or.inl rfl))) (fun _ _ _ _ _ => pts_nil) (fun _ _ _ _ _ => (pe_tup (pa_cons pe_str (pa_cons (pe_callB (call_reprA hgd hrD2.units) (by rfl) m_repr (by decide +kernel) (pa_cons (pv 8) pa_nil)) pa_nil))))) (nomark _))))))))))))))), ?_⟩
    have notI : ∀ {lo hi i : Int}, ¬ (lo ≤ i ∧ i ≤ hi) → withinV lo hi (.int i) = false := fun h => decide_eq_false h
    have h0 : Hd K (fun b => b = p) (TT2 PT PL) p l ns a [] H := ⟨⟨a, b, hP, Int.le_refl a⟩, hTb, fun _ z => nomatch z⟩
    have hA : ∀ {G : Hp} {a b : Int}, PenAt G p l ns a b → ∀ c, c = p → G c ≠ none := fun h c e z => by
      rw [e, h.pen] at z
      cases z
    -- pick of a menu
    have pick : ∀ {lo hi h1 : Int} {G G1 G2 : Hp} {L : Addr} {xs vals : List V} {i : Nat} {v : V} {a' b' : Int}, Hd K (fun b => b = p) (TT2 PT PL) p l ns h1 vals G → MenuW K (fun b => b = p) lo hi G G1 xs → Same G1 (upd G1 L (.lst xs)) → xs[i]? = some v → But p (upd G1 L (.lst xs)) G2 → PenAt G2 p l ns a' b' → a' ≤ h1 + 1 →
        Hd K (fun b => b = p) (TT2 PT PL) p l ns (h1 + 1) (vals ++ [v]) G2 ∧ withinV lo hi v = false := by
      intro lo hi h1 G G1 G2 L xs vals i v a' b' h M s hv bt P2 ha2
      obtain ⟨q1, q2⟩ := M.all v (List.mem_of_getElem? hv)
      have h2 := ((h.same M.same).add q1).same s
      exact ⟨h2.draw rfl bt P2 ha2, q2⟩
    -- _law_banks
    have mB := (((((MenuW.start (K := K) (A := fun b => b = p) (lo := 2) (hi := 32) (H0 := H)).val (v := .non) .non (fun _ z => by cases z) rfl).val (.int 1) (fun _ z => by cases z) (notI (by omega))).val (.int 33) (fun _ z => by cases z) (notI (by omega))).val (.bl true) (fun _ z => by cases z) rfl).val (.str "4") (fun _ z => by cases z) rfl
    refine ⟨_, rfl, (by show 1 ≤ PySem.sizeLine; decide), fun t1 g1 => ⟨_, rfl, (by show 8 ≤ PySem.sizeLine; decide), fun L1 gL1 => ?_⟩⟩
    have mB2 := ((mB.obj (o := .tup [.int 4]) (S := "tuple") (hA hP) g1 fun _ e => .tup e).val (.int 0) (fun _ z => by cases z) (notI (by omega))).val (.int (-2)) (fun _ z => by cases z) (notI (by omega))
    have sL1 := Same.lay (o := .lst ([] ++ [V.non] ++ [V.int 1] ++ [V.int 33] ++ [V.bl true] ++ [V.str "4"] ++ [V.ref t1] ++ [V.int 0] ++ [V.int (-2)])) gL1
    refine ⟨p, l, L1, ns, a, b, _, rfl, pen_same sL1 (pen_same mB2.same hP), by omega, SqL.of upd_same, (ne_of_none (mB2.same _ _ hP.pen) gL1).symm, (by show 0 < 8; decide), (by show 8 ≤ 1000; decide), fun G1 i1 vB a1 b1 hv1 h11 h12 bt1 P1 => ?_⟩
    obtain ⟨h1, wB⟩ := pick h0 mB2 sL1 hv1 bt1 P1 h12
    -- _law_bits
    have mI := ((((MenuW.start (K := K) (A := fun b => b = p) (lo := 1) (hi := 5) (H0 := G1)).val (v := .non) .non (fun _ z => by cases z) rfl).val (.int 0) (fun _ z => by cases z) (notI (by omega))).val (.int 6) (fun _ z => by cases z) (notI (by omega))).val (.bl true) (fun _ z => by cases z) rfl |>.val (.str "2") (fun _ z => by cases z) rfl
    refine ⟨_, rfl, (by show 1 ≤ PySem.sizeLine; decide), fun t2 g2 => ⟨(by show 6 ≤ PySem.sizeLine; decide), fun L2 gL2 => ?_⟩⟩
    have mI2 := mI.obj (o := .lst [.int 2]) (S := "list") (hA P1) g2 fun _ e => .lst e
    have sL2 := Same.lay (o := .lst ([] ++ [V.non] ++ [V.int 0] ++ [V.int 6] ++ [V.bl true] ++ [V.str "2"] ++ [V.ref t2])) gL2
    refine ⟨p, l, L2, ns, a1, b1, _, rfl, pen_same sL2 (pen_same mI2.same P1), by omega, SqL.of upd_same, (ne_of_none (mI2.same _ _ P1.pen) gL2).symm, (by show 0 < 6; decide), (by show 6 ≤ 1000; decide), fun G2 i2 vI a2 b2 hv2 h21 h22 bt2 P2 => ?_⟩
    obtain ⟨h2, wI⟩ := pick h1 mI2 sL2 hv2 bt2 P2 (by omega)
    -- _law_folds
    have mF := ((((MenuW.start (K := K) (A := fun b => b = p) (lo := 0) (hi := 8) (H0 := G2)).val (v := .non) .non (fun _ z => by cases z) rfl).val (.int (-1)) (fun _ z => by cases z) (notI (by omega))).val (.int 9) (fun _ z => by cases z) (notI (by omega))).val (.bl false) (fun _ z => by cases z) rfl |>.val (.str "0") (fun _ z => by cases z) rfl
    refine ⟨_, rfl, _, rfl, (by show 1 ≤ PySem.sizeLine; decide), fun t3 g3 => ⟨(by show 6 ≤ PySem.sizeLine; decide), fun L3 gL3 => ?_⟩⟩
    have mF2 := mF.obj (o := .tup [.int 0]) (S := "tuple") (hA P2) g3 fun _ e => .tup e
    have sL3 := Same.lay (o := .lst ([] ++ [V.non] ++ [V.int (-1)] ++ [V.int 9] ++ [V.bl false] ++ [V.str "0"] ++ [V.ref t3])) gL3
    refine ⟨p, l, L3, ns, a2, b2, _, rfl, pen_same sL3 (pen_same mF2.same P2), by omega, SqL.of upd_same, (ne_of_none (mF2.same _ _ P2.pen) gL3).symm, (by show 0 < 6; decide), (by show 6 ≤ 1000; decide), fun G3 i3 vF a3 b3 hv3 h31 h32 bt3 P3 => ?_⟩
    obtain ⟨h3, wF⟩ := pick h2 mF2 sL3 hv3 bt3 P3 (by omega)
    refine ⟨(by show 2 ≤ PySem.sizeLine; decide), fun q1 hq1 => ⟨q1, _, rfl, SqT.of upd_same, rfl, _, _, rfl, _, _, rfl, rfl, ?_⟩⟩
    have s3 := Same.lay (o := .tup [vI, vF]) hq1
    have h3' := h3.same s3
    have P3' := pen_same s3 P3
    generalize upd G3 q1 (.tup [vI, vF]) = G4 at h3' P3' ⊢
    -- _law_every
    have mE := ((((MenuW.start (K := K) (A := fun b => b = p) (lo := 1) (hi := 12) (H0 := G4)).val (v := .non) .non (fun _ z => by cases z) rfl).val (.int 0) (fun _ z => by cases z) (notI (by omega))).val (.int 13) (fun _ z => by cases z) (notI (by omega))).val (.bl true) (fun _ z => by cases z) rfl |>.val (.str "1") (fun _ z => by cases z) rfl
    refine ⟨_, rfl, fun t4 g4 => ⟨(by show 6 ≤ PySem.sizeLine; decide), fun L4 gL4 => ?_⟩⟩
    have mE2 := mE.obj (o := .dK []) (S := "dict") (hA P3') g4 fun _ e => .dK e
    have sL4 := Same.lay (o := .lst ([] ++ [V.non] ++ [V.int 0] ++ [V.int 13] ++ [V.bl true] ++ [V.str "1"] ++ [V.ref t4])) gL4
    refine ⟨p, l, L4, ns, a3, b3, _, rfl, pen_same sL4 (pen_same mE2.same P3'), by omega, SqL.of upd_same, (ne_of_none (mE2.same _ _ P3'.pen) gL4).symm, (by show 0 < 6; decide), (by show 6 ≤ 1000; decide), fun G5 i4 vE a5 b5 hv5 h51 h52 bt5 P5 => ?_⟩
    obtain ⟨h5, wE⟩ := pick h3' mE2 sL4 hv5 bt5 P5 (by omega)
    -- _law_pad
    have big : (10 : Int) ^ (30 : Int).toNat = 1000000000000000000000000000000 := by decide +kernel
    have mP := (((((MenuW.start (K := K) (A := fun b => b = p) (lo := 0) (hi := 3) (H0 := G5)).val (v := .non) .non (fun _ z => by cases z) rfl).val (.int (-1)) (fun _ z => by cases z) (notI (by omega))).val (.int 4) (fun _ z => by cases z) (notI (by omega))).val (.bl true) (fun _ z => by cases z) rfl).val (.str "0") (fun _ z => by cases z) rfl |>.val (.int (10 ^ (30 : Int).toNat)) (fun _ z => by cases z) (notI (by rw [big]; omega))
    refine ⟨_, rfl, _, rfl, _, _, rfl, rfl, ⟨by decide, by decide, by decide⟩, (by show 6 ≤ PySem.sizeLine; decide), fun L5 gL5 => ?_⟩
    have sL5 := Same.lay (o := .lst ([] ++ [V.non] ++ [V.int (-1)] ++ [V.int 4] ++ [V.bl true] ++ [V.str "0"] ++ [V.int (10 ^ (30 : Int).toNat)])) gL5
    refine ⟨p, l, L5, ns, a5, b5, _, rfl, pen_same sL5 (pen_same mP.same P5), by omega, SqL.of upd_same, (ne_of_none (mP.same _ _ P5.pen) gL5).symm, (by show 0 < 6; decide), (by show 6 ≤ 1000; decide), fun G6 i6 vP a6 b6 hv6 h61 h62 bt6 P6 => ?_⟩
    obtain ⟨h6, wP⟩ := pick h5 mP sL5 hv6 bt6 P6 (by omega)
    refine ⟨(by show 2 ≤ PySem.sizeLine; decide), fun q2 hq2 => ⟨q2, _, rfl, SqT.of upd_same, rfl, _, _, rfl, _, _, rfl, rfl, ?_⟩⟩
    have k6 := h6.same (Same.lay (o := .tup [vE, vP]) hq2)
    generalize upd G6 q2 (.tup [vE, vP]) = G7 at k6 ⊢
    have memB : vB ∈ [] ++ [vB] ++ [vI] ++ [vF] ++ [vE] ++ [vP] := by simp
    have memI : vI ∈ [] ++ [vB] ++ [vI] ++ [vF] ++ [vE] ++ [vP] := by simp
    have memF : vF ∈ [] ++ [vB] ++ [vI] ++ [vF] ++ [vE] ++ [vP] := by simp
    have memE : vE ∈ [] ++ [vB] ++ [vI] ++ [vF] ++ [vE] ++ [vP] := by simp
    have memP : vP ∈ [] ++ [vB] ++ [vI] ++ [vF] ++ [vE] ++ [vP] := by simp
    have no : ∀ {lo hi : Int} {x : V}, withinV lo hi x = false → ∀ {X : Prop}, withinV lo hi x = true → X := fun h X z => by
      rw [h] at z
      cases z
    -- modulo
    refine ⟨k6.tb, fun G8 eN8 T8 => ?_⟩
    have k8 := k6.ext eN8 T8
    obtain ⟨SB, pB, _⟩ := k8.pl vB memB
    refine ⟨rfl, _, rfl, vB, SB, rfl, pB, fun _ d H' s e => ?_, fun m e l1 l2 => not_in wB e l1 l2⟩
    refine ⟨_, _, told_part (w := "banks") (by decide) e, fun G9 w1 s9 hw1 => ⟨(by show 1 ≤ PySem.sizeLine; decide), fun LH hLH => ?_⟩⟩
    obtain ⟨k9, nh1, nh2⟩ := ((k8.same s).same s9).avoid hLH
    have s10 := Same.lay (o := .lst [V.ref w1]) hLH
    have k10 := k9.same s10
    have lh1 : Lh (upd G9 LH (.lst [V.ref w1])) LH [V.ref w1] [rowW "banks"] := ⟨upd_same, .cons (.ss (s10 _ _ hw1)) .nil⟩
    generalize upd G9 LH (.lst [V.ref w1]) = G10 at k10 lh1 ⊢
    -- one more
    have more : ∀ {G1 H' G2 : Hp} {w : Addr} {vs : List V} {ds : List PyData} {z : Str}, Hd K (fun b => b = p ∨ b = LH) (TT2 PT PL) p l ns (a + 1 + 1 + 1 + 1 + 1) ([] ++ [vB] ++ [vI] ++ [vF] ++ [vE] ++ [vP]) G1 → Lh G1 LH vs ds → Same G1 H' → Same H' G2 → G2 w = some (.tup [.str "rule", .str (PyData.str z).shown]) →
        G2 LH = some (.lst vs) ∧ Hd K (fun b => b = p ∨ b = LH) (TT2 PT PL) p l ns (a + 1 + 1 + 1 + 1 + 1) ([] ++ [vB] ++ [vI] ++ [vF] ++ [vE] ++ [vP]) (upd G2 LH (.lst (vs ++ [.ref w]))) ∧ Lh (upd G2 LH (.lst (vs ++ [.ref w]))) LH (vs ++ [.ref w]) (ds ++ [rowW z]) := by
      intro G1 H' G2 w vs ds z k lh s1 s2 hw
      have s := fun (b : Addr) (o : HO) (e : G1 b = some o) => s2 b o (s1 b o e)
      exact ⟨s _ _ lh.at_, (k.same s).put (.inr rfl) (s _ _ lh.at_) nh1 nh2, lh.app s (.ss hw)⟩
    -- xor
    refine ⟨_, rfl, .inl ⟨rfl, _, SqL.of lh1.at_⟩, k10.tb, fun G11 eN11 T11 => ?_⟩
    have k11 := k10.ext eN11 T11
    have lh11 := lh1.ext eN11
    obtain ⟨SI, pI, _⟩ := k11.pl vI memI
    obtain ⟨SF, pF, _⟩ := k11.pl vF memF
    refine ⟨rfl, _, rfl, _, rfl, vI, vF, SI, SF, rfl, pI, pF, fun _ d H' s e => ?_, fun y _ => no wI y, fun n j e1 e2 l1 l2 l3 => not_in wI e1 (by omega) (by omega)⟩
    refine ⟨_, _, told_part (w := "bits") (by decide) e, fun G12 w2 s12 hw2 => ?_⟩
    obtain ⟨e12, k12, lh12⟩ := more k11 lh11 s s12 hw2
    refine ⟨LH, _, .ref w2, rfl, rfl, e12, (by show 1 < PySem.sizeLine; decide), ?_⟩
    generalize upd G12 LH (.lst ([V.ref w1] ++ [V.ref w2])) = G13 at k12 lh12 ⊢
    -- xor with 2
    refine ⟨_, rfl, .inl ⟨rfl, _, SqL.of lh12.at_⟩, k12.tb, fun G14 eN14 T14 => ?_⟩
    have k14 := k12.ext eN14 T14
    have lh14 := lh12.ext eN14
    obtain ⟨SF2, pF2, _⟩ := k14.pl vF memF
    refine ⟨rfl, _, rfl, .int 2, vF, "int", SF2, rfl, .int 2, pF2, (fun y => absurd y (by decide)), fun _ _ d H' s e => ?_, fun n j e1 e2 l1 l2 l3 => not_in wF e2 (by omega) (by omega)⟩
    refine ⟨_, _, told_part (w := "folds") (by decide) e, fun G15 w3 s15 hw3 => ?_⟩
    obtain ⟨e15, k15, lh15⟩ := more k14 lh14 s s15 hw3
    refine ⟨LH, _, .ref w3, rfl, rfl, e15, (by show 2 < PySem.sizeLine; decide), ?_⟩
    generalize upd G15 LH (.lst ([V.ref w1] ++ [V.ref w2] ++ [V.ref w3])) = G16 at k15 lh15 ⊢
    -- padded
    refine ⟨_, rfl, .inl ⟨rfl, _, SqL.of lh15.at_⟩, k15.tb, fun G17 eN17 T17 => ?_⟩
    have k17 := k15.ext eN17 T17
    have lh17 := lh15.ext eN17
    obtain ⟨SB2, pB2, _⟩ := k17.pl vB memB
    obtain ⟨SE2, pE2, _⟩ := k17.pl vE memE
    obtain ⟨SP2, pP2, _⟩ := k17.pl vP memP
    refine ⟨rfl, _, rfl, _, rfl, _, rfl, vB, vE, vP, SB2, SE2, SP2, rfl, pB2, pE2, pP2, fun _ d H' s e => ?_, fun m _ y => no wB y, fun m _ y => no wB y, fun m q e e1 e2 e3 l1 l2 => not_in wB e1 l1 l2⟩
    refine ⟨_, _, told_part (w := "banks") (by decide) e, fun G18 w4 s18 hw4 => ?_⟩
    obtain ⟨e18, k18, lh18⟩ := more k17 lh17 s s18 hw4
    refine ⟨LH, _, .ref w4, rfl, rfl, e18, (by show 3 < PySem.sizeLine; decide), ?_⟩
    generalize upd G18 LH (.lst ([V.ref w1] ++ [V.ref w2] ++ [V.ref w3] ++ [V.ref w4])) = G19 at k18 lh18 ⊢
    -- padded with 4
    refine ⟨_, rfl, .inl ⟨rfl, _, SqL.of lh18.at_⟩, k18.tb, fun G20 eN20 T20 => ?_⟩
    have k20 := k18.ext eN20 T20
    have lh20 := lh18.ext eN20
    obtain ⟨SE3, pE3, _⟩ := k20.pl vE memE
    obtain ⟨SP3, pP3, _⟩ := k20.pl vP memP
    refine ⟨rfl, _, rfl, _, rfl, .int 4, vE, vP, "int", SE3, SP3, rfl, .int 4, pE3, pP3, (fun y => absurd y (by decide)), fun _ _ _ _ d H' s e => ?_, fun m _ _ y => no wE y, fun m q e e1 e2 e3 l1 l2 l3 l4 => not_in wE e2 (by omega) (by omega)⟩
    refine ⟨_, _, told_part (w := "every") (by decide) e, fun G21 w5 s21 hw5 => ?_⟩
    obtain ⟨e21, k21, lh21⟩ := more k20 lh20 s s21 hw5
    refine ⟨LH, _, .ref w5, rfl, rfl, e21, (by show 4 < PySem.sizeLine; decide), ?_⟩
    generalize upd G21 LH (.lst ([V.ref w1] ++ [V.ref w2] ++ [V.ref w3] ++ [V.ref w4] ++ [V.ref w5])) = G22 at k21 lh21 ⊢
    -- padded with 4, 2
    refine ⟨_, rfl, .inl ⟨rfl, _, SqL.of lh21.at_⟩, k21.tb, fun G23 eN23 T23 => ?_⟩
    have k23 := k21.ext eN23 T23
    have lh23 := lh21.ext eN23
    obtain ⟨SP4, pP4, _⟩ := k23.pl vP memP
    refine ⟨rfl, _, rfl, .int 4, .int 2, vP, "int", "int", SP4, rfl, .int 4, .int 2, pP4, (fun y => absurd y (by decide)), (fun _ _ _ y => absurd y (by decide)), fun m em _ _ _ d H' s e => ?_, fun m q e e1 e2 e3 l1 l2 l3 l4 l5 l6 => not_in wP e3 l5 (by have := V.int.inj e1; omega)⟩
    refine ⟨_, _, told_part (w := "pad") (by decide) e, fun G24 w6 s24 hw6 => ?_⟩
    obtain ⟨e24, k24, lh24⟩ := more k23 lh23 s s24 hw6
    refine ⟨LH, _, .ref w6, rfl, rfl, e24, (by show 5 < PySem.sizeLine; decide), ?_⟩
    generalize upd G24 LH (.lst ([V.ref w1] ++ [V.ref w2] ++ [V.ref w3] ++ [V.ref w4] ++ [V.ref w5] ++ [V.ref w6])) = G25 at k24 lh24 ⊢
    -- padded with 29, .., 0
    refine ⟨_, rfl, .inl ⟨rfl, _, SqL.of lh24.at_⟩, k24.tb, fun G26 eN26 T26 => ?_⟩
    have k26 := k24.ext eN26 T26
    have lh26 := lh24.ext eN26
    obtain ⟨SE5, pE5, _⟩ := k26.pl vE memE
    refine ⟨rfl, _, rfl, .int 29, vE, .int 0, "int", SE5, "int", rfl, .int 29, pE5, .int 0, (fun y => absurd y (by decide)), fun _ _ _ _ d H' s e => ?_, fun m _ _ y => no wE y, fun m q e e1 e2 e3 l1 l2 l3 l4 => not_in wE e2 (by omega) (by omega)⟩
    refine ⟨_, _, told_part (w := "every") (by decide) e, fun G27 w7 s27 hw7 => ?_⟩
    obtain ⟨e27, k27, lh27⟩ := more k26 lh26 s s27 hw7
    refine ⟨LH, _, .ref w7, rfl, rfl, e27, (by show 6 < PySem.sizeLine; decide), ?_⟩
    generalize upd G27 LH (.lst ([V.ref w1] ++ [V.ref w2] ++ [V.ref w3] ++ [V.ref w4] ++ [V.ref w5] ++ [V.ref w6] ++ [V.ref w7])) = G28 at k27 lh27 ⊢
    -- what is due
    refine ⟨(by show 7 ≤ PySem.sizeLine; decide), fun LN hLN => ?_⟩
    have sN := Same.lay (o := .lst (words7.map V.str)) hLN
    have k29 := k27.same sN
    have lh29 := lh27.same sN
    have hN29 : (upd G28 LN (.lst (words7.map V.str))) LN = some (.lst (words7.map V.str)) := upd_same
    refine ⟨_, rfl, _, rfl, LN, rfl, ⟨_, SqL.of hN29⟩, fun D hD => ?_⟩
    have nD : ∀ {b : Addr} {o : HO}, (upd G28 LN (.lst (words7.map V.str))) b = some o → b ≠ D := fun e => ne_of_none e hD
    refine lc_it (walk_list (xs := words7.map V.str)) (fun i G => But D (upd (upd G28 LN (.lst (words7.map V.str))) D (.lst [])) G ∧ ∃ vs, G D = some (.lst vs) ∧ HRows G vs ((words7.take i).map rowW)) ⟨But.refl _ _, [], upd_same, .nil⟩ (fun i G _ h => SqL.of (h.1 _ _ (nD hN29) (by rw [upd_ne (nD hN29)]; exact hN29))) ?_ ?_
    · rintro i v G G' hi ⟨bt, vs, hDv, rows⟩ ⟨rfl, hv⟩
      rw [List.getElem?_map] at hv
      cases hw : words7[i]? with
      | none =>
        rw [hw] at hv
        cases hv
      | some wd =>
        rw [hw] at hv
        obtain rfl := Option.some.inj hv
        obtain ⟨z1, z2, z3⟩ := word_ok wd (List.mem_of_getElem? hw)
        refine ⟨rfl, _, rfl, .str wd, .str wd, rfl, (fun X => (Dat1.d0 (Dat0.str _)).rd.v), z1, z2, z3, (by show 2 ≤ PySem.sizeLine; decide), fun t ht => ?_⟩
        have st := Same.lay (o := .tup [V.str "rule", V.str (PyData.str wd).shown]) ht
        have nt : t ≠ D := fun z => by
          rw [z, hDv] at ht
          cases ht
        have lv : vs.length = i := by
          have := rows.len
          rw [this, List.length_map, List.length_take]
          exact Nat.min_eq_left (Nat.le_of_lt (by simpa using hi))
        refine ⟨vs, st _ _ hDv, small1000 (by have : i < 7 := hi; omega), fun b o n e => ?_, _, upd_same, ?_⟩
        · rw [upd_ne n]
          exact st _ _ (bt b o n e)
        · rw [List.take_add_one, hw, List.map_append]
          have mv : ∀ b xs, G' b = some (.tup xs) → (upd (upd G' t (.tup [V.str "rule", V.str (PyData.str wd).shown])) D (.lst (vs ++ [.ref t]))) b = some (.tup xs) := fun b xs e => by
            rw [upd_ne (fun z => by rw [z, hDv] at e; cases e)]
            exact st _ _ e
          exact HRows.app (rows.move mv) (.cons (.ss (by rw [upd_ne nt]; exact upd_same)) .nil)
    · rintro G ⟨bt, vs, hDv, rows⟩
      have up : ∀ b o, (upd G28 LN (.lst (words7.map V.str))) b = some o → G b = some o := fun b o e => bt b o (nD e) (by rw [upd_ne (nD e)]; exact e)
      have lh30 := lh29.same up
      have k30 := k29.same up
      have e7 : [rowW "banks"] ++ [rowW "bits"] ++ [rowW "folds"] ++ [rowW "banks"] ++ [rowW "every"] ++ [rowW "pad"] ++ [rowW "every"] = words7.map rowW := rfl
      refine ⟨.list (words7.map rowW), .list (words7.map rowW), .lst (SqL.of lh30.at_) (HRows.dp (by rw [← e7]; exact lh30.rows)), .lst (SqL.of hDv) (HRows.dp rows), shaped_rows words_rows, shaped_rows words_rows, ?_⟩
      rw [eqv_rows words_rows]
      obtain ⟨a9, b9, P9, h9⟩ := k30.pen
      exact k _ a9 b9 P9 (by omega) k30.tb
end
end Toy
set_option maxRecDepth 100000
namespace L2
open PySem PySem.Spec PyProof.Rows LamX
/-! the law's call, where nothing is being shown and one def makes lambdas: its code object at c, its table at t -/
theorem end_tab {P : Program} {w : World} {K : PySem.W.Frag} {mg mb : Str → Option Value} {k : Nat} {fa a c t : Addr} {fd : FuncData} {x : Str} {sp : Sp} {s₁ : Shared} {vs : List Value} {H : Hp}
    (KX : K.In s₁.heap) (hns : s₁.heap.Ns mainGlobals mg) (hb : s₁.heap.Ns builtinsNs mb) (hbb : ∀ y : Str, y ≠ "__name__" → mb y = bootBuiltins y) (lim : s₁.heap.NoLimit) (hg : s₁.gens = #[])
    (ht : s₁.heap.get? t = some { cls := .none, data := .fields #[] }) (nt : K.lookup t = none) (hc : PySem.W.CodeHd s₁.heap c t)
    (bm : ∃ (m : Addr) (om : Obj), mg "__builtins__" = some (.ref m) ∧ m ≠ builtinsNs ∧ s₁.heap.get? m = some om ∧ om.cls = .type "module" ∧ om.dict = some builtinsNs ∧ om.data = .plain)
    (ha : s₁.heap.get? a = some { cls := .type "list", data := .seq vs.toArray }) (hr : Room k callerA)
    (F : ∀ base : Heap, K.In base → base.Ns mainGlobals mg → TabB base mg c t → FnG P w K mg base CX0 k fa fd [x] sp) (bind : ∀ (s : Shared) (u : Value), BindsTo s fd ⟨[u], []⟩ [(x, u)])
    (hHt : H t = some (.tbl #[])) (hO : ∀ b, b ≠ t → H b = none ∨ ∃ o xs, H b = some (.frz o (.lst xs))) (hok : HOk P w H s₁.heap) (hA : ∀ b, b ≠ t → H b ≠ none → b = a) (hK : H a ≠ none → K.lookup a = none)
    (hsp : sp [.ref a] H (fun v _ => v = .bl true) fun _ _ _ => False) :
    codeAny (model P w) callerA (.call (.ref fa) ⟨[.ref a], []⟩) (fun r s' => r = .ok (.ret (.bool true)) ∧ OldK s₁.heap s'.heap ∧ s'.os = s₁.os ∧ AllBare s'.gens) s₁ := by
  have apart : ∀ {b : Addr} {o : Obj}, s₁.heap.get? b = some o → o.data ≠ .fields #[] → b ≠ t := by
    intro b o e d z
    rw [z, ht] at e
    have eo := Option.some.inj e
    exact d (by rw [← eo])
  have free : ∀ {b : Addr} {o : Obj}, s₁.heap.get? b = some o → o.data ≠ .fields #[] → (∀ v n, o.data ≠ .seq v n) → H b = none := by
    intro b o e d1 d2
    refine Classical.byContradiction fun n => ?_
    have eb := hA b (apart e d1) n
    subst eb
    have eo := Option.some.inj (e.symm.trans ha)
    exact d2 vs.toArray _ (by rw [eo])
  have ns' : ∀ {b : Addr} {m : Str → Option Value}, s₁.heap.Ns b m → (hidT s₁.heap H).Ns b m := by
    rintro b m ⟨o, es, ep, e, d, r⟩
    exact ⟨o, es, ep, hidT_get e (free e (by rw [d]; intro z; cases z) fun v n z => by rw [d] at z; cases z), d, r⟩
  have kb : K.In (hidT s₁.heap H) := by
    intro b o e
    refine hidT_get (KX b o e) (Classical.byContradiction fun n => ?_)
    by_cases eb : b = t
    · subst eb
      rw [nt] at e
      cases e
    · have e2 := hA b eb n
      subst e2
      rw [hK n] at e
      cases e
  have md : Mod K mg (hidT s₁.heap H) := by
    obtain ⟨mc, h1, h2⟩ := lim
    exact ⟨kb, ns' hns, ⟨mb, ns' hb, hbb⟩, ⟨mc, ns' h1, h2⟩⟩
  have tb : TabB (hidT s₁.heap H) mg c t := by
    obtain ⟨m, om, m1, m2, m3, m4, m5, m6⟩ := id bm
    have hm : H m = none := free m3 (by rw [m6]; intro z; cases z) fun v n z => by rw [m6] at z; cases z
    have gm : m ≠ mainGlobals := fun z => by
      obtain ⟨o, es, ep, e, d, _⟩ := hns
      rw [z, e] at m3
      have eo := Option.some.inj m3
      rw [← eo, d] at m6
      cases m6
    have mt : m ≠ t := apart m3 (by rw [m6]; intro z; cases z)
    refine ⟨?_, ⟨m, om, m1, m2, gm, mt, hidT_get m3 hm, m4, m5, m6⟩, fun z => ?_⟩
    · obtain ⟨o, us, fi, tf, fl, tg, inF, tx, tt, c1, c2, c3, c4, rest⟩ := hc
      refine ⟨o, us, fi, tf, fl, tg, inF, tx, tt, hidT_get c1 (free c1 (fun z => ?_) fun v n z => ?_), c2, c3, c4, rest⟩
      · rw [c3] at z
        have e := Data.fields.inj z
        rw [e] at c4
        simp at c4
      · rw [c3] at z
        cases z
    · obtain ⟨o, es, ep, e, d, _⟩ := hns
      rw [z, ht] at e
      have eo := Option.some.inj e
      rw [← eo] at d
      cases d
  have ev : Env0 P w K mg (hidT s₁.heap H) callerA [] s₁ H :=
    ⟨rfl, md, fun b o e => of_hidT e, Nat.le_of_eq (hidT_size _ _), trivial, fun b hb => (nomatch hb), hok, .of_eq hg⟩
  refine codeAny_mono ((F _ kb (ns' hns) tb).run callerA [] s₁ H _ [.ref a] [.ref a] _ _ rfl hr ev (bind s₁ (.ref a)) (.cons rfl .nil) hsp) fun r s' h => ?_
  cases r with
  | error e => exact (h : False).elim
  | ok fl =>
    cases fl with
    | next => exact (h : False).elim
    | brk => exact (h : False).elim
    | cont => exact (h : False).elim
    | ret u =>
      obtain ⟨v, H', os, bare, un, hok', r', q⟩ := h
      have q' : v = .bl true := q
      subst q'
      obtain rfl : u = Value.bool true := r'
      have keep : ∀ b o, b ≠ t → s₁.heap.get? b = some o → s'.heap.get? b = some o := by
        intro b o n e
        rcases hO b n with z | ⟨ob, xs, z⟩
        · exact un.keep b o e z (fun m => nomatch m) (fun m => nomatch m)
        · have e1 := (hok b _ z).1
          have e2 := (hok' b _ (un.frzs b ob _ z)).1
          exact (Option.some.inj (e.symm.trans e1)) ▸ e2
      obtain ⟨more, gt⟩ := un.tbls t #[] hHt
      have gt2 : s'.heap.get? t = some { cls := .none, data := .fields (#[] ++ more) } := hok' t _ gt
      refine ⟨rfl, ⟨fun b o e => ?_, fun b o e => ?_⟩, os, bare⟩
      · by_cases eb : b = t
        · subst eb
          have eo := Option.some.inj (e.symm.trans ht)
          subst eo
          exact .inr (.inl ⟨(hc.tab ht).isCodeTable, rfl, #[], more, rfl, gt2⟩)
        · exact .inl (keep b o eb e)
      · by_cases eb : b = t
        · subst eb
          exact ⟨_, gt2⟩
        · exact ⟨o, keep b o eb e⟩
theorem walk_tab {l : PySem.W.OpenLaw} {n k : Nat} {q : Program} {loose : List Str} {XP : (Str → Option Value) → Heap → Prop} {YP : World → Heap → Prop} {d : DefRec} {sp : PySem.W.Frag → Addr → Sp} {x : Str}
    (hn : l.most = some n) (hn2 : n ≤ sizeLine) (hdf : d.params.defaults = []) (hr : Room k callerA)
    (F : ∀ (w : World) (mg : Str → Option Value) (fa : Addr) (h : Heap), YP w h → h.Ns mainGlobals mg → mg d.name = some (.ref fa) →
      ∃ (K : PySem.W.Frag) (c t : Addr) (fd : FuncData), K.In h ∧ h.get? t = some { cls := .none, data := .fields #[] } ∧ K.lookup t = none ∧ PySem.W.CodeHd h c t ∧ (∀ (s : Shared) (u : Value), BindsTo s fd ⟨[u], []⟩ [(x, u)]) ∧
        ∀ base : Heap, K.In base → base.Ns mainGlobals mg → TabB base mg c t → FnG l.prog w K mg base CX0 k fa fd [x] (sp K t))
    (hsp : ∀ (K : PySem.W.Frag) (t : Addr) (H : Hp) (a : Addr) (ns : List Int), ns.length ≤ n → (∀ z ∈ ns, Builtin.Int.intBits z ≤ 1048576) → H t = some (.tbl #[]) → SqL K H a (ns.map V.int) → sp K t [.ref a] H (fun v _ => v = .bl true) fun _ _ _ => False) :
    PySem.W.WalkO q loose XP YP l.row.toRowW d [] (fun f vs => PySem.call f vs) := by
  refine Att.attach_callB hn hdf fun w s₀ s₁ mg mb fa o pm cd doc a vs ns G Y ho hd hcd hmg hobj hints hlen hbits hg => ?_
  obtain ⟨K, c, t, fd, KX, ht, nt, hc, b, f⟩ := F w mg fa _ Y G.T.g hmg
  have rv := vals_ints hints
  have lv := hints.length
  have nat_ : a ≠ t := fun z => by
    have e := hobj
    rw [z, ht] at e
    have eo := congrArg Obj.data (Option.some.inj e)
    cases eo
  have hl : ns.length ≤ sizeLine := Nat.le_trans hlen hn2
  cases hk : K.lookup a with
  | some oa =>
    have eo := Option.some.inj ((KX a oa hk).symm.trans hobj)
    subst eo
    refine end_tab (H := fun b => if b = t then some (.tbl #[]) else none) KX G.T.g G.T.b G.T.builtins G.T.nolimit hg ht nt hc G.T.bmain hobj hr f b (if_pos rfl) (fun b n => .inl (if_neg n)) (fun b u z => ?_) (fun b n z => absurd (if_neg n) z) (fun z => absurd (if_neg nat_) z) ?_
    · by_cases eb : b = t
      · subst eb
        have eu := Option.some.inj ((if_pos rfl).symm.trans z)
        subst eu
        exact ht
      · exact nomatch (if_neg eb).symm.trans z
    · exact hsp K t _ a ns hlen hbits (if_pos rfl) (.inr ⟨_, vs.toArray, _, hk, rfl, rfl, rfl, by rw [List.size_toArray, lv]; exact hl, by simpa using rv⟩)
  | none =>
    refine end_tab (H := fun b => if b = t then some (.tbl #[]) else if b = a then some (HO.frz { cls := .type "list", data := .seq vs.toArray } (.lst (ns.map V.int))) else none) KX G.T.g G.T.b G.T.builtins G.T.nolimit hg ht nt hc G.T.bmain hobj hr f b (if_pos rfl) (fun b n => ?_) (fun b u z => ?_) (fun b n z => ?_) (fun _ => hk) ?_
    · by_cases eb : b = a
      · exact .inr ⟨_, _, (if_neg n).trans (if_pos eb)⟩
      · exact .inl ((if_neg n).trans (if_neg eb))
    · by_cases eb : b = t
      · subst eb
        have eu := Option.some.inj ((if_pos rfl).symm.trans z)
        subst eu
        exact ht
      · have z2 := (if_neg eb).symm.trans z
        by_cases e2 : b = a
        · subst e2
          have eu := Option.some.inj ((if_pos rfl).symm.trans z2)
          subst eu
          exact ⟨hobj, by rw [List.length_map]; exact hl, vs, _, rv, hobj⟩
        · exact nomatch (if_neg e2).symm.trans z2
    · refine Classical.byContradiction fun e2 => z ((if_neg n).trans (if_neg e2))
    · exact hsp K t _ a ns hlen hbits (if_pos rfl) (.inl (.inr ⟨_, (if_neg nat_).trans (if_pos rfl)⟩))
end L2
set_option maxRecDepth 100000
namespace L2
open PySem PySem.Spec PyProof.Rows LamX
/-! the law's call, where nothing is being shown and several defs make lambdas: their code objects and tables in ts -/
theorem end_tabs {P : Program} {w : World} {K : PySem.W.Frag} {mg mb : Str → Option Value} {k : Nat} {fa a : Addr} {ts : List (Addr × Addr)} {fd : FuncData} {x : Str} {sp : Sp} {s₁ : Shared} {vs : List Value} {H : Hp}
    (KX : K.In s₁.heap) (hns : s₁.heap.Ns mainGlobals mg) (hb : s₁.heap.Ns builtinsNs mb) (hbb : ∀ y : Str, y ≠ "__name__" → mb y = bootBuiltins y) (lim : s₁.heap.NoLimit) (hg : s₁.gens = #[])
    (ht : ∀ p ∈ ts, s₁.heap.get? p.2 = some { cls := .none, data := .fields #[] }) (nt : ∀ p ∈ ts, K.lookup p.2 = none) (hc : ∀ p ∈ ts, PySem.W.CodeHd s₁.heap p.1 p.2)
    (bm : ∃ (m : Addr) (om : Obj), mg "__builtins__" = some (.ref m) ∧ m ≠ builtinsNs ∧ s₁.heap.get? m = some om ∧ om.cls = .type "module" ∧ om.dict = some builtinsNs ∧ om.data = .plain)
    (ha : s₁.heap.get? a = some { cls := .type "list", data := .seq vs.toArray }) (hr : Room k callerA)
    (F : ∀ base : Heap, K.In base → base.Ns mainGlobals mg → (∀ p ∈ ts, TabB base mg p.1 p.2) → FnG P w K mg base CX0 k fa fd [x] sp) (bind : ∀ (s : Shared) (u : Value), BindsTo s fd ⟨[u], []⟩ [(x, u)])
    (hHt : ∀ p ∈ ts, H p.2 = some (.tbl #[])) (hO : ∀ b, (∀ p ∈ ts, b ≠ p.2) → H b = none ∨ ∃ o xs, H b = some (.frz o (.lst xs))) (hok : HOk P w H s₁.heap) (hA : ∀ b, (∀ p ∈ ts, b ≠ p.2) → H b ≠ none → b = a) (hK : H a ≠ none → K.lookup a = none)
    (hsp : sp [.ref a] H (fun v _ => v = .bl true) fun _ _ _ => False) :
    codeAny (model P w) callerA (.call (.ref fa) ⟨[.ref a], []⟩) (fun r s' => r = .ok (.ret (.bool true)) ∧ OldK s₁.heap s'.heap ∧ s'.os = s₁.os ∧ AllBare s'.gens) s₁ := by
  have apart : ∀ {b : Addr} {o : Obj}, s₁.heap.get? b = some o → o.data ≠ .fields #[] → ∀ p ∈ ts, b ≠ p.2 := by
    intro b o e d p hp z
    rw [z, ht p hp] at e
    have eo := Option.some.inj e
    exact d (by rw [← eo])
  have free : ∀ {b : Addr} {o : Obj}, s₁.heap.get? b = some o → o.data ≠ .fields #[] → (∀ v n, o.data ≠ .seq v n) → H b = none := by
    intro b o e d1 d2
    refine Classical.byContradiction fun n => ?_
    have eb := hA b (apart e d1) n
    subst eb
    have eo := Option.some.inj (e.symm.trans ha)
    exact d2 vs.toArray _ (by rw [eo])
  have ns' : ∀ {b : Addr} {m : Str → Option Value}, s₁.heap.Ns b m → (hidT s₁.heap H).Ns b m := by
    rintro b m ⟨o, es, ep, e, d, r⟩
    exact ⟨o, es, ep, hidT_get e (free e (by rw [d]; intro z; cases z) fun v n z => by rw [d] at z; cases z), d, r⟩
  have kb : K.In (hidT s₁.heap H) := by
    intro b o e
    refine hidT_get (KX b o e) (Classical.byContradiction fun n => ?_)
    by_cases eb : ∃ p ∈ ts, b = p.2
    · obtain ⟨p, hp, eb⟩ := eb
      rw [eb, nt p hp] at e
      cases e
    · have e2 := hA b (fun p hp z => eb ⟨p, hp, z⟩) n
      subst e2
      rw [hK n] at e
      cases e
  have md : Mod K mg (hidT s₁.heap H) := by
    obtain ⟨mc, h1, h2⟩ := lim
    exact ⟨kb, ns' hns, ⟨mb, ns' hb, hbb⟩, ⟨mc, ns' h1, h2⟩⟩
  have tb : ∀ p ∈ ts, TabB (hidT s₁.heap H) mg p.1 p.2 := by
    intro p hp
    obtain ⟨m, om, m1, m2, m3, m4, m5, m6⟩ := id bm
    have hm : H m = none := free m3 (by rw [m6]; intro z; cases z) fun v n z => by rw [m6] at z; cases z
    have gm : m ≠ mainGlobals := fun z => by
      obtain ⟨o, es, ep, e, d, _⟩ := hns
      rw [z, e] at m3
      have eo := Option.some.inj m3
      rw [← eo, d] at m6
      cases m6
    have mt : m ≠ p.2 := apart m3 (by rw [m6]; intro z; cases z) p hp
    refine ⟨?_, ⟨m, om, m1, m2, gm, mt, hidT_get m3 hm, m4, m5, m6⟩, fun z => ?_⟩
    · obtain ⟨o, us, fi, tf, fl, tg, inF, tx, tt, c1, c2, c3, c4, rest⟩ := hc p hp
      refine ⟨o, us, fi, tf, fl, tg, inF, tx, tt, hidT_get c1 (free c1 (fun z => ?_) fun v n z => ?_), c2, c3, c4, rest⟩
      · rw [c3] at z
        have e := Data.fields.inj z
        rw [e] at c4
        simp at c4
      · rw [c3] at z
        cases z
    · obtain ⟨o, es, ep, e, d, _⟩ := hns
      rw [z, ht p hp] at e
      have eo := Option.some.inj e
      rw [← eo] at d
      cases d
  have ev : Env0 P w K mg (hidT s₁.heap H) callerA [] s₁ H :=
    ⟨rfl, md, fun b o e => of_hidT e, Nat.le_of_eq (hidT_size _ _), trivial, fun b hb => (nomatch hb), hok, .of_eq hg⟩
  refine codeAny_mono ((F _ kb (ns' hns) tb).run callerA [] s₁ H _ [.ref a] [.ref a] _ _ rfl hr ev (bind s₁ (.ref a)) (.cons rfl .nil) hsp) fun r s' h => ?_
  cases r with
  | error e => exact (h : False).elim
  | ok fl =>
    cases fl with
    | next => exact (h : False).elim
    | brk => exact (h : False).elim
    | cont => exact (h : False).elim
    | ret u =>
      obtain ⟨v, H', os, bare, un, hok', r', q⟩ := h
      have q' : v = .bl true := q
      subst q'
      obtain rfl : u = Value.bool true := r'
      have keep : ∀ b o, (∀ p ∈ ts, b ≠ p.2) → s₁.heap.get? b = some o → s'.heap.get? b = some o := by
        intro b o n e
        rcases hO b n with z | ⟨ob, xs, z⟩
        · exact un.keep b o e z (fun m => nomatch m) (fun m => nomatch m)
        · have e1 := (hok b _ z).1
          have e2 := (hok' b _ (un.frzs b ob _ z)).1
          exact (Option.some.inj (e.symm.trans e1)) ▸ e2
      refine ⟨rfl, ⟨fun b o e => ?_, fun b o e => ?_⟩, os, bare⟩
      · by_cases eb : ∃ p ∈ ts, b = p.2
        · obtain ⟨p, hp, eb⟩ := eb
          obtain ⟨more, gt⟩ := un.tbls p.2 #[] (hHt p hp)
          have gt2 : s'.heap.get? p.2 = some { cls := .none, data := .fields (#[] ++ more) } := hok' p.2 _ gt
          subst eb
          have eo := Option.some.inj (e.symm.trans (ht p hp))
          subst eo
          exact .inr (.inl ⟨((hc p hp).tab (ht p hp)).isCodeTable, rfl, #[], more, rfl, gt2⟩)
        · exact .inl (keep b o (fun p hp z => eb ⟨p, hp, z⟩) e)
      · by_cases eb : ∃ p ∈ ts, b = p.2
        · obtain ⟨p, hp, eb⟩ := eb
          obtain ⟨more, gt⟩ := un.tbls p.2 #[] (hHt p hp)
          have gt2 : s'.heap.get? p.2 = some { cls := .none, data := .fields (#[] ++ more) } := hok' p.2 _ gt
          subst eb
          exact ⟨_, gt2⟩
        · exact ⟨o, keep b o (fun p hp z => eb ⟨p, hp, z⟩) e⟩
open Classical in
theorem walk_tabs {l : PySem.W.OpenLaw} {n k : Nat} {q : Program} {loose : List Str} {XP : (Str → Option Value) → Heap → Prop} {YP : World → Heap → Prop} {d : DefRec} {sp : PySem.W.Frag → List (Addr × Addr) → Sp} {x : Str}
    (hn : l.most = some n) (hn2 : n ≤ sizeLine) (hdf : d.params.defaults = []) (hr : Room k callerA)
    (F : ∀ (w : World) (mg : Str → Option Value) (fa : Addr) (h : Heap), YP w h → h.Ns mainGlobals mg → mg d.name = some (.ref fa) →
      ∃ (K : PySem.W.Frag) (ts : List (Addr × Addr)) (fd : FuncData), K.In h ∧ (∀ p ∈ ts, h.get? p.2 = some { cls := .none, data := .fields #[] }) ∧ (∀ p ∈ ts, K.lookup p.2 = none) ∧ (∀ p ∈ ts, PySem.W.CodeHd h p.1 p.2) ∧ (∀ (s : Shared) (u : Value), BindsTo s fd ⟨[u], []⟩ [(x, u)]) ∧
        ∀ base : Heap, K.In base → base.Ns mainGlobals mg → (∀ p ∈ ts, TabB base mg p.1 p.2) → FnG l.prog w K mg base CX0 k fa fd [x] (sp K ts))
    (hsp : ∀ (K : PySem.W.Frag) (ts : List (Addr × Addr)) (H : Hp) (a : Addr) (ns : List Int), ns.length ≤ n → (∀ z ∈ ns, Builtin.Int.intBits z ≤ 1048576) → (∀ p ∈ ts, H p.2 = some (.tbl #[])) → SqL K H a (ns.map V.int) → sp K ts [.ref a] H (fun v _ => v = .bl true) fun _ _ _ => False) :
    PySem.W.WalkO q loose XP YP l.row.toRowW d [] (fun f vs => PySem.call f vs) := by
  refine Att.attach_callB hn hdf fun w s₀ s₁ mg mb fa o pm cd doc a vs ns G Y ho hd hcd hmg hobj hints hlen hbits hg => ?_
  obtain ⟨K, ts, fd, KX, ht, nt, hc, b, f⟩ := F w mg fa _ Y G.T.g hmg
  have rv := vals_ints hints
  have lv := hints.length
  have nat_ : ¬ ∃ p ∈ ts, a = p.2 := fun ⟨p, hp, z⟩ => by
    have e := hobj
    rw [z, ht p hp] at e
    have eo := congrArg Obj.data (Option.some.inj e)
    cases eo
  have hl : ns.length ≤ sizeLine := Nat.le_trans hlen hn2
  have no : ∀ {b : Addr}, (∀ p ∈ ts, b ≠ p.2) → ¬ ∃ p ∈ ts, b = p.2 := fun n ⟨p, hp, z⟩ => n p hp z
  cases hk : K.lookup a with
  | some oa =>
    have eo := Option.some.inj ((KX a oa hk).symm.trans hobj)
    subst eo
    refine end_tabs (H := fun b => if ∃ p ∈ ts, b = p.2 then some (.tbl #[]) else none) KX G.T.g G.T.b G.T.builtins G.T.nolimit hg ht nt hc G.T.bmain hobj hr f b (fun p hp => if_pos ⟨p, hp, rfl⟩) (fun b n => .inl (if_neg (no n))) (fun b u z => ?_) (fun b n z => absurd (if_neg (no n)) z) (fun z => absurd (if_neg nat_) z) ?_
    · by_cases eb : ∃ p ∈ ts, b = p.2
      · have eu := Option.some.inj ((if_pos eb).symm.trans z)
        subst eu
        obtain ⟨p, hp, eb⟩ := eb
        subst eb
        exact ht p hp
      · exact nomatch (if_neg eb).symm.trans z
    · exact hsp K ts _ a ns hlen hbits (fun p hp => if_pos ⟨p, hp, rfl⟩) (.inr ⟨_, vs.toArray, _, hk, rfl, rfl, rfl, by rw [List.size_toArray, lv]; exact hl, by simpa using rv⟩)
  | none =>
    refine end_tabs (H := fun b => if ∃ p ∈ ts, b = p.2 then some (.tbl #[]) else if b = a then some (HO.frz { cls := .type "list", data := .seq vs.toArray } (.lst (ns.map V.int))) else none) KX G.T.g G.T.b G.T.builtins G.T.nolimit hg ht nt hc G.T.bmain hobj hr f b (fun p hp => if_pos ⟨p, hp, rfl⟩) (fun b n => ?_) (fun b u z => ?_) (fun b n z => ?_) (fun _ => hk) ?_
    · by_cases eb : b = a
      · exact .inr ⟨_, _, (if_neg (no n)).trans (if_pos eb)⟩
      · exact .inl ((if_neg (no n)).trans (if_neg eb))
    · by_cases eb : ∃ p ∈ ts, b = p.2
      · have eu := Option.some.inj ((if_pos eb).symm.trans z)
        subst eu
        obtain ⟨p, hp, eb⟩ := eb
        subst eb
        exact ht p hp
      · have z2 := (if_neg eb).symm.trans z
        by_cases e2 : b = a
        · subst e2
          have eu := Option.some.inj ((if_pos rfl).symm.trans z2)
          subst eu
          exact ⟨hobj, by rw [List.length_map]; exact hl, vs, _, rv, hobj⟩
        · exact nomatch (if_neg e2).symm.trans z2
    · refine Classical.byContradiction fun e2 => z ((if_neg (no n)).trans (if_neg e2))
    · exact hsp K ts _ a ns hlen hbits (fun p hp => if_pos ⟨p, hp, rfl⟩) (.inl (.inr ⟨_, (if_neg nat_).trans (if_pos rfl)⟩))
end L2
set_option maxRecDepth 100000
namespace Toy
open PySem L2 LamX ClX
abbrev s_law : Stmt := top 43
def spTabs (K : PySem.W.Frag) (ts : List (Addr × Addr)) : Sp := fun vs H Q _ => ∃ (a : Addr) (ns : List Int), vs = [.ref a] ∧ SqL K H a (ns.map V.int) ∧ ns.length ≤ 63 ∧ (∀ z ∈ ns, Builtin.Int.intBits z ≤ 1048576) ∧ (∀ p ∈ ts, H p.2 = some (.tbl #[])) ∧ ∀ H', Q (.bl true) H'
theorem eqv_lsts (a b : List Int) : PyData.eqv (.list (a.map .int)) (.list (b.map .int)) = decide (a = b) := by
  rw [← eqvAll_ints a b]
  rfl

/-- rules in a list, and how many banks each has -/
inductive RuleRow (C : Addr) (H : Hp) : List V → List Int → Prop where
  | nil : RuleRow C H [] []
  | cons {x : Addr} {ms : List V} {as ts : List Int} {vs : List V} {ns : List Int} {n : Int} (R : RuleAt C H x ms as ts) (e : ms.all (withinV 2 32) = true ∧ n = prodV ms) (r : RuleRow C H vs ns) : RuleRow C H (.ref x :: vs) (n :: ns)
theorem RuleRow.same {C : Addr} {H H' : Hp} (s : Same H H') : ∀ {vs : List V} {ns : List Int}, RuleRow C H vs ns → RuleRow C H' vs ns
  | _, _, .nil => .nil
  | _, _, .cons R e r => .cons (R.same s) e (r.same s)
theorem RuleRow.app {C : Addr} {H : Hp} : ∀ {vs us : List V} {ns ms : List Int}, RuleRow C H vs ns → RuleRow C H us ms → RuleRow C H (vs ++ us) (ns ++ ms)
  | _, _, _, _, .nil, r => r
  | _, _, _, _, .cons R e q, r => .cons R e (RuleRow.app q r)
theorem RuleRow.at {C : Addr} {H : Hp} : ∀ {vs : List V} {ns : List Int}, RuleRow C H vs ns → ∀ (i : Nat) (v : V), vs[i]? = some v → ∃ x ms as ts, v = .ref x ∧ RuleAt C H x ms as ts ∧ ms.all (withinV 2 32) = true ∧ ns[i]? = some (prodV ms)
  | _, _, .nil, i, v, h => by simp at h
  | _, _, .cons (x := x) (ms := ms) (as := as) (ts := ts) R e r, 0, v, h => ⟨x, ms, as, ts, (Option.some.inj h).symm, R, e.1, by rw [e.2]; rfl⟩
  | _, _, .cons R e r, i + 1, v, h => r.at i v h
/-- heard: too many places -/
theorem told_many {CR CN CT : Addr} {H' : Hp} {d : Addr} (e : H' d = some (.xd [("most", .int 24), ("what", .str "places")])) : Told CR CN CT H' (.ref CT) (some d) (.str "places") (.int 24) := ⟨d, rfl, .inr (.inr ⟨rfl, e⟩)⟩
section
variable {P : Program} {w : World} {K : PySem.W.Frag} {mg : Str → Option Value} {base : Heap} {CR CN CT uR uN uT B : Addr} {C pc pb gc gb : Addr}
abbrev N_law : List Str := ["_law_script", "_law_pen_here", "_law_turn", "_law_fine", "_law_rule_so", "_law_heard_here"]
theorem sc_law : FnScope N_law ["_law_script"] (defScope s_law) := ⟨rfl, rfl, rfl, by decide +kernel, rfl, by decide +kernel, by decide +kernel⟩
set_option maxHeartbeats 4000000 in
theorem ok_law {f fPn fT fHe c PT PL cT cL pM pX pP gM gX gP : Addr} {mc : Value} {fdPn fdT fdB : FuncData} {oc kV doc pm ct : Value} {od an : Option Addr} {osl : Array (Option Value)} {och kVh doch pmh cdvh cth : Value} {odh anh : Option Addr} {oslh : Array (Option Value)}
    (lk : K.lookup f = some ⟨oc, od, .func (PySem.W.fnOf "law" "law" (defArgs s_law) (defBody s_law) (defScope s_law) .none kV doc pm an (.ref c) ct), osl⟩) (hcd : PySem.W.codeIn K (.ref c) "law" = true) (TBl : TabB base mg c PL) (hPP : PT ≠ PL)
    (T : TR mg) (TU : TRule K mg C pc pb gc gb) (THd : THeard K mg CR CN CT B)
    (GPn : FnOk P w K mg base CX0 1 fPn fdPn ["_law_script"] (spPen K)) (gPn : mg "_law_pen" = some (.ref fPn)) (kPn : PySem.W.keepIn K (.ref fPn) = true) (bPn : Binds K fdPn ["_law_script"] [])
    (GT : FnG P w K mg base CX0 9 fT fdT ["_law_pen_here"] (spTurn PT PL)) (gT : mg "_law_turn_right" = some (.ref fT)) (kT : PySem.W.keepIn K (.ref fT) = true) (bT : Binds K fdT ["_law_pen_here"] [])
    (rcR : CRead K C mc) (cmM : CMet K C mc "modulo" pM gM) (cmX : CMet K C mc "xor" pX gX) (cmP : CMet K C mc "padded" pP gP)
    (GMd : FnR P w K mg base (L2.CX P w) 6 gM (spModulo CR CT C K)) (GXr : FnR P w K mg base (L2.CX P w) 6 gX (spXor CR CT C K)) (GPd : FnR P w K mg base (L2.CX P w) 6 gP (spPadded CR CT C K))
    (gHe : mg "_law_heard" = some (.ref fHe)) (kHe : PySem.W.keepIn K (.ref fHe) = true) (lkHe : K.lookup fHe = some ⟨och, odh, .func (PySem.W.fnOf "_law_heard" "_law_heard" (defArgs s__law_heard) (defBody s__law_heard) (defScope s__law_heard) .none kVh doch pmh anh cdvh cth), oslh⟩) (hcHe : PySem.W.codeIn K cdvh "_law_heard" = true)
    (bHe : L2.Binds K (PySem.W.fnOf "_law_heard" "_law_heard" (defArgs s__law_heard) (defBody s__law_heard) (defScope s__law_heard) .none kVh doch pmh anh cdvh cth) ["_law_ask"] [])
    (GP : FnOk P w K mg base CX0 2 gb fdB ["self"] (spBanks C)) (bP : Binds K fdB ["self"] []) :
    FnG P w K mg base CX0 10 f (PySem.W.fnOf "law" "law" (defArgs s_law) (defBody s_law) (defScope s_law) .none kV doc pm an (.ref c) ct) ["_law_script"] (spTabs K [(cT, PT), (cL, PL)]) := by
  refine fnG_of lk hcd sc_law (fun vs H Q E h => ?_) (fun A outer s H vs Q E hgd hr h => ?_)
  · obtain ⟨a, ns, rfl, _⟩ := h
    rfl
  · obtain ⟨a, ns, rfl, hS, hl, hb, hTs, k⟩ := h
    have hTt := hTs _ List.mem_cons_self
    have hTl := hTs _ (List.mem_cons_of_mem _ List.mem_cons_self)
    have hrT : Room 9 _ := hr
    have hrH : Room 8 _ := hr.mono (by decide)
    have hrK : Room 6 _ := hr.mono (by decide)
    have hrP : Room 3 _ := hr.mono (by decide)
    have hrC : Room 2 _ := hr.mono (by decide)
    have hrC1 : Room 1 _ := hr.mono (by decide)
    refine ⟨_, (pss_cons (ps_set (i := 1) sc_law.nd rfl (Or.inl rfl) (by exact (pe_call GPn hrC1 rfl gPn kPn bPn .nil pass0 (pa_cons (pv 0) pa_nil))))
 (pss_cons (ps_for PassesOwn.never rfl (pi_range1 rfl T.m_range (pa_cons pe_int pa_nil)) (pg_name (i := 2) sc_law.nd rfl (Or.inl rfl))
 (pss_one (ps_if (pt_not (pt_val (pe_callG GT hgd hrT rfl gT kT bT .nil pass0 (pa_cons (pv 1) pa_nil)))) (pss_one (ps_ret pe_bl)) pss_nil)))
 (pss_cons (ps_set (i := 3) sc_law.nd rfl (Or.inl rfl) (pe_lst (pa_cons (pe_cmeth (pe_glob (v := .ref C) rfl TU.gC rfl) rcR cmM GMd hrK passL (pa_cons pe_int pa_nil)) (pa_cons (pe_cmeth (pe_glob (v := .ref C) rfl TU.gC rfl) rcR cmM GMd hrK passL (pa_cons pe_int pa_nil)) (pa_cons (pe_cmeth (pe_glob (v := .ref C) rfl TU.gC rfl) rcR cmX GXr hrK passL (pa_cons pe_int (pa_cons pe_int pa_nil))) (pa_cons (pe_cmeth (pe_glob (v := .ref C) rfl TU.gC rfl) rcR cmX GXr hrK passL (pa_cons pe_int (pa_cons pe_int pa_nil))) (pa_cons (pe_cmeth (pe_glob (v := .ref C) rfl TU.gC rfl) rcR cmP GPd hrK passL (pa_cons pe_int (pa_cons pe_int (pa_cons pe_int pa_nil)))) (pa_cons (pe_cmeth (pe_glob (v := .ref C) rfl TU.gC rfl) rcR cmP GPd hrK passL (pa_cons pe_int (pa_cons pe_int (pa_cons pe_int pa_nil)))) pa_nil))))))))
 (pss_cons (ps_if (pt_cmpR (op_neD hrC.units) (pe_lc (own := [("_law_rule_so", 4)]) (g := (gName 4)) (tt := tYes) rfl sc_law.nd (pi_list (pv 3)) (blkOk_by (N := N_law) (sc := defScope s_law) (by decide +kernel)) (fun _ _ _ _ _ => (pg_name (i := 4) sc_law.nd rfl (Or.inl rfl))) (fun _ _ _ _ _ => pts_nil) (fun _ _ _ _ _ => (pe_prop (pv 4) TU.cl TU.pB GP hrP bP .nil pass0 rfl))) (pe_lst (pa_cons pe_int (pa_cons pe_int (pa_cons pe_int (pa_cons pe_int (pa_cons pe_int (pa_cons pe_int pa_nil))))))) (nomark _)) (pss_one (ps_ret pe_bl)) pss_nil)
 (pss_cons (ps_set (i := 5) sc_law.nd rfl (Or.inl rfl) (pe_lst (pa_cons (pe_lamcall (T := TT2 PT PL) (TT := TTH CR CN CT) (k := 6) (t := (fun E => tCMeth C (spXor CR CT C K) E (tC (.ref C)) (tCons (tC (.int 3)) (tCons (tC (.int 8)) tNil)))) rfl gHe kHe lkHe hcHe bHe sc__law_heard rfl (Or.inl rfl) (heard_gives THd hrH hgd) TBl rfl tt2_n (tt2_l hPP) hrH (lamS_by (show lamSB (defScope s_law) _ = true by decide +kernel)) rfl (fun _ _ _ _ _ => rfl) (fun A outer s H E f c' hr => (pe_cmeth (pe_glob (v := .ref C) rfl TU.gC rfl) rcR cmX GXr hr (passes_call (takes_of rfl rfl rfl rfl) fun _ _ _ _ h => h) (pa_cons pe_int (pa_cons pe_int pa_nil))))) pa_nil)))
 (pss_cons (ps_expr (pe_bm PySem.F.plainAttrs_list PySem.F.slot_list_append PySem.F.type_list_append mt_append (pv 5) (pa_cons (pe_lamcall (T := TT2 PT PL) (TT := TTH CR CN CT) (k := 6) (t := (fun E => tCMeth C (spXor CR CT C K) E (tC (.ref C)) (tCons (tC (.int 5)) (tCons (tC (.int 5)) tNil)))) rfl gHe kHe lkHe hcHe bHe sc__law_heard rfl (Or.inl rfl) (heard_gives THd hrH hgd) TBl rfl tt2_n (tt2_l hPP) hrH (lamS_by (show lamSB (defScope s_law) _ = true by decide +kernel)) rfl (fun _ _ _ _ _ => rfl) (fun A outer s H E f c' hr => (pe_cmeth (pe_glob (v := .ref C) rfl TU.gC rfl) rcR cmX GXr hr (passes_call (takes_of rfl rfl rfl rfl) fun _ _ _ _ h => h) (pa_cons pe_int (pa_cons pe_int pa_nil))))) pa_nil)))
 (pss_one (ps_ret (pe_cmpR (op_eqD hrC.units) (pv 5) (pe_op op_rep (pe_lst (pa_cons (pe_tup (pa_cons pe_str (pa_cons pe_int pa_nil))) pa_nil)) pe_int) (nomark _)))))))))), ?_⟩
    refine ⟨_, rfl, a, ns, rfl, hS, hl, hb, fun H1 p l s1 np P1 => ?_⟩
    refine ⟨12, rfl, by decide, by decide, for_it walk_range (fun i σ G => ∃ (a' b' : Int) (u : Option V), σ = [some (.ref a), some (.ref p), u, none, none, none] ∧ PenAt G p l ns a' b' ∧ a' ≤ 40 * (i : Int) ∧ Tabs (TT2 PT PL) G) ?_ (fun _ _ _ _ _ => trivial) ?_ ?_⟩
    · refine ⟨0, 0, none, rfl, P1, by omega, fun y hy => ?_⟩
      rcases List.mem_cons.mp hy with z | z
      · rw [z]
        exact TabS.nil (s1 _ _ hTt)
      · rw [List.mem_singleton.mp z]
        exact TabS.nil (s1 _ _ hTl)
    · rintro i v σ G G' hi ⟨a', b', u, rfl, PG, ha, tb⟩ ⟨rfl, rfl⟩
      have hi2 : i < 12 := hi
      refine ⟨_, rfl, p, l, ns, a', b', rfl, PG, by omega, tb, fun H' a2 b2 P2 h2 tb2 => ⟨_, rfl, ?_⟩⟩
      exact iteF ⟨a2, b2, _, rfl, P2, by omega, tb2⟩
    · rintro σ G ⟨a', b', u, rfl, PG, ha, tb⟩
      -- fine rules
      refine ⟨rfl, .int 2, "int", rfl, .int 2, (fun y => absurd y (by decide)), fun m e _ _ => ?_⟩
      obtain rfl := V.int.inj e
      refine ⟨fun big => absurd big (by decide +kernel), fun _ G1 x1 s1' R1 => ?_⟩
      have q1 : RuleRow C G1 [V.ref x1] [2] := .cons R1 (by decide +kernel) .nil
      refine ⟨rfl, .int 32, "int", rfl, .int 32, (fun y => absurd y (by decide)), fun m e _ _ => ?_⟩
      obtain rfl := V.int.inj e
      refine ⟨fun big => absurd big (by decide +kernel), fun _ G2 x2 s2 R2 => ?_⟩
      have q2 := (q1.same s2).app (.cons R2 (show _ ∧ (32 : Int) = _ by decide +kernel) .nil)
      refine ⟨rfl, .int 1, .int 8, "int", "int", rfl, .int 1, .int 8, (fun y => absurd y (by decide)), (fun _ y => absurd y (by decide)), fun n j e1 e2 _ _ _ => ?_⟩
      obtain rfl : 1 = n := by have := V.int.inj e1; omega
      obtain rfl : 8 = j := by have := V.int.inj e2; omega
      refine ⟨fun big => absurd big (by decide +kernel), fun _ G3 x3 s3 R3 => ?_⟩
      have q3 := (q2.same s3).app (.cons R3 (show _ ∧ (2 : Int) = _ by decide +kernel) .nil)
      refine ⟨rfl, .int 5, .int 4, "int", "int", rfl, .int 5, .int 4, (fun y => absurd y (by decide)), (fun _ y => absurd y (by decide)), fun n j e1 e2 _ _ _ => ?_⟩
      obtain rfl : 5 = n := by have := V.int.inj e1; omega
      obtain rfl : 4 = j := by have := V.int.inj e2; omega
      refine ⟨fun big => absurd big (by decide +kernel), fun _ G4 x4 s4 R4 => ?_⟩
      have q4 := (q3.same s4).app (.cons R4 (show _ ∧ (32 : Int) = _ by decide +kernel) .nil)
      refine ⟨rfl, .int 2, .int 12, .int 1, "int", "int", "int", rfl, .int 2, .int 12, .int 1, (fun y => absurd y (by decide)), (fun _ _ _ y => absurd y (by decide)), (fun m e _ _ y => ?_), fun m q n e1 e2 e3 _ _ _ _ _ _ => ?_⟩
      · rw [← V.int.inj e] at y
        exact absurd y (by decide)
      obtain rfl := V.int.inj e1
      obtain rfl : 12 = n := by have := V.int.inj e2; omega
      obtain rfl := V.int.inj e3
      refine ⟨fun big => absurd big (by decide +kernel), fun _ G5 x5 s5 R5 => ?_⟩
      have q5 := (q4.same s5).app (.cons R5 (show _ ∧ (2 : Int) = _ by decide +kernel) .nil)
      refine ⟨rfl, .int 32, .int 1, .int 31, "int", "int", "int", rfl, .int 32, .int 1, .int 31, (fun y => absurd y (by decide)), (fun _ _ _ y => absurd y (by decide)), (fun m e _ _ y => ?_), fun m q n e1 e2 e3 _ _ _ _ _ _ => ?_⟩
      · rw [← V.int.inj e] at y
        exact absurd y (by decide)
      obtain rfl := V.int.inj e1
      obtain rfl : 1 = n := by have := V.int.inj e2; omega
      obtain rfl := V.int.inj e3
      refine ⟨fun big => absurd big (by decide +kernel), fun _ G6 x6 s6 R6 => ?_⟩
      have q6 := (q5.same s6).app (.cons R6 (show _ ∧ (32 : Int) = _ by decide +kernel) .nil)
      have tb6 : Tabs (TT2 PT PL) G6 := tb.ext fun _ _ z => s6 _ _ (s5 _ _ (s4 _ _ (s3 _ _ (s2 _ _ (s1' _ _ z)))))
      refine ⟨(by show 6 ≤ PySem.sizeLine; decide), fun LF hLF => ?_⟩
      have q7 := q6.same (Same.lay (o := .lst [V.ref x1, V.ref x2, V.ref x3, V.ref x4, V.ref x5, V.ref x6]) hLF)
      have tb7 := tb6.ext (Same.lay (o := .lst [V.ref x1, V.ref x2, V.ref x3, V.ref x4, V.ref x5, V.ref x6]) hLF)
      have hLF' : (upd G6 LF (.lst [V.ref x1, V.ref x2, V.ref x3, V.ref x4, V.ref x5, V.ref x6])) LF = some (.lst [V.ref x1, V.ref x2, V.ref x3, V.ref x4, V.ref x5, V.ref x6]) := upd_same
      refine ⟨_, rfl, LF, rfl, ⟨_, SqL.of hLF'⟩, fun D hD => ?_⟩
      have sD : ∀ o, Same (upd G6 LF (.lst [V.ref x1, V.ref x2, V.ref x3, V.ref x4, V.ref x5, V.ref x6])) (upd (upd G6 LF (.lst [V.ref x1, V.ref x2, V.ref x3, V.ref x4, V.ref x5, V.ref x6])) D o) := fun o => Same.lay hD
      refine lc_it (walk_list (xs := [V.ref x1, V.ref x2, V.ref x3, V.ref x4, V.ref x5, V.ref x6])) (fun i G' => G' = upd (upd G6 LF (.lst [V.ref x1, V.ref x2, V.ref x3, V.ref x4, V.ref x5, V.ref x6])) D (.lst ((([2, 32, 2, 32, 2, 32] : List Int).take i).map V.int))) rfl (fun i G' _ e => by rw [e]; exact SqL.of (sD _ _ _ hLF')) ?_ ?_
      · rintro i v G' G'' hi rfl ⟨rfl, hv⟩
        obtain ⟨x, ms, as, ts, rfl, R, wm, hn⟩ := q7.at i v hv
        have R' := R.same (sD (.lst ((([2, 32, 2, 32, 2, 32] : List Int).take i).map V.int)))
        obtain ⟨dxx, _, _, _, ii, _⟩ := id R'
        have hi2 : i < 6 := hi
        refine ⟨rfl, _, rfl, x, dxx, _, rfl, ii, x, _, _, _, rfl, R', wm, _, upd_same, small1000 (by rw [List.length_map, List.length_take]; omega), ?_⟩
        rw [upd_upd, List.take_add_one, show ([2, 32, 2, 32, 2, 32] : List Int)[i]? = _ from hn]
        simp
      · rintro G' rfl
        refine ⟨(by show 6 ≤ PySem.sizeLine; decide), fun L2 hL2 => ?_⟩
        have z1 := Same.lay (o := .lst [V.int 2, V.int 32, V.int 2, V.int 32, V.int 2, V.int 32]) hL2
        refine ⟨.list ([2, 32, 2, 32, 2, 32].map .int), .list ([2, 32, 2, 32, 2, 32].map .int), .lst (SqL.of (z1 _ _ upd_same)) (dp_ints' [2, 32, 2, 32, 2, 32]), .lst (SqL.of upd_same) (dp_ints' [2, 32, 2, 32, 2, 32]), shaped_ints _, shaped_ints _, _, rfl, ?_⟩
        rw [eqv_lsts, decide_eq_true rfl]
        refine iteF ?_
        have tb8 := (tb7.ext (sD (.lst ((([2, 32, 2, 32, 2, 32] : List Int).take 6).map V.int)))).ext z1
        -- too many places
        refine ⟨tb8, fun G9 eN9 T9 => ?_⟩
        refine ⟨rfl, .int 3, .int 8, "int", "int", rfl, .int 3, .int 8, (fun y => absurd y (by decide)), (fun _ y => absurd y (by decide)), fun n j e1 e2 _ _ _ => ?_⟩
        obtain rfl : 3 = n := by have := V.int.inj e1; omega
        obtain rfl : 8 = j := by have := V.int.inj e2; omega
        refine ⟨fun _ d H' s9 e9 => ?_, fun le => absurd le (by decide +kernel)⟩
        refine ⟨_, _, told_many e9, fun G10 w1 s10 hw1 => ⟨(by show 1 ≤ PySem.sizeLine; decide), fun LH hLH => ?_⟩⟩
        have s11 := Same.lay (o := .lst [V.ref w1]) hLH
        have lh1 : Lh (upd G10 LH (.lst [V.ref w1])) LH [V.ref w1] [.tuple [.str "places", .int 24]] := ⟨upd_same, .cons (.si (s11 _ _ hw1)) .nil⟩
        have tb10 : Tabs (TT2 PT PL) (upd G10 LH (.lst [V.ref w1])) := T9.ext fun _ _ z => s11 _ _ (s10 _ _ (s9 _ _ z))
        generalize upd G10 LH (.lst [V.ref w1]) = G11 at lh1 tb10 ⊢
        refine ⟨_, rfl, .inl ⟨rfl, _, SqL.of lh1.at_⟩, tb10, fun G12 eN12 T12 => ?_⟩
        have lh12 := lh1.ext eN12
        refine ⟨rfl, .int 5, .int 5, "int", "int", rfl, .int 5, .int 5, (fun y => absurd y (by decide)), (fun _ y => absurd y (by decide)), fun n j e1 e2 _ _ _ => ?_⟩
        obtain rfl : 5 = n := by have := V.int.inj e1; omega
        obtain rfl : 5 = j := by have := V.int.inj e2; omega
        refine ⟨fun _ d H' s13 e13 => ?_, fun le => absurd le (by decide +kernel)⟩
        refine ⟨_, _, told_many e13, fun G14 w2 s14 hw2 => ?_⟩
        have s1214 : Same G12 G14 := fun _ _ z => s14 _ _ (s13 _ _ z)
        have lh14 := lh12.app s1214 (.si hw2)
        refine ⟨LH, _, .ref w2, rfl, rfl, s1214 _ _ lh12.at_, (by show 1 < PySem.sizeLine; decide), ?_⟩
        generalize upd G14 LH (.lst ([V.ref w1] ++ [V.ref w2])) = G15 at lh14 ⊢
        refine ⟨_, rfl, (by show 2 ≤ PySem.sizeLine; decide), fun r1 hr1 => ⟨(by show 1 ≤ PySem.sizeLine; decide), fun r2 hr2 => ⟨r2, 2, _, rfl, rfl, upd_same, by decide, by decide, (by show 1 * 2 ≤ PySem.sizeLine; decide), fun r3 hr3 => ?_⟩⟩⟩
        have v1 := Same.lay (o := .tup [V.str "places", V.int 24]) hr1
        have v2 := Same.lay (o := .lst [V.ref r1]) hr2
        have v3 := Same.lay (o := .lst (List.replicate (2 : Int).toNat [V.ref r1]).flatten) hr3
        have lh16 := lh14.same fun _ _ z => v3 _ _ (v2 _ _ (v1 _ _ z))
        have x1' := v3 _ _ (v2 _ _ (show (upd G15 r1 (.tup [V.str "places", V.int 24])) r1 = some (.tup [V.str "places", V.int 24]) from upd_same))
        have ok2 : (List.replicate 2 (.tuple [.str "places", .int 24]) : List PyData).all rowOk = true := by decide +kernel
        refine ⟨.list (List.replicate 2 (.tuple [.str "places", .int 24])), .list (List.replicate 2 (.tuple [.str "places", .int 24])), .lst (SqL.of lh16.at_) (HRows.dp lh16.rows), .lst (SqL.of upd_same) (HRows.dp (.cons (.si x1') (.cons (.si x1') .nil))), shaped_rows ok2, shaped_rows ok2, ?_⟩
        rw [eqv_rows ok2]
        exact k _
end
end Toy
set_option maxRecDepth 100000
namespace L2
open PySem PySem.Spec PyProof.Rows
/-- what the written part says of an own error class below B, itself right below ValueError -/
def XL (K : PySem.W.Frag) (C B : Addr) : Prop := ∃ nm q N bs sn sub ab col dd k0 k1 k2 k3 k5, K.lookup C = some (excClassObj nm q C N bs (.ref B :: PySem.HandSPX.veTail) true sn sub ab col dd k0 k1 k2 k3 k5 "ValueError.__new__")
theorem XL.cls {K : PySem.W.Frag} {C B : Addr} (h : XL K C B) : ∃ cd : ClassData, PySem.W.clsIn K C = some cd ∧ cd.mro = .ref C :: .ref B :: PySem.HandSPX.veTail ∧ cd.hasDict = true := by
  obtain ⟨nm, q, N, bs, sn, sub, ab, col, dd, k0, k1, k2, k3, k5, e⟩ := h
  refine ⟨_, by unfold PySem.W.clsIn; rw [e] <;> rfl, rfl, rfl⟩
theorem XL.ty {K : PySem.W.Frag} {C B : Addr} (h : XL K C B) : PySem.W.typeIn K (.ref C) = some (.type "type") := by
  obtain ⟨nm, q, N, bs, sn, sub, ab, col, dd, k0, k1, k2, k3, k5, e⟩ := h
  show (K.lookup C).map (·.cls) = _
  rw [e]
  rfl
theorem XL.mro {K : PySem.W.Frag} {C B : Addr} (h : XL K C B) (x : Value) : PySem.W.mroIn K C x = some ((.ref C :: .ref B :: PySem.HandSPX.veTail).contains x) := by
  obtain ⟨cd, e, m, _⟩ := h.cls
  unfold PySem.W.mroIn
  rw [e, Option.bind_some, m]
  rfl
theorem XL.isC {K : PySem.W.Frag} {C B : Addr} (h : XL K C B) : (PySem.W.clsIn K C).isSome = true := by
  obtain ⟨cd, e, _⟩ := h.cls
  rw [e]
  rfl
theorem XL.dict {K : PySem.W.Frag} {C B : Addr} (h : XL K C B) : PySem.W.hasDictIn K C = true := by
  obtain ⟨cd, e, _, d⟩ := h.cls
  unfold PySem.W.hasDictIn
  rw [e]
  exact d
theorem XL.x {K : PySem.W.Frag} {C B : Addr} (h : XL K C B) (sa : PySem.W.findIn K (.ref C) "__setattr__" = some (some (.builtin "object.__setattr__"))) (ga : PySem.W.findIn K (.ref C) "__getattribute__" = some (some (.builtin "BaseException.__getattribute__")))
    (gg : PySem.W.findIn K (.ref C) "__getattr__" = some none) (ca : PySem.W.findIn K (.ref C) "__class__" = some (some (.builtin "object.__class__"))) (kC : PySem.W.keepIn K (.ref C) = true)
    (gs : PySem.W.specialIn K (.builtin "object.__class__") "__get__" = some (some (.builtin "getset_descriptor.__get__"))) (tk : PySem.W.takesIn K (.builtin "object.__class__") = some true) : XvC K C where
  oex := {
    cls := by
      obtain ⟨nm, q, N, bs, sn, sub, ab, col, dd, k0, k1, k2, k3, k5, e⟩ := h
      exact ⟨nm, q, N, bs, _, sn, sub, ab, col, dd, k0, k1, k2, k3, k5, e, by show PySem.HandSPX.refsVE PySem.HandSPX.veTail = true; decide +kernel⟩
    sa := sa
    exC := (h.mro _).trans (by simp)
    tyC := h.ty
    kC := kC }
  ga := ga
  gg := gg
  dd := h.dict
  ic := h.isC
  ca := ca
  gs := gs
  tk := tk
  mo := (h.mro _).trans (by simp)
theorem kit_own {K : PySem.W.Frag} {C B D : Addr} (h : XL K C B) (hd : (PySem.W.clsIn K D).isSome = true) (ht : PySem.W.typeIn K (.ref D) = some (.type "type")) : PySem.W.kitOne K (.ref C) (.ref D) = some (decide (C = D) || decide (B = D)) := by
  unfold PySem.W.kitOne
  by_cases e : C = D
  · subst e
    simp
  · have e1 : (Value.ref C == Value.ref D) = false := by simpa using e
    rw [e1, if_neg Bool.false_ne_true]
    unfold PySem.W.kitCls
    have e2 : ((PySem.W.clsIn K D).isSome && PySem.W.typeIn K (.ref D) == some (.type "type")) = true := by rw [hd, ht]; rfl
    show (if ((PySem.W.clsIn K D).isSome && PySem.W.typeIn K (.ref D) == some (.type "type")) = true then PySem.W.mroIn K C (.ref D) else none) = _
    rw [if_pos e2, h.mro]
    have e3 : (Value.ref D == Value.ref C) = false := by simpa using fun z => e z.symm
    by_cases e4 : B = D
    · subst e4
      simp [e]
    · have e5 : ¬ D = B := fun z => e4 z.symm
      have e7 : (Value.ref D == Value.ref B) = false := by simpa using e5
      rw [decide_eq_false e, decide_eq_false e4]
      rw [List.contains_cons, e3, List.contains_cons, e7]
      rfl
theorem kit_ve {K : PySem.W.Frag} {C B : Addr} (h : XL K C B) : PySem.W.kitOne K (.ref C) (.type "ValueError") = some true := by
  unfold PySem.W.kitOne
  have e1 : (Value.ref C == Value.type "ValueError") = false := rfl
  rw [e1, if_neg Bool.false_ne_true]
  show (if PySem.W.kitMeta "ValueError" = true then PySem.W.mroIn K C (.type "ValueError") else none) = _
  rw [if_pos (by decide +kernel), h.mro]
  simp
end L2
set_option maxRecDepth 100000
namespace L2
open PySem PySem.Spec PyProof.Rows
/-! facts of the top as Bools of the written part -/
/-- an own error class right below B, itself right below ValueError -/
def xlB (K : PySem.W.Frag) (C B : Addr) : Bool := match K.lookup C with
  | some ⟨.type "type", _, .cls cd, sl⟩ => (match cd.mro, sl.toList with
    | .ref C' :: .ref B' :: rest, [_, _, _, _, some (.builtin n), _] => decide (C' = C) && (decide (B' = B) && (decide (n = "ValueError.__new__") && (!cd.hasDel && (cd.hasDict && decide (rest = PySem.HandSPX.veTail)))))
    | _, _ => false)
  | _ => false
theorem xl_of {K : PySem.W.Frag} {C B : Addr} (q : xlB K C B = true) : XL K C B := by
  unfold xlB at q
  split at q
  · rename_i dd cd sl ho
    split at q
    · rename_i C' B' rest k0 k1 k2 k3 n k5 hm hs
      simp only [Bool.and_eq_true, decide_eq_true_eq, Bool.not_eq_true'] at q
      obtain ⟨rfl, rfl, rfl, hdel, hdict, rfl⟩ := q
      obtain ⟨nm, bs, mro, ns, qn, hd, sn, sub, ab, col, del⟩ := cd
      dsimp only at hm hdel hdict
      subst hm hdel hdict
      have hsl : sl = #[k0, k1, k2, k3, some (.builtin "ValueError.__new__"), k5] := by
        obtain ⟨l⟩ := sl
        simp only at hs
        rw [hs]
      subst hsl
      exact ⟨nm, qn, ns, bs, sn, sub, ab, col, dd, k0, k1, k2, k3, k5, ho⟩
    · cases q
  · cases q
/-- what is asked of such a class beside -/
def xcB (K : PySem.W.Frag) (C : Addr) : Bool := decide (PySem.W.findIn K (.ref C) "__setattr__" = some (some (.builtin "object.__setattr__"))) && (decide (PySem.W.findIn K (.ref C) "__getattribute__" = some (some (.builtin "BaseException.__getattribute__"))) &&
  (decide (PySem.W.findIn K (.ref C) "__getattr__" = some none) && (decide (PySem.W.findIn K (.ref C) "__class__" = some (some (.builtin "object.__class__"))) && (PySem.W.keepIn K (.ref C) &&
  (decide (PySem.W.specialIn K (.builtin "object.__class__") "__get__" = some (some (.builtin "getset_descriptor.__get__"))) && decide (PySem.W.takesIn K (.builtin "object.__class__") = some true))))))
theorem xc_of {K : PySem.W.Frag} {C B : Addr} (l : XL K C B) (q : xcB K C = true) : XvC K C := by
  unfold xcB at q
  simp only [Bool.and_eq_true, decide_eq_true_eq] at q
  obtain ⟨h1, h2, h3, h4, h5, h6, h7⟩ := q
  exact l.x h1 h2 h3 h4 h5 h6 h7
/-- a property's getter -/
def getterOf (K : PySem.W.Frag) (p : Addr) : Addr := match PySem.W.recIn K p "property" with
  | some (.ref g :: _) => g
  | _ => 0
def propB (K : PySem.W.Frag) (C : Addr) (f : Str) : Bool := decide (PySem.W.findIn K (.ref C) f = some (some (.ref (He.ma K C f)))) && (decide (PySem.W.specialIn K (.ref (He.ma K C f)) "__get__" = some (some (.builtin "property.__get__"))) &&
  (decide (PySem.W.takesIn K (.ref (He.ma K C f)) = some true) && (match PySem.W.recIn K (He.ma K C f) "property" with
    | some (.ref _ :: _) => true
    | _ => false)))
theorem prop_of {K : PySem.W.Frag} {C : Addr} {f : Str} (q : propB K C f = true) : PropOf K C f (He.ma K C f) (getterOf K (He.ma K C f)) := by
  unfold propB at q
  simp only [Bool.and_eq_true, decide_eq_true_eq] at q
  obtain ⟨h1, h2, h3, h4⟩ := q
  refine ⟨h1, h2, h3, ?_⟩
  split at h4
  · rename_i g rest e
    exact ⟨rest, by unfold getterOf; rw [e]⟩
  · cases h4
/-- a def without defaults -/
theorem fun_of {K : PySem.W.Frag} {x qual : Str} {st : Stmt} {f : Addr} {fd : FuncData} (F : FunD K x qual (defArgs st) (defBody st) (defScope st) [] [] f fd) : Fun K x qual st f fd := by
  obtain ⟨oc, od, dV, kV, doc, pm, an, cdv, ct, osl, rfl, lk, hc, hd, _⟩ := F.ex
  rcases hd with ⟨_, rfl⟩ | ⟨n, _⟩
  · exact ⟨⟨oc, od, kV, doc, pm, an, cdv, ct, osl, rfl, lk, hc⟩, F.kp⟩
  · exact absurd rfl n
end L2
set_option maxRecDepth 100000
namespace L2
open PySem PySem.Spec PyProof.Rows He
/-! a head by defs at told places, one Bool, and the table of one def that makes lambdas -/
structure DefA where
  at_ : PySem.W.Frag → Addr
  name : Str
  qual : Str
  st : Stmt
def fnA (K : PySem.W.Frag) (d : DefA) : FnW := match K.lookup (d.at_ K) with
  | some ⟨_, _, .func fd, _⟩ => some (fd.name, fd.qualname, fd.params, fd.body, fd.scope, fd.globals, fd.closure, fd.builtins)
  | _ => none
def DefA.val (d : DefA) : FnW := some (d.name, d.qual, defArgs d.st, .stmts (defBody d.st), defScope d.st, mainGlobals, [], builtinsNs)
def DefA.ok (K : PySem.W.Frag) (d : DefA) : Bool := PySem.W.keepIn K (.ref (d.at_ K)) && (match K.lookup (d.at_ K) with
  | some ⟨_, _, .func fd, _⟩ => PySem.W.codeIn K fd.code d.qual && decide (fd.defaults = .none)
  | _ => false)
theorem DefA.to {K : PySem.W.Frag} {d : DefA} (e : fnA K d = d.val) (c : d.ok K = true) : ∃ fd, Fun K d.name d.qual d.st (d.at_ K) fd := by
  obtain ⟨kp, c2⟩ := ba c
  unfold fnA at e
  split at e
  · rename_i oc od fd osl q
    rw [q] at c2
    obtain ⟨m1, m2, m3, m4, m5, m6, m7, m8, m9, m10, m11, m12, m13, m14, m15⟩ := fd
    have e2 := Option.some.inj e
    simp only [Prod.mk.injEq] at e2
    obtain ⟨h1, h2, h3, h4, h5, h6, h7, h8⟩ := e2
    subst h1 h2 h3 h4 h5 h6 h7 h8
    obtain ⟨k1, k2⟩ := ba c2
    have k3 := of_decide_eq_true k2
    dsimp only at k3
    subst k3
    exact ⟨_, ⟨oc, od, _, _, _, _, _, _, osl, rfl, q, k1⟩, kp⟩
  · cases e
structure SaysH (ds : List DefA) (p : Defn) (ex : PySem.W.Frag → Bool) (h : Heap) (K : PySem.W.Frag) : Prop where
  more : ex K = true
  defs : ∀ d ∈ ds, ∃ fd, Fun K d.name d.qual d.st (d.at_ K) fd
  hd : PySem.W.codeHdIn K (cT K p).1 (cT K p).2 = true
  out : K.lookup (cT K p).2 = none
  empty : h.get? (cT K p).2 = some { cls := .none, data := .fields #[] }
def obsH (n : Nat) (ds : List DefA) (p : Defn) (ex : PySem.W.Frag → Bool) (g : Addr → Option Obj) : Bool × List FnW :=
  (ex (frT g (asD g n)) && ((ds.all fun d => d.ok (frT g (asD g n))) && tabsB g [p] (frT g (asD g n))), ds.map (fnA (frT g (asD g n))))
theorem says_of {n : Nat} {ds : List DefA} {p : Defn} {ex : PySem.W.Frag → Bool} {h : Heap} (e : obsH n ds p ex h.get? = (true, ds.map DefA.val)) : SaysH ds p ex h (frT h.get? (asD h.get? n)) := by
  have e1 : (ex (frT h.get? (asD h.get? n)) && ((ds.all fun d => d.ok (frT h.get? (asD h.get? n))) && tabsB h.get? [p] (frT h.get? (asD h.get? n)))) = true := congrArg (·.1) e
  have e2 : ds.map (fnA (frT h.get? (asD h.get? n))) = ds.map DefA.val := congrArg (·.2) e
  obtain ⟨x1, x2⟩ := ba e1
  obtain ⟨x3, x4⟩ := ba x2
  obtain ⟨y1, y2⟩ := ba (List.all_eq_true.mp x4 p (List.mem_singleton.mpr rfl))
  obtain ⟨o, o1, o2⟩ : ∃ o, h.get? (cT (frT h.get? (asD h.get? n)) p).2 = some o ∧ emptyTab o = true := by
    split at y2
    · rename_i o q
      exact ⟨o, q, y2⟩
    · cases y2
  refine ⟨x1, fun d hd => ?_, y1, frT_none o1 o2, by rw [o1, emptyTab_eq o2]⟩
  obtain ⟨i, hi, ei⟩ := List.mem_iff_getElem.mp hd
  refine DefA.to ?_ (List.all_eq_true.mp x3 d hd)
  have z : (ds.map (fnA (frT h.get? (asD h.get? n))))[i]? = (ds.map DefA.val)[i]? := by rw [e2]
  rw [List.getElem?_map, List.getElem?_map, List.getElem?_eq_getElem hi, ei] at z
  exact Option.some.inj z
def hookH (n : Nat) (ds : List DefA) (p : Defn) (ex : PySem.W.Frag → Bool) : PySem.W.Hook where
  α := Bool × List FnW
  obs := fun s => obsH n ds p ex s.heap.get?
  val := fun _ => (true, ds.map DefA.val)
  says := fun _ h => ∃ K : PySem.W.Frag, K.In h ∧ SaysH ds p ex h K
  of := fun _ _ e => ⟨_, frT_in, says_of e⟩
  keeps := fun _ _ _ ⟨K, hK, c⟩ k => ⟨K, PySem.W.Frag.In.keeps hK k, ⟨c.more, c.defs, c.hd, c.out, k _ _ c.empty⟩⟩
theorem obsH_eq {n : Nat} {ds : List DefA} {p : Defn} {ex : PySem.W.Frag → Bool} {g : Addr → Option Obj} {s : Shared} (h : ∀ a, g a = s.heap.get? a) : obsH n ds p ex g = (hookH n ds p ex).obs s := by
  obtain rfl : g = s.heap.get? := funext h
  rfl
end L2
set_option maxRecDepth 100000
namespace L2
open PySem PySem.Spec PyProof.Rows He
/-! a head by defs at told places, one Bool, and the tables of several defs that make lambdas -/
structure SaysHs (ds : List DefA) (ps : List Defn) (ex : PySem.W.Frag → Bool) (h : Heap) (K : PySem.W.Frag) : Prop where
  more : ex K = true
  defs : ∀ d ∈ ds, ∃ fd, Fun K d.name d.qual d.st (d.at_ K) fd
  hd : ∀ p ∈ ps, PySem.W.codeHdIn K (cT K p).1 (cT K p).2 = true
  out : ∀ p ∈ ps, K.lookup (cT K p).2 = none
  empty : ∀ p ∈ ps, h.get? (cT K p).2 = some { cls := .none, data := .fields #[] }
def obsHs (n : Nat) (ds : List DefA) (ps : List Defn) (ex : PySem.W.Frag → Bool) (g : Addr → Option Obj) : Bool × List FnW :=
  (ex (frT g (asD g n)) && ((ds.all fun d => d.ok (frT g (asD g n))) && tabsB g ps (frT g (asD g n))), ds.map (fnA (frT g (asD g n))))
theorem saysHs_of {n : Nat} {ds : List DefA} {ps : List Defn} {ex : PySem.W.Frag → Bool} {h : Heap} (e : obsHs n ds ps ex h.get? = (true, ds.map DefA.val)) : SaysHs ds ps ex h (frT h.get? (asD h.get? n)) := by
  have e1 : (ex (frT h.get? (asD h.get? n)) && ((ds.all fun d => d.ok (frT h.get? (asD h.get? n))) && tabsB h.get? ps (frT h.get? (asD h.get? n)))) = true := congrArg (·.1) e
  have e2 : ds.map (fnA (frT h.get? (asD h.get? n))) = ds.map DefA.val := congrArg (·.2) e
  obtain ⟨x1, x2⟩ := ba e1
  obtain ⟨x3, x4⟩ := ba x2
  have one : ∀ p ∈ ps, PySem.W.codeHdIn (frT h.get? (asD h.get? n)) (cT (frT h.get? (asD h.get? n)) p).1 (cT (frT h.get? (asD h.get? n)) p).2 = true ∧ ∃ o, h.get? (cT (frT h.get? (asD h.get? n)) p).2 = some o ∧ emptyTab o = true := fun p hp => by
    obtain ⟨y1, y2⟩ := ba (List.all_eq_true.mp x4 p hp)
    refine ⟨y1, ?_⟩
    split at y2
    · rename_i o q
      exact ⟨o, q, y2⟩
    · cases y2
  refine ⟨x1, fun d hd => ?_, fun p hp => (one p hp).1, fun p hp => ?_, fun p hp => ?_⟩
  · obtain ⟨i, hi, ei⟩ := List.mem_iff_getElem.mp hd
    refine DefA.to ?_ (List.all_eq_true.mp x3 d hd)
    have z : (ds.map (fnA (frT h.get? (asD h.get? n))))[i]? = (ds.map DefA.val)[i]? := by rw [e2]
    rw [List.getElem?_map, List.getElem?_map, List.getElem?_eq_getElem hi, ei] at z
    exact Option.some.inj z
  · obtain ⟨_, o, o1, o2⟩ := one p hp
    exact frT_none o1 o2
  · obtain ⟨_, o, o1, o2⟩ := one p hp
    rw [o1, emptyTab_eq o2]
def hookHs (n : Nat) (ds : List DefA) (ps : List Defn) (ex : PySem.W.Frag → Bool) : PySem.W.Hook where
  α := Bool × List FnW
  obs := fun s => obsHs n ds ps ex s.heap.get?
  val := fun _ => (true, ds.map DefA.val)
  says := fun _ h => ∃ K : PySem.W.Frag, K.In h ∧ SaysHs ds ps ex h K
  of := fun _ _ e => ⟨_, frT_in, saysHs_of e⟩
  keeps := fun _ _ _ ⟨K, hK, c⟩ k => ⟨K, PySem.W.Frag.In.keeps hK k, ⟨c.more, c.defs, c.hd, c.out, fun p hp => k _ _ (c.empty p hp)⟩⟩
theorem obsHs_eq {n : Nat} {ds : List DefA} {ps : List Defn} {ex : PySem.W.Frag → Bool} {g : Addr → Option Obj} {s : Shared} (h : ∀ a, g a = s.heap.get? a) : obsHs n ds ps ex g = (hookHs n ds ps ex).obs s := by
  obtain rfl : g = s.heap.get? := funext h
  rfl
end L2
set_option maxRecDepth 100000
namespace L2
open PySem PySem.Spec PyProof.Rows He
/-! the head once more: defs with defaults besides, and the interpreter's own statics -/
def frC (g : Addr → Option Obj) (n : Nat) : PySem.W.Frag := frT g (He5.asA g n)
structure SaysHc (ds : List DefA) (dd : List He5.DefA) (ps : List Defn) (ex : PySem.W.Frag → Bool) (h : Heap) (K : PySem.W.Frag) : Prop where
  more : ex K = true
  defs : ∀ d ∈ ds, ∃ fd, Fun K d.name d.qual d.st (d.at_ K) fd
  defd : ∀ d ∈ dd, ∃ fd, FunD K d.name d.qual d.params d.body d.scope (d.dvs K) (d.kws K) (d.at_ K) fd
  hd : ∀ p ∈ ps, PySem.W.codeHdIn K (cT K p).1 (cT K p).2 = true
  out : ∀ p ∈ ps, K.lookup (cT K p).2 = none
  empty : ∀ p ∈ ps, h.get? (cT K p).2 = some { cls := .none, data := .fields #[] }
def obsHc (n : Nat) (ds : List DefA) (dd : List He5.DefA) (ps : List Defn) (ex : PySem.W.Frag → Bool) (g : Addr → Option Obj) : Bool × List FnW :=
  (ex (frC g n) && ((ds.all fun d => d.ok (frC g n)) && ((dd.all fun d => d.ok (frC g n)) && tabsB g ps (frC g n))), ds.map (fnA (frC g n)) ++ dd.map fun d => He5.fnA (frC g n) (d.at_ (frC g n)))
def valHc (ds : List DefA) (dd : List He5.DefA) : Bool × List FnW := (true, ds.map DefA.val ++ dd.map He5.DefA.val)
theorem saysHc_of {n : Nat} {ds : List DefA} {dd : List He5.DefA} {ps : List Defn} {ex : PySem.W.Frag → Bool} {h : Heap} (e : obsHc n ds dd ps ex h.get? = valHc ds dd) : SaysHc ds dd ps ex h (frC h.get? n) := by
  have e1 : (ex (frC h.get? n) && ((ds.all fun d => d.ok (frC h.get? n)) && ((dd.all fun d => d.ok (frC h.get? n)) && tabsB h.get? ps (frC h.get? n)))) = true := congrArg (·.1) e
  have e2 : ds.map (fnA (frC h.get? n)) ++ (dd.map fun d => He5.fnA (frC h.get? n) (d.at_ (frC h.get? n))) = ds.map DefA.val ++ dd.map He5.DefA.val := congrArg (·.2) e
  obtain ⟨x1, x2⟩ := ba e1
  obtain ⟨x3, x4⟩ := ba x2
  obtain ⟨x5, x6⟩ := ba x4
  obtain ⟨e3, e4⟩ := List.append_inj e2 (by rw [List.length_map, List.length_map])
  have one : ∀ p ∈ ps, PySem.W.codeHdIn (frC h.get? n) (cT (frC h.get? n) p).1 (cT (frC h.get? n) p).2 = true ∧ ∃ o, h.get? (cT (frC h.get? n) p).2 = some o ∧ emptyTab o = true := fun p hp => by
    obtain ⟨y1, y2⟩ := ba (List.all_eq_true.mp x6 p hp)
    refine ⟨y1, ?_⟩
    split at y2
    · rename_i o q
      exact ⟨o, q, y2⟩
    · cases y2
  refine ⟨x1, fun d hd => ?_, fun d hd => ?_, fun p hp => (one p hp).1, fun p hp => ?_, fun p hp => ?_⟩
  · obtain ⟨i, hi, ei⟩ := List.mem_iff_getElem.mp hd
    refine DefA.to ?_ (List.all_eq_true.mp x3 d hd)
    have z : (ds.map (fnA (frC h.get? n)))[i]? = (ds.map DefA.val)[i]? := by rw [e3]
    rw [List.getElem?_map, List.getElem?_map, List.getElem?_eq_getElem hi, ei] at z
    exact Option.some.inj z
  · obtain ⟨i, hi, ei⟩ := List.mem_iff_getElem.mp hd
    refine He5.DefA.funD ?_ (List.all_eq_true.mp x5 d hd)
    have z : (dd.map fun d => He5.fnA (frC h.get? n) (d.at_ (frC h.get? n)))[i]? = (dd.map He5.DefA.val)[i]? := by rw [e4]
    rw [List.getElem?_map, List.getElem?_map, List.getElem?_eq_getElem hi, ei] at z
    exact Option.some.inj z
  · obtain ⟨_, o, o1, o2⟩ := one p hp
    exact frT_none o1 o2
  · obtain ⟨_, o, o1, o2⟩ := one p hp
    rw [o1, emptyTab_eq o2]
def hookHc (n : Nat) (ds : List DefA) (dd : List He5.DefA) (ps : List Defn) (ex : PySem.W.Frag → Bool) : PySem.W.Hook where
  α := Bool × List FnW
  obs := fun s => obsHc n ds dd ps ex s.heap.get?
  val := fun _ => valHc ds dd
  says := fun _ h => ∃ K : PySem.W.Frag, K.In h ∧ SaysHc ds dd ps ex h K
  of := fun _ _ e => ⟨_, frT_in, saysHc_of e⟩
  keeps := fun _ _ _ ⟨K, hK, c⟩ k => ⟨K, PySem.W.Frag.In.keeps hK k, ⟨c.more, c.defs, c.defd, c.hd, c.out, fun p hp => k _ _ (c.empty p hp)⟩⟩
theorem obsHc_eq {n : Nat} {ds : List DefA} {dd : List He5.DefA} {ps : List Defn} {ex : PySem.W.Frag → Bool} {g : Addr → Option Obj} {s : Shared} (h : ∀ a, g a = s.heap.get? a) : obsHc n ds dd ps ex g = (hookHc n ds dd ps ex).obs s := by
  obtain rfl : g = s.heap.get? := funext h
  rfl
/-- a class's attributes are read as a type's are -/
def creadB (K : PySem.W.Frag) (C : Addr) : Bool := PySem.W.readsIn K C (.type "type") && eqO (PySem.W.specialIn K (.ref C) "__getattribute__") (some (some (.builtin "type.__getattribute__")))
theorem cread_of {K : PySem.W.Frag} {C : Addr} (h : creadB K C = true) : ClX.CRead K C (.type "type") := by
  obtain ⟨h1, h2⟩ := ba h
  exact ⟨h1, eqO_ok h2⟩
def cmB (K : PySem.W.Frag) (C : Addr) (m : Str) : Bool := He5.wrapB K C "classmethod" "classmethod.__get__" m && PySem.W.fnIn K (He5.wf K C "classmethod" m)
theorem cm_of {K : PySem.W.Frag} {C : Addr} {m : Str} (h : cmB K C m = true) : ClX.CMet K C (.type "type") m (He.ma K C m) (He5.wf K C "classmethod" m) := by
  obtain ⟨h1, h2⟩ := ba h
  exact He5.cmet_of h1 h2
end L2
set_option maxRecDepth 100000
namespace Toy
open PySem L2 LamX
/-! the head: what the top leaves, by one run -/
abbrev R : PySem.W.OpenRow := PySem.W.OpenLaw.row PySem.Challenge.rw_lanebanks_k25_kinds_of_rules_refused
def fa : List He.Fa := [.glo "is_integer", .glo "is_within", .glo "banks_by", .glo "are_moduli", .glo "are_banks", .glo "shortest_weights", .glo "doubled_weights", .glo "check_padding", .glo "_law_pen", .glo "_law_draw", .glo "_law_pick", .glo "_law_heard", .glo "_law_turn_right", .glo "law", .glo "BankError", .glo "BadRule", .glo "BadNumber", .glo "TooMany", .glo "Rule", .free "isinstance", .free "int", .free "bool", .free "len", .free "all", .free "list", .free "tuple", .free "range", .free "abs", .free "repr", .int "MOST_MODULI" 5, .int "MOST_BANKS" 32, .int "MOST_PLACES" 24, .cls "Rule", .noat "Rule" "moduli", .noat "Rule" "ahead", .noat "Rule" "turn", .noat "BadRule" "part", .noat "BadNumber" "value", .noat "TooMany" "what", .noat "TooMany" "most", .mkr "Rule", .exm "BadRule" "BankError" true, .exm "BadNumber" "BankError" true, .exm "TooMany" "BankError" true]
def initB (K : PySem.W.Frag) (x : Str) : Bool := decide (PySem.W.findIn K (.ref (He.ga K x)) "__init__" = some (some (.ref (He.ma K (He.ga K x) "__init__")))) && decide (PySem.W.typeIn K (.ref (He.ma K (He.ga K x) "__init__")) = some (.type "function"))
def kitB' (K : PySem.W.Frag) (x y : Str) (b : Bool) : Bool := decide (PySem.W.kitOne K (.ref (He.ga K x)) (.ref (He.ga K y)) = some b)
def ex (K : PySem.W.Frag) : Bool := (fa.all fun f => f.ok K) && (xlB K (He.ga K "BadRule") (He.ga K "BankError") && (xlB K (He.ga K "BadNumber") (He.ga K "BankError") && (xlB K (He.ga K "TooMany") (He.ga K "BankError") && (xcB K (He.ga K "BadRule") && (xcB K (He.ga K "BadNumber") && (xcB K (He.ga K "TooMany") && (initB K "BadRule" && (initB K "BadNumber" && (initB K "TooMany" && (kitB' K "BadRule" "BadRule" true && (kitB' K "BadRule" "BadNumber" false && (kitB' K "BadRule" "TooMany" false && (kitB' K "BadNumber" "BadRule" false && (kitB' K "BadNumber" "BadNumber" true && (kitB' K "BadNumber" "TooMany" false && (kitB' K "TooMany" "BadRule" false && (kitB' K "TooMany" "BadNumber" false && (kitB' K "TooMany" "TooMany" true && (propB K (He.ga K "Rule") "classes" && (propB K (He.ga K "Rule") "banks" && (creadB K (He.ga K "Rule") && (cmB K (He.ga K "Rule") "modulo" && (cmB K (He.ga K "Rule") "xor" && (cmB K (He.ga K "Rule") "padded" && (decide ((He.cT K ("_law_turn_right", none)).2 ≠ (He.cT K ("law", none)).2))))))))))))))))))))))))))
def ds : List DefA := [
⟨fun K => He.ga K "is_integer", "is_integer", "is_integer", s_is_integer⟩,
  ⟨fun K => He.ga K "is_within", "is_within", "is_within", s_is_within⟩,
  ⟨fun K => He.ga K "banks_by", "banks_by", "banks_by", s_banks_by⟩,
  ⟨fun K => He.ga K "are_moduli", "are_moduli", "are_moduli", s_are_moduli⟩,
  ⟨fun K => He.ga K "are_banks", "are_banks", "are_banks", s_are_banks⟩,
  ⟨fun K => He.ga K "shortest_weights", "shortest_weights", "shortest_weights", s_shortest_weights⟩,
  ⟨fun K => He.ga K "doubled_weights", "doubled_weights", "doubled_weights", s_doubled_weights⟩,
  ⟨fun K => He.ga K "check_padding", "check_padding", "check_padding", s_check_padding⟩,
  ⟨fun K => He.ga K "_law_pen", "_law_pen", "_law_pen", s__law_pen⟩,
  ⟨fun K => He.ga K "_law_draw", "_law_draw", "_law_draw", s__law_draw⟩,
  ⟨fun K => He.ga K "_law_pick", "_law_pick", "_law_pick", s__law_pick⟩,
  ⟨fun K => He.ga K "_law_heard", "_law_heard", "_law_heard", s__law_heard⟩,
  ⟨fun K => He.ga K "_law_turn_right", "_law_turn_right", "_law_turn_right", s__law_turn_right⟩,
  ⟨fun K => He.ga K "law", "law", "law", s_law⟩,
  ⟨fun K => He.ma K (He.ga K "BadRule") "__init__", "__init__", "BadRule.__init__", s_BadRule⟩,
  ⟨fun K => He.ma K (He.ga K "BadNumber") "__init__", "__init__", "BadNumber.__init__", s_BadNumber⟩,
  ⟨fun K => He.ma K (He.ga K "TooMany") "__init__", "__init__", "TooMany.__init__", s_TooMany⟩,
  ⟨fun K => He.ma K (He.ga K "Rule") "__init__", "__init__", "Rule.__init__", s_Rule_init⟩,
  ⟨fun K => getterOf K (He.ma K (He.ga K "Rule") "classes"), "classes", "Rule.classes", s_Rule_classes⟩,
  ⟨fun K => getterOf K (He.ma K (He.ga K "Rule") "banks"), "banks", "Rule.banks", s_Rule_banks⟩,
  ⟨fun K => He5.wf K (He.ga K "Rule") "classmethod" "modulo", "modulo", "Rule.modulo", s_Rule_modulo⟩,
  ⟨fun K => He5.wf K (He.ga K "Rule") "classmethod" "padded", "padded", "Rule.padded", s_Rule_padded⟩]
def tabsOf : List He.Defn := [("_law_turn_right", none), ("law", none)]
def dd : List He5.DefA := [⟨fun K => He5.wf K (He.ga K "Rule") "classmethod" "xor", "xor", "Rule.xor", defArgs s_Rule_xor, defBody s_Rule_xor, defScope s_Rule_xor, [.int 0], []⟩]
abbrev hk : PySem.W.Hook := hookHc 6 ds dd tabsOf ex
def ob (s : PySem.W.SharedT) : Bool × List He.FnW := obsHc 6 ds dd tabsOf ex (HandSHeadRun.getT s)
theorem ob_eq (s : PySem.W.SharedT) : ob s = hk.obs s.abs := obsHc_eq (HandSHeadRun.getT_eq s)
def names : List Str := ["_wall", "__name__", "is_integer", "is_within", "is_number", "MOST_BANKS", "MOST_MODULI", "banks_by", "are_moduli", "are_banks", "parts_of", "bank_with", "bank_sum", "ones_of", "shortest_weights", "doubled_weights", "BankError", "BadRule"]
def names2 : List Str := ["BadNumber", "BadText", "TooMany", "DIGITS", "whole_in", "spaced", "expect", "moduli_from", "weights_from", "read_weights", "MOST_PLACES", "check_padding", "Rule", "_law_pen", "_law_draw", "_law_pick", "_law_heard", "_law_turn_right"]
set_option maxHeartbeats 0 in
theorem run (w : World) : HandSHeadRun.RunEqI R (PySem.W.view R.prog [0, 43]) hk ob 4000 (names ++ names2) w := by
  unfold HandSHeadRun.RunEqI
  kernel_rfl
end Toy
set_option maxRecDepth 100000
namespace Toy
open PySem L2 LamX
set_option maxHeartbeats 4000000 in
theorem facts {P : Program} {w : World} {K : PySem.W.Frag} {h : Heap} {mg : Str → Option Value} {f : Addr} (X : K.In h) (G : h.Ns mainGlobals mg) (hfa : mg ("law" : Str) = some (.ref f)) (c : SaysHc ds dd tabsOf ex h K) :
    ∃ fd : FuncData, (∀ (s : Shared) (v : Value), BindsTo s fd ⟨[v], []⟩ [("_law_script", v)]) ∧ ∀ base : Heap, K.In base → base.Ns mainGlobals mg → (∀ p ∈ tabsOf.map (He.cT K), TabB base mg p.1 p.2) →
      FnG P w K mg base CX0 10 f fd ["_law_script"] (spTabs K (tabsOf.map (He.cT K))) := by
  have z0 := c.more
  unfold ex at z0
  obtain ⟨f0, z1⟩ := He.ba z0
  obtain ⟨xBadRule, z2⟩ := He.ba z1
  obtain ⟨xBadNumber, z3⟩ := He.ba z2
  obtain ⟨xTooMany, z4⟩ := He.ba z3
  obtain ⟨yBadRule, z5⟩ := He.ba z4
  obtain ⟨yBadNumber, z6⟩ := He.ba z5
  obtain ⟨yTooMany, z7⟩ := He.ba z6
  obtain ⟨iBadRule, z8⟩ := He.ba z7
  obtain ⟨iBadNumber, z9⟩ := He.ba z8
  obtain ⟨iTooMany, z10⟩ := He.ba z9
  obtain ⟨kBadRuleBadRule, z11⟩ := He.ba z10
  obtain ⟨kBadRuleBadNumber, z12⟩ := He.ba z11
  obtain ⟨kBadRuleTooMany, z13⟩ := He.ba z12
  obtain ⟨kBadNumberBadRule, z14⟩ := He.ba z13
  obtain ⟨kBadNumberBadNumber, z15⟩ := He.ba z14
  obtain ⟨kBadNumberTooMany, z16⟩ := He.ba z15
  obtain ⟨kTooManyBadRule, z17⟩ := He.ba z16
  obtain ⟨kTooManyBadNumber, z18⟩ := He.ba z17
  obtain ⟨kTooManyTooMany, z19⟩ := He.ba z18
  obtain ⟨p1, z20⟩ := He.ba z19
  obtain ⟨p2, z21⟩ := He.ba z20
  obtain ⟨cr, z22⟩ := He.ba z21
  obtain ⟨cm_modulo, z23⟩ := He.ba z22
  obtain ⟨cm_xor, z24⟩ := He.ba z23
  obtain ⟨cm_padded, z25⟩ := He.ba z24
  have pp01 := z25
  have fi : ∀ (i : Nat) (q : He.Fa), fa[i]? = some q → q.ok K = true := fun i q hq => List.all_eq_true.mp f0 q (List.mem_of_getElem? hq)
  have di : ∀ (i : Nat) (d : DefA), ds[i]? = some d → ∃ fd, Fun K d.name d.qual d.st (d.at_ K) fd := fun i d hd => c.defs d (List.mem_of_getElem? hd)
  obtain ⟨fd_is_integer, F_is_integer'⟩ := di 0 _ rfl
  have F_is_integer : Fun K "is_integer" "is_integer" s_is_integer (He.ga K "is_integer") fd_is_integer := F_is_integer'
  have b_is_integer : Binds K fd_is_integer ["value"] [] := F_is_integer.binds (ps := ["value"]) fun _ _ _ _ _ _ us hl => match us, hl with | [_], _ => rfl
  obtain ⟨fd_is_within, F_is_within'⟩ := di 1 _ rfl
  have F_is_within : Fun K "is_within" "is_within" s_is_within (He.ga K "is_within") fd_is_within := F_is_within'
  have b_is_within : Binds K fd_is_within ["value", "least", "most"] [] := F_is_within.binds (ps := ["value", "least", "most"]) fun _ _ _ _ _ _ us hl => match us, hl with | [_, _, _], _ => rfl
  obtain ⟨fd_banks_by, F_banks_by'⟩ := di 2 _ rfl
  have F_banks_by : Fun K "banks_by" "banks_by" s_banks_by (He.ga K "banks_by") fd_banks_by := F_banks_by'
  have b_banks_by : Binds K fd_banks_by ["moduli"] [] := F_banks_by.binds (ps := ["moduli"]) fun _ _ _ _ _ _ us hl => match us, hl with | [_], _ => rfl
  obtain ⟨fd_are_moduli, F_are_moduli'⟩ := di 3 _ rfl
  have F_are_moduli : Fun K "are_moduli" "are_moduli" s_are_moduli (He.ga K "are_moduli") fd_are_moduli := F_are_moduli'
  have b_are_moduli : Binds K fd_are_moduli ["value"] [] := F_are_moduli.binds (ps := ["value"]) fun _ _ _ _ _ _ us hl => match us, hl with | [_], _ => rfl
  obtain ⟨fd_are_banks, F_are_banks'⟩ := di 4 _ rfl
  have F_are_banks : Fun K "are_banks" "are_banks" s_are_banks (He.ga K "are_banks") fd_are_banks := F_are_banks'
  have b_are_banks : Binds K fd_are_banks ["value", "banks"] [] := F_are_banks.binds (ps := ["value", "banks"]) fun _ _ _ _ _ _ us hl => match us, hl with | [_, _], _ => rfl
  obtain ⟨fd_shortest_weights, F_shortest_weights'⟩ := di 5 _ rfl
  have F_shortest_weights : Fun K "shortest_weights" "shortest_weights" s_shortest_weights (He.ga K "shortest_weights") fd_shortest_weights := F_shortest_weights'
  have b_shortest_weights : Binds K fd_shortest_weights ["ahead", "turn"] [] := F_shortest_weights.binds (ps := ["ahead", "turn"]) fun _ _ _ _ _ _ us hl => match us, hl with | [_, _], _ => rfl
  obtain ⟨fd_doubled_weights, F_doubled_weights'⟩ := di 6 _ rfl
  have F_doubled_weights : Fun K "doubled_weights" "doubled_weights" s_doubled_weights (He.ga K "doubled_weights") fd_doubled_weights := F_doubled_weights'
  have b_doubled_weights : Binds K fd_doubled_weights ["first", "banks"] [] := F_doubled_weights.binds (ps := ["first", "banks"]) fun _ _ _ _ _ _ us hl => match us, hl with | [_, _], _ => rfl
  obtain ⟨fd_check_padding, F_check_padding'⟩ := di 7 _ rfl
  have F_check_padding : Fun K "check_padding" "check_padding" s_check_padding (He.ga K "check_padding") fd_check_padding := F_check_padding'
  have b_check_padding : Binds K fd_check_padding ["banks", "every"] [] := F_check_padding.binds (ps := ["banks", "every"]) fun _ _ _ _ _ _ us hl => match us, hl with | [_, _], _ => rfl
  obtain ⟨fd__law_pen, F__law_pen'⟩ := di 8 _ rfl
  have F__law_pen : Fun K "_law_pen" "_law_pen" s__law_pen (He.ga K "_law_pen") fd__law_pen := F__law_pen'
  have b__law_pen : Binds K fd__law_pen ["_law_script"] [] := F__law_pen.binds (ps := ["_law_script"]) fun _ _ _ _ _ _ us hl => match us, hl with | [_], _ => rfl
  obtain ⟨fd__law_draw, F__law_draw'⟩ := di 9 _ rfl
  have F__law_draw : Fun K "_law_draw" "_law_draw" s__law_draw (He.ga K "_law_draw") fd__law_draw := F__law_draw'
  have b__law_draw : Binds K fd__law_draw ["_law_pen_here", "_law_many"] [] := F__law_draw.binds (ps := ["_law_pen_here", "_law_many"]) fun _ _ _ _ _ _ us hl => match us, hl with | [_, _], _ => rfl
  obtain ⟨fd__law_pick, F__law_pick'⟩ := di 10 _ rfl
  have F__law_pick : Fun K "_law_pick" "_law_pick" s__law_pick (He.ga K "_law_pick") fd__law_pick := F__law_pick'
  have b__law_pick : Binds K fd__law_pick ["_law_pen_here", "_law_some"] [] := F__law_pick.binds (ps := ["_law_pen_here", "_law_some"]) fun _ _ _ _ _ _ us hl => match us, hl with | [_, _], _ => rfl
  obtain ⟨fd__law_heard, F__law_heard'⟩ := di 11 _ rfl
  have F__law_heard : Fun K "_law_heard" "_law_heard" s__law_heard (He.ga K "_law_heard") fd__law_heard := F__law_heard'
  have b__law_heard : Binds K fd__law_heard ["_law_ask"] [] := F__law_heard.binds (ps := ["_law_ask"]) fun _ _ _ _ _ _ us hl => match us, hl with | [_], _ => rfl
  obtain ⟨fd__law_turn_right, F__law_turn_right'⟩ := di 12 _ rfl
  have F__law_turn_right : Fun K "_law_turn_right" "_law_turn_right" s__law_turn_right (He.ga K "_law_turn_right") fd__law_turn_right := F__law_turn_right'
  have b__law_turn_right : Binds K fd__law_turn_right ["_law_pen_here"] [] := F__law_turn_right.binds (ps := ["_law_pen_here"]) fun _ _ _ _ _ _ us hl => match us, hl with | [_], _ => rfl
  obtain ⟨fd_law, F_law'⟩ := di 13 _ rfl
  have F_law : Fun K "law" "law" s_law (He.ga K "law") fd_law := F_law'
  have b_law : Binds K fd_law ["_law_script"] [] := F_law.binds (ps := ["_law_script"]) fun _ _ _ _ _ _ us hl => match us, hl with | [_], _ => rfl
  obtain ⟨fd_BadRule___init__, F_BadRule___init__'⟩ := di 14 _ rfl
  have F_BadRule___init__ : Fun K "__init__" "BadRule.__init__" s_BadRule (He.ma K (He.ga K "BadRule") "__init__") fd_BadRule___init__ := F_BadRule___init__'
  have b_BadRule___init__ : Binds K fd_BadRule___init__ ["self", "part"] [] := F_BadRule___init__.binds (ps := ["self", "part"]) fun _ _ _ _ _ _ us hl => match us, hl with | [_, _], _ => rfl
  obtain ⟨fd_BadNumber___init__, F_BadNumber___init__'⟩ := di 15 _ rfl
  have F_BadNumber___init__ : Fun K "__init__" "BadNumber.__init__" s_BadNumber (He.ma K (He.ga K "BadNumber") "__init__") fd_BadNumber___init__ := F_BadNumber___init__'
  have b_BadNumber___init__ : Binds K fd_BadNumber___init__ ["self", "value"] [] := F_BadNumber___init__.binds (ps := ["self", "value"]) fun _ _ _ _ _ _ us hl => match us, hl with | [_, _], _ => rfl
  obtain ⟨fd_TooMany___init__, F_TooMany___init__'⟩ := di 16 _ rfl
  have F_TooMany___init__ : Fun K "__init__" "TooMany.__init__" s_TooMany (He.ma K (He.ga K "TooMany") "__init__") fd_TooMany___init__ := F_TooMany___init__'
  have b_TooMany___init__ : Binds K fd_TooMany___init__ ["self", "what", "most"] [] := F_TooMany___init__.binds (ps := ["self", "what", "most"]) fun _ _ _ _ _ _ us hl => match us, hl with | [_, _, _], _ => rfl
  obtain ⟨fd_Rule___init__, F_Rule___init__'⟩ := di 17 _ rfl
  have F_Rule___init__ : Fun K "__init__" "Rule.__init__" s_Rule_init (He.ma K (He.ga K "Rule") "__init__") fd_Rule___init__ := F_Rule___init__'
  have b_Rule___init__ : Binds K fd_Rule___init__ ["self", "moduli", "ahead", "turn"] [] := F_Rule___init__.binds (ps := ["self", "moduli", "ahead", "turn"]) fun _ _ _ _ _ _ us hl => match us, hl with | [_, _, _, _], _ => rfl
  obtain ⟨fd_Rule_classes, F_Rule_classes'⟩ := di 18 _ rfl
  have F_Rule_classes : Fun K "classes" "Rule.classes" s_Rule_classes (getterOf K (He.ma K (He.ga K "Rule") "classes")) fd_Rule_classes := F_Rule_classes'
  have b_Rule_classes : Binds K fd_Rule_classes ["self"] [] := F_Rule_classes.binds (ps := ["self"]) fun _ _ _ _ _ _ us hl => match us, hl with | [_], _ => rfl
  obtain ⟨fd_Rule_banks, F_Rule_banks'⟩ := di 19 _ rfl
  have F_Rule_banks : Fun K "banks" "Rule.banks" s_Rule_banks (getterOf K (He.ma K (He.ga K "Rule") "banks")) fd_Rule_banks := F_Rule_banks'
  have b_Rule_banks : Binds K fd_Rule_banks ["self"] [] := F_Rule_banks.binds (ps := ["self"]) fun _ _ _ _ _ _ us hl => match us, hl with | [_], _ => rfl
  obtain ⟨fd_Rule_modulo, F_Rule_modulo'⟩ := di 20 _ rfl
  have F_Rule_modulo : Fun K "modulo" "Rule.modulo" s_Rule_modulo (He5.wf K (He.ga K "Rule") "classmethod" "modulo") fd_Rule_modulo := F_Rule_modulo'
  have b_Rule_modulo : Binds K fd_Rule_modulo ["cls", "banks"] [] := F_Rule_modulo.binds (ps := ["cls", "banks"]) fun _ _ _ _ _ _ us hl => match us, hl with | [_, _], _ => rfl
  obtain ⟨fd_Rule_padded, F_Rule_padded'⟩ := di 21 _ rfl
  have F_Rule_padded : Fun K "padded" "Rule.padded" s_Rule_padded (He5.wf K (He.ga K "Rule") "classmethod" "padded") fd_Rule_padded := F_Rule_padded'
  have b_Rule_padded : Binds K fd_Rule_padded ["cls", "banks", "every", "pad"] [] := F_Rule_padded.binds (ps := ["cls", "banks", "every", "pad"]) fun _ _ _ _ _ _ us hl => match us, hl with | [_, _, _, _], _ => rfl
  have ddi : ∀ (i : Nat) (d : He5.DefA), dd[i]? = some d → ∃ fd, FunD K d.name d.qual d.params d.body d.scope (d.dvs K) (d.kws K) (d.at_ K) fd := fun i d hd => c.defd d (List.mem_of_getElem? hd)
  have g_is_integer := He.glo_ok X G (fi 0 (.glo "is_integer") rfl)
  have g_is_within := He.glo_ok X G (fi 1 (.glo "is_within") rfl)
  have g_banks_by := He.glo_ok X G (fi 2 (.glo "banks_by") rfl)
  have g_are_moduli := He.glo_ok X G (fi 3 (.glo "are_moduli") rfl)
  have g_are_banks := He.glo_ok X G (fi 4 (.glo "are_banks") rfl)
  have g_shortest_weights := He.glo_ok X G (fi 5 (.glo "shortest_weights") rfl)
  have g_doubled_weights := He.glo_ok X G (fi 6 (.glo "doubled_weights") rfl)
  have g_check_padding := He.glo_ok X G (fi 7 (.glo "check_padding") rfl)
  have g__law_pen := He.glo_ok X G (fi 8 (.glo "_law_pen") rfl)
  have g__law_draw := He.glo_ok X G (fi 9 (.glo "_law_draw") rfl)
  have g__law_pick := He.glo_ok X G (fi 10 (.glo "_law_pick") rfl)
  have g__law_heard := He.glo_ok X G (fi 11 (.glo "_law_heard") rfl)
  have g__law_turn_right := He.glo_ok X G (fi 12 (.glo "_law_turn_right") rfl)
  have g_law := He.glo_ok X G (fi 13 (.glo "law") rfl)
  have g_BankError := He.glo_ok X G (fi 14 (.glo "BankError") rfl)
  have g_BadRule := He.glo_ok X G (fi 15 (.glo "BadRule") rfl)
  have g_BadNumber := He.glo_ok X G (fi 16 (.glo "BadNumber") rfl)
  have g_TooMany := He.glo_ok X G (fi 17 (.glo "TooMany") rfl)
  have g_Rule := He.glo_ok X G (fi 18 (.glo "Rule") rfl)
  have m_isinstance := He.free_ok X G (fi 19 (.free "isinstance") rfl)
  have m_int := He.free_ok X G (fi 20 (.free "int") rfl)
  have m_bool := He.free_ok X G (fi 21 (.free "bool") rfl)
  have m_len := He.free_ok X G (fi 22 (.free "len") rfl)
  have m_all := He.free_ok X G (fi 23 (.free "all") rfl)
  have m_list := He.free_ok X G (fi 24 (.free "list") rfl)
  have m_tuple := He.free_ok X G (fi 25 (.free "tuple") rfl)
  have m_range := He.free_ok X G (fi 26 (.free "range") rfl)
  have m_abs := He.free_ok X G (fi 27 (.free "abs") rfl)
  have m_repr := He.free_ok X G (fi 28 (.free "repr") rfl)
  have c_MOST_MODULI := He.int_ok X G (fi 29 (.int "MOST_MODULI" 5) rfl)
  have c_MOST_BANKS := He.int_ok X G (fi 30 (.int "MOST_BANKS" 32) rfl)
  have c_MOST_PLACES := He.int_ok X G (fi 31 (.int "MOST_PLACES" 24) rfl)
  have e := hfa.symm.trans g_law
  cases e
  have xl_BadRule := xl_of xBadRule
  have xc_BadRule := xc_of xl_BadRule yBadRule
  obtain ⟨n_BadRule, t_BadRule⟩ := He.ba iBadRule
  have n_BadRule' := of_decide_eq_true n_BadRule
  have t_BadRule' := of_decide_eq_true t_BadRule
  have xl_BadNumber := xl_of xBadNumber
  have xc_BadNumber := xc_of xl_BadNumber yBadNumber
  obtain ⟨n_BadNumber, t_BadNumber⟩ := He.ba iBadNumber
  have n_BadNumber' := of_decide_eq_true n_BadNumber
  have t_BadNumber' := of_decide_eq_true t_BadNumber
  have xl_TooMany := xl_of xTooMany
  have xc_TooMany := xc_of xl_TooMany yTooMany
  obtain ⟨n_TooMany, t_TooMany⟩ := He.ba iTooMany
  have n_TooMany' := of_decide_eq_true n_TooMany
  have t_TooMany' := of_decide_eq_true t_TooMany
  have T : TR mg := ⟨m_isinstance, m_int, m_bool, m_len, m_all, m_list, m_tuple, m_range, c_MOST_MODULI, c_MOST_BANKS, c_MOST_PLACES⟩
  have TBo : TB mg := ⟨m_int, m_abs, m_len, m_list⟩
  have TE : TErr K mg (He.ga K "BadRule") (He.ga K "BadNumber") (He.ga K "TooMany") (He.ma K (He.ga K "BadRule") "__init__") (He.ma K (He.ga K "BadNumber") "__init__") (He.ma K (He.ga K "TooMany") "__init__") fd_BadRule___init__ fd_BadNumber___init__ fd_TooMany___init__ := ⟨g_BadRule, ⟨xc_BadRule, n_BadRule', t_BadRule'⟩, F_BadRule___init__, He.noat_ok (fi 36 (.noat "BadRule" "part") rfl), b_BadRule___init__, g_BadNumber, ⟨xc_BadNumber, n_BadNumber', t_BadNumber'⟩, F_BadNumber___init__, He.noat_ok (fi 37 (.noat "BadNumber" "value") rfl), b_BadNumber___init__, g_TooMany, ⟨xc_TooMany, n_TooMany', t_TooMany'⟩, F_TooMany___init__, He.noat_ok (fi 38 (.noat "TooMany" "what") rfl), He.noat_ok (fi 39 (.noat "TooMany" "most") rfl), b_TooMany___init__⟩
  have TU : TRule K mg (He.ga K "Rule") _ _ _ _ := ⟨He.cls_ok (fi 32 (.cls "Rule") rfl), He.noat_ok (fi 33 (.noat "Rule" "moduli") rfl), He.noat_ok (fi 34 (.noat "Rule" "ahead") rfl), He.noat_ok (fi 35 (.noat "Rule" "turn") rfl), g_Rule, prop_of p1, prop_of p2⟩
  have THd : THeard K mg (He.ga K "BadRule") (He.ga K "BadNumber") (He.ga K "TooMany") (He.ga K "BankError") := ⟨g_BankError, TE.gBadRule, TE.gBadNumber, TE.gTooMany, xc_BadRule, xc_BadNumber, xc_TooMany, TE.nBadRule, TE.nBadNumber, TE.nWhat, TE.nMost, He.exm_ok (fi 41 (.exm "BadRule" "BankError" true) rfl), He.exm_ok (fi 42 (.exm "BadNumber" "BankError" true) rfl), He.exm_ok (fi 43 (.exm "TooMany" "BankError" true) rfl), of_decide_eq_true kBadRuleBadRule, of_decide_eq_true kBadRuleBadNumber, of_decide_eq_true kBadRuleTooMany, of_decide_eq_true kBadNumberBadRule, of_decide_eq_true kBadNumberBadNumber, of_decide_eq_true kBadNumberTooMany, of_decide_eq_true kTooManyBadRule, of_decide_eq_true kTooManyBadNumber, of_decide_eq_true kTooManyTooMany, m_isinstance, m_repr, m_len⟩
  have MRI := He.mkr_ok (fi 40 (.mkr "Rule") rfl)
  obtain ⟨och, odh, kVh, doch, pmh, anh, cdvh, cth, oslh, eh, lkHe, hcHe⟩ := id F__law_heard.ex
  subst eh
  obtain ⟨oct, odt, kVt, doct, pmt, ant, cdvt, ctt, oslt, et, lkT, hcT⟩ := id F__law_turn_right.ex
  obtain ⟨ocl, odl, kVl, docl, pml, anl, cdvl, ctl, osll, el, lkL, hcL⟩ := id F_law.ex
  subst et el
  obtain ⟨c0, rfl⟩ := He.codeIn_ref hcT
  obtain ⟨c1, rfl⟩ := He.codeIn_ref hcL
  have ec0 : He.codeOf K ("_law_turn_right", none) = c0 := He.codeOf_eq lkT rfl
  have ec1 : He.codeOf K ("law", none) = c1 := He.codeOf_eq lkL rfl
  have hPP := of_decide_eq_true pp01
  have rcR := cread_of cr
  have cmM := cm_of cm_modulo
  have cmX := cm_of cm_xor
  have cmP := cm_of cm_padded
  obtain ⟨fd_xor, F_xor⟩ := ddi 0 _ rfl
  obtain ⟨dsx, dvx, b_xor⟩ : ∃ ds, Vals ([V.int 0].drop 1) ds ∧ Binds K fd_xor ["cls", "bits", "folds"] ds := FunD.binds1 (dvs := [V.int 0]) (kws := []) F_xor 3 1 (by simp) rfl fun T kV doc pm an cdv ct us its l1 l2 => match us, its, l1, l2 with | [_, _, _], [_], _, _ => ⟨_, rfl, rfl⟩
  refine ⟨PySem.W.fnOf "law" "law" (defArgs s_law) (defBody s_law) (defScope s_law) .none kVl docl pml anl (.ref c1) ctl, fun s v => .of_eq rfl, fun base _ _ tb => ?_⟩
  have TBt : TabB base mg c0 (He.cT K ("_law_turn_right", none)).2 := by
    rw [← ec0]
    exact tb _ List.mem_cons_self
  have TBl : TabB base mg c1 (He.cT K ("law", none)).2 := by
    rw [← ec1]
    exact tb _ (List.mem_cons_of_mem _ List.mem_cons_self)
  have GPk : FnOk P w K mg base CX0 2 _ fd__law_pick ["_law_pen_here", "_law_some"] (spPick K) := ok__law_pick F__law_pick TBo F__law_draw g__law_draw b__law_draw
  have GPn : FnOk P w K mg base CX0 1 _ fd__law_pen ["_law_script"] (spPen K) := ok__law_pen F__law_pen TBo
  have GDb := ok_doubled_weights (P := P) (w := w) (mg := mg) (base := base) F_doubled_weights
  have GRI := ok_Rule_init (P := P) (w := w) (base := base) F_Rule___init__ T TE TU F_is_integer g_is_integer b_is_integer F_is_within g_is_within b_is_within F_banks_by g_banks_by b_banks_by F_are_moduli g_are_moduli b_are_moduli F_are_banks g_are_banks b_are_banks F_shortest_weights g_shortest_weights b_shortest_weights F_Rule_classes b_Rule_classes
  have GMd : FnR P w K mg base (L2.CX P w) 6 _ (spModulo (He.ga K "BadRule") (He.ga K "TooMany") (He.ga K "Rule") K) := (FnOk.raw (ok_Rule_modulo F_Rule_modulo T TE F_is_integer g_is_integer b_is_integer F_is_within g_is_within b_is_within GDb g_doubled_weights F_doubled_weights.kp b_doubled_weights MRI GRI b_Rule___init__) b_Rule_modulo .nil).imp fun vs H Q E h => by rw [List.append_nil]; exact h
  have GCp := ok_check_padding (P := P) (w := w) (mg := mg) (base := base) F_check_padding T TE F_is_integer g_is_integer b_is_integer F_is_within g_is_within b_is_within
  have GPd : FnR P w K mg base (L2.CX P w) 6 _ (spPadded (He.ga K "BadRule") (He.ga K "TooMany") (He.ga K "Rule") K) := (FnOk.raw (ok_Rule_padded F_Rule_padded T TE F_is_integer g_is_integer b_is_integer F_is_within g_is_within b_is_within GDb g_doubled_weights F_doubled_weights.kp b_doubled_weights GCp g_check_padding F_check_padding.kp b_check_padding MRI GRI b_Rule___init__) b_Rule_padded .nil).imp fun vs H Q E h => by rw [List.append_nil]; exact h
  have GXr : FnR P w K mg base (L2.CX P w) 6 (He5.wf K (He.ga K "Rule") "classmethod" "xor") (spXor (He.ga K "BadRule") (He.ga K "TooMany") (He.ga K "Rule") K) := (FnOk.raw (ok_Rule_xor F_xor T TE F_is_integer g_is_integer b_is_integer F_is_within g_is_within b_is_within MRI GRI b_Rule___init__) b_xor dvx).imp fun vs H Q E h => by
    show spXor _ _ _ K (vs ++ []) H Q E
    rw [List.append_nil]
    exact h
  have GBk := ok_Rule_banks (P := P) (w := w) (base := base) F_Rule_banks T TU F_banks_by g_banks_by b_banks_by
  have GT := ok__law_turn_right (P := P) (w := w) (base := base) lkT hcT TBt hPP T m_repr TU THd GPk g__law_pick F__law_pick.kp b__law_pick rcR cmM cmX cmP GMd GXr GPd g__law_heard F__law_heard.kp lkHe hcHe b__law_heard
  exact ok_law lkL hcL TBl hPP T TU THd GPn g__law_pen F__law_pen.kp b__law_pen GT g__law_turn_right F__law_turn_right.kp b__law_turn_right rcR cmM cmX cmP GMd GXr GPd g__law_heard F__law_heard.kp lkHe hcHe b__law_heard GBk b_Rule_banks

end Toy
open PySem PySem.W PySem.Calls PyProof.Rows
set_option maxRecDepth 100000 in
set_option maxHeartbeats 0 in
theorem PySem.Challenge.cw_lanebanks_k25_kinds_of_rules_refused_holds : PySem.Challenge.rw_lanebanks_k25_kinds_of_rules_refused.Holds := by
  w_on; o_law
  refine HandSHeadRun.head_imp (r := OpenLaw.row PySem.Challenge.rw_lanebanks_k25_kinds_of_rules_refused) (q := view (OpenLaw.row PySem.Challenge.rw_lanebanks_k25_kinds_of_rules_refused).prog [0, 43]) (H := Toy.hk) (ob := Toy.ob) (M := 4000) (loose := Toy.names ++ Toy.names2) (d := HandSHeadRun.topDef (OpenLaw.row PySem.Challenge.rw_lanebanks_k25_kinds_of_rules_refused).prog 43) (kwd := []) Toy.ob_eq
    Toy.run (by kernel_rfl) (by kernel_rfl) (by kernel_rfl) (by rfl) (by first | assumption | decide +kernel) (by decide +kernel) ⟨rfl, rfl, rfl, rfl, rfl, by decide +kernel⟩ ?hw ?hc
  case hw => w_witness2
  case hc =>
    refine L2.walk_tabs (l := PySem.Challenge.rw_lanebanks_k25_kinds_of_rules_refused) (n := 63) (k := 10) (x := "_law_script") (sp := fun K ts => Toy.spTabs K ts) rfl (by decide) (by kernel_rfl) ⟨rfl, by decide, by decide⟩ ?F (fun K ts H a ns hl hb hT hS => ⟨a, ns, rfl, hS, hl, hb, hT, fun _ => rfl⟩)
    intro w mg fa h Y G hmg0
    obtain ⟨K, KX, c⟩ := Y
    have hmg : mg ("law" : PySem.Str) = some (.ref fa) := by
      have e : (HandSHeadRun.topDef (OpenLaw.row PySem.Challenge.rw_lanebanks_k25_kinds_of_rules_refused).prog 43).name = ("law" : PySem.Str) := by kernel_rfl
      rw [← e]
      exact hmg0
    obtain ⟨fd, hb, hF⟩ := Toy.facts (P := (PySem.Challenge.rw_lanebanks_k25_kinds_of_rules_refused).prog) (w := w) KX G hmg c
    refine ⟨K, Toy.tabsOf.map (He.cT K), fd, KX, fun p hp => ?_, fun p hp => ?_, fun p hp => ?_, hb, hF⟩
    all_goals
      obtain ⟨d, hd, rfl⟩ := List.mem_map.mp hp
    · exact c.empty d hd
    · exact c.out d hd
    · exact PySem.W.codeHd_of_K KX (c.hd d hd)
