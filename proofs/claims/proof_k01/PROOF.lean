import PyProof.Rows.All
import Wide.All
import OpenK.AllK
import Wide.FinOn
import HandS.ForMost
import HandS.ForExc
import HandS.ExcInit
import HandS.IsInst
import HandS.Wide
import HandS.EndBits
import HandS.Conv
import HandS.Defaults
import KE.KExcIs
import HandS.MakeKw
import HandS.Codes
import HandS.ExcValue
import HandS.Walk
import HandS.Style
import PySem.Challenge.RW_lanebanks_k01_errors_and_kinds_of_values
set_option Elab.async false
set_option linter.all false
set_option maxRecDepth 100000
namespace L2
open PySem PySem.Spec PyProof.Rows
/-! exceptions of the program's own as values -/
structure XvC (K : PySem.W.Frag) (C : Addr) : Prop where
  oex : OexC K C
  ga : PySem.W.findIn K (.ref C) "__getattribute__" = some (some (.builtin "BaseException.__getattribute__"))
  gg : PySem.W.findIn K (.ref C) "__getattr__" = some none
  dd : PySem.W.hasDictIn K C = true
  ic : (PySem.W.clsIn K C).isSome = true
  ca : PySem.W.findIn K (.ref C) "__class__" = some (some (.builtin "object.__class__"))
  gs : PySem.W.specialIn K (.builtin "object.__class__") "__get__" = some (some (.builtin "getset_descriptor.__get__"))
  tk : PySem.W.takesIn K (.builtin "object.__class__") = some true
  mo : PySem.W.mroIn K C (.type "object") = some true
/-- an exception object with (some) dict -/
def XvD (H : Hp) (d : Option Addr) : Prop := ∀ b, d = some b → ∃ fs, H b = some (exd b fs)
section
variable {X : Cx} {pins : List (Addr × Obj)} {σ : St} {H : Hp} {s : Shared}
theorem xv_inst {a C : Addr} {d : Option Addr} (I : Inv X pins σ H s) (e : H a = some (exo a C d)) (hd : XvD H d) : ∃ oe od, PySem.W.InstAt s.heap a oe C od := by
  obtain ⟨t1, ho⟩ := exo_at I.hok e
  cases d with
  | none => exact ⟨_, none, ho, rfl, rfl, trivial⟩
  | some b =>
    obtain ⟨fs, eb⟩ := hd b rfl
    obtain ⟨mA, hns, hr⟩ := exd_at I.hok eb
    obtain ⟨od, hod, hl⟩ := lookIn_ns hns
    exact ⟨_, some od, ho, rfl, rfl, hod⟩
/-- e.f off such a value -/
def tXat (K : PySem.W.Frag) (te : TE) (f : Str) : TE := fun σ H Q => te σ H fun x H1 => ∃ (a C d : Addr) (fs : List (Str × V)) (v : V), x = .ref a ∧ H1 a = some (exo a C (some d)) ∧ H1 d = some (exd d fs) ∧ XvC K C ∧ PySem.W.findIn K (.ref C) f = some none ∧ fs.lookup f = some v ∧ Q v H1
theorem pe_xat {e : Expr} {te : TE} {f : Str} {pos : Pos} (he : PE X e te) (hb : attributeBase e f X.env (eval e X.env) = eval e X.env := by rfl) : PE X (.Attribute e f pos) (tXat X.K te f) := by
  refine ⟨fun pins s σ H Q I h => ?_⟩
  refine attr_of hb (thn (he.run pins s σ H _ I h) fun u s1 hh => ?_)
  obtain ⟨x, H1, I1, rx, a, C, d, fs, v, ex, ea, ed, T, no, l, q⟩ := hh
  subst ex
  obtain rfl : u = Value.ref a := rx
  obtain ⟨t1, ho⟩ := exo_at I1.hok ea
  obtain ⟨mA, hns, hr⟩ := exd_at I1.hok ed
  obtain ⟨od, hod, hl⟩ := lookIn_ns hns
  obtain ⟨u, hu, ru⟩ := RelO.some_of (v := v) (o := mA f) (by rw [← l]; exact hr f)
  have J : PySem.W.InstAt s1.heap a _ C (some od) := ⟨ho, rfl, rfl, hod⟩
  exact HandSPX.exc_get I1.kIn J T.ga T.gg T.oex.exC (PySem.W.findObj_own T.dd no rfl (by rw [hl, hu])) (handed_of ru) ⟨v, H1, I1.tok _, ru, q⟩
/-- isinstance(e, c) -/
def rIsX (K : PySem.W.Frag) : List V → Hp → VK → Prop := fun xs H Q => ∃ (a C : Addr) (d : Option Addr) (c : V) (cv : Value) (b : Bool), xs = [.ref a, c] ∧ H a = some (exo a C d) ∧ XvD H d ∧ XvC K C ∧ ClsV c cv ∧ PySem.W.kitOne K (.ref C) cv = some b ∧ Q (.bl b) H
theorem call_isx : CallR X (.builtin "isinstance") (rIsX X.K) := by
  intro pins s σ H xs us Q I r h
  obtain ⟨a, C, d, c, cv, b, rfl, ea, hd, T, k, e, q⟩ := h
  obtain ⟨u1, u2, rfl, r1, r2⟩ := vals2 r
  have e2 := k.eq r2
  subst e2
  obtain rfl : u1 = Value.ref a := r1
  obtain ⟨oe, od, J⟩ := xv_inst I ea hd
  exact PySem.W.kia_one (PySem.W.kitx_exc T.ic T.ga T.gg T.oex.exC T.ca T.gs T.tk T.mo) I.kIn J e (fun z => nomatch z) fun tk => ⟨.bl b, H, I.tok tk, rfl, q⟩
end
end L2
set_option maxRecDepth 100000
namespace PySem
namespace XKw
open Builtin Builtin.ObjectAttr PySem.HandSPX
section
variable {M : Model} {A : Around} {E : Value → Shared → Prop} {hh : Heap} {gg : Array GenState} {dr : Drawn} {tt : Nat} {oss : OsState}
variable {nm q : Str} {C N : Addr} {bs bm bmB : List Value} {hdct : Bool} {sn : List Str} {sub : List Value} {ab : Bool} {col : Option Bool} {dd : Option Addr} {k0 k1 k2 k3 k5 : Option Value} {B nid iid : String}
theorem chk_new (FF : ExcBaseFacts B nid iid bmB) (hT : ∀ Y : String, bm.contains (.type Y) = bmB.contains (.type Y)) {us : List Value} {kw : List (Str × Value)} {Q : Unit → Shared → Prop}
    (hC : hh.get? C = some (excClassObj nm q C N bs bm hdct sn sub ab col dd k0 k1 k2 k3 k5 nid))
    (hq : Q () ⟨hh, gg, dr, tt, oss⟩) : wpAny M A (checkBuiltinCall nid ⟨.ref C :: us, kw⟩) Q E ⟨hh, gg, dr, tt, oss⟩ := by
  have hc : (Value.ref C :: bm).contains (.type B) = true := by rw [List.contains_cons, hT, FF.hasB]; exact Bool.or_true _
  have hs := FF.noStar
  simp only [checkBuiltinCall, FF.newKind, FF.newSplit, FF.newRow]
  repeat (first
    | refine wpAny_loadPart_at hC ?_
    | (refine wpAny_isSubtype_exc hC ?_; rw [hc])
    | refine wpAny_staticBase_exc hC ?_
    | refine wpAny_madeBy_exc hC ?_
    | simp only [bne_self_eq_false, Bool.false_eq_true, if_false]
    | wp_step)
  exact hq
end
section
variable {prog : Program} {w : World} {A : Around} {E : Value → Shared → Prop} {R : Result → Shared → Prop} {hh : Heap} {gg : Array GenState} {dr : Drawn} {tt : Nat} {oss : OsState}
variable {nm q : Str} {C N : Addr} {bs bm bmB : List Value} {hdct : Bool} {sn : List Str} {sub : List Value} {ab : Bool} {col : Option Bool} {dd : Option Addr} {k0 k1 k2 k3 k5 : Option Value} {B nid iid : String} {kw : List (Str × Value)}
theorem mk_new (FF : ExcBaseFacts B nid iid bmB) (hT : ∀ Y : String, bm.contains (.type Y) = bmB.contains (.type Y)) {us : List Value}
    (hC : hh.get? C = some (excClassObj nm q C N bs bm hdct sn sub ab col dd k0 k1 k2 k3 k5 nid))
    (hq : R (.ok (.ret (.ref (hh.objs.size + 1)))) ⟨(hh.push (W.kdv_tup us)).push (excO C hh.objs.size), gg, dr, tt, oss⟩) (hu : us.length ≤ sizeLine) :
    codeAny (model prog w) A (.builtin nid ⟨.ref C :: us, kw⟩) R ⟨hh, gg, dr, tt, oss⟩ := by
  have he := FF.ends
  have c1 : (Value.ref C :: bm).contains (.type B) = true := by rw [List.contains_cons, hT, FF.hasB]; exact Bool.or_true _
  have c2 : (Value.ref C :: bm).contains (.type "AttributeError") = false := by rw [List.contains_cons, hT, FF.noAttr]; exact Bool.or_false _
  have c3 : (Value.ref C :: bm).contains (.type "NameError") = false := by rw [List.contains_cons, hT, FF.noName]; exact Bool.or_false _
  refine codeAny_builtinAt FF.entry ?_
  unfold Builtin.«BaseException.__new__»
  refine wpAt_bind ?_
  show wpAt _ _ _ (PySem.stack >>= _) _ _ _
  refine wpAt_bind (wpAt_stack fun _ _ => wpAt_of_wpAny ?_)
  wp_walk
  refine wpAt_of_wpAny ?_
  rw [FF.owner]
  repeat (first
    | with_reducible refine wpAny_madeHere_exc FF.canon hC ?_
    | with_reducible refine wpAny_loadPart_at hC ?_
    | (with_reducible refine wpAny_isSubtype_exc hC ?_; first | rw [c1] | rw [c2] | rw [c3])
    | wp_step)
  show R _ _
  rw [Heap.size_push]
  exact hq
theorem mk_type (FF : ExcBaseFacts B nid iid bmB) (hT : ∀ Y : String, bm.contains (.type Y) = bmB.contains (.type Y)) {us : List Value} {fI : Addr} {Q : Fin → Shared → Prop}
    (hC : hh.get? C = some (excClassObj nm q C N bs bm hdct sn sub ab col dd k0 k1 k2 k3 k5 nid))
    (hi : W.Looks (model prog w) hh (typeLookup (.ref C) "__init__") (some (.ref fI)))
    (hb : ∀ y, W.Looks (model prog w) hh (bindSpecial (.ref fI) y) (.ref fI, [y])) (hu : us.length ≤ sizeLine)
    (hq : codeAny (model prog w) A (.call (.ref fI) ⟨.ref (hh.objs.size + 1) :: us, kw⟩)
      (fun r z => match r with
        | .ok (.ret v) => v = .none ∧ Q (.done (.ret (.ref (hh.objs.size + 1)))) z
        | .ok _ => False
        | .error e => E e z)
      ⟨(hh.push (W.kdv_tup us)).push (excO C hh.objs.size), gg, dr, tt, oss⟩) :
    wpAny (model prog w) A (Builtin.«type.__call__» ⟨.ref C :: us, kw⟩) Q E ⟨hh, gg, dr, tt, oss⟩ := by
  repeat (first
    | with_reducible refine wpAny_loadPart_at hC ?_
    | with_reducible refine wpAny_madeBy_exc hC ?_
    | wp_step)
  refine codeAny_call_builtin_code (Code.quiet_builtin _ FF.quiet) (chk_new FF hT hC ?_)
  refine mk_new FF hT hC ?_ hu
  show wpAny _ _ _ _ _ _
  have k : ∀ b o, hh.get? b = some o → ((hh.push (W.kdv_tup us)).push (excO C hh.objs.size)).get? b = some o :=
    fun _ _ e => Heap.get?_push_of_some _ (Heap.get?_push_of_some _ e)
  have hC1 := k _ _ hC
  have hg : ((hh.push (W.kdv_tup us)).push (excO C hh.objs.size)).get? (hh.objs.size + 1) = some (excO C hh.objs.size) := by
    heap_get
  have cC : (Value.ref C :: bm).contains (.ref C) = true := by simp
  have i1 := hi.keeps k
  have b1 := (hb (.ref (hh.objs.size + 1))).keeps k
  unfold isInstance
  repeat (first
    | with_reducible refine wpAny_loadPart_at hg ?_
    | (with_reducible refine wpAny_isSubtype_exc hC1 ?_; rw [cC])
    | wp_step)
  show wpAny _ _ (typeLookup (.ref C) _) _ _ _
  refine i1.at ?_
  refine wpAny_holding (wpAny_bind (b1.at ?_))
  refine wpAny_bind (wpAny_call (codeAny_mono hq fun r z y => ?_))
  cases r with
  | error e => exact y
  | ok fl =>
    cases fl with
    | ret v =>
      obtain ⟨rfl, y⟩ := y
      first
        | exact wpAny_pure (wpAny_pure y)
        | (wp_walk; done)
        | (wp_walk; exact y)
    | next => exact y.elim
    | brk => exact y.elim
    | cont => exact y.elim
theorem mk_call (FF : ExcBaseFacts B nid iid bmB) (hT : ∀ Y : String, bm.contains (.type Y) = bmB.contains (.type Y)) {us : List Value} {fI : Addr}
    (hC : hh.get? C = some (excClassObj nm q C N bs bm hdct sn sub ab col dd k0 k1 k2 k3 k5 nid))
    (hi : W.Looks (model prog w) hh (typeLookup (.ref C) "__init__") (some (.ref fI)))
    (hb : ∀ y, W.Looks (model prog w) hh (bindSpecial (.ref fI) y) (.ref fI, [y])) (hu : us.length ≤ sizeLine)
    (hq : codeAny (model prog w) (A.under (.builtin "type.__call__" ⟨.ref C :: us, kw⟩)) (.call (.ref fI) ⟨.ref (hh.objs.size + 1) :: us, kw⟩) (W.InitBack (hh.objs.size + 1) R)
      ⟨(hh.push (W.kdv_tup us)).push (excO C hh.objs.size), gg, dr, tt, oss⟩) :
    codeAny (model prog w) A (.call (.ref C) ⟨us, kw⟩) R ⟨hh, gg, dr, tt, oss⟩ := by
  have f1 := tc_lookup
  have f2 := tc_bind (.ref C)
  have hTy : (⟨hh, gg, dr, tt, oss⟩ : Shared).TypeIs (.ref C) "type" := ⟨_, hC, rfl⟩
  refine codeAny_of_tree ?_
  show wpAny _ _ (callAny (.ref C) _) _ _ _
  repeat (any_goals (first
    | assumption
    | with_reducible refine wpAny_loadPart_at hC ?_
    | wp_step))
  refine ⟨rfl, ?_⟩
  refine codeAny_call_builtin_at (Code.quiet_builtin _ (by decide +kernel)) entry_typeCall (wpAny_check_type_call_sub hC (mk_type FF hT hC hi hb hu ?_))
  refine codeAny_mono hq fun r z y => ?_
  rcases r with e | (v | _ | _ | _) <;> exact y
end
end XKw
end PySem
set_option maxRecDepth 100000
namespace L2
open PySem PySem.Spec PyProof.Rows
/-- a def's promise where nothing is being shown around it (repr asks that) -/
structure FnG (P : Program) (w : World) (K : PySem.W.Frag) (mg : Str → Option Value) (base : Heap) (CX : CXT) (k : Nat) (f : Addr) (fd : FuncData) (ps : List Str) (sp : Sp) : Prop where
  len : ∀ vs H Q E, sp vs H Q E → vs.length = ps.length
  run : ∀ (A : Around) (outer : List Env) (s : Shared) (H : Hp) (args : Args) (us : List Value) (vs : List V) (Q : VK) (E : XK), A.guards = some [] → Room k A →
    Env0 P w K mg base A outer s H → BindsTo s fd args (ps.zip us) → Vals vs us → sp vs H Q E →
    codeAny (model P w) A (.call (.ref f) args) (CR CX outer P w H s Q E) s
section
variable {P : Program} {w : World} {K : PySem.W.Frag} {mg : Str → Option Value} {base : Heap} {CX : CXT} {k : Nat} {f : Addr} {fd : FuncData} {ps : List Str} {sp : Sp}
theorem FnOk.g (F : FnOk P w K mg base CX k f fd ps sp) : FnG P w K mg base CX k f fd ps sp :=
  ⟨F.len, fun A o s H a us vs Q E _ => F.run A o s H a us vs Q E⟩
theorem FnG.mono {j : Nat} (F : FnG P w K mg base CX j f fd ps sp) (h : j ≤ k) : FnG P w K mg base CX k f fd ps sp :=
  ⟨F.len, fun A o s H a us vs Q E g r => F.run A o s H a us vs Q E g (r.mono h)⟩
end
/-- a def by its body -/
theorem Fun.okG {P : Program} {w : World} {K : PySem.W.Frag} {mg : Str → Option Value} {base : Heap} {x qual : Str} {st : Stmt} {f : Addr} {fd : FuncData} {N ps : List Str} {k : Nat} {sp : Sp}
    (F : Fun K x qual st f fd) (S : FnScope N ps (defScope st)) (len : ∀ vs H Q E, sp vs H Q E → vs.length = ps.length)
    (body : ∀ (cdv : Value) (A : Around) (outer : List Env) (s : Shared) (H : Hp) (vs : List V) (Q : VK) (E : XK), A.guards = some [] →
      Room k (A.deeper (envOfC qual (defScope st) s.heap.objs.size f cdv)) → sp vs H Q E →
      ∃ t, PSs (cxOf CX0 P w K mg base N qual (defScope st) f cdv A outer s H E).nox (defBody st) t ∧
        t { nx := fun _ H' => Q .non H', rt := Q } (start N vs) H) :
    FnG P w K mg base CX0 (k + 1) f fd ps sp := by
  obtain ⟨oc, od, kV, doc, pm, an, cdv, ct, osl, rfl, lk, hcd⟩ := F.ex
  refine ⟨len, fun A outer s H args us vs Q E hgd hr e0 hb r hsp => ?_⟩
  have hn := len _ _ _ _ hsp
  have bk : ∀ b o, base.get? b = some o → s.heap.get? b = some o := fun b o e => (e0.bs b o e).1
  have kin := e0.mod.kin.keeps bk
  have lim := e0.mod.nolimit.keeps bk
  have kinds : ∀ y ∈ ps.zip us, (defScope st).names.lookup y.1 = some .local ∨
      ((defScope st).names.lookup y.1 = some .cell ∧ ((cellsFrom (s.heap.objs.size + 1) (defScope st).names []).lookup y.1).isSome = true) := by
    rintro ⟨n, v⟩ hy
    cases S.par n (List.of_mem_zip hy).1 with
    | inl q => exact .inl q
    | inr q => exact .inr ⟨q, PySem.W.cellsFrom_some _ _ _ (.inl q)⟩
  refine codeAny_call_function hr.depth (kin _ _ lk) rfl S.co S.gen rfl (PySem.W.codeRec_of kin hcd) (hb _ _ _ _ ?_)
  refine wpAny_newFunctionEnv_cells S.kind kinds fun env he s1 x => ?_
  subst he
  refine ⟨lim.keeps x.toInCall.keep, codeAny_func ?_⟩
  obtain ⟨t, ht, hq⟩ := body cdv A outer s H vs Q E hgd (hr.deeper _) hsp
  have I := inv_start (CX := CX0) (P := P) (w := w) (K := K) (mg := mg) (base := base) (E := E) S hr.hd e0 hn r x
  refine wpAny_mono (ht.nox.run [] s1 (start N vs) H _ I hq) (fun fl s' hs => ?_) fun _ _ hs => hs
  cases fl with
  | brk =>
    obtain ⟨_, _, _, q⟩ := hs
    exact q.elim
  | cont =>
    obtain ⟨_, _, _, q⟩ := hs
    exact q.elim
  | next =>
    obtain ⟨σ', H', J, q⟩ := hs
    exact ⟨V.non, H', J.os, J.bare, J.base, J.hok, rfl, q⟩
  | ret u =>
    obtain ⟨v, σ', H', J, rv, q⟩ := hs
    exact ⟨v, H', J.os, J.bare, J.base, J.hok, rv, q⟩
section
variable {X : Cx} {CX : CXT} {k : Nat} {f : Addr} {fd : FuncData} {ps ks : List Str} {sp : Sp} {dvs : List V} {ds : List Value} {E : XK} {x : Str} {p pos : Pos} {e : Expr} {es : List Expr} {t : TA}
theorem run_g {pins : List (Addr × Obj)} {σ : St} {H : Hp} {s : Shared} {Q : VK} {us : List Value} {vs : List V} (F : FnG X.prog X.w X.K X.mg X.base CX k f fd ps sp) (gd : X.A.guards = some []) (hr : Room k X.A)
    (hb : Binds X.K fd ps ds) (hd : Vals dvs ds) (hx : Passes CX X E) (I : Inv X pins σ H s) (r : Vals vs us) (h : sp (vs ++ dvs) H Q E) :
    wpAny (model X.prog X.w) X.A (call (.ref f) us) (EP X pins σ Q) X.xe s := by
  have rr := Vals.append r hd
  have hl : (us ++ ds).length = ps.length := (rr.length.symm).trans (F.len _ _ _ _ h)
  refine wpAny_call (codeAny_mono (F.run X.A X.stack s H _ _ _ Q E gd hr I.env0 (hb s us I.kIn hl) rr h) fun r s' hq => ?_)
  cases r with
  | error er => exact hx pins σ H s er s' I hq
  | ok fl =>
    cases fl with
    | ret u => exact I.after hq
    | next => exact hq.elim
    | brk => exact hq.elim
    | cont => exact hq.elim
theorem pe_callG (F : FnG X.prog X.w X.K X.mg X.base CX k f fd ps sp) (gd : X.A.guards = some []) (hr : Room k X.A) (hg : Gl X x) (hm : X.mg x = some (.ref f)) (hk : PySem.W.keepIn X.K (.ref f) = true)
    (hb : Binds X.K fd ps ds) (hd : Vals dvs ds) (hx : Passes CX X E) (ha : PA X (e :: es) t) (hdb : (x == ("__debug__" : Str)) = false := by decide)
    (he : starEach (e :: es) X.env = (false, eval e X.env) :: starEach es X.env := by rfl) (hpl : (backTo pos (starEach es X.env)).any (·.1) = false := by rfl) :
    PE X (.Call (.Name x p) (e :: es) [] pos) (tCall sp dvs E t) := by
  refine ⟨fun pins s σ H Q I h => wpAny_Call_Name_kw (ld_glob I hg hm ?_ hdb)⟩
  refine PySem.W.callWith_K (h₀ := X.base) I.ok.mod.kin hk (thn (ha.run pos pins s σ H _ I h) fun us s1 hh => ?_) he hpl
  obtain ⟨vs, H1, I1, r, q⟩ := hh
  exact ⟨I1.kIn, run_g F gd hr hb hd hx I1 r q⟩
/-! repr -/
/-- x reads as d, in every state over H -/
def RdV (X : Cx) (H : Hp) (x : V) (d : PyData) : Prop := ∀ (pins : List (Addr × Obj)) (σ : St) (s : Shared) (u : Value), Inv X pins σ H s → RelV x u → ∃ as, Reads s.heap u d as ∧ (d.hasDict = true → sysModules ∉ as)
def rRepr (X : Cx) : List V → Hp → VK → Prop := fun xs H Q => ∃ (x : V) (d : PyData), xs = [x] ∧ RdV X H x d ∧ d.showable = true ∧ d.depth ≤ 20 ∧ d.shown.length ≤ sizeLine ∧ Q (.str d.shown) H
theorem call_reprG (gd : X.A.guards = some []) (hu : X.A.units + 64 < cLine) : CallR X (.builtin "repr") (rRepr X) := by
  intro pins s σ H xs us Q I r h
  obtain ⟨x, d, rfl, rd, sh, dp, sz, q⟩ := h
  obtain ⟨u, rfl, ru⟩ : ∃ u, us = [u] ∧ RelV x u := by
    cases r with
    | cons a b =>
      cases b
      exact ⟨_, rfl, a⟩
  obtain ⟨as, rr, hsm⟩ := rd pins σ s u I ru
  have fin : ∀ (h' : Heap) (t : Tok) (tk : Nat), (∀ b o, s.heap.get? b = some o → h'.get? b = some o) → EP X pins σ Q (.str d.shown t) { s with heap := h', toks := tk } :=
    fun h' t tk k => ⟨.str d.shown, H, I.kept (t' := tk) k, ⟨t, rfl⟩, q⟩
  cases rr with
  | none => exact PySem.P.repr_of_none (fin s.heap s.toks _ fun _ _ z => z)
  | bool b => exact PySem.P.repr_of_bool (fin s.heap s.toks _ fun _ _ z => z)
  | int i t =>
    have hb : i.natAbs.log2 < 1920 := by simpa [PyData.showable] using sh
    exact PySem.P.repr_of_int hb (fin s.heap s.toks _ fun _ _ z => z)
  | str y t => exact PySem.P.repr_of_str (fin s.heap s.toks _ fun _ _ z => z) sz
  | list h1 h2 h3 h4 => exact repr_of_reads' (.list h1 h2 h3 h4) sh hsm gd (by omega) (fun _ _ z => z) (fun h' u tk k => fin h' u tk k) sz
  | tuple h1 h2 h3 h4 => exact repr_of_reads' (.tuple h1 h2 h3 h4) sh hsm gd (by omega) (fun _ _ z => z) (fun h' u tk k => fin h' u tk k) sz
  | dict h1 h2 h3 h4 h5 => exact repr_of_reads' (.dict h1 h2 h3 h4 h5) sh hsm gd (by omega) (fun _ _ z => z) (fun h' u tk k => fin h' u tk k) sz
end
end L2
set_option maxRecDepth 100000
namespace L2
open PySem PySem.Spec PyProof.Rows
/-- the law's call, by a promise that holds where nothing is being shown -/
theorem end_core {P : Program} {w : World} {K : PySem.W.Frag} {mg mb : Str → Option Value} {k : Nat} {fa a : Addr} {fd : FuncData} {x : Str} {sp : Sp} {s₁ : Shared} {vs : List Value} {H : Hp}
    (KX : K.In s₁.heap) (hns : s₁.heap.Ns mainGlobals mg) (hb : s₁.heap.Ns builtinsNs mb) (hbb : ∀ y : Str, y ≠ "__name__" → mb y = bootBuiltins y)
    (lim : s₁.heap.NoLimit) (hg : s₁.gens = #[]) (ha : s₁.heap.get? a = some { cls := .type "list", data := .seq vs.toArray }) (hr : Room k callerA)
    (F : ∀ base : Heap, K.In base → base.Ns mainGlobals mg → FnG P w K mg base CX0 k fa fd [x] sp) (bind : ∀ (s : Shared) (u : Value), BindsTo s fd ⟨[u], []⟩ [(x, u)])
    (hO : Only H) (hok : HOk P w H s₁.heap) (hA : ∀ b, H b ≠ none → b = a) (hK : H a ≠ none → K.lookup a = none)
    (hsp : sp [.ref a] H (fun v _ => v = .bl true) fun _ _ _ => False) :
    codeAny (model P w) callerA (.call (.ref fa) ⟨[.ref a], []⟩) (fun r s' => r = .ok (.ret (.bool true)) ∧ OldK s₁.heap s'.heap ∧ s'.os = s₁.os ∧ AllBare s'.gens) s₁ := by
  have free : ∀ {b : Addr} {o : Obj} {es : Array DictEntry} {ep : Nat}, s₁.heap.get? b = some o → o.data = .dict es ep → H b = none := by
    intro b o es ep e d
    refine Classical.byContradiction fun n => ?_
    have eb := hA b n
    subst eb
    have eo := Option.some.inj (e.symm.trans ha)
    subst eo
    cases d
  have ns' : ∀ {b : Addr} {m : Str → Option Value}, s₁.heap.Ns b m → (hidT s₁.heap H).Ns b m := by
    rintro b m ⟨o, es, ep, e, d, r⟩
    exact ⟨o, es, ep, hidT_get e (free e d), d, r⟩
  have kb : K.In (hidT s₁.heap H) := by
    intro b o e
    refine hidT_get (KX b o e) (Classical.byContradiction fun n => ?_)
    have eb := hA b n
    subst eb
    rw [hK n] at e
    cases e
  have md : Mod K mg (hidT s₁.heap H) := by
    obtain ⟨mc, h1, h2⟩ := lim
    exact ⟨kb, ns' hns, ⟨mb, ns' hb, hbb⟩, ⟨mc, ns' h1, h2⟩⟩
  have ev : Env0 P w K mg (hidT s₁.heap H) callerA [] s₁ H :=
    ⟨rfl, md, fun b o e => of_hidT e, Nat.le_of_eq (hidT_size _ _), trivial, fun b hb => (nomatch hb), hok, .of_eq hg⟩
  refine codeAny_mono ((F _ kb (ns' hns)).run callerA [] s₁ H _ [.ref a] [.ref a] _ _ rfl hr ev (bind s₁ (.ref a)) (.cons rfl .nil) hsp) fun r s' h => ?_
  cases r with
  | error e => exact (h : False).elim
  | ok fl =>
    cases fl with
    | next => exact (h : False).elim
    | brk => exact (h : False).elim
    | cont => exact (h : False).elim
    | ret u =>
      obtain ⟨v, H', os, bare, un, hok', r', q⟩ := h
      have q' : v = .bl true := q
      subst q'
      obtain rfl : u = Value.bool true := r'
      refine ⟨rfl, OldK.of_keep fun b o e => ?_, os, bare⟩
      rcases hO b with z | ⟨ob, xs, z⟩
      · exact un.keep b o e z (fun m => nomatch m) (fun m => nomatch m)
      · have e1 := (hok b _ z).1
        have e2 := (hok' b _ (un.frzs b ob _ z)).1
        exact (Option.some.inj (e.symm.trans e1)) ▸ e2
theorem end_call {P : Program} {w : World} {K : PySem.W.Frag} {mg mb : Str → Option Value} {k : Nat} {fa a : Addr} {fd : FuncData} {x : Str} {sp : Sp} {s₁ : Shared} {vs : List Value} {ns : List Int}
    (KX : K.In s₁.heap) (hns : s₁.heap.Ns mainGlobals mg) (hb : s₁.heap.Ns builtinsNs mb) (hbb : ∀ y : Str, y ≠ "__name__" → mb y = bootBuiltins y)
    (lim : s₁.heap.NoLimit) (hg : s₁.gens = #[]) (ha : s₁.heap.get? a = some { cls := .type "list", data := .seq vs.toArray }) (hi : IntsAre vs ns) (hl : ns.length ≤ sizeLine) (hr : Room k callerA)
    (F : ∀ base : Heap, K.In base → base.Ns mainGlobals mg → FnG P w K mg base CX0 k fa fd [x] sp) (bind : ∀ (s : Shared) (u : Value), BindsTo s fd ⟨[u], []⟩ [(x, u)])
    (hsp : ∀ H : Hp, Only H → SqL K H a (ns.map V.int) → sp [.ref a] H (fun v _ => v = .bl true) fun _ _ _ => False) :
    codeAny (model P w) callerA (.call (.ref fa) ⟨[.ref a], []⟩) (fun r s' => r = .ok (.ret (.bool true)) ∧ OldK s₁.heap s'.heap ∧ s'.os = s₁.os ∧ AllBare s'.gens) s₁ := by
  have rv := vals_ints hi
  cases hk : K.lookup a with
  | some o =>
    have eo := Option.some.inj ((KX a o hk).symm.trans ha)
    subst eo
    refine end_core (H := fun _ => none) KX hns hb hbb lim hg ha hr F bind (fun _ => .inl rfl) (fun _ _ z => nomatch z) (fun _ z => (z rfl).elim) (fun z => (z rfl).elim) (hsp _ (fun _ => .inl rfl) ?_)
    exact .inr ⟨_, vs.toArray, _, hk, rfl, rfl, rfl, by rw [List.size_toArray, hi.length]; exact hl, by simpa using rv⟩
  | none =>
    have at_ : ∀ b, (if b = a then some (HO.frz { cls := .type "list", data := .seq vs.toArray } (.lst (ns.map V.int))) else none) ≠ none → b = a := by
      intro b n
      refine Classical.byContradiction fun z => n (if_neg z)
    have on : Only (fun b => if b = a then some (HO.frz { cls := .type "list", data := .seq vs.toArray } (.lst (ns.map V.int))) else none) := by
      intro b
      by_cases eb : b = a
      · exact .inr ⟨_, _, if_pos eb⟩
      · exact .inl (if_neg eb)
    refine end_core KX hns hb hbb lim hg ha hr F bind on (fun b u z => ?_) at_ (fun _ => hk) (hsp _ on (.inl (.inr ⟨_, if_pos rfl⟩)))
    have eb := at_ b (fun n => nomatch z.symm.trans n)
    subst eb
    have eu := Option.some.inj ((if_pos rfl).symm.trans z)
    subst eu
    exact ⟨ha, by rw [List.length_map]; exact hl, vs, _, rv, ha⟩
theorem walk_ofG {l : PySem.W.OpenLaw} {n k : Nat} {q : Program} {loose : List Str} {XP : (Str → Option Value) → Heap → Prop} {YP : World → Heap → Prop} {d : DefRec} {K : Params → PySem.W.Frag} {sp : World → Sp} {x : Str}
    (hn : l.most = some n) (hn2 : n ≤ sizeLine) (hdf : d.params.defaults = []) (hr : Room k callerA)
    (hY : ∀ (w : World) (h : Heap), YP w h → (K w.params).In h)
    (F : ∀ (w : World) (mg : Str → Option Value) (fa : Addr) (h : Heap), (K w.params).In h → h.Ns mainGlobals mg → mg d.name = some (.ref fa) →
      ∃ fd : FuncData, (∀ (s : Shared) (u : Value), BindsTo s fd ⟨[u], []⟩ [(x, u)]) ∧
        ∀ base : Heap, (K w.params).In base → base.Ns mainGlobals mg → FnG l.prog w (K w.params) mg base CX0 k fa fd [x] (sp w))
    (hsp : ∀ (w : World) (H : Hp) (a : Addr) (ns : List Int), ns.length ≤ n → (∀ z ∈ ns, Builtin.Int.intBits z ≤ 1048576) → Only H → SqL (K w.params) H a (ns.map V.int) →
      sp w [.ref a] H (fun v _ => v = .bl true) fun _ _ _ => False) :
    PySem.W.WalkO q loose XP YP l.row.toRowW d [] (fun f vs => PySem.call f vs) := by
  refine Att.attach_callB hn hdf fun w s₀ s₁ mg mb fa o pm cd doc a vs ns G Y ho hd hcd hmg hobj hints hlen hbits hg => ?_
  obtain ⟨fd, b, f⟩ := F w mg fa _ (hY w _ Y) G.T.g hmg
  exact end_call (hY w _ Y) G.T.g G.T.b G.T.builtins G.T.nolimit hg hobj hints (Nat.le_trans hlen hn2) hr f b fun H hO hS => hsp w H a ns hlen hbits hO hS
end L2
set_option maxRecDepth 100000
namespace L2
open PySem PySem.Spec PyProof.Rows
/-- an own exception class with an own __init__ -/
structure XvI (K : PySem.W.Frag) (C fI : Addr) : Prop where
  cls : XvC K C
  ini : PySem.W.findIn K (.ref C) "__init__" = some (some (.ref fI))
  ty : PySem.W.typeIn K (.ref fI) = some (.type "function")
theorem Vals.rev : ∀ {xs : List V} {us : List Value}, Vals xs us → Vals xs.reverse us.reverse
  | _, _, .nil => .nil
  | _, _, .cons r t => by
    rw [List.reverse_cons, List.reverse_cons]
    exact Vals.append (Vals.rev t) (.cons r .nil)
theorem Fun.kbn {K : PySem.W.Frag} {x qual : Str} {st : Stmt} {f : Addr} {fd : FuncData} {ps : List Str} (F : Fun K x qual st f fd) (n : Nat) (ks : List Str) (g : List Value → List Value → List Value) (gV : List V → List V → List V)
    (h : ∀ (kV doc pm : Value) (an : Option Addr) (cdv ct : Value) (us ws : List Value), us.length = n → ws.length = ks.length →
      bindArgs (PySem.W.fnOf x qual (defArgs st) (defBody st) (defScope st) .none kV doc pm an cdv ct) ⟨us, ks.zip ws⟩ = pure (ps.zip (g us ws)))
    (rel : ∀ {vs : List V} {us : List Value} {zs : List V} {ws : List Value}, Vals vs us → Vals zs ws → Vals (gV vs zs) (g us ws)) : KBn K fd ps n ks g gV := by
  obtain ⟨oc, od, kV, doc, pm, an, cdv, ct, osl, rfl, lk, hcd⟩ := F.ex
  exact ⟨fun s us ws _ l1 l2 => BindsTo.of_eq (h kV doc pm an cdv ct us ws l1 l2), rel⟩
section
variable {X : Cx} {k n : Nat} {fI C : Addr} {fd : FuncData} {ps ks : List Str} {sp : Sp} {x : Str} {p pos : Pos} {e : Expr} {es : List Expr} {kws : List Keyword} {t tk : TA} {g : List Value → List Value → List Value} {gV : List V → List V → List V}
theorem run_mkx {pins : List (Addr × Obj)} {σ : St} {H : Hp} {s : Shared} {Q : VK} {us ws : List Value} {vs zs : List V} (T : XvI X.K C fI) (F : FnOk X.prog X.w X.K X.mg X.base CX0 k fI fd ps sp) (hr : Room (k + 1) X.A)
    (hb : KBn X.K fd ps (n + 1) ks g gV) (hn : n ≤ 1000) (I : Inv X pins σ H s) (r : Vals vs us) (rz : Vals zs ws) (l1 : vs.length = n) (l2 : zs.length = ks.length)
    (h : ∀ a, H a = none → sp (gV (.ref a :: vs) zs) (upd H a (exo a C none)) (fun v H2 => v = .non ∧ Q (.ref a) H2) E0) :
    wpAny (model X.prog X.w) X.A (call (.ref C) us (ks.zip ws)) (EP X pins σ Q) X.xe s := by
  obtain ⟨nm, q, N, bs, bm, sn, sub, ab, col, dd, k0, k1, k2, k3, k5, hC, hbm⟩ := T.cls.oex.cls
  obtain ⟨hp, gn, dr, tt, oss⟩ := s
  have sz : hp.objs.size ≤ hp.objs.size + 1 := Nat.le_succ _
  have keep : ∀ b o, hp.get? b = some o → ((hp.push (PySem.W.kdv_tup us)).push (PySem.HandSPX.excO C hp.objs.size)).get? b = some o :=
    fun _ _ e => Heap.get?_push_of_some _ (Heap.get?_push_of_some _ e)
  have at_ : ((hp.push (PySem.W.kdv_tup us)).push (PySem.HandSPX.excO C hp.objs.size)).get? (hp.objs.size + 1) = some (PySem.HandSPX.excO C hp.objs.size) := by
    heap_get
  have I2 := I.laid (t' := tt) (a := hp.objs.size + 1) (o := exo (hp.objs.size + 1) C none) keep sz (exo_ok at_)
  have hq := h (hp.objs.size + 1) (I.hok.fresh sz)
  have rs : Vals (V.ref (hp.objs.size + 1) :: vs) (Value.ref (hp.objs.size + 1) :: us) := .cons rfl r
  have ln : (Value.ref (hp.objs.size + 1) :: us).length = n + 1 := by rw [List.length_cons, ← r.length, l1]
  have hus : us.length ≤ sizeLine := by
    rw [← r.length, l1, sizeLine_eq]
    omega
  refine wpAny_call (PySem.XKw.mk_call PySem.F.excBase_ValueError (fun Y => PySem.HandSPX.refsVE_contains Y bm hbm) (I.kIn _ _ hC) (PySem.W.looks_findIn I.kIn T.ini)
    (fun y => PySem.W.bind_fn I.kIn y T.ty) hus ?_)
  refine codeAny_mono (F.run _ X.stack _ _ _ _ _ _ _ (hr.make C us (ks.zip ws)) (I2.env0.make C us (ks.zip ws)) (hb.to _ _ ws I2.kIn ln (rz.length.symm.trans l2)) (hb.rel rs rz) hq) fun r s' hq' => ?_
  cases r with
  | error er => exact (hq' : False).elim
  | ok fl =>
    cases fl with
    | ret u =>
      obtain ⟨v, H3, I3, rv, ev, q3⟩ := I2.after hq'
      subst ev
      exact ⟨rv, V.ref (hp.objs.size + 1), H3, I3, rfl, q3⟩
    | next => exact (hq' : False).elim
    | brk => exact (hq' : False).elim
    | cont => exact (hq' : False).elim
/-- C(e, ..) -/
def tMkX (C : Addr) (n : Nat) (sp : Sp) (gV : List V → List V → List V) (t : TA) : TE := fun σ H Q => t σ H fun vs H1 => vs.length = n ∧ ∀ a, H1 a = none → sp (gV (.ref a :: vs) []) (upd H1 a (exo a C none)) (fun v H2 => v = .non ∧ Q (.ref a) H2) E0
theorem pe_mkx (T : XvI X.K C fI) (F : FnOk X.prog X.w X.K X.mg X.base CX0 k fI fd ps sp) (hr : Room (k + 1) X.A) (hb : KBn X.K fd ps (n + 1) [] g gV) (hg : Gl X x) (hm : X.mg x = some (.ref C)) (ha : PA X (e :: es) t)
    (hn : n ≤ 1000 := by decide) (hdb : (x == ("__debug__" : Str)) = false := by decide)
    (he : starEach (e :: es) X.env = (false, eval e X.env) :: starEach es X.env := by rfl) (hpl : (backTo pos (starEach es X.env)).any (·.1) = false := by rfl) :
    PE X (.Call (.Name x p) (e :: es) [] pos) (tMkX C n sp gV t) := by
  refine ⟨fun pins s σ H Q I h => wpAny_Call_Name_kw (ld_glob I hg hm ?_ hdb)⟩
  refine PySem.W.callWith_K (h₀ := X.base) I.ok.mod.kin T.cls.oex.kC (thn (ha.run pos pins s σ H _ I h) fun us s1 hh => ?_) he hpl
  obtain ⟨vs, H1, I1, r, l1, q⟩ := hh
  exact ⟨I1.kIn, run_mkx (ws := []) (zs := []) T F hr hb hn I1 r .nil l1 rfl q⟩
/-- C(k = v, ..) -/
def tMkXK (C : Addr) (m : Nat) (sp : Sp) (gV : List V → List V → List V) (tk : TA) : TE := fun σ H Q => tk σ H fun zs H1 => zs.length = m ∧ ∀ a, H1 a = none → sp (gV [.ref a] zs) (upd H1 a (exo a C none)) (fun v H2 => v = .non ∧ Q (.ref a) H2) E0
theorem pe_mkxK (T : XvI X.K C fI) (F : FnOk X.prog X.w X.K X.mg X.base CX0 k fI fd ps sp) (hr : Room (k + 1) X.A) (hb : KBn X.K fd ps 1 ks g gV) (hg : Gl X x) (hm : X.mg x = some (.ref C)) (hkw : PK X kws tk)
    (hall : (backToKw pos (keywordEach kws X.env)).all (·.1.isSome) = true := by rfl) (hks : (backToKw pos (keywordEach kws X.env)).filterMap (·.1) = ks := by rfl) (hdb : (x == ("__debug__" : Str)) = false := by decide)
    (hpl : ((backTo pos (starEach [] X.env)).any (·.1) || (backToKw pos (keywordEach kws X.env)).any (·.1.isNone)) = false := by rfl) :
    PE X (.Call (.Name x p) [] kws pos) (tMkXK C ks.length sp gV tk) := by
  refine ⟨fun pins s σ H Q I h => wpAny_Call_Name_kw (ld_glob I hg hm ?_ hdb)⟩
  refine PySem.W.callWith_KW0 (h₀ := X.base) I.ok.mod.kin T.cls.oex.kC hall ?_ hpl
  refine thn (hkw.run pos pins s σ H _ I h) fun ws s2 hh => ?_
  obtain ⟨zs, H2, I2, rz, l2, q2⟩ := hh
  refine ⟨I2.kIn, ?_⟩
  rw [hks]
  exact run_mkx (n := 0) (us := []) (vs := []) T F hr hb (Nat.zero_le _) I2 .nil rz rfl l2 q2
/-- C(), no __init__ of its own -/
theorem pe_mkx0 {bmB : List Value} {B newId initId : String} (FF : ExcBaseFacts B newId initId bmB) (q : PySem.W.excIn X.K C bmB newId = true) (kC : PySem.W.keepIn X.K (.ref C) = true) (hg : Gl X x) (hm : X.mg x = some (.ref C))
    (hdb : (x == ("__debug__" : Str)) = false := by decide) : PE X (.Call (.Name x p) [] [] pos) (fun _ H Q => ∀ a, H a = none → Q (.ref a) (upd H a (exo a C none))) := by
  refine ⟨fun pins s σ H Q I h => wpAny_Call_Name_kw (ld_glob I hg hm ?_ hdb)⟩
  refine PySem.W.callWith_K0 I.kIn kC ?_
  obtain ⟨bm, N, nm, qn, bs, hdct, sn, sub, ab, col, dd, k0, k1, k2, k3, k5, mN, hC, hN, hni, T⟩ := exc_obj I.kIn q
  refine wpAny_call_exc_subT FF T hC hN hni (fun h' a hm => ?_) (Nat.zero_le _)
  have hn : H a = none := I.hok.gone hm.new
  obtain ⟨t, ht, _⟩ := hm.there
  exact ⟨V.ref a, upd H a (exo a C none), I.laidN hm.keeps hm.new hn (exo_ok ht), rfl, h a hn⟩
end
end L2
set_option maxRecDepth 100000
namespace L2
open PySem PySem.Spec PyProof.Rows
section
variable {X : Cx} {CX : CXT} {k n : Nat} {f : Addr} {fd : FuncData} {ps ks : List Str} {sp : Sp} {E : XK} {x : Str} {p pos : Pos} {kws : List Keyword} {tk : TA} {g : List Value → List Value → List Value} {gV : List V → List V → List V}
/-- f(k = v, ..) -/
def tCallK0 (m : Nat) (sp : Sp) (gV : List V → List V → List V) (E : XK) (tk : TA) : TE := fun σ H Q => tk σ H fun zs H1 => zs.length = m ∧ sp (gV [] zs) H1 Q E
theorem pe_callK0 (F : FnOk X.prog X.w X.K X.mg X.base CX k f fd ps sp) (hr : Room k X.A) (hg : Gl X x) (hm : X.mg x = some (.ref f)) (hk : PySem.W.keepIn X.K (.ref f) = true) (hb : KBn X.K fd ps 0 ks g gV) (hx : Passes CX X E) (hkw : PK X kws tk)
    (hall : (backToKw pos (keywordEach kws X.env)).all (·.1.isSome) = true := by rfl) (hks : (backToKw pos (keywordEach kws X.env)).filterMap (·.1) = ks := by rfl) (hdb : (x == ("__debug__" : Str)) = false := by decide)
    (hpl : ((backTo pos (starEach [] X.env)).any (·.1) || (backToKw pos (keywordEach kws X.env)).any (·.1.isNone)) = false := by rfl) :
    PE X (.Call (.Name x p) [] kws pos) (tCallK0 ks.length sp gV E tk) := by
  refine ⟨fun pins s σ H Q I h => wpAny_Call_Name_kw (ld_glob I hg hm ?_ hdb)⟩
  refine PySem.W.callWith_KW0 (h₀ := X.base) I.ok.mod.kin hk hall ?_ hpl
  refine thn (hkw.run pos pins s σ H _ I h) fun ws s2 hh => ?_
  obtain ⟨zs, H2, I2, rz, l2, q2⟩ := hh
  refine ⟨I2.kIn, ?_⟩
  rw [hks]
  exact run_fnN (n := 0) (us := []) (vs := []) F hr hb hx I2 .nil rz rfl l2 q2
end
/-- kinds of plain values -/
inductive Plain (K : PySem.W.Frag) (H : Hp) : V → String → Prop where
  | non : Plain K H .non "NoneType"
  | bl (b : Bool) : Plain K H (.bl b) "bool"
  | int (i : Int) : Plain K H (.int i) "int"
  | str (z : Str) : Plain K H (.str z) "str"
  | lst {a : Addr} {xs : List V} (e : H a = some (.lst xs)) : Plain K H (.ref a) "list"
  | tup {a : Addr} {xs : List V} (e : H a = some (.tup xs)) : Plain K H (.ref a) "tuple"
  | dK {a : Addr} {kvs : List (Key × V)} (e : H a = some (.dK kvs)) : Plain K H (.ref a) "dict"
theorem Plain.ty {K : PySem.W.Frag} {H : Hp} {x : V} {T : String} (h : Plain K H x T) : TyX K H x (.type T) := by
  cases h with
  | non => exact .base .non
  | bl b => exact .base (.bl b)
  | int i => exact .base (.int i)
  | str z => exact .base (.str z)
  | lst e => exact .base (.lst e)
  | tup e => exact .base (.tup e)
  | dK e => exact .base (.dK e)
def isI : V → Bool
  | .int _ => true
  | _ => false
def isB : V → Bool
  | .bl _ => true
  | _ => false
def isS : V → Bool
  | .str _ => true
  | _ => false
theorem Plain.kInt {K : PySem.W.Frag} {H : Hp} {x : V} {T : String} (h : Plain K H x T) : PySem.W.kitOne K (.type T) (.type "int") = some (isI x || isB x) := by
  cases h <;> first
    | exact kit_ty (show kitB _ _ = some true by decide +kernel)
    | exact kit_ty (show kitB _ _ = some false by decide +kernel)
theorem Plain.kBool {K : PySem.W.Frag} {H : Hp} {x : V} {T : String} (h : Plain K H x T) : PySem.W.kitOne K (.type T) (.type "bool") = some (isB x) := by
  cases h <;> first
    | exact kit_ty (show kitB _ _ = some true by decide +kernel)
    | exact kit_ty (show kitB _ _ = some false by decide +kernel)
theorem Plain.kStr {K : PySem.W.Frag} {H : Hp} {x : V} {T : String} (h : Plain K H x T) : PySem.W.kitOne K (.type T) (.type "str") = some (isS x) := by
  cases h <;> first
    | exact kit_ty (show kitB _ _ = some true by decide +kernel)
    | exact kit_ty (show kitB _ _ = some false by decide +kernel)
end L2
set_option maxRecDepth 100000
namespace L2
open PySem PySem.Spec PyProof.Rows
theorem PE.imp {X : Cx} {e : Expr} {t t' : TE} (h : PE X e t) (i : ∀ σ H Q, t' σ H Q → t σ H Q) : PE X e t' :=
  ⟨fun pins s σ H Q I q => h.run pins s σ H Q I (i σ H Q q)⟩
/-- an own exception's __init__ of n arguments that stores fields -/
def spX (C : Addr) (n : Nat) (fs : List V → List (Str × V)) : Sp := fun vs H Q _ => ∃ (a : Addr) (ys : List V), vs = .ref a :: ys ∧ ys.length = n ∧ H a = some (exo a C none) ∧
  ∀ (dx : Addr) (H' : Hp), H dx = none → dx ≠ a → H' a = some (exo a C (some dx)) → H' dx = some (exd dx (fs ys)) → (∀ b, b ≠ a → b ≠ dx → H' b = H b) → Q .non H'
/-- an exception of the class at C with these fields -/
def ErrAt (H : Hp) (a C : Addr) (fs : List (Str × V)) : Prop := ∃ d, H a = some (exo a C (some d)) ∧ H d = some (exd d fs)
theorem ErrAt.same {H H' : Hp} {a C : Addr} {fs : List (Str × V)} (s : Same H H') (h : ErrAt H a C fs) : ErrAt H' a C fs :=
  let ⟨d, h1, h2⟩ := h
  ⟨d, s _ _ h1, s _ _ h2⟩
theorem Same.new {H H' : Hp} {q : Addr} {o : HO} (s : Same H H') (hq : H' q = none) : Same H (upd H' q o) := fun b u e => by
  rw [upd_ne (ne_of_none (s b u e) hq)]
  exact s b u e
theorem spX_new {C : Addr} {n : Nat} {fs : List V → List (Str × V)} {H : Hp} {Q : VK} {a : Addr} {ys : List V} (ha : H a = none) (hn : ys.length = n)
    (h : ∀ H', Same H H' → ErrAt H' a C (fs ys) → Q (.ref a) H') : spX C n fs (.ref a :: ys) (upd H a (exo a C none)) (fun v H2 => v = .non ∧ Q (.ref a) H2) E0 := by
  refine ⟨a, ys, rfl, hn, upd_same, fun dx H' hd nd h1 h2 h3 => ⟨rfl, h H' (fun b o e => ?_) ⟨dx, h1, h2⟩⟩⟩
  have hd' : H dx = none := by
    rw [upd_ne nd] at hd
    exact hd
  rw [h3 b (ne_of_none e ha) (ne_of_none e hd'), upd_ne (ne_of_none e ha)]
  exact e
section
variable {X : Cx} {k n : Nat} {fI C : Addr} {fd : FuncData} {ps ks : List Str} {fs : List V → List (Str × V)} {x : Str} {p pos : Pos} {e : Expr} {es : List Expr} {kws : List Keyword} {t tk : TA} {g : List Value → List Value → List Value} {gV : List V → List V → List V}
/-- C(e, ..) where __init__ stores fields -/
def tNewX (C : Addr) (n : Nat) (fs : List V → List (Str × V)) (t : TA) : TE := fun σ H Q => t σ H fun vs H1 => vs.length = n ∧ ∀ a H', H1 a = none → Same H1 H' → ErrAt H' a C (fs vs) → Q (.ref a) H'
end
/-- the readings of argument lists go on with what follows -/
def Mono (t : TA) : Prop := ∀ σ H (Q Q' : List V → Hp → Prop), (∀ vs H', Q vs H' → Q' vs H') → t σ H Q → t σ H Q'
theorem mono_nil : Mono tNil := fun _ _ _ _ h q => h _ _ q
theorem mono_var {i : Nat} {t : TA} (h : Mono t) : Mono (tCons (tVar i) t) := fun σ H Q Q' i q => by
  obtain ⟨v, e, q⟩ := q
  exact ⟨v, e, h _ _ _ _ (fun vs H' z => i _ _ z) q⟩
section
variable {X : Cx} {k n : Nat} {fI C : Addr} {fd : FuncData} {ps ks : List Str} {fs : List V → List (Str × V)} {x : Str} {p pos : Pos} {e : Expr} {es : List Expr} {kws : List Keyword} {t tk : TA} {g : List Value → List Value → List Value} {gV : List V → List V → List V}
theorem pe_newX (T : XvI X.K C fI) (F : FnOk X.prog X.w X.K X.mg X.base CX0 k fI fd ps (spX C n fs)) (hr : Room (k + 1) X.A) (hb : KBn X.K fd ps (n + 1) [] g fun vs zs => vs ++ zs) (hg : Gl X x) (hm : X.mg x = some (.ref C)) (mo : Mono t) (ha : PA X (e :: es) t)
    (hn : n ≤ 1000 := by decide) (hdb : (x == ("__debug__" : Str)) = false := by decide)
    (he : starEach (e :: es) X.env = (false, eval e X.env) :: starEach es X.env := by rfl) (hpl : (backTo pos (starEach es X.env)).any (·.1) = false := by rfl) :
    PE X (.Call (.Name x p) (e :: es) [] pos) (tNewX C n fs t) := by
  refine (pe_mkx T F hr hb hg hm ha hn hdb he hpl).imp fun σ H Q q => mo _ _ _ _ (fun vs H1 z => ⟨z.1, fun a ha => ?_⟩) q
  show spX C n fs ((V.ref a :: vs) ++ []) _ _ _
  rw [List.append_nil]
  exact spX_new ha z.1 (z.2 a · ha)
/-- C(k = v, ..): the fields by all the values, in the parameters' order -/
def tNewXK (C : Addr) (m : Nat) (fs : List V → List (Str × V)) (tk : TA) : TE := fun σ H Q => tk σ H fun zs H1 => zs.length = m ∧ ∀ a H', H1 a = none → Same H1 H' → ErrAt H' a C (fs zs) → Q (.ref a) H'
theorem pe_newXK (T : XvI X.K C fI) (F : FnOk X.prog X.w X.K X.mg X.base CX0 k fI fd ps (spX C n fs)) (hr : Room (k + 1) X.A) (ord : List V → List V) (hb : KBn X.K fd ps 1 ks g fun vs zs => vs ++ ord zs) (ho : ∀ zs, (ord zs).length = zs.length) (hl : ks.length = n) (hg : Gl X x) (hm : X.mg x = some (.ref C)) (mo : Mono tk) (hkw : PK X kws tk)
    (hall : (backToKw pos (keywordEach kws X.env)).all (·.1.isSome) = true := by rfl) (hks : (backToKw pos (keywordEach kws X.env)).filterMap (·.1) = ks := by rfl) (hdb : (x == ("__debug__" : Str)) = false := by decide)
    (hpl : ((backTo pos (starEach [] X.env)).any (·.1) || (backToKw pos (keywordEach kws X.env)).any (·.1.isNone)) = false := by rfl) :
    PE X (.Call (.Name x p) [] kws pos) (tNewXK C ks.length (fun zs => fs (ord zs)) tk) := by
  refine (pe_mkxK T F hr hb hg hm hkw hall hks hdb hpl).imp fun σ H Q q => mo _ _ _ _ (fun zs H1 z => ⟨z.1, fun a ha => ?_⟩) q
  show spX C n fs (V.ref a :: ord zs) _ _ _
  exact spX_new ha ((ho zs).trans (z.1.trans hl)) (z.2 a · ha)
/-- e.f off an error -/
theorem xat_err {K : PySem.W.Frag} {f : Str} {H : Hp} {a C : Addr} {fs : List (Str × V)} {v : V} {Q : VK} (h : ErrAt H a C fs) (T : XvC K C) (no : PySem.W.findIn K (.ref C) f = some none) (l : fs.lookup f = some v) (q : Q v H) :
    ∃ (a' C' d : Addr) (fs' : List (Str × V)) (v' : V), V.ref a = .ref a' ∧ H a' = some (exo a' C' (some d)) ∧ H d = some (exd d fs') ∧ XvC K C' ∧ PySem.W.findIn K (.ref C') f = some none ∧ fs'.lookup f = some v' ∧ Q v' H :=
  let ⟨d, h1, h2⟩ := h
  ⟨a, C, d, fs, v, rfl, h1, h2, T, no, l, q⟩
/-- (C(e, ..), C(k = v, ..).f): the pair -/
def tRow (K : PySem.W.Frag) (C : Addr) (n m : Nat) (fs fs' : List V → List (Str × V)) (f : Str) (t tk : TA) : TE := fun σ H Q => ∃ (vs zs : List V) (v : V), (∀ H Q, Q vs H → t σ H Q) ∧ (∀ H Q, Q zs H → tk σ H Q) ∧ vs.length = n ∧ zs.length = m ∧
  XvC K C ∧ PySem.W.findIn K (.ref C) f = some none ∧ (fs' zs).lookup f = some v ∧ ∀ (p a : Addr) (H' : Hp), Same H H' → H p = none → H' p = some (.tup [.ref a, v]) → ErrAt H' a C (fs vs) → Q (.ref p) H'
theorem pe_row {m : Nat} {fs' : List V → List (Str × V)} {e1 e2 : Expr} {f : Str} {b : Nat} {p1 p2 : Pos} (h1 : PE X e1 (tNewX C n fs t)) (h2 : PE X e2 (tNewXK C m fs' tk)) (hb : attributeBase e2 f X.env (eval e2 X.env) = eval e2 X.env := by rfl)
    (hs : starEach [e1, .Attribute e2 f p1] X.env = (false, eval e1 X.env) :: starEach [.Attribute e2 f p1] X.env := by rfl) :
    PE X (.Tuple [e1, .Attribute e2 f p1] b p2) (tRow X.K C n m fs fs' f t tk) := by
  refine (pe_tup (pa_cons h1 (hs := hs) (pa_cons (pe_xat h2 hb) pa_nil))).imp fun σ H Q q => ?_
  obtain ⟨vs, zs, v, a1, a2, l1, l2, T, no, lk, q⟩ := q
  refine a1 _ _ ⟨l1, fun a Ha na sa ea => a2 _ _ ⟨l2, fun c Hc nc sc ec => ?_⟩⟩
  refine xat_err ec T no lk ⟨(by show 2 ≤ sizeLine; decide), fun p hp => ?_⟩
  have s2 : Same H Hc := sa.trans sc
  refine q p a _ (s2.new hp) (s2.free hp) upd_same ((ea.same sc).same ((Same.refl _).new hp))
end
end L2
set_option maxRecDepth 100000
namespace L2
open PySem PySem.Spec PyProof.Rows
/-- plain data that a law shows: ints, texts, lists and tuples of ints, one small dict -/
inductive Dat0 (H : Hp) : V → PyData → Prop where
  | non : Dat0 H .non .none
  | bl (b : Bool) : Dat0 H (.bl b) (.bool b)
  | int (i : Int) : Dat0 H (.int i) (.int i)
  | str (z : Str) : Dat0 H (.str z) (.str z)
  | tup {a : Addr} {ns : List Int} (e : H a = some (.tup (ns.map V.int))) : Dat0 H (.ref a) (.tuple (ns.map .int))
  | lst {a : Addr} {ns : List Int} (e : H a = some (.lst (ns.map V.int))) (n : a ≠ sysModules) : Dat0 H (.ref a) (.list (ns.map .int))
  | dct {a : Addr} {z : Str} {i : Int} (e : H a = some (.dK [(.inr z, .int i)])) : Dat0 H (.ref a) (.dict [(.str z, .int i)])
/-- x reads as d, in every state over H, and the modules' own dict is no part of it -/
def RdS (X : Cx) (H : Hp) (x : V) (d : PyData) : Prop := ∀ (pins : List (Addr × Obj)) (σ : St) (s : Shared) (u : Value), Inv X pins σ H s → RelV x u → ∃ as, Reads s.heap u d as ∧ sysModules ∉ as
theorem RdS.v {X : Cx} {H : Hp} {x : V} {d : PyData} (h : RdS X H x d) : RdV X H x d := fun pins σ s u I r =>
  let ⟨as, q, m⟩ := h pins σ s u I r
  ⟨as, q, fun _ => m⟩
theorem reads_ints {h : Heap} : ∀ {ns : List Int} {us : List Value}, Vals (ns.map V.int) us → ReadsAll h us (ns.map PyData.int) []
  | [], _, r => by
    cases r
    exact .nil
  | z :: ns, _, r => by
    cases r with
    | cons a b =>
      obtain ⟨t, rfl⟩ := a
      exact ReadsAll.cons (as := []) (.int z t) (reads_ints b)
theorem Dat0.rd {X : Cx} {H : Hp} {v : V} {d : PyData} (h : Dat0 H v d) : RdS X H v d := by
  cases h with
  | non =>
    intro pins σ s u I r
    obtain rfl : u = Value.none := r
    exact ⟨_, .none, fun m => nomatch m⟩
  | bl b =>
    intro pins σ s u I r
    obtain rfl : u = Value.bool b := r
    exact ⟨_, .bool b, fun m => nomatch m⟩
  | int i =>
    intro pins σ s u I r
    obtain ⟨t, rfl⟩ : ∃ t, u = Value.int i t := r
    exact ⟨_, .int i t, fun m => nomatch m⟩
  | str z =>
    intro pins σ s u I r
    obtain ⟨t, rfl⟩ : ∃ t, u = Value.str z t := r
    exact ⟨_, .str z t, fun m => nomatch m⟩
  | @tup a ns e =>
    intro pins σ s u I r
    obtain rfl : u = Value.ref a := r
    obtain ⟨its, rv, ⟨o, ho, hc, n, hd⟩, _⟩ := I.tuple (SqT.of e)
    exact ⟨_, .tuple ho hc hd (reads_ints rv), fun m => nomatch m⟩
  | @lst a ns e n =>
    intro pins σ s u I r
    obtain rfl : u = Value.ref a := r
    obtain ⟨its, rv, ⟨o, n', ho, hc, _, hd⟩, _⟩ := I.list (SqL.of e)
    refine ⟨_, .list ho hc hd (reads_ints rv), fun m => ?_⟩
    exact n (by simpa using m : sysModules = a).symm
  | @dct a z i e =>
    intro pins σ s u I r
    obtain rfl : u = Value.ref a := r
    obtain ⟨_, sm, vs, kv, o, es, ep, ho, ex, hd, kk, pr, _⟩ := dk_of I.hok e
    cases kv with
    | @cons p q _ r2 e1 e2 =>
      cases e2
      obtain ⟨k1, w1⟩ := q
      obtain ⟨f1, f2⟩ := e1
      obtain ⟨t2, rfl⟩ : ∃ t, w1 = Value.int i t := f2
      obtain rfl : Sum.inr z = k1 := f1
      obtain ⟨d0, rest, er, k0, v0, pr2⟩ : ∃ d0 rest, es.toList = d0 :: rest ∧ keyIs (.inr z) d0.key = true ∧ d0.val = Value.int i t2 ∧ Pairs (mixKind X.prog X.w) rest [] := by
        generalize es.toList = l at pr
        cases pr with
        | cons a b c => exact ⟨_, _, rfl, a, b, c⟩
      cases pr2
      rcases keyIs_shape k0 with ⟨_, _, q, _⟩ | ⟨z', t, q, ek⟩
      · cases q
      · cases q
        have h1 : ReadsAll s.heap (es.toList.map (·.key)) [PyData.str z] ([] ++ []) := by
          rw [er]
          show ReadsAll s.heap [d0.key] _ _
          rw [ek]
          exact .cons (.str z t) .nil
        have h2 : ReadsAll s.heap (es.toList.map (·.val)) [PyData.int i] ([] ++ []) := by
          rw [er]
          show ReadsAll s.heap [d0.val] _ _
          rw [v0]
          exact .cons (.int i t2) .nil
        refine ⟨_, Reads.dict (kvs := [(PyData.str z, PyData.int i)]) ho ex.1 hd h1 h2, fun m => ?_⟩
        have e1 : sysModules = a := by simpa using m
        rw [← e1] at sm
        exact absurd sm (by decide)
/-- a list of such, at an address that is not the modules' own -/
theorem rd_list {X : Cx} {H : Hp} {q : Addr} {vs : List V} {ds : List PyData} (hq : H q = some (.lst vs)) (nq : q ≠ sysModules) (h : Paired (fun v d => RdS X H v d) vs ds) : RdS X H (.ref q) (.list ds) := by
  intro pins σ s u I r
  obtain rfl : u = Value.ref q := r
  obtain ⟨its, rv, ⟨o, n, ho, hc, _, hd⟩, _⟩ := I.list (SqL.of hq)
  have all : ∀ {vs : List V} {ds : List PyData} {us : List Value}, Paired (fun v d => RdS X H v d) vs ds → Vals vs us → ∃ as, ReadsAll s.heap us ds as ∧ sysModules ∉ as := by
    intro vs ds us h
    induction h generalizing us with
    | nil =>
      intro r
      cases r
      exact ⟨_, .nil, fun m => nomatch m⟩
    | @cons v d vs ds a b ih =>
      intro r
      cases r with
      | cons r1 r2 =>
        obtain ⟨as, q1, m1⟩ := a pins σ s _ I r1
        obtain ⟨bs, q2, m2⟩ := ih r2
        exact ⟨_, .cons q1 q2, fun m => (List.mem_append.mp m).elim m1 m2⟩
  obtain ⟨as, q1, m1⟩ := all h rv
  refine ⟨_, Reads.list ho hc hd q1, fun m => ?_⟩
  rcases List.mem_cons.mp m with e | e
  · exact nq e.symm
  · exact m1 e
/-- a list display, with where it does not stand -/
def tLstS (t : TA) : TE := fun σ H Q => t σ H fun xs H1 => xs.length ≤ sizeLine ∧ ∀ p, H1 p = none → p ≠ sysModules → Q (.ref p) (upd H1 p (.lst xs))
theorem pe_lstS {X : Cx} {es : List Expr} {t : TA} {pos : Pos} (h : PA X es t) : PE X (.List es pos) (tLstS t) := by
  refine ⟨fun pins s σ H Q I hq => ?_⟩
  refine wpAny_List_spliced (thn (h.run pos pins s σ H _ I hq) fun us s1 hh => ?_)
  obtain ⟨xs, H1, I1, r, z, q⟩ := hh
  have z' : us.length ≤ sizeLine := by rw [← r.length]; exact z
  refine ⟨z', V.ref s1.heap.objs.size, upd H1 s1.heap.objs.size (.lst xs), ?_, rfl, q _ (I1.hok.fresh (Nat.le_refl _)) (Nat.ne_of_gt I1.big)⟩
  exact I1.laid (t' := s1.toks) (fun _ _ e => Heap.get?_push_of_some _ e) (Nat.le_refl _) ⟨z, us, 0, r, Heap.get?_push_size _ rfl⟩
end L2
set_option maxRecDepth 100000
namespace L2
open PySem PySem.Spec PyProof.Rows
/-- what the written part says of an own error class below B, itself right below ValueError -/
def XL (K : PySem.W.Frag) (C B : Addr) : Prop := ∃ nm q N bs sn sub ab col dd k0 k1 k2 k3 k5, K.lookup C = some (excClassObj nm q C N bs (.ref B :: PySem.HandSPX.veTail) true sn sub ab col dd k0 k1 k2 k3 k5 "ValueError.__new__")
theorem XL.cls {K : PySem.W.Frag} {C B : Addr} (h : XL K C B) : ∃ cd : ClassData, PySem.W.clsIn K C = some cd ∧ cd.mro = .ref C :: .ref B :: PySem.HandSPX.veTail ∧ cd.hasDict = true := by
  obtain ⟨nm, q, N, bs, sn, sub, ab, col, dd, k0, k1, k2, k3, k5, e⟩ := h
  refine ⟨_, by unfold PySem.W.clsIn; rw [e] <;> rfl, rfl, rfl⟩
theorem XL.ty {K : PySem.W.Frag} {C B : Addr} (h : XL K C B) : PySem.W.typeIn K (.ref C) = some (.type "type") := by
  obtain ⟨nm, q, N, bs, sn, sub, ab, col, dd, k0, k1, k2, k3, k5, e⟩ := h
  show (K.lookup C).map (·.cls) = _
  rw [e]
  rfl
theorem XL.mro {K : PySem.W.Frag} {C B : Addr} (h : XL K C B) (x : Value) : PySem.W.mroIn K C x = some ((.ref C :: .ref B :: PySem.HandSPX.veTail).contains x) := by
  obtain ⟨cd, e, m, _⟩ := h.cls
  unfold PySem.W.mroIn
  rw [e, Option.bind_some, m]
  rfl
theorem XL.isC {K : PySem.W.Frag} {C B : Addr} (h : XL K C B) : (PySem.W.clsIn K C).isSome = true := by
  obtain ⟨cd, e, _⟩ := h.cls
  rw [e]
  rfl
theorem XL.dict {K : PySem.W.Frag} {C B : Addr} (h : XL K C B) : PySem.W.hasDictIn K C = true := by
  obtain ⟨cd, e, _, d⟩ := h.cls
  unfold PySem.W.hasDictIn
  rw [e]
  exact d
theorem XL.x {K : PySem.W.Frag} {C B : Addr} (h : XL K C B) (sa : PySem.W.findIn K (.ref C) "__setattr__" = some (some (.builtin "object.__setattr__"))) (ga : PySem.W.findIn K (.ref C) "__getattribute__" = some (some (.builtin "BaseException.__getattribute__")))
    (gg : PySem.W.findIn K (.ref C) "__getattr__" = some none) (ca : PySem.W.findIn K (.ref C) "__class__" = some (some (.builtin "object.__class__"))) (kC : PySem.W.keepIn K (.ref C) = true)
    (gs : PySem.W.specialIn K (.builtin "object.__class__") "__get__" = some (some (.builtin "getset_descriptor.__get__"))) (tk : PySem.W.takesIn K (.builtin "object.__class__") = some true) : XvC K C where
  oex := {
    cls := by
      obtain ⟨nm, q, N, bs, sn, sub, ab, col, dd, k0, k1, k2, k3, k5, e⟩ := h
      exact ⟨nm, q, N, bs, _, sn, sub, ab, col, dd, k0, k1, k2, k3, k5, e, by show PySem.HandSPX.refsVE PySem.HandSPX.veTail = true; decide +kernel⟩
    sa := sa
    exC := (h.mro _).trans (by simp)
    tyC := h.ty
    kC := kC }
  ga := ga
  gg := gg
  dd := h.dict
  ic := h.isC
  ca := ca
  gs := gs
  tk := tk
  mo := (h.mro _).trans (by simp)
theorem kit_own {K : PySem.W.Frag} {C B D : Addr} (h : XL K C B) (hd : (PySem.W.clsIn K D).isSome = true) (ht : PySem.W.typeIn K (.ref D) = some (.type "type")) : PySem.W.kitOne K (.ref C) (.ref D) = some (decide (C = D) || decide (B = D)) := by
  unfold PySem.W.kitOne
  by_cases e : C = D
  · subst e
    simp
  · have e1 : (Value.ref C == Value.ref D) = false := by simpa using e
    rw [e1, if_neg Bool.false_ne_true]
    unfold PySem.W.kitCls
    have e2 : ((PySem.W.clsIn K D).isSome && PySem.W.typeIn K (.ref D) == some (.type "type")) = true := by rw [hd, ht]; rfl
    show (if ((PySem.W.clsIn K D).isSome && PySem.W.typeIn K (.ref D) == some (.type "type")) = true then PySem.W.mroIn K C (.ref D) else none) = _
    rw [if_pos e2, h.mro]
    have e3 : (Value.ref D == Value.ref C) = false := by simpa using fun z => e z.symm
    by_cases e4 : B = D
    · subst e4
      simp [e]
    · have e5 : ¬ D = B := fun z => e4 z.symm
      have e7 : (Value.ref D == Value.ref B) = false := by simpa using e5
      rw [decide_eq_false e, decide_eq_false e4]
      rw [List.contains_cons, e3, List.contains_cons, e7]
      rfl
theorem kit_ve {K : PySem.W.Frag} {C B : Addr} (h : XL K C B) : PySem.W.kitOne K (.ref C) (.type "ValueError") = some true := by
  unfold PySem.W.kitOne
  have e1 : (Value.ref C == Value.type "ValueError") = false := rfl
  rw [e1, if_neg Bool.false_ne_true]
  show (if PySem.W.kitMeta "ValueError" = true then PySem.W.mroIn K C (.type "ValueError") else none) = _
  rw [if_pos (by decide +kernel), h.mro]
  simp
end L2
set_option maxRecDepth 100000
namespace Toy
open PySem L2
def top (i : Nat) : Stmt := PySem.Challenge.pw_lanebanks_k01_errors_and_kinds_of_values.main.body.getD i (.Pass ⟨0, 0, 0, 0⟩)
abbrev s__law_pen : Stmt := top 23
abbrev s__law_draw : Stmt := top 24
abbrev s__law_pick : Stmt := top 25
/-- the built-ins' names stand for themselves -/
structure TB (mg : Str → Option Value) : Prop where
  m_int : mg "int" = none
  m_abs : mg "abs" = none
  m_len : mg "len" = none
  m_list : mg "list" = none
/-- the pen at p: the cells ns at l, how many were drawn, what is left of a great one -/
structure PenAt (H : Hp) (p l : Addr) (ns : List Int) (at_ left : Int) : Prop where
  pen : H p = some (.lst [.ref l, .int at_, .int left])
  cells : H l = some (.lst (ns.map V.int))
  few : ns.length ≤ 63
  bits : ∀ z ∈ ns, Builtin.Int.intBits z ≤ 1048576
  low : 0 ≤ at_
theorem PenAt.ne {H : Hp} {p l : Addr} {ns : List Int} {a b : Int} (P : PenAt H p l ns a b) : l ≠ p := fun e => by
  have h1 := P.cells
  rw [e, P.pen] at h1
  cases ns with
  | nil => cases h1
  | cons z r => cases r with
    | nil => cases h1
    | cons y r => cases h1
theorem PenAt.put {H : Hp} {p l : Addr} {ns : List Int} {a b : Int} (P : PenAt H p l ns a b) (c d : Int) (h : 0 ≤ c) : PenAt (upd H p (.lst [.ref l, .int c, .int d])) p l ns c d :=
  ⟨upd_same, by rw [upd_ne P.ne]; exact P.cells, P.few, P.bits, h⟩
/-- all that was tracked but p is as it was -/
def But (p : Addr) (H H' : Hp) : Prop := ∀ b o, b ≠ p → H b = some o → H' b = some o
theorem But.refl (p : Addr) (H : Hp) : But p H H := fun _ _ _ h => h
theorem But.of {p : Addr} {H H' : Hp} (h : Same H H') : But p H H' := fun b o _ e => h b o e
theorem But.trans {p : Addr} {H H1 H2 : Hp} (a : But p H H1) (b : But p H1 H2) : But p H H2 := fun c o n h => b c o n (a c o n h)
theorem But.put {p : Addr} {H H1 : Hp} {o : HO} (a : But p H H1) : But p H (upd H1 p o) := fun c u n h => by
  rw [upd_ne n]
  exact a c u n h
theorem But.new {p q : Addr} {H H1 : Hp} {o : HO} (a : But p H H1) (hq : H1 q = none) : But p H (upd H1 q o) := fun c u n h => by
  rw [upd_ne (ne_of_none (a c u n h) hq)]
  exact a c u n h
theorem But.free {p q : Addr} {H H1 : Hp} (a : But p H H1) (hq : H1 q = none) (n : q ≠ p) : H q = none := by
  cases e : H q with
  | none => rfl
  | some o =>
    rw [a q o n e] at hq
    cases hq
theorem PenAt.new {H : Hp} {p l q : Addr} {ns : List Int} {a b : Int} {o : HO} (P : PenAt H p l ns a b) (hq : H q = none) : PenAt (upd H q o) p l ns a b :=
  ⟨by rw [upd_ne (ne_of_none P.pen hq)]; exact P.pen, by rw [upd_ne (ne_of_none P.cells hq)]; exact P.cells, P.few, P.bits, P.low⟩
theorem atI_of {α : Type} {xs : List α} {i : Int} {v : α} (h0 : 0 ≤ i) (h : xs[i.toNat]? = some v) : atI xs i = some v := by
  have e : i = ((i.toNat : Nat) : Int) := (Int.toNat_of_nonneg h0).symm
  rw [e]
  exact atI_nat h
theorem dp_ints {K : PySem.W.Frag} {H : Hp} : ∀ ns : List Int, DpAll K H (ns.map V.int) (ns.map PyData.int)
  | [] => .nil
  | z :: r => .cons (.int z) (dp_ints r)
theorem shaped_ints (ns : List Int) : SeqAt.shaped (.list (ns.map PyData.int)) = true := by
  have h : ∀ ns : List Int, PyData.canLayAll0 (ns.map PyData.int) = true ∧ PyData.depthAll (ns.map PyData.int) = 0 := by
    intro ns
    induction ns with
    | nil => exact ⟨rfl, rfl⟩
    | cons z r ih => exact ⟨by simp [PyData.canLayAll0, PyData.canLay0, ih.1], by simp [PyData.depthAll, PyData.depth, ih.2]⟩
  simp [SeqAt.shaped, PyData.canLay0, PyData.depth, h ns]
/-- _law_pen(script) -/
def spPen (K : PySem.W.Frag) : Sp := fun vs H Q _ => ∃ (a : Addr) (ns : List Int), vs = [.ref a] ∧ SqL K H a (ns.map V.int) ∧ ns.length ≤ 63 ∧ (∀ z ∈ ns, Builtin.Int.intBits z ≤ 1048576) ∧
  ∀ (H' : Hp) (p l : Addr), Same H H' → H p = none → PenAt H' p l ns 0 0 → Q (.ref p) H'
/-- _law_draw(pen, many): some digit below many; the pen goes on -/
def spDraw : Sp := fun vs H Q _ => ∃ (p l : Addr) (ns : List Int) (a b many : Int), vs = [.ref p, .int many] ∧ PenAt H p l ns a b ∧ a ≤ 1000000 ∧ 0 < many ∧ many.natAbs.log2 < 9000 ∧
  ∀ (H' : Hp) (d a' b' : Int), 0 ≤ d → d < many → a ≤ a' → a' ≤ a + 1 → But p H H' → PenAt H' p l ns a' b' → Q (.int d) H'
/-- _law_pick(pen, some): one of a list's items -/
def spPick (K : PySem.W.Frag) : Sp := fun vs H Q _ => ∃ (p l q : Addr) (ns : List Int) (a b : Int) (xs : List V), vs = [.ref p, .ref q] ∧ PenAt H p l ns a b ∧ a ≤ 1000000 ∧ SqL K H q xs ∧ q ≠ p ∧ 0 < xs.length ∧ xs.length ≤ 1000 ∧
  ∀ (H' : Hp) (i : Nat) (v : V) (a' b' : Int), xs[i]? = some v → a ≤ a' → a' ≤ a + 1 → But p H H' → PenAt H' p l ns a' b' → Q v H'
theorem sq_lt {a : Int} (h0 : 0 ≤ a) (h : a ≤ 1000000) : 0 ≤ a * a ∧ a * a ≤ 1000000000000 := by
  refine ⟨Int.mul_nonneg h0 h0, ?_⟩
  have := Int.mul_le_mul h h h0 (by decide)
  omega
theorem mul_lt_of {x y m n : Int} (h0 : 0 ≤ x) (h1 : x ≤ m) (h2 : 0 ≤ y) (h3 : y ≤ n) : 0 ≤ x * y ∧ x * y ≤ m * n :=
  ⟨Int.mul_nonneg h0 h2, Int.mul_le_mul h1 h3 h2 (Int.le_trans h0 h1)⟩
theorem mix_ok {x a c d : Int} (h0 : 0 ≤ x) (h1 : x < 2147483629) (a0 : 0 ≤ a) (a1 : a ≤ 1000000) (c0 : 0 ≤ c) (c1 : c ≤ 1000000) (d0 : 0 ≤ d) (d1 : d ≤ 1000000) :
    0 ≤ x * (2 * a + c) + d * a * a + 13 ∧ x * (2 * a + c) + d * a * a + 13 < 18446744073709551616 := by
  have h2 := mul_lt_of (m := 2147483629) (n := 3000000) h0 (by omega) (show 0 ≤ 2 * a + c by omega) (by omega)
  have h3 := mul_lt_of (m := 1000000) (n := 1000000000000) d0 d1 (sq_lt a0 a1).1 (sq_lt a0 a1).2
  rw [Int.mul_assoc d a a]
  omega
theorem natAbs_lt_of {x : Int} (h0 : 0 ≤ x) (h : x < 18446744073709551616) : x.natAbs < 2 ^ 64 := by
  have e : (2 : Nat) ^ 64 = 18446744073709551616 := by decide
  rw [e]
  omega
section
variable {P : Program} {w : World} {K : PySem.W.Frag} {mg : Str → Option Value} {base : Heap}
abbrev N__law_pen : List Str := ["_law_script"]
theorem sc__law_pen : FnScope N__law_pen ["_law_script"] (defScope s__law_pen) := ⟨rfl, rfl, rfl, by decide +kernel, rfl, by decide +kernel, by decide +kernel⟩
theorem ok__law_pen {f : Addr} {fd : FuncData} (F : Fun K "_law_pen" "_law_pen" s__law_pen f fd) (T : TB mg) : FnOk P w K mg base CX0 1 f fd ["_law_script"] (spPen K) := by
  refine F.ok sc__law_pen (fun vs H Q E h => ?_) (fun cdv A outer s H vs Q E hr h => ?_)
  · obtain ⟨a, ns, rfl, _⟩ := h
    rfl
  · obtain ⟨a, ns, rfl, hS, hl, hb, k⟩ := h
    refine ⟨_, (pss_one (ps_ret (pe_lst (pa_cons (pe_callTy call_list_of (by rfl) T.m_list (by decide +kernel) (pa_cons (pe_slice sl_list (pv 0) po_none (po_some pe_int)) pa_nil)) (pa_cons pe_int (pa_cons pe_int pa_nil)))))), ?_⟩
    refine ⟨_, rfl, _, rfl, _, _, rfl, hS, fun q hq => ?_⟩
    have e : cutV (ns.map V.int) none (some 63) = ns.map V.int := by
      show ((ns.map V.int).drop 0).take (HT.sIx _ _ _ - 0) = _
      have h2 : (ns.map V.int).length ≤ HT.sIx (ns.map V.int).length (ns.map V.int).length (some 63) - 0 := by
        rw [List.length_map]
        simp [HT.sIx]
        omega
      rw [List.drop_zero, List.take_of_length_le h2]
    refine ⟨q, _, rfl, .inl (SqL.of upd_same), fun l hl2 => ?_⟩
    have nlq : l ≠ q := fun e => by
      rw [e, upd_same] at hl2
      cases hl2
    refine ⟨(by show 3 ≤ sizeLine; decide), fun p hp => ?_⟩
    have npl : p ≠ l := fun e => by
      rw [e, upd_same] at hp
      cases hp
    rw [upd_ne npl] at hp
    have npq : p ≠ q := fun e => by
      rw [e, upd_same] at hp
      cases hp
    rw [upd_ne npq] at hp
    refine k _ p l (fun b o e2 => ?_) hp ⟨upd_same, ?_, hl, hb, Int.le_refl 0⟩
    · rw [upd_ne (ne_of_none e2 hp)]
      have hl3 := hl2
      rw [upd_ne nlq] at hl3
      rw [upd_ne (ne_of_none e2 hl3), upd_ne (ne_of_none e2 hq)]
      exact e2
    · rw [upd_ne npl.symm, upd_same, e]
abbrev N__law_draw : List Str := ["_law_pen_here", "_law_many", "_law_digit", "_law_at", "_law_cell", "_law_great", "_law_mixed"]
theorem sc__law_draw : FnScope N__law_draw ["_law_pen_here", "_law_many"] (defScope s__law_draw) := ⟨rfl, rfl, rfl, by decide +kernel, rfl, by decide +kernel, by decide +kernel⟩
set_option maxHeartbeats 4000000 in
theorem ok__law_draw {f : Addr} {fd : FuncData} (F : Fun K "_law_draw" "_law_draw" s__law_draw f fd) (T : TB mg) : FnOk P w K mg base CX0 1 f fd ["_law_pen_here", "_law_many"] spDraw := by
  refine F.ok sc__law_draw (fun vs H Q E h => ?_) (fun cdv A outer s H vs Q E hr h => ?_)
  · obtain ⟨p, l, ns, a, b, m, rfl, _⟩ := h
    rfl
  · obtain ⟨p, l, ns, a, b, m, rfl, hP, ha, hm, hml, k⟩ := h
    have hp := hP.pen
    have hc := hP.cells
    have h0 := hP.low
    refine ⟨_, (pss_cons (ps_if (pt_cmpR op_gt (pe_ix ix_list (pv 0) pe_int (fun _ _ => rfl)) pe_int (nomark _)) (pss_cons (ps_set (i := 2) sc__law_draw.nd rfl (Or.inl rfl) (pe_op op_mod (pe_callTy call_int1 (by rfl) T.m_int (by decide +kernel) (pa_cons (pe_ix ix_list (pv 0) pe_int (fun _ _ => rfl)) pa_nil)) (pv 1)))
 (pss_cons (ps_asg (pe_op op_fdivW (pe_callTy call_int1 (by rfl) T.m_int (by decide +kernel) (pa_cons (pe_ix ix_list (pv 0) pe_int (fun _ _ => rfl)) pa_nil)) (pv 1)) (pg_sub (pv 0) pe_int set_list))
 (pss_one (ps_ret (pv 2))))) pss_nil)
 (pss_cons (ps_set (i := 3) sc__law_draw.nd rfl (Or.inl rfl) (pe_ix ix_list (pv 0) pe_int (fun _ _ => rfl)))
 (pss_cons (ps_asg (pe_op op_add (pv 3) pe_int) (pg_sub (pv 0) pe_int set_list))
 (pss_cons (ps_set (i := 4) sc__law_draw.nd rfl (Or.inl rfl) (pe_op op_add (pe_op op_mul pe_int (pv 3)) pe_int))
 (C8.pss_cut (ps_if (pt_cmpR (op_neD hr.units) (pe_ix ix_list (pv 0) pe_int (fun _ _ => rfl)) (pe_lst pa_nil) (nomark _)) (pss_one (ps_set (i := 4) sc__law_draw.nd rfl (Or.inl rfl) (pe_ix ix_list (pe_ix ix_list (pv 0) pe_int (fun _ _ => rfl)) (pe_op op_mod (pe_callTy call_int1 (by rfl) T.m_int (by decide +kernel) (pa_cons (pv 3) pa_nil)) (pe_callB call_len_seq (by rfl) T.m_len (by decide +kernel) (pa_cons (pe_ix ix_list (pv 0) pe_int (fun _ _ => rfl)) pa_nil))) (fun _ _ => rfl)))) pss_nil)
 (C8.pss_cut (ps_if (pw_and (pt_cmpR op_lt (pv 3) (pe_callB call_len_seq (by rfl) T.m_len (by decide +kernel) (pa_cons (pe_ix ix_list (pv 0) pe_int (fun _ _ => rfl)) pa_nil)) (nomark _)) (pw_and1 (pt_cmpR op_ge (pe_callB call_abs (by rfl) T.m_abs (by decide +kernel) (pa_cons (pv 4) pa_nil)) (pe_op op_pow pe_int pe_int) (nomark _)))).pt (pss_cons (ps_set (i := 5) sc__law_draw.nd rfl (Or.inl rfl) (pe_op op_add (pe_op op_mul pe_int (pe_op op_sub (pe_callB call_abs (by rfl) T.m_abs (by decide +kernel) (pa_cons (pv 4) pa_nil)) (pe_op op_pow pe_int pe_int))) (pe_callTy call_int1 (by rfl) T.m_int (by decide +kernel) (pa_cons (pe_cmpR op_lt (pv 4) pe_int (nomark _)) pa_nil))))
 (pss_cons (ps_asg (pe_op op_fdivW (pe_callTy call_int1 (by rfl) T.m_int (by decide +kernel) (pa_cons (pv 5) pa_nil)) (pv 1)) (pg_sub (pv 0) pe_int set_list))
 (pss_one (ps_ret (pe_op op_mod (pe_callTy call_int1 (by rfl) T.m_int (by decide +kernel) (pa_cons (pv 5) pa_nil)) (pv 1)))))) pss_nil)
 (pss_cons (ps_set (i := 6) sc__law_draw.nd rfl (Or.inl rfl) (pe_op op_mod (pe_callTy call_int1 (by rfl) T.m_int (by decide +kernel) (pa_cons (pe_op op_pow (pe_op op_add (pe_op op_add (pe_op op_mod (pe_callTy call_int1 (by rfl) T.m_int (by decide +kernel) (pa_cons (pv 4) pa_nil)) pe_int) (pe_op op_mul pe_int (pv 3))) pe_int) pe_int) pa_nil)) pe_int))
 (pss_cons (ps_set (i := 6) sc__law_draw.nd rfl (Or.inl rfl) (pe_op op_mod (pe_callTy call_int1 (by rfl) T.m_int (by decide +kernel) (pa_cons (pe_op op_pow (pe_op op_add (pe_op op_add (pe_op op_mul (pv 6) (pe_op op_add (pe_op op_mul pe_int (pv 3)) pe_int)) (pe_op op_mul (pe_op op_mul pe_int (pv 3)) (pv 3))) pe_int) pe_int) pa_nil)) pe_int))
 (pss_one (ps_ret (pe_op op_mod (pe_callTy call_int1 (by rfl) T.m_int (by decide +kernel) (pa_cons (pe_op op_fdivW (pv 6) pe_int) pa_nil)) (pv 1)))))))))))), ?_⟩
    refine ⟨_, rfl, p, _, _, _, rfl, rfl, SqL.of hp, rfl, _, _, rfl, rfl, _, rfl, ?_⟩
    refine ite2 (fun c1 => ?_) (fun c1 => ?_)
    · -- a digit of what is left
      refine ⟨_, rfl, p, _, _, _, rfl, rfl, SqL.of hp, rfl, .inl ⟨_, rfl, _, rfl, _, _, rfl, rfl, hm, ?_⟩⟩
      refine ⟨_, rfl, p, _, _, _, rfl, rfl, SqL.of hp, rfl, .inl ⟨_, rfl, _, rfl, _, _, rfl, rfl, ⟨hm, hml⟩, ?_⟩⟩
      refine ⟨_, rfl, p, _, _, _, rfl, rfl, hp, rfl, ?_⟩
      refine ⟨_, rfl, ?_⟩
      exact k _ _ _ _ (Int.emod_nonneg _ (Int.ne_of_gt hm)) (Int.emod_lt_of_pos _ hm) (Int.le_refl _) (by omega) (But.refl _ _).put (hP.put _ _ h0)
    · refine ⟨_, rfl, p, _, _, _, rfl, rfl, SqL.of hp, rfl, ?_⟩
      refine ⟨_, rfl, _, _, rfl, rfl, _, rfl, p, _, _, _, rfl, rfl, hp, rfl, ?_⟩
      have hP1 : PenAt (upd H p (.lst [.ref l, .int (a + 1), .int b])) p l ns (a + 1) b := hP.put _ _ (by omega)
      have hB1 : But p H (upd H p (.lst [.ref l, .int (a + 1), .int b])) := (But.refl _ _).put
      refine ⟨_, rfl, _, _, rfl, rfl, .inl ⟨by omega, by omega⟩, _, _, rfl, rfl, ?_⟩
      refine ⟨fun σ H' => ∃ cell : Int, σ = [some (.ref p), some (.int m), none, some (.int a), some (.int cell), none, none] ∧ PenAt H' p l ns (a + 1) b ∧ But p H H', ?_, ?_⟩
      · refine ⟨_, rfl, p, _, _, _, rfl, rfl, SqL.of hP1.pen, rfl, Nat.zero_le _, fun q hq => ?_⟩
        have hP2 := hP1.new (o := .lst []) hq
        have hB2 := hB1.new (o := .lst []) hq
        refine ⟨.list (ns.map .int), .list [], .lst (SqL.of hP2.cells) (dp_ints ns), .lst (SqL.of upd_same) .nil, shaped_ints ns, rfl, _, rfl, ?_⟩
        refine ite2 (fun c2 => ?_) (fun c2 => ?_)
        · have hne : ns ≠ [] := by
            rintro rfl
            exact absurd c2 (by decide +kernel)
          have hpos : 0 < ns.length := List.length_pos_iff.mpr hne
          have hm1 := Int.emod_nonneg a (b := (ns.length : Int)) (by omega)
          have hm2 := Int.emod_lt_of_pos a (b := (ns.length : Int)) (by omega)
          have hi : (a % (ns.length : Int)).toNat < ns.length := by omega
          have hat : atI (ns.map V.int) (a % (ns.length : Int)) = some (.int ns[(a % (ns.length : Int)).toNat]) := atI_of hm1 (by
            rw [List.getElem?_map, List.getElem?_eq_getElem hi]
            rfl)
          refine ⟨_, rfl, p, _, _, _, rfl, rfl, SqL.of hP2.pen, rfl, ?_⟩
          refine ⟨_, rfl, .inl ⟨_, rfl, _, rfl, p, _, _, _, rfl, rfl, SqL.of hP2.pen, rfl, l, _, rfl, .inl (SqL.of hP2.cells), _, _, rfl, rfl, by rw [List.length_map]; omega, ?_⟩⟩
          refine ⟨l, _, _, _, rfl, rfl, SqL.of hP2.cells, by rw [List.length_map]; exact hat, ?_⟩
          exact ⟨_, rfl, hP2, hB2⟩
        · exact ⟨_, rfl, hP2, hB2⟩
      · rintro σ H' ⟨cell, rfl, hQ, hB⟩
        have hpw : CPow 10 18 := ⟨by decide, by decide, by decide⟩
        refine ⟨fun σ H3 => σ = [some (.ref p), some (.int m), none, some (.int a), some (.int cell), none, none] ∧ PenAt H3 p l ns (a + 1) b ∧ But p H H3, ?_, ?_⟩
        rotate_left
        · rintro σ H3 ⟨rfl, hR, hC⟩
          have b1 := Int.emod_nonneg cell (b := 2147483563) (by decide)
          have b2 := Int.emod_lt_of_pos cell (b := 2147483563) (by decide)
          refine ⟨_, rfl, .inl ⟨_, rfl, _, _, rfl, rfl, (by show (0 : Int) < 2147483563; decide), _, rfl, _, _, rfl, rfl, .inl ⟨by decide, by decide⟩, _, _, rfl, rfl, _, _, rfl, rfl, _, _, rfl, rfl, ⟨by decide, by decide, natAbs_lt_of (by omega) (by omega)⟩, ?_⟩⟩
          refine .inl ⟨_, rfl, _, _, rfl, rfl, (by show (0 : Int) < 2147483629; decide), ?_⟩
          have x1 := Int.emod_nonneg ((cell % 2147483563 + 74223 * a + 3459) ^ 5) (b := 2147483629) (by decide)
          have x2 := Int.emod_lt_of_pos ((cell % 2147483563 + 74223 * a + 3459) ^ 5) (b := 2147483629) (by decide)
          have mx := mix_ok (c := 343) (d := 44419) x1 x2 h0 ha (by decide) (by decide) (by decide) (by decide)
          refine ⟨_, rfl, _, rfl, _, _, rfl, rfl, .inl ⟨by decide, by decide⟩, _, _, rfl, rfl, _, _, rfl, rfl, .inl ⟨Int.lt_of_lt_of_le (by decide) x1, Int.lt_trans x2 (by decide)⟩, ?_⟩
          refine ⟨_, rfl, _, _, rfl, rfl, .inl ⟨by decide, by decide⟩, _, rfl, _, _, rfl, rfl, .inl ⟨by omega, by omega⟩, _, _, rfl, rfl, _, _, rfl, rfl, _, _, rfl, rfl, ⟨by decide, by decide, natAbs_lt_of mx.1 mx.2⟩, ?_⟩
          refine .inl ⟨_, rfl, _, _, rfl, rfl, (by show (0 : Int) < 2147483587; decide), ?_⟩
          refine ⟨_, rfl, _, _, rfl, rfl, ⟨by decide, by decide⟩, .inl ⟨_, rfl, _, rfl, _, _, rfl, rfl, hm, ?_⟩⟩
          exact k _ _ _ _ (Int.emod_nonneg _ (Int.ne_of_gt hm)) (Int.emod_lt_of_pos _ hm) (by omega) (Int.le_refl _) hC hR
        refine ⟨_, rfl, _, rfl, p, _, _, _, rfl, rfl, SqL.of hQ.pen, rfl, l, _, rfl, .inl (SqL.of hQ.cells), _, _, rfl, rfl, _, rfl, ?_⟩
        refine ite2 (fun c2 => ?_) (fun c2 => ?_)
        · refine ⟨_, rfl, _, rfl, _, _, rfl, rfl, hpw, _, _, rfl, rfl, _, rfl, ?_⟩
          refine ite2 (fun c3 => ?_) (fun c3 => ?_)
          · refine ⟨_, rfl, _, rfl, _, _, rfl, rfl, hpw, _, _, rfl, rfl, _, _, rfl, rfl, .inl ⟨by decide, by decide⟩, _, rfl, _, _, rfl, rfl, .inr ⟨_, rfl, _, _, rfl, rfl, ?_⟩⟩
            refine ⟨_, rfl, .inl ⟨_, rfl, _, rfl, _, _, rfl, rfl, ⟨hm, hml⟩, _, rfl, p, _, _, _, rfl, rfl, hQ.pen, rfl, ?_⟩⟩
            refine ⟨_, rfl, .inl ⟨_, rfl, _, rfl, _, _, rfl, rfl, hm, ?_⟩⟩
            exact k _ _ _ _ (Int.emod_nonneg _ (Int.ne_of_gt hm)) (Int.emod_lt_of_pos _ hm) (by omega) (Int.le_refl _) hB.put (hQ.put _ _ (by omega))
          · exact ⟨rfl, hQ, hB⟩
        · exact ⟨rfl, hQ, hB⟩
abbrev N__law_pick : List Str := ["_law_pen_here", "_law_some"]
theorem sc__law_pick : FnScope N__law_pick ["_law_pen_here", "_law_some"] (defScope s__law_pick) := ⟨rfl, rfl, rfl, by decide +kernel, rfl, by decide +kernel, by decide +kernel⟩
theorem ok__law_pick {f fD : Addr} {fd fdD : FuncData} (F : Fun K "_law_pick" "_law_pick" s__law_pick f fd) (T : TB mg) (FD : Fun K "_law_draw" "_law_draw" s__law_draw fD fdD) (gD : mg "_law_draw" = some (.ref fD)) (bD : Binds K fdD ["_law_pen_here", "_law_many"] []) :
    FnOk P w K mg base CX0 2 f fd ["_law_pen_here", "_law_some"] (spPick K) := by
  have GD : FnOk P w K mg base CX0 1 fD fdD ["_law_pen_here", "_law_many"] spDraw := ok__law_draw FD T
  have kD := FD.kp
  refine F.ok sc__law_pick (fun vs H Q E h => ?_) (fun cdv A outer s H vs Q E hr h => ?_)
  · obtain ⟨p, l, q, ns, a, b, xs, rfl, _⟩ := h
    rfl
  · obtain ⟨p, l, q, ns, a, b, xs, rfl, hP, ha, hq, nq, x0, x1, k⟩ := h
    refine ⟨_, (pss_one (ps_ret (pe_ix ix_list (pv 1) (pe_call GD hr rfl gD kD bD .nil pass0 (pa_cons (pv 0) (pa_cons (pe_callB call_len_seq (by rfl) T.m_len (by decide +kernel) (pa_cons (pv 1) pa_nil)) pa_nil))) (fun _ _ => rfl)))), ?_⟩
    refine ⟨_, rfl, _, rfl, _, rfl, q, _, rfl, .inl hq, p, l, ns, a, b, _, rfl, hP, ha, by omega, ?_, fun H' d a' b' d0 d1 e1 e2 hB hR => ?_⟩
    · have h2 : (xs.length : Int).natAbs < 2 ^ 10 := by
        have e : (2 : Nat) ^ 10 = 1024 := by decide
        rw [e]
        omega
      exact Nat.lt_of_lt_of_le (PySem.Flt.log2_lt_of (by decide) h2) (by decide)
    · have hi : d.toNat < xs.length := by omega
      refine ⟨q, xs, d, xs[d.toNat], rfl, rfl, ?_, atI_of d0 (List.getElem?_eq_getElem hi), k H' d.toNat _ a' b' (List.getElem?_eq_getElem hi) e1 e2 hB hR⟩
      rcases hq with (h | ⟨o, h⟩) | h
      · exact .inl (.inl (hB _ _ nq h))
      · exact .inl (.inr ⟨o, hB _ _ nq h⟩)
      · exact .inr h
end
end Toy
set_option maxRecDepth 100000
namespace Toy
open PySem L2
abbrev s_is_integer : Stmt := top 2
abbrev s_is_within : Stmt := top 3
abbrev s_is_number : Stmt := top 4
abbrev s_is_name : Stmt := top 5
structure TC (mg : Str → Option Value) : Prop where
  m_isinstance : mg "isinstance" = none
  m_int : mg "int" = none
  m_bool : mg "bool" = none
  m_str : mg "str" = none
  m_len : mg "len" = none
  m_all : mg "all" = none
def spIsInt (K : PySem.W.Frag) : Sp := fun vs H Q _ => ∃ (x : V) (S : String), vs = [x] ∧ Plain K H x S ∧ Q (.bl (isI x)) H
def numV : V → Bool
  | .int i => decide (0 ≤ i)
  | _ => false
def withinV (lo hi : Int) : V → Bool
  | .int i => decide (lo ≤ i ∧ i ≤ hi)
  | _ => false
def spNumber (K : PySem.W.Frag) : Sp := fun vs H Q _ => ∃ (x : V) (S : String), vs = [x] ∧ Plain K H x S ∧ Q (.bl (numV x)) H
def spWithin (K : PySem.W.Frag) : Sp := fun vs H Q _ => ∃ (x : V) (S : String) (lo hi : Int), vs = [x, .int lo, .int hi] ∧ Plain K H x S ∧ Q (.bl (withinV lo hi x)) H
def letters : Str := "abcdefghijklmnopqrstuvwxyz"
def nameZ (z : Str) : Bool := decide (1 ≤ z.length ∧ z.length ≤ 8) && z.cps.toList.all (fun c => decide (c ∈ letters.cps.toList))
def nameV : V → Bool
  | .str z => nameZ z
  | _ => false
def spName (K : PySem.W.Frag) : Sp := fun vs H Q _ => ∃ (x : V) (S : String), vs = [x] ∧ Plain K H x S ∧ (∀ z, x = .str z → z.length ≤ 1000) ∧ ∀ H', Same H H' → Q (.bl (nameV x)) H'
section
variable {P : Program} {w : World} {K : PySem.W.Frag} {mg : Str → Option Value} {base : Heap}
theorem sc_is_integer : FnScope ["value"] ["value"] (defScope s_is_integer) := ⟨rfl, rfl, rfl, by decide +kernel, rfl, by decide +kernel, by decide +kernel⟩
theorem ok_is_integer {f : Addr} {fd : FuncData} (F : Fun K "is_integer" "is_integer" s_is_integer f fd) (T : TC mg) : FnOk P w K mg base CX0 1 f fd ["value"] (spIsInt K) := by
  refine F.ok sc_is_integer (fun vs H Q E h => ?_) (fun cdv A outer s H vs Q E hr h => ?_)
  · obtain ⟨x, S, rfl, _⟩ := h
    rfl
  · obtain ⟨x, S, rfl, hx, k⟩ := h
    refine ⟨_, (pss_one (ps_ret (pe_and (pe_callB call_isi (by rfl) T.m_isinstance (by decide +kernel) (pa_cons (pv 0) (pa_cons (pe_bltn (v := .ty "int") (u := .type "int") rfl T.m_int (by decide +kernel) rfl) pa_nil))) (pe_one (pe_not (pe_callB call_isi (by rfl) T.m_isinstance (by decide +kernel) (pa_cons (pv 0) (pa_cons (pe_bltn (v := .ty "bool") (u := .type "bool") rfl T.m_bool (by decide +kernel) rfl) pa_nil)))))))), ?_⟩
    refine ⟨_, rfl, _, _, _, _, _, rfl, .ty _, hx.ty, hx.kInt, _, rfl, ?_⟩
    cases hi : isI x with
    | true =>
      refine ⟨_, rfl, _, _, _, _, _, rfl, .ty _, hx.ty, hx.kBool, _, rfl, ?_⟩
      have hb : isB x = false := by
        cases x <;> first | rfl | (cases hi)
      rw [hb]
      rw [hi] at k
      exact k
    | false =>
      cases hb : isB x with
      | true =>
        refine ⟨_, rfl, _, _, _, _, _, rfl, .ty _, hx.ty, hx.kBool, _, rfl, ?_⟩
        rw [hb]
        rw [hi] at k
        exact k
      | false =>
        rw [hi] at k
        exact k
theorem sc_is_number : FnScope ["value"] ["value"] (defScope s_is_number) := ⟨rfl, rfl, rfl, by decide +kernel, rfl, by decide +kernel, by decide +kernel⟩
theorem ok_is_number {f fI : Addr} {fd fdI : FuncData} (F : Fun K "is_number" "is_number" s_is_number f fd) (T : TC mg) (FI : Fun K "is_integer" "is_integer" s_is_integer fI fdI) (gI : mg "is_integer" = some (.ref fI)) (bI : Binds K fdI ["value"] []) :
    FnOk P w K mg base CX0 2 f fd ["value"] (spNumber K) := by
  have GI : FnOk P w K mg base CX0 1 fI fdI ["value"] (spIsInt K) := ok_is_integer FI T
  have kI := FI.kp
  refine F.ok sc_is_number (fun vs H Q E h => ?_) (fun cdv A outer s H vs Q E hr h => ?_)
  · obtain ⟨x, S, rfl, _⟩ := h
    rfl
  · obtain ⟨x, S, rfl, hx, k⟩ := h
    refine ⟨_, (pss_one (ps_ret (pe_and (pe_call GI hr rfl gI kI bI .nil pass0 (pa_cons (pv 0) pa_nil)) (pe_one (pe_cmpR op_ge (pv 0) pe_int (nomark _)))))), ?_⟩
    refine ⟨_, rfl, _, _, rfl, hx, _, rfl, ?_⟩
    cases x with
    | int i => exact ⟨_, rfl, _, _, rfl, rfl, k⟩
    | _ => exact k
theorem sc_is_within : FnScope ["value", "least", "most"] ["value", "least", "most"] (defScope s_is_within) := ⟨rfl, rfl, rfl, by decide +kernel, rfl, by decide +kernel, by decide +kernel⟩
theorem ok_is_within {f fI : Addr} {fd fdI : FuncData} (F : Fun K "is_within" "is_within" s_is_within f fd) (T : TC mg) (FI : Fun K "is_integer" "is_integer" s_is_integer fI fdI) (gI : mg "is_integer" = some (.ref fI)) (bI : Binds K fdI ["value"] []) :
    FnOk P w K mg base CX0 2 f fd ["value", "least", "most"] (spWithin K) := by
  have GI : FnOk P w K mg base CX0 1 fI fdI ["value"] (spIsInt K) := ok_is_integer FI T
  have kI := FI.kp
  refine F.ok sc_is_within (fun vs H Q E h => ?_) (fun cdv A outer s H vs Q E hr h => ?_)
  · obtain ⟨x, S, lo, hi, rfl, _⟩ := h
    rfl
  · obtain ⟨x, S, lo, hi, rfl, hx, k⟩ := h
    refine ⟨_, (pss_one (ps_ret (pe_and (pe_call GI hr rfl gI kI bI .nil pass0 (pa_cons (pv 0) pa_nil)) (pe_one (pe_chain op_le op_le (pv 1) (pv 0) (pv 2)))))), ?_⟩
    refine ⟨_, rfl, _, _, rfl, hx, _, rfl, ?_⟩
    cases x with
    | int i =>
      refine ⟨_, rfl, _, rfl, _, _, rfl, rfl, _, rfl, ?_⟩
      refine ite2 (fun c1 => ?_) (fun c1 => ?_)
      · refine ⟨_, rfl, _, _, rfl, rfl, ?_⟩
        have e : decide (i ≤ hi) = withinV lo hi (.int i) := by
          have c2 := of_decide_eq_true c1
          simp [withinV, c2]
        show Q (V.bl (decide (i ≤ hi))) H
        rw [e]
        exact k
      · have e : withinV lo hi (.int i) = false := by
          have c2 : ¬ lo ≤ i := fun z => c1 (decide_eq_true z)
          simp [withinV, c2]
        rw [e] at k
        exact k
    | _ => exact k
abbrev N_is_name : List Str := ["value", "letter"]
theorem sc_is_name : FnScope ["value", "letter"] ["value"] (defScope s_is_name) := ⟨rfl, rfl, rfl, by decide +kernel, rfl, by decide +kernel, by decide +kernel⟩
theorem ok_is_name {f : Addr} {fd : FuncData} {tL : Tok} (F : Fun K "is_name" "is_name" s_is_name f fd) (T : TC mg) (gL : mg "LETTERS" = some (.str letters tL)) : FnOk P w K mg base CX0 1 f fd ["value"] (spName K) := by
  refine F.ok sc_is_name (fun vs H Q E h => ?_) (fun cdv A outer s H vs Q E hr h => ?_)
  · obtain ⟨x, S, rfl, _⟩ := h
    rfl
  · obtain ⟨x, S, rfl, hx, hz, k⟩ := h
    refine ⟨_, (pss_one (ps_ret (pe_and (pe_callB call_isi (by rfl) T.m_isinstance (by decide +kernel) (pa_cons (pv 0) (pa_cons (pe_bltn (v := .ty "str") (u := .type "str") rfl T.m_str (by decide +kernel) rfl) pa_nil))) (pe_and (pe_chain op_le op_le pe_int (pe_callB call_len_str (by rfl) T.m_len (by decide +kernel) (pa_cons (pv 0) pa_nil)) pe_int) (pe_one (pe_callB (cr_all rfl) (by rfl) T.m_all (by decide +kernel) (pa_cons (pe_lc (own := [("letter", 1)]) (g := (gName 1)) (tt := tYes) rfl sc_is_name.nd (pi_str (pv 0)) (blkOk_by (N := N_is_name) (sc := defScope s_is_name) (by decide +kernel)) (fun _ _ _ _ _ => (pg_name (i := 1) sc_is_name.nd rfl (Or.inl rfl))) (fun _ _ _ _ _ => pts_nil) (fun _ _ _ _ _ => (pe_cmpR op_in_sign (pv 1) (pe_glob (v := .str letters) rfl gL ⟨tL, rfl⟩) (by rfl)))) pa_nil))))))), ?_⟩
    refine ⟨_, rfl, _, _, _, _, _, rfl, .ty _, hx.ty, hx.kStr, _, rfl, ?_⟩
    cases x with
    | str z =>
      refine iteT ?_
      have hzl := hz z rfl
      have hzs : z.length ≤ sizeLine := Nat.le_of_lt (small1000 hzl)
      refine ⟨_, rfl, z, rfl, hzs, _, _, rfl, rfl, _, rfl, ?_⟩
      refine ite2 (fun c1 => ?_) (fun c1 => ?_)
      · refine ⟨_, _, rfl, rfl, _, rfl, ?_⟩
        refine ite2 (fun c2 => ?_) (fun c2 => ?_)
        · have d1 : 1 ≤ z.length := by
            have := of_decide_eq_true c1
            omega
          have d2 : z.length ≤ 8 := by
            have := of_decide_eq_true c2
            omega
          refine ⟨_, rfl, z, rfl, fun D hD => lc_it walk_str (fun i H1 => H1 = upd H D (.lst (((z.cps.toList.take i).map fun c => decide (c ∈ letters.cps.toList)).map V.bl))) rfl (fun _ _ _ _ => trivial) ?_ ?_⟩
          · rintro i x H1 H2 hi rfl ⟨rfl, c, hc, rfl⟩
            refine ⟨rfl, _, rfl, c, letters, rfl, rfl, _, upd_same, ?_, ?_⟩
            · rw [List.length_map, List.length_map, List.length_take]
              exact Nat.lt_of_le_of_lt (Nat.min_le_left _ _) (Nat.lt_of_lt_of_le hi hzs)
            · have hc' : z.cps.toList[i]? = some c := by rw [Array.getElem?_toList]; exact hc
              rw [upd_upd, List.take_add_one, hc']
              simp
          · rintro H1 rfl
            refine ⟨D, _, rfl, SqL.of upd_same, ?_⟩
            have e : z.cps.toList.take z.cps.size = z.cps.toList := List.take_of_length_le (by simp)
            rw [e, List.all_map]
            have ev : nameV (.str z) = z.cps.toList.all (id ∘ fun c => decide (c ∈ letters.cps.toList)) := by
              show nameZ z = _
              unfold nameZ
              rw [decide_eq_true ⟨d1, d2⟩]
              rfl
            rw [← ev]
            exact k _ fun b o e2 => by rw [upd_ne (ne_of_none e2 hD)]; exact e2
        · have ev : nameV (.str z) = false := by
            show nameZ z = _
            unfold nameZ
            rw [decide_eq_false (fun q => c2 (decide_eq_true (by have := q.2; omega)))]
            rfl
          rw [ev] at k
          exact k _ (Same.refl _)
      · have ev : nameV (.str z) = false := by
          show nameZ z = _
          unfold nameZ
          rw [decide_eq_false (fun q => c1 (decide_eq_true (by have := q.1; omega)))]
          rfl
        rw [ev] at k
        exact ⟨_, rfl, iteF (k _ (Same.refl _))⟩
    | _ => exact k _ (Same.refl _)
end
end Toy
set_option maxRecDepth 100000
namespace Toy
open PySem L2

abbrev s_i0 : Stmt := inClass (top 8) 0
abbrev s_i1 : Stmt := inClass (top 9) 0
abbrev s_i2 : Stmt := inClass (top 10) 0
abbrev s_i3 : Stmt := inClass (top 11) 0
abbrev s_i4 : Stmt := inClass (top 12) 0
abbrev s_i5 : Stmt := inClass (top 13) 0
abbrev s_i6 : Stmt := inClass (top 14) 0
abbrev s_i7 : Stmt := inClass (top 16) 0
abbrev s_i8 : Stmt := inClass (top 17) 0
abbrev s_i9 : Stmt := inClass (top 18) 0
abbrev s_i10 : Stmt := inClass (top 19) 0
abbrev s_i11 : Stmt := inClass (top 15) 0
abbrev s_i12 : Stmt := inClass (top 21) 0
abbrev s__law_made : Stmt := top 26
abbrev s__law_classes : Stmt := top 27
abbrev s__law_is_error : Stmt := top 28
def fs0 : List V → List (Str × V) := fun ys => match ys with | [y0] => [("part", y0)] | _ => []
def fs1 : List V → List (Str × V) := fun ys => match ys with | [y0] => [("part", y0)] | _ => []
def fs2 : List V → List (Str × V) := fun ys => match ys with | [y0] => [("part", y0)] | _ => []
def fs3 : List V → List (Str × V) := fun ys => match ys with | [y0] => [("part", y0)] | _ => []
def fs4 : List V → List (Str × V) := fun ys => match ys with | [y0] => [("value", y0)] | _ => []
def fs5 : List V → List (Str × V) := fun ys => match ys with | [y0] => [("at", y0)] | _ => []
def fs6 : List V → List (Str × V) := fun ys => match ys with | [y0] => [("part", y0)] | _ => []
def fs7 : List V → List (Str × V) := fun ys => match ys with | [y0] => [("word", y0)] | _ => []
def fs8 : List V → List (Str × V) := fun ys => match ys with | [y0] => [("value", y0)] | _ => []
def fs9 : List V → List (Str × V) := fun ys => match ys with | [y0] => [("name", y0)] | _ => []
def fs10 : List V → List (Str × V) := fun ys => match ys with | [y0] => [("at", y0)] | _ => []
def fs11 : List V → List (Str × V) := fun ys => match ys with | [y0, y1] => [("word", y1), ("line", y0)] | _ => []
def fs12 : List V → List (Str × V) := fun ys => match ys with | [y0, y1] => [("most", y1), ("what", y0)] | _ => []
/-- what the top has written of the errors' classes: Cs by their places, fI their __init__s, B the base -/
structure TX (K : PySem.W.Frag) (mg : Str → Option Value) (Cs fI : Nat → Addr) (fdI : Nat → FuncData) (B : Addr) : Prop where
  g0 : mg "BadSet" = some (.ref (Cs 0))
  i0 : XvI K (Cs 0) (fI 0)
  f0 : Fun K "__init__" "BadSet.__init__" s_i0 (fI 0) (fdI 0)
  n0_part : PySem.W.findIn K (.ref (Cs 0)) "part" = some none
  g1 : mg "BadRule" = some (.ref (Cs 1))
  i1 : XvI K (Cs 1) (fI 1)
  f1 : Fun K "__init__" "BadRule.__init__" s_i1 (fI 1) (fdI 1)
  n1_part : PySem.W.findIn K (.ref (Cs 1)) "part" = some none
  g2 : mg "BadUnit" = some (.ref (Cs 2))
  i2 : XvI K (Cs 2) (fI 2)
  f2 : Fun K "__init__" "BadUnit.__init__" s_i2 (fI 2) (fdI 2)
  n2_part : PySem.W.findIn K (.ref (Cs 2)) "part" = some none
  g3 : mg "BadTile" = some (.ref (Cs 3))
  i3 : XvI K (Cs 3) (fI 3)
  f3 : Fun K "__init__" "BadTile.__init__" s_i3 (fI 3) (fdI 3)
  n3_part : PySem.W.findIn K (.ref (Cs 3)) "part" = some none
  g4 : mg "BadNumber" = some (.ref (Cs 4))
  i4 : XvI K (Cs 4) (fI 4)
  f4 : Fun K "__init__" "BadNumber.__init__" s_i4 (fI 4) (fdI 4)
  n4_value : PySem.W.findIn K (.ref (Cs 4)) "value" = some none
  g5 : mg "BadLog" = some (.ref (Cs 5))
  i5 : XvI K (Cs 5) (fI 5)
  f5 : Fun K "__init__" "BadLog.__init__" s_i5 (fI 5) (fdI 5)
  n5_at : PySem.W.findIn K (.ref (Cs 5)) "at" = some none
  g6 : mg "BadMemory" = some (.ref (Cs 6))
  i6 : XvI K (Cs 6) (fI 6)
  f6 : Fun K "__init__" "BadMemory.__init__" s_i6 (fI 6) (fdI 6)
  n6_part : PySem.W.findIn K (.ref (Cs 6)) "part" = some none
  g7 : mg "BadCommand" = some (.ref (Cs 7))
  i7 : XvI K (Cs 7) (fI 7)
  f7 : Fun K "__init__" "BadCommand.__init__" s_i7 (fI 7) (fdI 7)
  n7_word : PySem.W.findIn K (.ref (Cs 7)) "word" = some none
  g8 : mg "BadName" = some (.ref (Cs 8))
  i8 : XvI K (Cs 8) (fI 8)
  f8 : Fun K "__init__" "BadName.__init__" s_i8 (fI 8) (fdI 8)
  n8_value : PySem.W.findIn K (.ref (Cs 8)) "value" = some none
  g9 : mg "NoName" = some (.ref (Cs 9))
  i9 : XvI K (Cs 9) (fI 9)
  f9 : Fun K "__init__" "NoName.__init__" s_i9 (fI 9) (fdI 9)
  n9_name : PySem.W.findIn K (.ref (Cs 9)) "name" = some none
  g10 : mg "NoMember" = some (.ref (Cs 10))
  i10 : XvI K (Cs 10) (fI 10)
  f10 : Fun K "__init__" "NoMember.__init__" s_i10 (fI 10) (fdI 10)
  n10_at : PySem.W.findIn K (.ref (Cs 10)) "at" = some none
  g11 : mg "BadText" = some (.ref (Cs 11))
  i11 : XvI K (Cs 11) (fI 11)
  f11 : Fun K "__init__" "BadText.__init__" s_i11 (fI 11) (fdI 11)
  n11_line : PySem.W.findIn K (.ref (Cs 11)) "line" = some none
  n11_word : PySem.W.findIn K (.ref (Cs 11)) "word" = some none
  g12 : mg "TooMany" = some (.ref (Cs 12))
  i12 : XvI K (Cs 12) (fI 12)
  f12 : Fun K "__init__" "TooMany.__init__" s_i12 (fI 12) (fdI 12)
  n12_what : PySem.W.findIn K (.ref (Cs 12)) "what" = some none
  n12_most : PySem.W.findIn K (.ref (Cs 12)) "most" = some none
  g13 : mg "Nothing" = some (.ref (Cs 13))
  x13 : XvC K (Cs 13)
  e13 : PySem.W.excIn K (Cs 13) [.type "ValueError", .type "Exception", .type "BaseException", .type "object"] "ValueError.__new__" = true
  gB : mg "BankError" = some (.ref B)
  is_ : ∀ i j, i < 14 → j < 14 → PySem.W.kitOne K (.ref (Cs i)) (.ref (Cs j)) = some (decide (i = j))
  bank : ∀ i, i < 14 → PySem.W.kitOne K (.ref (Cs i)) (.ref B) = some true
  ve : ∀ i, i < 14 → PySem.W.kitOne K (.ref (Cs i)) (.type "ValueError") = some true
  m_isinstance : mg "isinstance" = none
  m_ValueError : mg "ValueError" = none
  m_range : mg "range" = none
  m_len : mg "len" = none
section
variable {P : Program} {w : World} {K : PySem.W.Frag} {mg : Str → Option Value} {base : Heap} {Cs fI : Nat → Addr} {fdI : Nat → FuncData} {B : Addr}
theorem TX.x (T : TX K mg Cs fI fdI B) : ∀ i, i < 14 → XvC K (Cs i) := by
  intro i hi
  match i, hi with

  | 0, _ => exact T.i0.cls
  | 1, _ => exact T.i1.cls
  | 2, _ => exact T.i2.cls
  | 3, _ => exact T.i3.cls
  | 4, _ => exact T.i4.cls
  | 5, _ => exact T.i5.cls
  | 6, _ => exact T.i6.cls
  | 7, _ => exact T.i7.cls
  | 8, _ => exact T.i8.cls
  | 9, _ => exact T.i9.cls
  | 10, _ => exact T.i10.cls
  | 11, _ => exact T.i11.cls
  | 12, _ => exact T.i12.cls
  | 13, _ => exact T.x13
theorem sc_i0 : FnScope ["self", "part"] ["self", "part"] (defScope s_i0) := ⟨rfl, rfl, rfl, by decide +kernel, rfl, by decide +kernel, by decide +kernel⟩
theorem ok_i0 (T : TX K mg Cs fI fdI B) : FnOk P w K mg base CX0 1 (fI 0) (fdI 0) ["self", "part"] (spX (Cs 0) 1 fs0) := by
  refine T.f0.ok sc_i0 (fun vs H Q E h => ?_) (fun cdv A outer s H vs Q E hr h => ?_)
  · obtain ⟨a, ys, rfl, hl, _⟩ := h
    show ys.length + 1 = 2
    omega
  · obtain ⟨a, ys, rfl, hl, ha, k⟩ := h
    obtain ⟨y, rfl⟩ : ∃ y, ys = [y] := by
      match ys, hl with
      | [y], _ => exact ⟨y, rfl⟩
    refine ⟨_, (pss_one (ps_ost (pv 0) (pv 1))), ?_⟩
    refine ⟨_, rfl, _, rfl, a, Cs 0, rfl, T.i0.cls.oex, T.n0_part, .inl ⟨ha, fun dx hd nd => ?_⟩⟩
    exact k dx _ hd nd upd_same (by rw [upd_ne nd]; exact upd_same) fun b h1 h2 => by rw [upd_ne h1, upd_ne h2]
theorem sc_i1 : FnScope ["self", "part"] ["self", "part"] (defScope s_i1) := ⟨rfl, rfl, rfl, by decide +kernel, rfl, by decide +kernel, by decide +kernel⟩
theorem ok_i1 (T : TX K mg Cs fI fdI B) : FnOk P w K mg base CX0 1 (fI 1) (fdI 1) ["self", "part"] (spX (Cs 1) 1 fs1) := by
  refine T.f1.ok sc_i1 (fun vs H Q E h => ?_) (fun cdv A outer s H vs Q E hr h => ?_)
  · obtain ⟨a, ys, rfl, hl, _⟩ := h
    show ys.length + 1 = 2
    omega
  · obtain ⟨a, ys, rfl, hl, ha, k⟩ := h
    obtain ⟨y, rfl⟩ : ∃ y, ys = [y] := by
      match ys, hl with
      | [y], _ => exact ⟨y, rfl⟩
    refine ⟨_, (pss_one (ps_ost (pv 0) (pv 1))), ?_⟩
    refine ⟨_, rfl, _, rfl, a, Cs 1, rfl, T.i1.cls.oex, T.n1_part, .inl ⟨ha, fun dx hd nd => ?_⟩⟩
    exact k dx _ hd nd upd_same (by rw [upd_ne nd]; exact upd_same) fun b h1 h2 => by rw [upd_ne h1, upd_ne h2]
theorem sc_i2 : FnScope ["self", "part"] ["self", "part"] (defScope s_i2) := ⟨rfl, rfl, rfl, by decide +kernel, rfl, by decide +kernel, by decide +kernel⟩
theorem ok_i2 (T : TX K mg Cs fI fdI B) : FnOk P w K mg base CX0 1 (fI 2) (fdI 2) ["self", "part"] (spX (Cs 2) 1 fs2) := by
  refine T.f2.ok sc_i2 (fun vs H Q E h => ?_) (fun cdv A outer s H vs Q E hr h => ?_)
  · obtain ⟨a, ys, rfl, hl, _⟩ := h
    show ys.length + 1 = 2
    omega
  · obtain ⟨a, ys, rfl, hl, ha, k⟩ := h
    obtain ⟨y, rfl⟩ : ∃ y, ys = [y] := by
      match ys, hl with
      | [y], _ => exact ⟨y, rfl⟩
    refine ⟨_, (pss_one (ps_ost (pv 0) (pv 1))), ?_⟩
    refine ⟨_, rfl, _, rfl, a, Cs 2, rfl, T.i2.cls.oex, T.n2_part, .inl ⟨ha, fun dx hd nd => ?_⟩⟩
    exact k dx _ hd nd upd_same (by rw [upd_ne nd]; exact upd_same) fun b h1 h2 => by rw [upd_ne h1, upd_ne h2]
theorem sc_i3 : FnScope ["self", "part"] ["self", "part"] (defScope s_i3) := ⟨rfl, rfl, rfl, by decide +kernel, rfl, by decide +kernel, by decide +kernel⟩
theorem ok_i3 (T : TX K mg Cs fI fdI B) : FnOk P w K mg base CX0 1 (fI 3) (fdI 3) ["self", "part"] (spX (Cs 3) 1 fs3) := by
  refine T.f3.ok sc_i3 (fun vs H Q E h => ?_) (fun cdv A outer s H vs Q E hr h => ?_)
  · obtain ⟨a, ys, rfl, hl, _⟩ := h
    show ys.length + 1 = 2
    omega
  · obtain ⟨a, ys, rfl, hl, ha, k⟩ := h
    obtain ⟨y, rfl⟩ : ∃ y, ys = [y] := by
      match ys, hl with
      | [y], _ => exact ⟨y, rfl⟩
    refine ⟨_, (pss_one (ps_ost (pv 0) (pv 1))), ?_⟩
    refine ⟨_, rfl, _, rfl, a, Cs 3, rfl, T.i3.cls.oex, T.n3_part, .inl ⟨ha, fun dx hd nd => ?_⟩⟩
    exact k dx _ hd nd upd_same (by rw [upd_ne nd]; exact upd_same) fun b h1 h2 => by rw [upd_ne h1, upd_ne h2]
theorem sc_i4 : FnScope ["self", "value"] ["self", "value"] (defScope s_i4) := ⟨rfl, rfl, rfl, by decide +kernel, rfl, by decide +kernel, by decide +kernel⟩
theorem ok_i4 (T : TX K mg Cs fI fdI B) : FnOk P w K mg base CX0 1 (fI 4) (fdI 4) ["self", "value"] (spX (Cs 4) 1 fs4) := by
  refine T.f4.ok sc_i4 (fun vs H Q E h => ?_) (fun cdv A outer s H vs Q E hr h => ?_)
  · obtain ⟨a, ys, rfl, hl, _⟩ := h
    show ys.length + 1 = 2
    omega
  · obtain ⟨a, ys, rfl, hl, ha, k⟩ := h
    obtain ⟨y, rfl⟩ : ∃ y, ys = [y] := by
      match ys, hl with
      | [y], _ => exact ⟨y, rfl⟩
    refine ⟨_, (pss_one (ps_ost (pv 0) (pv 1))), ?_⟩
    refine ⟨_, rfl, _, rfl, a, Cs 4, rfl, T.i4.cls.oex, T.n4_value, .inl ⟨ha, fun dx hd nd => ?_⟩⟩
    exact k dx _ hd nd upd_same (by rw [upd_ne nd]; exact upd_same) fun b h1 h2 => by rw [upd_ne h1, upd_ne h2]
theorem sc_i5 : FnScope ["self", "at"] ["self", "at"] (defScope s_i5) := ⟨rfl, rfl, rfl, by decide +kernel, rfl, by decide +kernel, by decide +kernel⟩
theorem ok_i5 (T : TX K mg Cs fI fdI B) : FnOk P w K mg base CX0 1 (fI 5) (fdI 5) ["self", "at"] (spX (Cs 5) 1 fs5) := by
  refine T.f5.ok sc_i5 (fun vs H Q E h => ?_) (fun cdv A outer s H vs Q E hr h => ?_)
  · obtain ⟨a, ys, rfl, hl, _⟩ := h
    show ys.length + 1 = 2
    omega
  · obtain ⟨a, ys, rfl, hl, ha, k⟩ := h
    obtain ⟨y, rfl⟩ : ∃ y, ys = [y] := by
      match ys, hl with
      | [y], _ => exact ⟨y, rfl⟩
    refine ⟨_, (pss_one (ps_ost (pv 0) (pv 1))), ?_⟩
    refine ⟨_, rfl, _, rfl, a, Cs 5, rfl, T.i5.cls.oex, T.n5_at, .inl ⟨ha, fun dx hd nd => ?_⟩⟩
    exact k dx _ hd nd upd_same (by rw [upd_ne nd]; exact upd_same) fun b h1 h2 => by rw [upd_ne h1, upd_ne h2]
theorem sc_i6 : FnScope ["self", "part"] ["self", "part"] (defScope s_i6) := ⟨rfl, rfl, rfl, by decide +kernel, rfl, by decide +kernel, by decide +kernel⟩
theorem ok_i6 (T : TX K mg Cs fI fdI B) : FnOk P w K mg base CX0 1 (fI 6) (fdI 6) ["self", "part"] (spX (Cs 6) 1 fs6) := by
  refine T.f6.ok sc_i6 (fun vs H Q E h => ?_) (fun cdv A outer s H vs Q E hr h => ?_)
  · obtain ⟨a, ys, rfl, hl, _⟩ := h
    show ys.length + 1 = 2
    omega
  · obtain ⟨a, ys, rfl, hl, ha, k⟩ := h
    obtain ⟨y, rfl⟩ : ∃ y, ys = [y] := by
      match ys, hl with
      | [y], _ => exact ⟨y, rfl⟩
    refine ⟨_, (pss_one (ps_ost (pv 0) (pv 1))), ?_⟩
    refine ⟨_, rfl, _, rfl, a, Cs 6, rfl, T.i6.cls.oex, T.n6_part, .inl ⟨ha, fun dx hd nd => ?_⟩⟩
    exact k dx _ hd nd upd_same (by rw [upd_ne nd]; exact upd_same) fun b h1 h2 => by rw [upd_ne h1, upd_ne h2]
theorem sc_i7 : FnScope ["self", "word"] ["self", "word"] (defScope s_i7) := ⟨rfl, rfl, rfl, by decide +kernel, rfl, by decide +kernel, by decide +kernel⟩
theorem ok_i7 (T : TX K mg Cs fI fdI B) : FnOk P w K mg base CX0 1 (fI 7) (fdI 7) ["self", "word"] (spX (Cs 7) 1 fs7) := by
  refine T.f7.ok sc_i7 (fun vs H Q E h => ?_) (fun cdv A outer s H vs Q E hr h => ?_)
  · obtain ⟨a, ys, rfl, hl, _⟩ := h
    show ys.length + 1 = 2
    omega
  · obtain ⟨a, ys, rfl, hl, ha, k⟩ := h
    obtain ⟨y, rfl⟩ : ∃ y, ys = [y] := by
      match ys, hl with
      | [y], _ => exact ⟨y, rfl⟩
    refine ⟨_, (pss_one (ps_ost (pv 0) (pv 1))), ?_⟩
    refine ⟨_, rfl, _, rfl, a, Cs 7, rfl, T.i7.cls.oex, T.n7_word, .inl ⟨ha, fun dx hd nd => ?_⟩⟩
    exact k dx _ hd nd upd_same (by rw [upd_ne nd]; exact upd_same) fun b h1 h2 => by rw [upd_ne h1, upd_ne h2]
theorem sc_i8 : FnScope ["self", "value"] ["self", "value"] (defScope s_i8) := ⟨rfl, rfl, rfl, by decide +kernel, rfl, by decide +kernel, by decide +kernel⟩
theorem ok_i8 (T : TX K mg Cs fI fdI B) : FnOk P w K mg base CX0 1 (fI 8) (fdI 8) ["self", "value"] (spX (Cs 8) 1 fs8) := by
  refine T.f8.ok sc_i8 (fun vs H Q E h => ?_) (fun cdv A outer s H vs Q E hr h => ?_)
  · obtain ⟨a, ys, rfl, hl, _⟩ := h
    show ys.length + 1 = 2
    omega
  · obtain ⟨a, ys, rfl, hl, ha, k⟩ := h
    obtain ⟨y, rfl⟩ : ∃ y, ys = [y] := by
      match ys, hl with
      | [y], _ => exact ⟨y, rfl⟩
    refine ⟨_, (pss_one (ps_ost (pv 0) (pv 1))), ?_⟩
    refine ⟨_, rfl, _, rfl, a, Cs 8, rfl, T.i8.cls.oex, T.n8_value, .inl ⟨ha, fun dx hd nd => ?_⟩⟩
    exact k dx _ hd nd upd_same (by rw [upd_ne nd]; exact upd_same) fun b h1 h2 => by rw [upd_ne h1, upd_ne h2]
theorem sc_i9 : FnScope ["self", "name"] ["self", "name"] (defScope s_i9) := ⟨rfl, rfl, rfl, by decide +kernel, rfl, by decide +kernel, by decide +kernel⟩
theorem ok_i9 (T : TX K mg Cs fI fdI B) : FnOk P w K mg base CX0 1 (fI 9) (fdI 9) ["self", "name"] (spX (Cs 9) 1 fs9) := by
  refine T.f9.ok sc_i9 (fun vs H Q E h => ?_) (fun cdv A outer s H vs Q E hr h => ?_)
  · obtain ⟨a, ys, rfl, hl, _⟩ := h
    show ys.length + 1 = 2
    omega
  · obtain ⟨a, ys, rfl, hl, ha, k⟩ := h
    obtain ⟨y, rfl⟩ : ∃ y, ys = [y] := by
      match ys, hl with
      | [y], _ => exact ⟨y, rfl⟩
    refine ⟨_, (pss_one (ps_ost (pv 0) (pv 1))), ?_⟩
    refine ⟨_, rfl, _, rfl, a, Cs 9, rfl, T.i9.cls.oex, T.n9_name, .inl ⟨ha, fun dx hd nd => ?_⟩⟩
    exact k dx _ hd nd upd_same (by rw [upd_ne nd]; exact upd_same) fun b h1 h2 => by rw [upd_ne h1, upd_ne h2]
theorem sc_i10 : FnScope ["self", "at"] ["self", "at"] (defScope s_i10) := ⟨rfl, rfl, rfl, by decide +kernel, rfl, by decide +kernel, by decide +kernel⟩
theorem ok_i10 (T : TX K mg Cs fI fdI B) : FnOk P w K mg base CX0 1 (fI 10) (fdI 10) ["self", "at"] (spX (Cs 10) 1 fs10) := by
  refine T.f10.ok sc_i10 (fun vs H Q E h => ?_) (fun cdv A outer s H vs Q E hr h => ?_)
  · obtain ⟨a, ys, rfl, hl, _⟩ := h
    show ys.length + 1 = 2
    omega
  · obtain ⟨a, ys, rfl, hl, ha, k⟩ := h
    obtain ⟨y, rfl⟩ : ∃ y, ys = [y] := by
      match ys, hl with
      | [y], _ => exact ⟨y, rfl⟩
    refine ⟨_, (pss_one (ps_ost (pv 0) (pv 1))), ?_⟩
    refine ⟨_, rfl, _, rfl, a, Cs 10, rfl, T.i10.cls.oex, T.n10_at, .inl ⟨ha, fun dx hd nd => ?_⟩⟩
    exact k dx _ hd nd upd_same (by rw [upd_ne nd]; exact upd_same) fun b h1 h2 => by rw [upd_ne h1, upd_ne h2]
theorem sc_i11 : FnScope ["self", "line", "word"] ["self", "line", "word"] (defScope s_i11) := ⟨rfl, rfl, rfl, by decide +kernel, rfl, by decide +kernel, by decide +kernel⟩
theorem ok_i11 (T : TX K mg Cs fI fdI B) : FnOk P w K mg base CX0 1 (fI 11) (fdI 11) ["self", "line", "word"] (spX (Cs 11) 2 fs11) := by
  refine T.f11.ok sc_i11 (fun vs H Q E h => ?_) (fun cdv A outer s H vs Q E hr h => ?_)
  · obtain ⟨a, ys, rfl, hl, _⟩ := h
    show ys.length + 1 = 3
    omega
  · obtain ⟨a, ys, rfl, hl, ha, k⟩ := h
    obtain ⟨y, z, rfl⟩ : ∃ y z, ys = [y, z] := by
      match ys, hl with
      | [y, z], _ => exact ⟨y, z, rfl⟩
    refine ⟨_, (pss_cons (ps_ost (pv 0) (pv 1)) (pss_one (ps_ost (pv 0) (pv 2)))), ?_⟩
    refine ⟨_, rfl, _, rfl, a, Cs 11, rfl, T.i11.cls.oex, T.n11_line, .inl ⟨ha, fun dx hd nd => ?_⟩⟩
    refine ⟨_, rfl, _, rfl, a, Cs 11, rfl, T.i11.cls.oex, T.n11_word, .inr ⟨dx, _, upd_same, (by rw [upd_ne nd]; exact upd_same), (by show 1 ≤ 900; decide), ?_⟩⟩
    exact k dx _ hd nd (by rw [upd_ne nd.symm]; exact upd_same) upd_same fun b h1 h2 => by rw [upd_ne h2, upd_ne h1, upd_ne h2]
theorem sc_i12 : FnScope ["self", "what", "most"] ["self", "what", "most"] (defScope s_i12) := ⟨rfl, rfl, rfl, by decide +kernel, rfl, by decide +kernel, by decide +kernel⟩
theorem ok_i12 (T : TX K mg Cs fI fdI B) : FnOk P w K mg base CX0 1 (fI 12) (fdI 12) ["self", "what", "most"] (spX (Cs 12) 2 fs12) := by
  refine T.f12.ok sc_i12 (fun vs H Q E h => ?_) (fun cdv A outer s H vs Q E hr h => ?_)
  · obtain ⟨a, ys, rfl, hl, _⟩ := h
    show ys.length + 1 = 3
    omega
  · obtain ⟨a, ys, rfl, hl, ha, k⟩ := h
    obtain ⟨y, z, rfl⟩ : ∃ y z, ys = [y, z] := by
      match ys, hl with
      | [y, z], _ => exact ⟨y, z, rfl⟩
    refine ⟨_, (pss_cons (ps_ost (pv 0) (pv 1)) (pss_one (ps_ost (pv 0) (pv 2)))), ?_⟩
    refine ⟨_, rfl, _, rfl, a, Cs 12, rfl, T.i12.cls.oex, T.n12_what, .inl ⟨ha, fun dx hd nd => ?_⟩⟩
    refine ⟨_, rfl, _, rfl, a, Cs 12, rfl, T.i12.cls.oex, T.n12_most, .inr ⟨dx, _, upd_same, (by rw [upd_ne nd]; exact upd_same), (by show 1 ≤ 900; decide), ?_⟩⟩
    exact k dx _ hd nd (by rw [upd_ne nd.symm]; exact upd_same) upd_same fun b h1 h2 => by rw [upd_ne h2, upd_ne h1, upd_ne h2]
theorem b1_of {n : Nat} {vs zs : List V} {us ws : List Value} (r : Vals vs us) (q : Vals zs ws) : Vals (vs ++ zs) (us ++ ws) := r.append q
theorem bd0 (T : TX K mg Cs fI fdI B) : KBn K (fdI 0) ["self", "part"] 2 [] (fun us ws => us ++ ws) (fun vs zs => vs ++ zs) :=
  T.f0.kbn 2 [] _ _ (fun _ _ _ _ _ _ us ws l1 l2 => match us, ws, l1, l2 with | [_, _], [], _, _ => rfl) fun r q => r.append q
theorem bk0 (T : TX K mg Cs fI fdI B) : KBn K (fdI 0) ["self", "part"] 1 ["part"] (fun us ws => us ++ ws) (fun vs zs => vs ++ id zs) :=
  T.f0.kbn 1 ["part"] _ _ (fun _ _ _ _ _ _ us ws l1 l2 => match us, ws, l1, l2 with | [_], [_], _, _ => rfl) fun r q => r.append q
theorem bd1 (T : TX K mg Cs fI fdI B) : KBn K (fdI 1) ["self", "part"] 2 [] (fun us ws => us ++ ws) (fun vs zs => vs ++ zs) :=
  T.f1.kbn 2 [] _ _ (fun _ _ _ _ _ _ us ws l1 l2 => match us, ws, l1, l2 with | [_, _], [], _, _ => rfl) fun r q => r.append q
theorem bk1 (T : TX K mg Cs fI fdI B) : KBn K (fdI 1) ["self", "part"] 1 ["part"] (fun us ws => us ++ ws) (fun vs zs => vs ++ id zs) :=
  T.f1.kbn 1 ["part"] _ _ (fun _ _ _ _ _ _ us ws l1 l2 => match us, ws, l1, l2 with | [_], [_], _, _ => rfl) fun r q => r.append q
theorem bd2 (T : TX K mg Cs fI fdI B) : KBn K (fdI 2) ["self", "part"] 2 [] (fun us ws => us ++ ws) (fun vs zs => vs ++ zs) :=
  T.f2.kbn 2 [] _ _ (fun _ _ _ _ _ _ us ws l1 l2 => match us, ws, l1, l2 with | [_, _], [], _, _ => rfl) fun r q => r.append q
theorem bk2 (T : TX K mg Cs fI fdI B) : KBn K (fdI 2) ["self", "part"] 1 ["part"] (fun us ws => us ++ ws) (fun vs zs => vs ++ id zs) :=
  T.f2.kbn 1 ["part"] _ _ (fun _ _ _ _ _ _ us ws l1 l2 => match us, ws, l1, l2 with | [_], [_], _, _ => rfl) fun r q => r.append q
theorem bd3 (T : TX K mg Cs fI fdI B) : KBn K (fdI 3) ["self", "part"] 2 [] (fun us ws => us ++ ws) (fun vs zs => vs ++ zs) :=
  T.f3.kbn 2 [] _ _ (fun _ _ _ _ _ _ us ws l1 l2 => match us, ws, l1, l2 with | [_, _], [], _, _ => rfl) fun r q => r.append q
theorem bk3 (T : TX K mg Cs fI fdI B) : KBn K (fdI 3) ["self", "part"] 1 ["part"] (fun us ws => us ++ ws) (fun vs zs => vs ++ id zs) :=
  T.f3.kbn 1 ["part"] _ _ (fun _ _ _ _ _ _ us ws l1 l2 => match us, ws, l1, l2 with | [_], [_], _, _ => rfl) fun r q => r.append q
theorem bd4 (T : TX K mg Cs fI fdI B) : KBn K (fdI 4) ["self", "value"] 2 [] (fun us ws => us ++ ws) (fun vs zs => vs ++ zs) :=
  T.f4.kbn 2 [] _ _ (fun _ _ _ _ _ _ us ws l1 l2 => match us, ws, l1, l2 with | [_, _], [], _, _ => rfl) fun r q => r.append q
theorem bk4 (T : TX K mg Cs fI fdI B) : KBn K (fdI 4) ["self", "value"] 1 ["value"] (fun us ws => us ++ ws) (fun vs zs => vs ++ id zs) :=
  T.f4.kbn 1 ["value"] _ _ (fun _ _ _ _ _ _ us ws l1 l2 => match us, ws, l1, l2 with | [_], [_], _, _ => rfl) fun r q => r.append q
theorem bd5 (T : TX K mg Cs fI fdI B) : KBn K (fdI 5) ["self", "at"] 2 [] (fun us ws => us ++ ws) (fun vs zs => vs ++ zs) :=
  T.f5.kbn 2 [] _ _ (fun _ _ _ _ _ _ us ws l1 l2 => match us, ws, l1, l2 with | [_, _], [], _, _ => rfl) fun r q => r.append q
theorem bk5 (T : TX K mg Cs fI fdI B) : KBn K (fdI 5) ["self", "at"] 1 ["at"] (fun us ws => us ++ ws) (fun vs zs => vs ++ id zs) :=
  T.f5.kbn 1 ["at"] _ _ (fun _ _ _ _ _ _ us ws l1 l2 => match us, ws, l1, l2 with | [_], [_], _, _ => rfl) fun r q => r.append q
theorem bd6 (T : TX K mg Cs fI fdI B) : KBn K (fdI 6) ["self", "part"] 2 [] (fun us ws => us ++ ws) (fun vs zs => vs ++ zs) :=
  T.f6.kbn 2 [] _ _ (fun _ _ _ _ _ _ us ws l1 l2 => match us, ws, l1, l2 with | [_, _], [], _, _ => rfl) fun r q => r.append q
theorem bk6 (T : TX K mg Cs fI fdI B) : KBn K (fdI 6) ["self", "part"] 1 ["part"] (fun us ws => us ++ ws) (fun vs zs => vs ++ id zs) :=
  T.f6.kbn 1 ["part"] _ _ (fun _ _ _ _ _ _ us ws l1 l2 => match us, ws, l1, l2 with | [_], [_], _, _ => rfl) fun r q => r.append q
theorem bd7 (T : TX K mg Cs fI fdI B) : KBn K (fdI 7) ["self", "word"] 2 [] (fun us ws => us ++ ws) (fun vs zs => vs ++ zs) :=
  T.f7.kbn 2 [] _ _ (fun _ _ _ _ _ _ us ws l1 l2 => match us, ws, l1, l2 with | [_, _], [], _, _ => rfl) fun r q => r.append q
theorem bk7 (T : TX K mg Cs fI fdI B) : KBn K (fdI 7) ["self", "word"] 1 ["word"] (fun us ws => us ++ ws) (fun vs zs => vs ++ id zs) :=
  T.f7.kbn 1 ["word"] _ _ (fun _ _ _ _ _ _ us ws l1 l2 => match us, ws, l1, l2 with | [_], [_], _, _ => rfl) fun r q => r.append q
theorem bd8 (T : TX K mg Cs fI fdI B) : KBn K (fdI 8) ["self", "value"] 2 [] (fun us ws => us ++ ws) (fun vs zs => vs ++ zs) :=
  T.f8.kbn 2 [] _ _ (fun _ _ _ _ _ _ us ws l1 l2 => match us, ws, l1, l2 with | [_, _], [], _, _ => rfl) fun r q => r.append q
theorem bk8 (T : TX K mg Cs fI fdI B) : KBn K (fdI 8) ["self", "value"] 1 ["value"] (fun us ws => us ++ ws) (fun vs zs => vs ++ id zs) :=
  T.f8.kbn 1 ["value"] _ _ (fun _ _ _ _ _ _ us ws l1 l2 => match us, ws, l1, l2 with | [_], [_], _, _ => rfl) fun r q => r.append q
theorem bd9 (T : TX K mg Cs fI fdI B) : KBn K (fdI 9) ["self", "name"] 2 [] (fun us ws => us ++ ws) (fun vs zs => vs ++ zs) :=
  T.f9.kbn 2 [] _ _ (fun _ _ _ _ _ _ us ws l1 l2 => match us, ws, l1, l2 with | [_, _], [], _, _ => rfl) fun r q => r.append q
theorem bk9 (T : TX K mg Cs fI fdI B) : KBn K (fdI 9) ["self", "name"] 1 ["name"] (fun us ws => us ++ ws) (fun vs zs => vs ++ id zs) :=
  T.f9.kbn 1 ["name"] _ _ (fun _ _ _ _ _ _ us ws l1 l2 => match us, ws, l1, l2 with | [_], [_], _, _ => rfl) fun r q => r.append q
theorem bd10 (T : TX K mg Cs fI fdI B) : KBn K (fdI 10) ["self", "at"] 2 [] (fun us ws => us ++ ws) (fun vs zs => vs ++ zs) :=
  T.f10.kbn 2 [] _ _ (fun _ _ _ _ _ _ us ws l1 l2 => match us, ws, l1, l2 with | [_, _], [], _, _ => rfl) fun r q => r.append q
theorem bk10 (T : TX K mg Cs fI fdI B) : KBn K (fdI 10) ["self", "at"] 1 ["at"] (fun us ws => us ++ ws) (fun vs zs => vs ++ id zs) :=
  T.f10.kbn 1 ["at"] _ _ (fun _ _ _ _ _ _ us ws l1 l2 => match us, ws, l1, l2 with | [_], [_], _, _ => rfl) fun r q => r.append q
theorem bd11 (T : TX K mg Cs fI fdI B) : KBn K (fdI 11) ["self", "line", "word"] 3 [] (fun us ws => us ++ ws) (fun vs zs => vs ++ zs) :=
  T.f11.kbn 3 [] _ _ (fun _ _ _ _ _ _ us ws l1 l2 => match us, ws, l1, l2 with | [_, _, _], [], _, _ => rfl) fun r q => r.append q
theorem bk11 (T : TX K mg Cs fI fdI B) : KBn K (fdI 11) ["self", "line", "word"] 1 ["word", "line"] (fun us ws => us ++ ws.reverse) (fun vs zs => vs ++ zs.reverse) :=
  T.f11.kbn 1 ["word", "line"] _ _ (fun _ _ _ _ _ _ us ws l1 l2 => match us, ws, l1, l2 with | [_], [_, _], _, _ => rfl) fun r q => r.append q.rev
theorem bd12 (T : TX K mg Cs fI fdI B) : KBn K (fdI 12) ["self", "what", "most"] 3 [] (fun us ws => us ++ ws) (fun vs zs => vs ++ zs) :=
  T.f12.kbn 3 [] _ _ (fun _ _ _ _ _ _ us ws l1 l2 => match us, ws, l1, l2 with | [_, _, _], [], _, _ => rfl) fun r q => r.append q
theorem bk12 (T : TX K mg Cs fI fdI B) : KBn K (fdI 12) ["self", "what", "most"] 1 ["most", "what"] (fun us ws => us ++ ws.reverse) (fun vs zs => vs ++ zs.reverse) :=
  T.f12.kbn 1 ["most", "what"] _ _ (fun _ _ _ _ _ _ us ws l1 l2 => match us, ws, l1, l2 with | [_], [_, _], _, _ => rfl) fun r q => r.append q.rev
/-- a row of the list: the error of the class at i, and the value -/
def RowAt (Cs : Nat → Addr) (H : Hp) (p : Addr) (i : Nat) (v : V) : Prop := ∃ (a : Addr) (fs : List (Str × V)), H p = some (.tup [.ref a, v]) ∧ ErrAt H a (Cs i) fs
theorem RowAt.same {H H' : Hp} {p : Addr} {i : Nat} {v : V} (s : Same H H') (h : RowAt Cs H p i v) : RowAt Cs H' p i v :=
  let ⟨a, fs, h1, h2⟩ := h
  ⟨a, fs, s _ _ h1, h2.same s⟩
/-- the list at q so far -/
structure MadeAt (Cs : Nat → Addr) (H H' : Hp) (q : Addr) (ps : List Addr) (x : V) (n : Nat) : Prop where
  same : Same H H'
  new : H q = none
  lst : H' q = some (.lst (ps.map V.ref))
  len : ps.length = n
  rows : ∀ i p, ps[i]? = some p → RowAt Cs H' p i x
theorem made_first {H H0 H1 : Hp} {p0 p1 q : Addr} {x : V} (r0 : RowAt Cs H0 p0 0 x) (s0 : Same H H0) (s1 : Same H0 H1) (r1 : RowAt Cs H1 p1 1 x) (hq : H1 q = none) :
    MadeAt Cs H (upd H1 q (.lst ([p0, p1].map V.ref))) q [p0, p1] x 2 := by
  have sn : Same H1 (upd H1 q (.lst ([p0, p1].map V.ref))) := (Same.refl _).new hq
  refine ⟨(s0.trans s1).trans sn, (s0.trans s1).free hq, upd_same, rfl, fun i p h => ?_⟩
  match i, h with
  | 0, h =>
    obtain rfl : p0 = p := Option.some.inj h
    exact (r0.same s1).same sn
  | 1, h =>
    obtain rfl : p1 = p := Option.some.inj h
    exact r1.same sn
theorem made_more {H H' H1 H2 : Hp} {p1 p2 q q2 : Addr} {ps : List Addr} {x : V} {n : Nat} (M : MadeAt Cs H H' q ps x n) (s1 : Same H' H1) (s2 : Same H1 H2) (r1 : RowAt Cs H1 p1 n x) (r2 : RowAt Cs H2 p2 (n + 1) x) (hq2 : H2 q2 = none) (hn : n ≤ 100 := by decide) :
    upd H2 q2 (.lst ([p1, p2].map V.ref)) q = some (.lst (ps.map V.ref)) ∧ (ps.map V.ref).length + ([p1, p2].map V.ref).length ≤ sizeLine ∧
      ∀ p, upd H2 q2 (.lst ([p1, p2].map V.ref)) p = none → MadeAt Cs H (upd (upd H2 q2 (.lst ([p1, p2].map V.ref))) p (.lst (ps.map V.ref ++ [p1, p2].map V.ref))) p (ps ++ [p1, p2]) x (n + 2) := by
  have sa : Same H' (upd H2 q2 (.lst ([p1, p2].map V.ref))) := (s1.trans s2).new hq2
  have sb : Same H2 (upd H2 q2 (.lst ([p1, p2].map V.ref))) := (Same.refl _).new hq2
  refine ⟨sa _ _ M.lst, ?_, fun p hp => ?_⟩
  · rw [List.length_map, M.len, sizeLine_eq]
    simp
    omega
  · have sc : Same (upd H2 q2 (.lst ([p1, p2].map V.ref))) (upd (upd H2 q2 (.lst ([p1, p2].map V.ref))) p (.lst (ps.map V.ref ++ [p1, p2].map V.ref))) := (Same.refl _).new hp
    refine ⟨(M.same.trans sa).trans sc, (M.same.trans sa).free hp, by rw [upd_same, List.map_append], by rw [List.length_append, M.len]; rfl, fun i u h => ?_⟩
    by_cases hi : i < ps.length
    · rw [List.getElem?_append_left hi] at h
      exact (((M.rows i u h).same sa)).same sc
    · rw [List.getElem?_append_right (by omega), M.len] at h
      have e : i = n ∨ i = n + 1 := by
        have := (List.getElem?_eq_some_iff.mp h).1
        simp at this
        have := M.len
        omega
      rcases e with rfl | rfl
      · rw [Nat.sub_self] at h
        obtain rfl : p1 = u := Option.some.inj h
        exact ((r1.same s2).same sb).same sc
      · rw [Nat.add_sub_cancel_left] at h
        obtain rfl : p2 = u := Option.some.inj h
        exact (r2.same sb).same sc
theorem made_one {H H' H1 : Hp} {p1 q q2 : Addr} {ps : List Addr} {x : V} {n : Nat} (M : MadeAt Cs H H' q ps x n) (s1 : Same H' H1) (r1 : RowAt Cs H1 p1 n x) (hq2 : H1 q2 = none) (hn : n ≤ 100 := by decide) :
    upd H1 q2 (.lst ([p1].map V.ref)) q = some (.lst (ps.map V.ref)) ∧ (ps.map V.ref).length + ([p1].map V.ref).length ≤ sizeLine ∧
      ∀ p, upd H1 q2 (.lst ([p1].map V.ref)) p = none → MadeAt Cs H (upd (upd H1 q2 (.lst ([p1].map V.ref))) p (.lst (ps.map V.ref ++ [p1].map V.ref))) p (ps ++ [p1]) x (n + 1) := by
  have sa : Same H' (upd H1 q2 (.lst ([p1].map V.ref))) := s1.new hq2
  have sb : Same H1 (upd H1 q2 (.lst ([p1].map V.ref))) := (Same.refl _).new hq2
  refine ⟨sa _ _ M.lst, ?_, fun p hp => ?_⟩
  · rw [List.length_map, M.len, sizeLine_eq]
    simp
    omega
  · have sc : Same (upd H1 q2 (.lst ([p1].map V.ref))) (upd (upd H1 q2 (.lst ([p1].map V.ref))) p (.lst (ps.map V.ref ++ [p1].map V.ref))) := (Same.refl _).new hp
    refine ⟨(M.same.trans sa).trans sc, (M.same.trans sa).free hp, by rw [upd_same, List.map_append], by rw [List.length_append, M.len]; rfl, fun i u h => ?_⟩
    by_cases hi : i < ps.length
    · rw [List.getElem?_append_left hi] at h
      exact (((M.rows i u h).same sa)).same sc
    · rw [List.getElem?_append_right (by omega), M.len] at h
      have e : i = n := by
        have := (List.getElem?_eq_some_iff.mp h).1
        simp at this
        have := M.len
        omega
      subst e
      rw [Nat.sub_self] at h
      obtain rfl : p1 = u := Option.some.inj h
      exact (r1.same sb).same sc
/-- _law_made(value, more) -/
def spMade (Cs : Nat → Addr) : Sp := fun vs H Q _ => ∃ x y : V, vs = [x, y] ∧ ∀ (H' : Hp) (q : Addr) (ps : List Addr), Same H H' → H q = none → H' q = some (.lst (ps.map V.ref)) → ps.length = 13 →
  (∀ i p, ps[i]? = some p → RowAt Cs H' p i x) → Q (.ref q) H'
theorem mo1 {i : Nat} : Mono (tCons (tVar i) tNil) := mono_var mono_nil
theorem mo2 {i j : Nat} : Mono (tCons (tVar i) (tCons (tVar j) tNil)) := mono_var (mono_var mono_nil)

theorem sc__law_made : FnScope ["_law_value", "_law_more", "_law_found"] ["_law_value", "_law_more"] (defScope s__law_made) := ⟨rfl, rfl, rfl, by decide +kernel, rfl, by decide +kernel, by decide +kernel⟩
set_option maxHeartbeats 4000000 in
theorem ok__law_made {f : Addr} {fd : FuncData} (F : Fun K "_law_made" "_law_made" s__law_made f fd) (T : TX K mg Cs fI fdI B) : FnOk P w K mg base CX0 4 f fd ["_law_value", "_law_more"] (spMade Cs) := by
  have b0 := bd0 T
  have b0k := bk0 T
  have b1 := bd1 T
  have b1k := bk1 T
  have b2 := bd2 T
  have b2k := bk2 T
  have b3 := bd3 T
  have b3k := bk3 T
  have b4 := bd4 T
  have b4k := bk4 T
  have b5 := bd5 T
  have b5k := bk5 T
  have b6 := bd6 T
  have b6k := bk6 T
  have b7 := bd7 T
  have b7k := bk7 T
  have b8 := bd8 T
  have b8k := bk8 T
  have b9 := bd9 T
  have b9k := bk9 T
  have b10 := bd10 T
  have b10k := bk10 T
  have b11 := bd11 T
  have b11k := bk11 T
  have b12 := bd12 T
  have b12k := bk12 T
  refine F.ok sc__law_made (fun vs H Q E h => ?_) (fun cdv A outer s H vs Q E hr h => ?_)
  · obtain ⟨x, y, rfl, _⟩ := h
    rfl
  · obtain ⟨x, y, rfl, k⟩ := h
    have hrI : Room 2 _ := hr.mono (by decide)
    refine ⟨_, (C8.pss_cut (ps_set (i := 2) sc__law_made.nd rfl (Or.inl rfl) (pe_lst (pa_cons (pe_row (pe_newX (T.i0) (ok_i0 T) hrI b0 rfl T.g0 mo1 (pa_cons (pv 0) pa_nil)) (pe_newXK (T.i0) (ok_i0 T) hrI id b0k (fun zs => rfl) rfl rfl T.g0 mo1 (pk_cons (pv 0) pk_nil))) (pa_cons (pe_row (pe_newX (T.i1) (ok_i1 T) hrI b1 rfl T.g1 mo1 (pa_cons (pv 0) pa_nil)) (pe_newXK (T.i1) (ok_i1 T) hrI id b1k (fun zs => rfl) rfl rfl T.g1 mo1 (pk_cons (pv 0) pk_nil))) pa_nil))))
 (C8.pss_cut (ps_set (i := 2) sc__law_made.nd rfl (Or.inl rfl) (pe_op op_cat (pv 2) (pe_lst (pa_cons (pe_row (pe_newX (T.i2) (ok_i2 T) hrI b2 rfl T.g2 mo1 (pa_cons (pv 0) pa_nil)) (pe_newXK (T.i2) (ok_i2 T) hrI id b2k (fun zs => rfl) rfl rfl T.g2 mo1 (pk_cons (pv 0) pk_nil))) (pa_cons (pe_row (pe_newX (T.i3) (ok_i3 T) hrI b3 rfl T.g3 mo1 (pa_cons (pv 0) pa_nil)) (pe_newXK (T.i3) (ok_i3 T) hrI id b3k (fun zs => rfl) rfl rfl T.g3 mo1 (pk_cons (pv 0) pk_nil))) pa_nil)))))
 (C8.pss_cut (ps_set (i := 2) sc__law_made.nd rfl (Or.inl rfl) (pe_op op_cat (pv 2) (pe_lst (pa_cons (pe_row (pe_newX (T.i4) (ok_i4 T) hrI b4 rfl T.g4 mo1 (pa_cons (pv 0) pa_nil)) (pe_newXK (T.i4) (ok_i4 T) hrI id b4k (fun zs => rfl) rfl rfl T.g4 mo1 (pk_cons (pv 0) pk_nil))) (pa_cons (pe_row (pe_newX (T.i5) (ok_i5 T) hrI b5 rfl T.g5 mo1 (pa_cons (pv 0) pa_nil)) (pe_newXK (T.i5) (ok_i5 T) hrI id b5k (fun zs => rfl) rfl rfl T.g5 mo1 (pk_cons (pv 0) pk_nil))) pa_nil)))))
 (C8.pss_cut (ps_set (i := 2) sc__law_made.nd rfl (Or.inl rfl) (pe_op op_cat (pv 2) (pe_lst (pa_cons (pe_row (pe_newX (T.i6) (ok_i6 T) hrI b6 rfl T.g6 mo1 (pa_cons (pv 0) pa_nil)) (pe_newXK (T.i6) (ok_i6 T) hrI id b6k (fun zs => rfl) rfl rfl T.g6 mo1 (pk_cons (pv 0) pk_nil))) (pa_cons (pe_row (pe_newX (T.i7) (ok_i7 T) hrI b7 rfl T.g7 mo1 (pa_cons (pv 0) pa_nil)) (pe_newXK (T.i7) (ok_i7 T) hrI id b7k (fun zs => rfl) rfl rfl T.g7 mo1 (pk_cons (pv 0) pk_nil))) pa_nil)))))
 (C8.pss_cut (ps_set (i := 2) sc__law_made.nd rfl (Or.inl rfl) (pe_op op_cat (pv 2) (pe_lst (pa_cons (pe_row (pe_newX (T.i8) (ok_i8 T) hrI b8 rfl T.g8 mo1 (pa_cons (pv 0) pa_nil)) (pe_newXK (T.i8) (ok_i8 T) hrI id b8k (fun zs => rfl) rfl rfl T.g8 mo1 (pk_cons (pv 0) pk_nil))) (pa_cons (pe_row (pe_newX (T.i9) (ok_i9 T) hrI b9 rfl T.g9 mo1 (pa_cons (pv 0) pa_nil)) (pe_newXK (T.i9) (ok_i9 T) hrI id b9k (fun zs => rfl) rfl rfl T.g9 mo1 (pk_cons (pv 0) pk_nil))) pa_nil)))))
 (C8.pss_cut (ps_set (i := 2) sc__law_made.nd rfl (Or.inl rfl) (pe_op op_cat (pv 2) (pe_lst (pa_cons (pe_row (pe_newX (T.i10) (ok_i10 T) hrI b10 rfl T.g10 mo1 (pa_cons (pv 0) pa_nil)) (pe_newXK (T.i10) (ok_i10 T) hrI id b10k (fun zs => rfl) rfl rfl T.g10 mo1 (pk_cons (pv 0) pk_nil))) (pa_cons (pe_row (pe_newX (T.i11) (ok_i11 T) hrI b11 rfl T.g11 mo2 (pa_cons (pv 1) (pa_cons (pv 0) pa_nil))) (pe_newXK (T.i11) (ok_i11 T) hrI List.reverse b11k (fun zs => List.length_reverse) rfl rfl T.g11 mo2 (pk_cons (pv 0) (pk_cons (pv 1) pk_nil)))) pa_nil)))))
 (pss_one (ps_ret (pe_op op_cat (pv 2) (pe_lst (pa_cons (pe_row (pe_newX (T.i12) (ok_i12 T) hrI b12 rfl T.g12 mo2 (pa_cons (pv 1) (pa_cons (pv 0) pa_nil))) (pe_newXK (T.i12) (ok_i12 T) hrI List.reverse b12k (fun zs => List.length_reverse) rfl rfl T.g12 mo2 (pk_cons (pv 0) (pk_cons (pv 1) pk_nil)))) pa_nil))))))))))), ?_⟩

    refine ⟨fun σ H' => ∃ (q : Addr) (ps : List Addr), σ = [some x, some y, some (.ref q)] ∧ MadeAt Cs H H' q ps x 2, ?_, ?_⟩
    · skip
      refine ⟨[x], [x], x, (fun _ _ h => ⟨_, rfl, h⟩), (fun _ _ h => ⟨_, rfl, h⟩), rfl, rfl, T.i0.cls, T.n0_part, (by simp [fs0, List.lookup]), fun p0 a0 H0 s0 n0 e0 r0 => ?_⟩
      refine ⟨[x], [x], x, (fun _ _ h => ⟨_, rfl, h⟩), (fun _ _ h => ⟨_, rfl, h⟩), rfl, rfl, T.i1.cls, T.n1_part, (by simp [fs1, List.lookup]), fun p1 a1 H1 s1 n1 e1 r1 => ?_⟩
      refine ⟨(by show 2 ≤ sizeLine; decide), fun q hq => ?_⟩
      exact ⟨q, [p0, p1], rfl, made_first (⟨_, _, e0, r0⟩) s0 s1 (⟨_, _, e1, r1⟩) hq⟩
    rintro σ H' ⟨q, ps, rfl, M⟩
    refine ⟨fun σ H' => ∃ (q : Addr) (ps : List Addr), σ = [some x, some y, some (.ref q)] ∧ MadeAt Cs H H' q ps x 4, ?_, ?_⟩
    · refine ⟨_, rfl, ?_⟩
      refine ⟨[x], [x], x, (fun _ _ h => ⟨_, rfl, h⟩), (fun _ _ h => ⟨_, rfl, h⟩), rfl, rfl, T.i2.cls, T.n2_part, (by simp [fs2, List.lookup]), fun p2 a2 H2 s2 n2 e2 r2 => ?_⟩
      refine ⟨[x], [x], x, (fun _ _ h => ⟨_, rfl, h⟩), (fun _ _ h => ⟨_, rfl, h⟩), rfl, rfl, T.i3.cls, T.n3_part, (by simp [fs3, List.lookup]), fun p3 a3 H3 s3 n3 e3 r3 => ?_⟩
      refine ⟨(by show 2 ≤ sizeLine; decide), fun q2 hq2 => ?_⟩
      have N := made_more M s2 s3 (⟨_, _, e2, r2⟩) (⟨_, _, e3, r3⟩) hq2
      refine ⟨q, q2, _, _, rfl, rfl, N.1, upd_same, N.2.1, fun p hp => ?_⟩
      exact ⟨p, ps ++ [p2, p3], rfl, N.2.2 p hp⟩
    rintro σ H' ⟨q, ps, rfl, M⟩
    refine ⟨fun σ H' => ∃ (q : Addr) (ps : List Addr), σ = [some x, some y, some (.ref q)] ∧ MadeAt Cs H H' q ps x 6, ?_, ?_⟩
    · refine ⟨_, rfl, ?_⟩
      refine ⟨[x], [x], x, (fun _ _ h => ⟨_, rfl, h⟩), (fun _ _ h => ⟨_, rfl, h⟩), rfl, rfl, T.i4.cls, T.n4_value, (by simp [fs4, List.lookup]), fun p4 a4 H4 s4 n4 e4 r4 => ?_⟩
      refine ⟨[x], [x], x, (fun _ _ h => ⟨_, rfl, h⟩), (fun _ _ h => ⟨_, rfl, h⟩), rfl, rfl, T.i5.cls, T.n5_at, (by simp [fs5, List.lookup]), fun p5 a5 H5 s5 n5 e5 r5 => ?_⟩
      refine ⟨(by show 2 ≤ sizeLine; decide), fun q2 hq2 => ?_⟩
      have N := made_more M s4 s5 (⟨_, _, e4, r4⟩) (⟨_, _, e5, r5⟩) hq2
      refine ⟨q, q2, _, _, rfl, rfl, N.1, upd_same, N.2.1, fun p hp => ?_⟩
      exact ⟨p, ps ++ [p4, p5], rfl, N.2.2 p hp⟩
    rintro σ H' ⟨q, ps, rfl, M⟩
    refine ⟨fun σ H' => ∃ (q : Addr) (ps : List Addr), σ = [some x, some y, some (.ref q)] ∧ MadeAt Cs H H' q ps x 8, ?_, ?_⟩
    · refine ⟨_, rfl, ?_⟩
      refine ⟨[x], [x], x, (fun _ _ h => ⟨_, rfl, h⟩), (fun _ _ h => ⟨_, rfl, h⟩), rfl, rfl, T.i6.cls, T.n6_part, (by simp [fs6, List.lookup]), fun p6 a6 H6 s6 n6 e6 r6 => ?_⟩
      refine ⟨[x], [x], x, (fun _ _ h => ⟨_, rfl, h⟩), (fun _ _ h => ⟨_, rfl, h⟩), rfl, rfl, T.i7.cls, T.n7_word, (by simp [fs7, List.lookup]), fun p7 a7 H7 s7 n7 e7 r7 => ?_⟩
      refine ⟨(by show 2 ≤ sizeLine; decide), fun q2 hq2 => ?_⟩
      have N := made_more M s6 s7 (⟨_, _, e6, r6⟩) (⟨_, _, e7, r7⟩) hq2
      refine ⟨q, q2, _, _, rfl, rfl, N.1, upd_same, N.2.1, fun p hp => ?_⟩
      exact ⟨p, ps ++ [p6, p7], rfl, N.2.2 p hp⟩
    rintro σ H' ⟨q, ps, rfl, M⟩
    refine ⟨fun σ H' => ∃ (q : Addr) (ps : List Addr), σ = [some x, some y, some (.ref q)] ∧ MadeAt Cs H H' q ps x 10, ?_, ?_⟩
    · refine ⟨_, rfl, ?_⟩
      refine ⟨[x], [x], x, (fun _ _ h => ⟨_, rfl, h⟩), (fun _ _ h => ⟨_, rfl, h⟩), rfl, rfl, T.i8.cls, T.n8_value, (by simp [fs8, List.lookup]), fun p8 a8 H8 s8 n8 e8 r8 => ?_⟩
      refine ⟨[x], [x], x, (fun _ _ h => ⟨_, rfl, h⟩), (fun _ _ h => ⟨_, rfl, h⟩), rfl, rfl, T.i9.cls, T.n9_name, (by simp [fs9, List.lookup]), fun p9 a9 H9 s9 n9 e9 r9 => ?_⟩
      refine ⟨(by show 2 ≤ sizeLine; decide), fun q2 hq2 => ?_⟩
      have N := made_more M s8 s9 (⟨_, _, e8, r8⟩) (⟨_, _, e9, r9⟩) hq2
      refine ⟨q, q2, _, _, rfl, rfl, N.1, upd_same, N.2.1, fun p hp => ?_⟩
      exact ⟨p, ps ++ [p8, p9], rfl, N.2.2 p hp⟩
    rintro σ H' ⟨q, ps, rfl, M⟩
    refine ⟨fun σ H' => ∃ (q : Addr) (ps : List Addr), σ = [some x, some y, some (.ref q)] ∧ MadeAt Cs H H' q ps x 12, ?_, ?_⟩
    · refine ⟨_, rfl, ?_⟩
      refine ⟨[x], [x], x, (fun _ _ h => ⟨_, rfl, h⟩), (fun _ _ h => ⟨_, rfl, h⟩), rfl, rfl, T.i10.cls, T.n10_at, (by simp [fs10, List.lookup]), fun p10 a10 H10 s10 n10 e10 r10 => ?_⟩
      refine ⟨[y, x], [x, y], x, (fun _ _ h => ⟨_, rfl, _, rfl, h⟩), (fun _ _ h => ⟨_, rfl, _, rfl, h⟩), rfl, rfl, T.i11.cls, T.n11_word, (by simp [fs11, List.lookup]), fun p11 a11 H11 s11 n11 e11 r11 => ?_⟩
      refine ⟨(by show 2 ≤ sizeLine; decide), fun q2 hq2 => ?_⟩
      have N := made_more M s10 s11 (⟨_, _, e10, r10⟩) (⟨_, _, e11, r11⟩) hq2
      refine ⟨q, q2, _, _, rfl, rfl, N.1, upd_same, N.2.1, fun p hp => ?_⟩
      exact ⟨p, ps ++ [p10, p11], rfl, N.2.2 p hp⟩
    rintro σ H' ⟨q, ps, rfl, M⟩
    refine ⟨_, rfl, ?_⟩
    refine ⟨[y, x], [x, y], x, (fun _ _ h => ⟨_, rfl, _, rfl, h⟩), (fun _ _ h => ⟨_, rfl, _, rfl, h⟩), rfl, rfl, T.i12.cls, T.n12_most, (by simp [fs12, List.lookup]), fun p12 a12 H12 s12 n12 e12 r12 => ?_⟩
    refine ⟨(by show 1 ≤ sizeLine; decide), fun q2 hq2 => ?_⟩
    have N := made_one M s12 (⟨_, _, e12, r12⟩) hq2
    refine ⟨q, q2, _, _, rfl, rfl, N.1, upd_same, N.2.1, fun p hp => ?_⟩
    obtain ⟨t1, t2, t3, t4, t5⟩ := N.2.2 p hp
    exact k _ p (ps ++ [p12]) t1 t2 t3 t4 t5
end
end Toy
set_option maxRecDepth 100000
namespace Toy
open PySem L2
section
variable {P : Program} {w : World} {K : PySem.W.Frag} {mg : Str → Option Value} {base : Heap} {Cs fI : Nat → Addr} {fdI : Nat → FuncData} {B : Addr}
/-- an error of the class at k -/
def IsErr (Cs : Nat → Addr) (H : Hp) (a : Addr) (k : Nat) : Prop := k < 14 ∧ ∃ d, H a = some (exo a (Cs k) d) ∧ XvD H d
theorem XvD.same {H H' : Hp} {d : Option Addr} (s : Same H H') (h : XvD H d) : XvD H' d := fun b e => let ⟨fs, q⟩ := h b e; ⟨fs, s _ _ q⟩
theorem IsErr.same {H H' : Hp} {a : Addr} {k : Nat} (s : Same H H') (h : IsErr Cs H a k) : IsErr Cs H' a k :=
  let ⟨l, d, h1, h2⟩ := h
  ⟨l, d, s _ _ h1, XvD.same s h2⟩
theorem IsErr.of {H : Hp} {a : Addr} {k : Nat} {fs : List (Str × V)} (l : k < 14) (h : ErrAt H a (Cs k) fs) : IsErr Cs H a k :=
  let ⟨d, h1, h2⟩ := h
  ⟨l, some d, h1, fun b e => ⟨fs, by cases e; exact h2⟩⟩
abbrev bs (k n : Nat) : List V := (List.range n).map fun j => V.bl (decide (k = j))
abbrev ks (k n : Nat) : List V := ((List.range n).filter fun j => decide (k = j)).map fun j => V.int ((j : Nat) : Int)
theorem ks_14 : ∀ k, k < 14 → (List.range 14).filter (fun j => decide (k = j)) = [k] := by decide
theorem bs_len (k n : Nat) : (bs k n).length = n := by simp [bs]
/-- _law_classes(error): just its own place -/
def spClasses (Cs : Nat → Addr) : Sp := fun vs H Q _ => ∃ (a : Addr) (k : Nat), vs = [.ref a] ∧ IsErr Cs H a k ∧ ∀ (H' : Hp) (q : Addr), Same H H' → H q = none → H' q = some (.lst [.int (k : Int)]) → Q (.ref q) H'
def spIsErr (Cs : Nat → Addr) : Sp := fun vs H Q _ => ∃ (a : Addr) (k : Nat), vs = [.ref a] ∧ IsErr Cs H a k ∧ Q (.bl true) H
abbrev s__law_classes' : Stmt := s__law_classes
abbrev N__law_classes : List Str := ["_law_error", "_law_told", "_law_at"]
theorem sc__law_classes : FnScope N__law_classes ["_law_error"] (defScope s__law_classes) := ⟨rfl, rfl, rfl, by decide +kernel, rfl, by decide +kernel, by decide +kernel⟩
set_option maxHeartbeats 4000000 in
theorem ok__law_classes {f : Addr} {fd : FuncData} (F : Fun K "_law_classes" "_law_classes" s__law_classes f fd) (T : TX K mg Cs fI fdI B) : FnOk P w K mg base CX0 1 f fd ["_law_error"] (spClasses Cs) := by
  refine F.ok sc__law_classes (fun vs H Q E h => ?_) (fun cdv A outer s H vs Q E hr h => ?_)
  · obtain ⟨a, k, rfl, _⟩ := h
    rfl
  · obtain ⟨a, k, rfl, hE, kk⟩ := h
    obtain ⟨l, d, h1, h2⟩ := id hE
    have Tx := T.x k l
    refine ⟨_, (C8.pss_cut (ps_set (i := 1) sc__law_classes.nd rfl (Or.inr rfl) (pe_lst (pa_cons (pe_callB call_isx (by rfl) T.m_isinstance (by decide +kernel) (pa_cons (pv 0) (pa_cons (pe_glob (v := .ref (Cs 0)) rfl T.g0 rfl) pa_nil))) (pa_cons (pe_callB call_isx (by rfl) T.m_isinstance (by decide +kernel) (pa_cons (pv 0) (pa_cons (pe_glob (v := .ref (Cs 1)) rfl T.g1 rfl) pa_nil))) (pa_cons (pe_callB call_isx (by rfl) T.m_isinstance (by decide +kernel) (pa_cons (pv 0) (pa_cons (pe_glob (v := .ref (Cs 2)) rfl T.g2 rfl) pa_nil))) (pa_cons (pe_callB call_isx (by rfl) T.m_isinstance (by decide +kernel) (pa_cons (pv 0) (pa_cons (pe_glob (v := .ref (Cs 3)) rfl T.g3 rfl) pa_nil))) pa_nil))))))
 (C8.pss_cut (ps_set (i := 1) sc__law_classes.nd rfl (Or.inr rfl) (pe_op op_cat (pv 1) (pe_lst (pa_cons (pe_callB call_isx (by rfl) T.m_isinstance (by decide +kernel) (pa_cons (pv 0) (pa_cons (pe_glob (v := .ref (Cs 4)) rfl T.g4 rfl) pa_nil))) (pa_cons (pe_callB call_isx (by rfl) T.m_isinstance (by decide +kernel) (pa_cons (pv 0) (pa_cons (pe_glob (v := .ref (Cs 5)) rfl T.g5 rfl) pa_nil))) (pa_cons (pe_callB call_isx (by rfl) T.m_isinstance (by decide +kernel) (pa_cons (pv 0) (pa_cons (pe_glob (v := .ref (Cs 6)) rfl T.g6 rfl) pa_nil))) pa_nil))))))
 (C8.pss_cut (ps_set (i := 1) sc__law_classes.nd rfl (Or.inr rfl) (pe_op op_cat (pv 1) (pe_lst (pa_cons (pe_callB call_isx (by rfl) T.m_isinstance (by decide +kernel) (pa_cons (pv 0) (pa_cons (pe_glob (v := .ref (Cs 7)) rfl T.g7 rfl) pa_nil))) (pa_cons (pe_callB call_isx (by rfl) T.m_isinstance (by decide +kernel) (pa_cons (pv 0) (pa_cons (pe_glob (v := .ref (Cs 8)) rfl T.g8 rfl) pa_nil))) (pa_cons (pe_callB call_isx (by rfl) T.m_isinstance (by decide +kernel) (pa_cons (pv 0) (pa_cons (pe_glob (v := .ref (Cs 9)) rfl T.g9 rfl) pa_nil))) pa_nil))))))
 (C8.pss_cut (ps_set (i := 1) sc__law_classes.nd rfl (Or.inr rfl) (pe_op op_cat (pv 1) (pe_lst (pa_cons (pe_callB call_isx (by rfl) T.m_isinstance (by decide +kernel) (pa_cons (pv 0) (pa_cons (pe_glob (v := .ref (Cs 10)) rfl T.g10 rfl) pa_nil))) (pa_cons (pe_callB call_isx (by rfl) T.m_isinstance (by decide +kernel) (pa_cons (pv 0) (pa_cons (pe_glob (v := .ref (Cs 11)) rfl T.g11 rfl) pa_nil))) (pa_cons (pe_callB call_isx (by rfl) T.m_isinstance (by decide +kernel) (pa_cons (pv 0) (pa_cons (pe_glob (v := .ref (Cs 12)) rfl T.g12 rfl) pa_nil))) pa_nil))))))
 (C8.pss_cut (ps_expr (pe_bm PySem.F.plainAttrs_list PySem.F.slot_list_append PySem.F.type_list_append mt_append (pv 1) (pa_cons (pe_callB call_isx (by rfl) T.m_isinstance (by decide +kernel) (pa_cons (pv 0) (pa_cons (pe_glob (v := .ref (Cs 13)) rfl T.g13 rfl) pa_nil))) pa_nil)))
 (pss_one (ps_ret (pe_lc (own := [("_law_at", 2)]) (g := (gName 2)) rfl sc__law_classes.nd (pi_range1 rfl T.m_range (pa_cons (pe_callB call_len_seq (by rfl) T.m_len (by decide +kernel) (pa_cons (pv 1) pa_nil)) pa_nil)) (blkOk_by (N := N__law_classes) (sc := defScope s__law_classes) (by decide +kernel)) (fun _ _ _ _ _ => (pg_name (i := 2) sc__law_classes.nd rfl (Or.inl rfl))) (fun _ _ _ _ _ => (pts_one (pt_val (pe_ix (show IxR _ (rIxL K) from ix_list) (pv 1) (pv 2) (fun _ _ => rfl))))) (fun _ _ _ _ _ => (pv 2)))))))))), ?_⟩
    have more : ∀ {H1 : Hp} {q q2 : Addr} {n : Nat} {zs : List V}, Same H H1 → H1 q = some (.lst (bs k n)) → H1 q2 = none → (bs k n).length + zs.length ≤ sizeLine → bs k n ++ zs = bs k (n + zs.length) →
        ∀ p, upd H1 q2 (.lst zs) p = none → Same H (upd (upd H1 q2 (.lst zs)) p (.lst (bs k n ++ zs))) ∧ H p = none ∧ upd (upd H1 q2 (.lst zs)) p (.lst (bs k n ++ zs)) p = some (.lst (bs k (n + zs.length))) := by
      intro H1 q q2 n zs s1 hq hq2 hl e p hp
      exact ⟨(s1.new hq2).new hp, (s1.new hq2).free hp, by rw [upd_same, e]⟩
    refine ⟨fun σ H' => ∃ q, σ = [some (.ref a), some (.ref q), none] ∧ Same H H' ∧ H q = none ∧ H' q = some (.lst (bs k 4)), ?_, ?_⟩
    · refine ⟨_, rfl, a, Cs k, d, _, _, _, rfl, h1, h2, Tx, .own _, T.is_ k 0 l (by decide), _, rfl, a, Cs k, d, _, _, _, rfl, h1, h2, Tx, .own _, T.is_ k 1 l (by decide), _, rfl, a, Cs k, d, _, _, _, rfl, h1, h2, Tx, .own _, T.is_ k 2 l (by decide), _, rfl, a, Cs k, d, _, _, _, rfl, h1, h2, Tx, .own _, T.is_ k 3 l (by decide), ?_⟩
      refine ⟨(by show 4 ≤ sizeLine; decide), fun q hq => ?_⟩
      exact ⟨q, rfl, (Same.refl _).new hq, hq, upd_same⟩
    rintro σ H1 ⟨q, rfl, s1, nq, hq⟩

    have g1 := s1 _ _ h1
    have g2 := XvD.same s1 h2
    refine ⟨fun σ H' => ∃ q, σ = [some (.ref a), some (.ref q), none] ∧ Same H H' ∧ H q = none ∧ H' q = some (.lst (bs k 7)), ?_, ?_⟩
    · refine ⟨_, rfl, _, rfl, a, Cs k, d, _, _, _, rfl, g1, g2, Tx, .own _, T.is_ k 4 l (by decide), _, rfl, a, Cs k, d, _, _, _, rfl, g1, g2, Tx, .own _, T.is_ k 5 l (by decide), _, rfl, a, Cs k, d, _, _, _, rfl, g1, g2, Tx, .own _, T.is_ k 6 l (by decide), ?_⟩
      refine ⟨(by show 3 ≤ sizeLine; decide), fun q2 hq2 => ?_⟩
      refine ⟨q, q2, bs k 4, _, rfl, rfl, (by rw [upd_ne (ne_of_none hq hq2)]; exact hq), upd_same, (by rw [bs_len]; show 4 + 3 ≤ sizeLine; decide), fun p hp => ?_⟩
      obtain ⟨t1, t2, t3⟩ := more (n := 4) s1 hq hq2 (by rw [bs_len]; show 4 + 3 ≤ sizeLine; decide) rfl p hp
      exact ⟨p, rfl, t1, t2, t3⟩
    clear g1 g2 hq nq s1
    rintro σ H1 ⟨q, rfl, s1, nq, hq⟩
    have g1 := s1 _ _ h1
    have g2 := XvD.same s1 h2
    refine ⟨fun σ H' => ∃ q, σ = [some (.ref a), some (.ref q), none] ∧ Same H H' ∧ H q = none ∧ H' q = some (.lst (bs k 10)), ?_, ?_⟩
    · refine ⟨_, rfl, _, rfl, a, Cs k, d, _, _, _, rfl, g1, g2, Tx, .own _, T.is_ k 7 l (by decide), _, rfl, a, Cs k, d, _, _, _, rfl, g1, g2, Tx, .own _, T.is_ k 8 l (by decide), _, rfl, a, Cs k, d, _, _, _, rfl, g1, g2, Tx, .own _, T.is_ k 9 l (by decide), ?_⟩
      refine ⟨(by show 3 ≤ sizeLine; decide), fun q2 hq2 => ?_⟩
      refine ⟨q, q2, bs k 7, _, rfl, rfl, (by rw [upd_ne (ne_of_none hq hq2)]; exact hq), upd_same, (by rw [bs_len]; show 7 + 3 ≤ sizeLine; decide), fun p hp => ?_⟩
      obtain ⟨t1, t2, t3⟩ := more (n := 7) s1 hq hq2 (by rw [bs_len]; show 7 + 3 ≤ sizeLine; decide) rfl p hp
      exact ⟨p, rfl, t1, t2, t3⟩
    clear g1 g2 hq nq s1
    rintro σ H1 ⟨q, rfl, s1, nq, hq⟩
    have g1 := s1 _ _ h1
    have g2 := XvD.same s1 h2
    refine ⟨fun σ H' => ∃ q, σ = [some (.ref a), some (.ref q), none] ∧ Same H H' ∧ H q = none ∧ H' q = some (.lst (bs k 13)), ?_, ?_⟩
    · refine ⟨_, rfl, _, rfl, a, Cs k, d, _, _, _, rfl, g1, g2, Tx, .own _, T.is_ k 10 l (by decide), _, rfl, a, Cs k, d, _, _, _, rfl, g1, g2, Tx, .own _, T.is_ k 11 l (by decide), _, rfl, a, Cs k, d, _, _, _, rfl, g1, g2, Tx, .own _, T.is_ k 12 l (by decide), ?_⟩
      refine ⟨(by show 3 ≤ sizeLine; decide), fun q2 hq2 => ?_⟩
      refine ⟨q, q2, bs k 10, _, rfl, rfl, (by rw [upd_ne (ne_of_none hq hq2)]; exact hq), upd_same, (by rw [bs_len]; show 10 + 3 ≤ sizeLine; decide), fun p hp => ?_⟩
      obtain ⟨t1, t2, t3⟩ := more (n := 10) s1 hq hq2 (by rw [bs_len]; show 10 + 3 ≤ sizeLine; decide) rfl p hp
      exact ⟨p, rfl, t1, t2, t3⟩
    clear g1 g2 hq nq s1
    rintro σ H1 ⟨q, rfl, s1, nq, hq⟩
    have g1 := s1 _ _ h1
    have g2 := XvD.same s1 h2
    refine ⟨fun σ H' => ∃ q, σ = [some (.ref a), some (.ref q), none] ∧ Same H H' ∧ H q = none ∧ H' q = some (.lst (bs k 14)), ?_, ?_⟩
    · refine ⟨_, rfl, .inl ⟨rfl, _, SqL.of hq⟩, _, rfl, a, Cs k, d, _, _, _, rfl, g1, g2, Tx, .own _, T.is_ k 13 l (by decide), ?_⟩
      refine ⟨q, _, _, rfl, rfl, hq, (by rw [bs_len]; decide), ?_⟩
      exact ⟨q, rfl, fun b o e => by rw [upd_ne (ne_of_none e nq)]; exact s1 b o e, nq, upd_same⟩
    clear g1 g2 hq nq s1
    rintro σ H1 ⟨q, rfl, s1, nq, hq⟩
    refine ⟨_, rfl, q, _, rfl, .inl (SqL.of hq), _, rfl, (by rw [bs_len]; decide), (by rw [bs_len]; decide), fun D hD => ?_⟩
    have nqD : q ≠ D := ne_of_none hq hD
    have e14 : (((bs k 14).length : Nat) : Int).toNat = 14 := by rw [bs_len]; rfl
    rw [e14]
    refine lc_it walk_range (fun i H2 => H2 = upd H1 D (.lst (ks k i))) rfl (fun _ _ _ _ => trivial) ?_ ?_
    · rintro i y H2 H3 hi rfl ⟨rfl, rfl⟩
      have hqi : (bs k 14)[i]? = some (.bl (decide (k = i))) := by
        rw [List.getElem?_map, List.getElem?_range hi]
        rfl
      refine ⟨rfl, _, rfl, _, rfl, q, _, _, _, rfl, rfl, SqL.of (by rw [upd_ne nqD]; exact hq), atI_of (v := .bl (decide (k = i))) (by omega) (by rw [show ((0 : Int) + (i : Nat)).toNat = i by omega]; exact hqi), _, rfl, ?_⟩
      refine ite2 (fun c => ?_) (fun c => ?_)
      · refine ⟨_, rfl, _, upd_same, ?_, ?_⟩
        · rw [List.length_map]
          exact Nat.lt_of_le_of_lt (List.length_filter_le _ _) (by rw [List.length_range]; exact small1000 (by omega))
        · rw [upd_upd]
          have c' : decide (k = i) = true := c
          show _ = upd H1 D (.lst (ks k (i + 1)))
          unfold ks
          rw [List.range_succ, List.filter_append, List.map_append]
          simp [c', of_decide_eq_true c']
      · have c' : decide (k = i) = false := Bool.eq_false_iff.mpr c
        unfold ks
        rw [List.range_succ, List.filter_append, List.map_append]
        simp [c']
    · rintro H2 rfl
      refine kk _ D (s1.new hD) (s1.free hD) ?_
      rw [upd_same]
      unfold ks
      rw [ks_14 k hE.1]
      rfl
theorem sc__law_is_error : FnScope ["_law_error"] ["_law_error"] (defScope s__law_is_error) := ⟨rfl, rfl, rfl, by decide +kernel, rfl, by decide +kernel, by decide +kernel⟩
theorem ok__law_is_error {f : Addr} {fd : FuncData} (F : Fun K "_law_is_error" "_law_is_error" s__law_is_error f fd) (T : TX K mg Cs fI fdI B) : FnOk P w K mg base CX0 1 f fd ["_law_error"] (spIsErr Cs) := by
  refine F.ok sc__law_is_error (fun vs H Q E h => ?_) (fun cdv A outer s H vs Q E hr h => ?_)
  · obtain ⟨a, k, rfl, _⟩ := h
    rfl
  · obtain ⟨a, k, rfl, ⟨l, d, h1, h2⟩, kk⟩ := h
    refine ⟨_, (pss_one (ps_ret (pe_and (pe_callB call_isx (by rfl) T.m_isinstance (by decide +kernel) (pa_cons (pv 0) (pa_cons (pe_glob (v := .ref B) rfl T.gB rfl) pa_nil))) (pe_one (pe_callB call_isx (by rfl) T.m_isinstance (by decide +kernel) (pa_cons (pv 0) (pa_cons (pe_bltn (v := .ty "ValueError") (u := .type "ValueError") rfl T.m_ValueError (by decide +kernel) rfl) pa_nil))))))), ?_⟩
    refine ⟨_, rfl, a, Cs k, d, _, _, _, rfl, h1, h2, T.x k l, .own _, T.bank k l, _, rfl, iteT ?_⟩
    exact ⟨_, rfl, a, Cs k, d, _, _, _, rfl, h1, h2, T.x k l, .ty _, T.ve k l, kk⟩
end
end Toy
set_option maxRecDepth 100000
namespace Toy
open PySem L2
abbrev s__law_errors_right : Stmt := top 29
structure Nice (d : PyData) : Prop where
  show_ : d.showable = true
  deep : d.depth ≤ 3
  long : d.shown.length ≤ 200
theorem PenAt.same {H H' : Hp} {p l : Addr} {ns : List Int} {a b : Int} (s : Same H H') (P : PenAt H p l ns a b) : PenAt H' p l ns a b := ⟨s _ _ P.pen, s _ _ P.cells, P.few, P.bits, P.low⟩
theorem PenAt.notInts {H : Hp} {p l q : Addr} {ns ms : List Int} {a b : Int} (P : PenAt H p l ns a b) (h : H q = some (.lst (ms.map V.int))) : q ≠ p := fun e => by
  rw [e, P.pen] at h
  cases ms with
  | nil => cases h
  | cons z r => cases h
theorem dat_but {H H' : Hp} {p l : Addr} {ns : List Int} {a b : Int} {v : V} {d : PyData} (P : PenAt H p l ns a b) (s : But p H H') (h : Dat0 H v d) : Dat0 H' v d := by
  cases h with
  | non => exact .non
  | bl b => exact .bl b
  | int i => exact .int i
  | str z => exact .str z
  | tup e => exact .tup (s _ _ (fun q => by rw [q, P.pen] at e; cases e) e)
  | lst e n => exact .lst (s _ _ (P.notInts e) e) n
  | dct e => exact .dct (s _ _ (fun q => by rw [q, P.pen] at e; cases e) e)
theorem dat_same {H H' : Hp} {v : V} {d : PyData} (s : Same H H') (h : Dat0 H v d) : Dat0 H' v d := by
  cases h with
  | non => exact .non
  | bl b => exact .bl b
  | int i => exact .int i
  | str z => exact .str z
  | tup e => exact .tup (s _ _ e)
  | lst e n => exact .lst (s _ _ e) n
  | dct e => exact .dct (s _ _ e)
theorem look2 {f g : Str} {x y : V} (h : (f == g) = false) : [(g, x), (f, y)].lookup f = some y := by
  simp [List.lookup, h]
theorem ite_not {c : Bool} {A B : Prop} (h : c = true) (b : B) : if (!c) = true then A else B := by
  rw [h]
  exact iteF b
theorem ite_yes {c : Bool} {A B : Prop} (h : c = true) (a : A) : if c = true then A else B := by
  rw [h]
  exact iteT a
theorem eqv_one (i : Int) : PyData.eqv (.list [.int i]) (.list [.int i]) = true := by simp [PyData.eqv, PyData.eqvAll]
theorem nice_four {d e : PyData} (h : Nice d) (g : Nice e) : (PyData.list [e, d, e, d]).showable = true ∧ (PyData.list [e, d, e, d]).depth ≤ 20 ∧ (PyData.list [e, d, e, d]).shown.length ≤ sizeLine := by
  refine ⟨by simp [PyData.showable, PyData.showableAll, h.show_, g.show_], ?_, ?_⟩
  · have h1 := h.deep
    have h2 := g.deep
    simp only [PyData.depth, PyData.depthAll]
    omega
  · have h1 := h.long
    have h2 := g.long
    have e0 : (PyData.list [e, d, e, d]).shown = listText [e.shown, d.shown, e.shown, d.shown] := rfl
    have e1 : listText [e.shown, d.shown, e.shown, d.shown] = "[" ++ "" ++ e.shown ++ ", " ++ d.shown ++ ", " ++ e.shown ++ ", " ++ d.shown ++ "]" := rfl
    rw [e0, e1, sizeLine_eq]
    simp only [strLen_append]
    have l1 : (("[" : String) : Str).length = 1 := rfl
    have l2 : (("" : String) : Str).length = 0 := rfl
    have l3 : ((", " : String) : Str).length = 2 := rfl
    have l4 : (("]" : String) : Str).length = 1 := rfl
    omega
/-- what is left of a pen behind some draws -/
structure Pen2 (H H' : Hp) (p l : Addr) (ns : List Int) (a : Int) (n : Int) : Prop where
  but : But p H H'
  at_ : ∃ a' b', PenAt H' p l ns a' b' ∧ a ≤ a' ∧ a' ≤ a + n
def spRight (n : Int) : Sp := fun vs H Q _ => ∃ (p l : Addr) (ns : List Int) (a b : Int), vs = [.ref p] ∧ PenAt H p l ns a b ∧ a + n ≤ 1000000 ∧ ∀ H', Pen2 H H' p l ns a n → Q (.bl true) H'
section
variable {P : Program} {w : World} {K : PySem.W.Frag} {mg : Str → Option Value} {base : Heap} {Cs fI : Nat → Addr} {fdI : Nat → FuncData} {B : Addr}
abbrev N__law_errors_right : List Str := ["_law_pen_here", "_law_value", "_law_more", "_law_made_here", "_law_at", "_law_error", "_law_told", "_law_both"]
theorem sc__law_errors_right : FnScope N__law_errors_right ["_law_pen_here"] (defScope s__law_errors_right) := ⟨rfl, rfl, rfl, by decide +kernel, rfl, by decide +kernel, by decide +kernel⟩
/-- the eight values -/
theorem eight {H H' : Hp} {p l t l2 dd : Addr} {ns : List Int} {a b : Int} {i : Nat} {v : V} (hP : PenAt H p l ns a b) (hB : But p H H') (ht : H t = some (.tup ([1].map V.int))) (hl : H l2 = some (.lst ([2].map V.int))) (nl : l2 ≠ sysModules) (hd : H dd = some (.dK [(.inr "a", .int 1)]))
    (h : [V.non, .int 0, .bl true, .str "part", .ref t, .ref l2, .ref dd, .int (10 ^ 39)][i]? = some v) : ∃ d, Dat0 H' v d ∧ Nice d := by
  have big : Nice (.int (10 ^ 39)) := ⟨by decide +kernel, by decide +kernel, by decide +kernel⟩
  match i, h with
  | 0, h => cases h; exact ⟨_, .non, by decide +kernel, by decide +kernel, by decide +kernel⟩
  | 1, h => cases h; exact ⟨_, .int 0, by decide +kernel, by decide +kernel, by decide +kernel⟩
  | 2, h => cases h; exact ⟨_, .bl true, by decide +kernel, by decide +kernel, by decide +kernel⟩
  | 3, h => cases h; exact ⟨_, .str "part", by decide +kernel, by decide +kernel, by decide +kernel⟩
  | 4, h => cases h; exact ⟨_, dat_but hP hB (.tup ht), by decide +kernel, by decide +kernel, by decide +kernel⟩
  | 5, h => cases h; exact ⟨_, dat_but hP hB (.lst hl nl), by decide +kernel, by decide +kernel, by decide +kernel⟩
  | 6, h => cases h; exact ⟨_, dat_but hP hB (.dct hd), by decide +kernel, by decide +kernel, by decide +kernel⟩
  | 7, h => cases h; exact ⟨_, .int _, big⟩
  | n + 8, h => exact absurd (List.getElem?_eq_some_iff.mp h).1 (by simp)
theorem four {H H' : Hp} {p l t : Addr} {ns : List Int} {a b : Int} {i : Nat} {v : V} (hP : PenAt H p l ns a b) (hB : But p H H') (ht : H t = some (.tup ([0, 0].map V.int)))
    (h : [V.str "line", .int 7, .non, .ref t][i]? = some v) : ∃ d, Dat0 H' v d ∧ Nice d := by
  match i, h with
  | 0, h => cases h; exact ⟨_, .str "line", by decide +kernel, by decide +kernel, by decide +kernel⟩
  | 1, h => cases h; exact ⟨_, .int 7, by decide +kernel, by decide +kernel, by decide +kernel⟩
  | 2, h => cases h; exact ⟨_, .non, by decide +kernel, by decide +kernel, by decide +kernel⟩
  | 3, h => cases h; exact ⟨_, dat_but hP hB (.tup ht), by decide +kernel, by decide +kernel, by decide +kernel⟩
  | n + 4, h => exact absurd (List.getElem?_eq_some_iff.mp h).1 (by simp)
set_option maxHeartbeats 4000000 in
theorem ok__law_errors_right {f fP fM fC fE : Addr} {fd fdP fdM fdC fdE : FuncData} (F : Fun K "_law_errors_right" "_law_errors_right" s__law_errors_right f fd) (T : TX K mg Cs fI fdI B) (mR : mg "repr" = none)
    (GP : FnOk P w K mg base CX0 2 fP fdP ["_law_pen_here", "_law_some"] (spPick K)) (gP : mg "_law_pick" = some (.ref fP)) (kP : PySem.W.keepIn K (.ref fP) = true) (bP : Binds K fdP ["_law_pen_here", "_law_some"] [])
    (GM : FnOk P w K mg base CX0 4 fM fdM ["_law_value", "_law_more"] (spMade Cs)) (gM : mg "_law_made" = some (.ref fM)) (kM : PySem.W.keepIn K (.ref fM) = true) (bM : Binds K fdM ["_law_value", "_law_more"] [])
    (GC : FnOk P w K mg base CX0 1 fC fdC ["_law_error"] (spClasses Cs)) (gC : mg "_law_classes" = some (.ref fC)) (kC : PySem.W.keepIn K (.ref fC) = true) (bC : Binds K fdC ["_law_error"] [])
    (GE : FnOk P w K mg base CX0 1 fE fdE ["_law_error"] (spIsErr Cs)) (gE : mg "_law_is_error" = some (.ref fE)) (kE : PySem.W.keepIn K (.ref fE) = true) (bE : Binds K fdE ["_law_error"] []) :
    FnG P w K mg base CX0 5 f fd ["_law_pen_here"] (spRight 2) := by
  have b5 := bd5 T
  have b11 := bd11 T
  have b12 := bd12 T
  refine F.okG sc__law_errors_right (fun vs H Q E h => ?_) (fun cdv A outer s H vs Q E gd0 hr h => ?_)
  · obtain ⟨p, l, ns, a, b, rfl, _⟩ := h
    rfl
  · obtain ⟨p, l, ns, a, b, rfl, hP, ha, k⟩ := h
    have hrI : Room 2 _ := hr.mono (by decide)
    have hrP : Room 2 _ := hr.mono (by decide)
    have hrM : Room 4 _ := hr
    have hrC : Room 1 _ := hr.mono (by decide)
    have hrE : Room 1 _ := hr.mono (by decide)
    have gd : (cxOf CX0 P w K mg base N__law_errors_right "_law_errors_right" (defScope s__law_errors_right) f cdv A outer s H E).nox.A.guards = some [] := gd0
    refine ⟨_, (C8.pss_cut (ps_set (i := 1) sc__law_errors_right.nd rfl (Or.inl rfl) (by exact (pe_call GP hrP rfl gP kP bP .nil pass0 (pa_cons (pv 0) (pa_cons (pe_lst (pa_cons pe_non (pa_cons pe_int (pa_cons pe_bl (pa_cons pe_str (pa_cons (pe_tup (pa_cons pe_int pa_nil)) (pa_cons (pe_lstS (pa_cons pe_int pa_nil)) (pa_cons (pe_disp (pps_cons pe_str pe_int pps_nil) rfl rfl (by decide) (by decide)) (pa_cons (pe_op op_pow pe_int pe_int) pa_nil))))))))) pa_nil)))))
 (C8.pss_cut (ps_set (i := 2) sc__law_errors_right.nd rfl (Or.inl rfl) (by exact (pe_call GP hrP rfl gP kP bP .nil pass0 (pa_cons (pv 0) (pa_cons (pe_lst (pa_cons pe_str (pa_cons pe_int (pa_cons pe_non (pa_cons (pe_tup (pa_cons pe_int (pa_cons pe_int pa_nil))) pa_nil))))) pa_nil)))))
 (C8.pss_cut (ps_set (i := 3) sc__law_errors_right.nd rfl (Or.inl rfl) (by exact (pe_call GM hrM rfl gM kM bM .nil pass0 (pa_cons (pv 1) (pa_cons (pv 2) pa_nil)))))
 (C8.pss_cut (ps_for PassesOwn.never rfl (pi_range1 rfl T.m_range (pa_cons (pe_callB call_len_seq (by rfl) T.m_len (by decide +kernel) (pa_cons (pv 3) pa_nil)) pa_nil)) (pg_name (i := 4) sc__law_errors_right.nd rfl (Or.inl rfl))
 (pss_cons (ps_asg (pe_ix ix_list (pv 3) (pv 4) (fun _ _ => rfl)) (pg_tup rfl (pgs_cons (pg_name (i := 5) sc__law_errors_right.nd rfl (Or.inl rfl)) (pgs_cons (pg_name (i := 6) sc__law_errors_right.nd rfl (Or.inl rfl)) pgs_nil))))
 (pss_one (ps_if (PW.pt (pw_or (pt_cmpR (op_neD hr.units) (pe_call GC hrC rfl gC kC bC .nil pass0 (pa_cons (pv 5) pa_nil)) (pe_lst (pa_cons (pv 4) pa_nil)) (nomark _)) (pw_or (pt_not (pt_val (pe_call GE hrE rfl gE kE bE .nil pass0 (pa_cons (pv 5) pa_nil)))) (pw_or1 (pt_cmpR op_ne (pe_callB (call_reprG gd hr.units) (by rfl) mR (by decide +kernel) (pa_cons (pv 6) pa_nil)) (pe_callB (call_reprG gd hr.units) (by rfl) mR (by decide +kernel) (pa_cons (pv 1) pa_nil)) (nomark _)))))) (pss_one (ps_ret pe_bl)) pss_nil))))
 (C8.pss_cut (ps_set (i := 7) sc__law_errors_right.nd rfl (Or.inl rfl) (pe_lst (pa_cons (pe_newX (T.i11) (ok_i11 T) hrI b11 rfl T.g11 mo2 (pa_cons (pv 2) (pa_cons (pv 1) pa_nil))) (pa_cons (pe_newX (T.i12) (ok_i12 T) hrI b12 rfl T.g12 mo2 (pa_cons (pv 2) (pa_cons (pv 1) pa_nil))) pa_nil))))
 (C8.pss_cut (ps_if (pt_cmpR op_ne (pe_callB (call_reprG gd hr.units) (by rfl) mR (by decide +kernel) (pa_cons (pe_lstS (pa_cons (pe_xat (pe_ix ix_list (pv 7) pe_int (fun _ _ => rfl))) (pa_cons (pe_xat (pe_ix ix_list (pv 7) pe_int (fun _ _ => rfl))) (pa_cons (pe_xat (pe_ix ix_list (pv 7) pe_int (fun _ _ => rfl))) (pa_cons (pe_xat (pe_ix ix_list (pv 7) pe_int (fun _ _ => rfl))) pa_nil))))) pa_nil)) (pe_callB (call_reprG gd hr.units) (by rfl) mR (by decide +kernel) (pa_cons (pe_lstS (pa_cons (pv 2) (pa_cons (pv 1) (pa_cons (pv 2) (pa_cons (pv 1) pa_nil))))) pa_nil)) (nomark _)) (pss_one (ps_ret pe_bl)) pss_nil)
 (pss_one (ps_ret (pe_and (pe_cmpR (op_eqD hr.units) (pe_call GC hrC rfl gC kC bC .nil pass0 (pa_cons (pe_mkx0 PySem.F.excBase_ValueError T.e13 T.x13.oex.kC rfl T.g13) pa_nil)) (pe_lst (pa_cons pe_int pa_nil)) (nomark _)) (pe_and (pe_call GE hrE rfl gE kE bE .nil pass0 (pa_cons (pe_mkx0 PySem.F.excBase_ValueError T.e13 T.x13.oex.kC rfl T.g13) pa_nil)) (pe_one (pe_cmpR op_eq (pe_callB (call_reprG gd hr.units) (by rfl) mR (by decide +kernel) (pa_cons (pe_xat (pe_newX (T.i5) (ok_i5 T) hrI b5 rfl T.g5 mo1 (pa_cons (pv 1) pa_nil))) pa_nil)) (pe_callB (call_reprG gd hr.units) (by rfl) mR (by decide +kernel) (pa_cons (pv 1) pa_nil)) (nomark _))))))))))))), ?_⟩
    refine ⟨fun σ H1 => ∃ (x : V) (d : PyData), σ = [some (.ref p), some x, none, none, none, none, none, none] ∧ Pen2 H H1 p l ns a 1 ∧ Dat0 H1 x d ∧ Nice d, ?_, ?_⟩
    · refine ⟨_, rfl, (by show 1 ≤ sizeLine; decide), fun t ht => ?_⟩
      refine ⟨(by show 1 ≤ sizeLine; decide), fun l2 hl2 nl2 => ?_⟩
      intro dd hdd
      refine ⟨upd_same, [(.inr "a", .int 1)], rfl, by decide, ?_⟩
      refine ⟨_, _, rfl, rfl, ⟨by decide, by decide, by decide⟩, ?_⟩
      refine ⟨(by show 8 ≤ sizeLine; decide), fun q hq => ?_⟩
      have c1 : Same (upd H t (.tup [.int 1])) (upd (upd H t (.tup [.int 1])) l2 (.lst [.int 2])) := (Same.refl _).new hl2
      have c2 : Same (upd (upd H t (.tup [.int 1])) l2 (.lst [.int 2])) (upd (upd (upd (upd H t (.tup [.int 1])) l2 (.lst [.int 2])) dd (.dK [])) dd (.dK (mergeK [] [(.inr "a", .int 1)]))) := by
        rw [upd_upd]
        exact (Same.refl _).new hdd
      have s0 : Same H (upd H t (.tup [.int 1])) := (Same.refl _).new ht
      have s3 := (s0.trans c1).trans c2
      have nqp : q ≠ p := (ne_of_none (s3 _ _ hP.pen) hq).symm
      have c3 := (Same.refl (upd (upd (upd (upd H t (.tup [.int 1])) l2 (.lst [.int 2])) dd (.dK [])) dd (.dK (mergeK [] [(.inr "a", .int 1)])))).new (o := .lst [V.non, .int 0, .bl true, .str "part", .ref t, .ref l2, .ref dd, .int (10 ^ 39)]) hq
      have s4 := s3.trans c3
      refine ⟨p, l, q, ns, a, b, [V.non, .int 0, .bl true, .str "part", .ref t, .ref l2, .ref dd, .int (10 ^ 39)], rfl, hP.same s4, by omega, SqL.of upd_same, nqp, (by show 0 < 8; decide), (by show 8 ≤ 1000; decide), fun H' i v a' b' hv e1 e2 hB hR => ?_⟩
      obtain ⟨d, hd1, hd2⟩ := eight (hP.same s4) hB (c3 _ _ (c2 _ _ (c1 _ _ upd_same))) (c3 _ _ (c2 _ _ upd_same)) nl2 (c3 _ _ upd_same) hv
      exact ⟨v, d, rfl, ⟨(But.of s4).trans hB, a', b', hR, e1, e2⟩, hd1, hd2⟩
    rintro σ H1 ⟨x, d, rfl, ⟨B1, a1, b1, hR1, u1, u2⟩, hD, hN⟩
    refine ⟨fun σ H2 => ∃ (y : V) (e : PyData), σ = [some (.ref p), some x, some y, none, none, none, none, none] ∧ Pen2 H H2 p l ns a 2 ∧ Dat0 H2 x d ∧ Dat0 H2 y e ∧ Nice e, ?_, ?_⟩
    · refine ⟨_, rfl, (by show 2 ≤ sizeLine; decide), fun t ht => ?_⟩
      refine ⟨(by show 4 ≤ sizeLine; decide), fun q hq => ?_⟩
      have s1 : Same H1 (upd H1 t (.tup [.int 0, .int 0])) := (Same.refl _).new ht
      have nqp : q ≠ p := (ne_of_none (s1 _ _ hR1.pen) hq).symm
      have c1 := (Same.refl (upd H1 t (.tup [.int 0, .int 0]))).new (o := .lst [V.str "line", .int 7, .non, .ref t]) hq
      have s2 := s1.trans c1
      refine ⟨p, l, q, ns, a1, b1, [V.str "line", .int 7, .non, .ref t], rfl, hR1.same s2, by omega, SqL.of upd_same, nqp, (by show 0 < 4; decide), (by show 4 ≤ 1000; decide), fun H' i v a' b' hv e1 e2 hB hR => ?_⟩
      obtain ⟨e, he1, he2⟩ := four (hR1.same s2) hB (c1 _ _ upd_same) hv
      exact ⟨v, e, rfl, ⟨(B1.trans (But.of s2)).trans hB, a', b', hR, by omega, by omega⟩, dat_but (hR1.same s2) hB (dat_same s2 hD), he1, he2⟩
    clear hD B1 hR1 u1 u2
    rintro σ H2 ⟨y, e, rfl, B2, hD, hE, hNe⟩
    have pen2 : ∀ {H3 : Hp}, Same H2 H3 → Pen2 H H3 p l ns a 2 := fun {H3} s => ⟨B2.but.trans (But.of s), let ⟨a', b', q, z⟩ := B2.at_; ⟨a', b', q.same s, z⟩⟩
    refine ⟨fun σ H3 => ∃ (q : Addr) (ps : List Addr), σ = [some (.ref p), some x, some y, some (.ref q), none, none, none, none] ∧ Same H2 H3 ∧ H3 q = some (.lst (ps.map V.ref)) ∧ ps.length = 13 ∧ ∀ i u, ps[i]? = some u → RowAt Cs H3 u i x, ?_, ?_⟩
    · refine ⟨_, rfl, _, rfl, x, y, rfl, fun H3 q ps s3 n3 l3 g3 r3 => ?_⟩
      exact ⟨q, ps, rfl, s3, l3, g3, r3⟩
    rintro σ H3 ⟨q, ps, rfl, s3, hq, hps, rows⟩
    refine ⟨fun σ H4 => ∃ (o4 o5 o6 : Option V), σ = [some (.ref p), some x, some y, some (.ref q), o4, o5, o6, none] ∧ Same H3 H4, ?_, ?_⟩
    · refine ⟨_, rfl, q, _, rfl, .inl (SqL.of hq), _, rfl, (by rw [List.length_map, hps]; decide), (by rw [List.length_map, hps]; decide), ?_⟩
      rw [List.length_map, hps]
      refine for_range (fun i σ H4 => ∃ (o4 o5 o6 : Option V), σ = [some (.ref p), some x, some y, some (.ref q), o4, o5, o6, none] ∧ Same H3 H4) ⟨_, _, _, rfl, Same.refl _⟩ ?_ ?_
      · rintro i σ H4 hi ⟨o4, o5, o6, rfl, s4⟩
        have hi13 : i < 13 := hi
        have hpi : i < ps.length := by omega
        obtain ⟨ai, fsi, r1, r2⟩ := rows i ps[i] (List.getElem?_eq_getElem hpi)
        have hIx : (ps.map V.ref)[((0 : Int) + (i : Nat)).toNat]? = some (.ref ps[i]) := by
          rw [show ((0 : Int) + (i : Nat)).toNat = i by omega, List.getElem?_map, List.getElem?_eq_getElem hpi]
          rfl
        refine ⟨_, rfl, _, rfl, q, _, _, _, rfl, rfl, SqL.of (s4 _ _ hq), atI_of (by omega) hIx, ?_⟩
        refine ⟨_, _, rfl, SqT.of (s4 _ _ r1), rfl, _, _, rfl, _, _, rfl, rfl, ?_⟩
        refine ⟨_, rfl, ai, i, rfl, IsErr.of (by omega) (r2.same s4), fun H5 qc s5 n5 e5 => ?_⟩
        refine ⟨_, rfl, (by show 1 ≤ sizeLine; decide), fun q6 hq6 => ?_⟩
        have s6 : Same H3 (upd H5 q6 (.lst [.int ((0 : Int) + (i : Nat))])) := (s4.trans s5).new hq6
        have c6 := (Same.refl H5).new (o := .lst [.int ((0 : Int) + (i : Nat))]) hq6
        refine ⟨.list [.int (i : Int)], .list [.int ((0 : Int) + (i : Nat))], .lst (SqL.of (c6 _ _ e5)) (.cons (.int _) .nil), .lst (SqL.of upd_same) (.cons (.int _) .nil), shaped_ints [(i : Int)], shaped_ints [(0 : Int) + (i : Nat)], _, rfl, ?_⟩
        refine ite_not (by rw [Int.zero_add]; exact eqv_one _) ?_
        refine ⟨_, rfl, ai, i, rfl, IsErr.of (by omega) (r2.same s6), _, rfl, iteF ?_⟩
        have hx := (dat_same (s3.trans s6) hD).rd (X := (cxOf CX0 P w K mg base N__law_errors_right "_law_errors_right" (defScope s__law_errors_right) f cdv A outer s H E).nox)
        have dp : d.depth ≤ 20 := Nat.le_trans hN.deep (by decide)
        have sz : d.shown.length ≤ sizeLine := Nat.le_trans hN.long (by decide)
        refine ⟨_, rfl, x, d, rfl, hx.v, hN.show_, dp, sz, _, rfl, x, d, rfl, hx.v, hN.show_, dp, sz, rfl, _, rfl, iteNS rfl ?_⟩
        exact ⟨_, _, _, rfl, s6⟩
      · rintro σ H4 ⟨o4, o5, o6, rfl, s4⟩
        exact ⟨o4, o5, o6, rfl, s4⟩
    clear rows hps hq
    rintro σ H4 ⟨o4, o5, o6, rfl, s4'⟩
    have s4 := s3.trans s4'
    clear s3 s4'
    refine ⟨fun σ H5 => ∃ (q9 a7 a8 : Addr), σ = [some (.ref p), some x, some y, some (.ref q), o4, o5, o6, some (.ref q9)] ∧ Same H2 H5 ∧ H5 q9 = some (.lst [.ref a7, .ref a8]) ∧ ErrAt H5 a7 (Cs 11) (fs11 [y, x]) ∧ ErrAt H5 a8 (Cs 12) (fs12 [y, x]), ?_, ?_⟩
    · refine ⟨_, rfl, _, rfl, rfl, fun a7 H7 n7 s7 e7 => ?_⟩
      refine ⟨_, rfl, _, rfl, rfl, fun a8 H8 n8 s8 e8 => ?_⟩
      refine ⟨(by show 2 ≤ sizeLine; decide), fun q9 hq9 => ?_⟩
      have c9 := (Same.refl H8).new (o := .lst [.ref a7, .ref a8]) hq9
      exact ⟨q9, a7, a8, rfl, ((s4.trans s7).trans s8).new hq9, upd_same, (e7.same s8).same c9, e8.same c9⟩
    rintro σ H5 ⟨q9, a7, a8, rfl, s5, hq9, ⟨d7, e71, e72⟩, ⟨d8, e81, e82⟩⟩
    obtain ⟨n1, n2, n3⟩ := nice_four hN hNe
    refine ⟨fun σ H6 => ∃ o7 : Option V, σ = [some (.ref p), some x, some y, some (.ref q), o4, o5, o6, o7] ∧ Same H2 H6, ?_, ?_⟩
    · refine ⟨_, rfl, q9, _, _, _, rfl, rfl, SqL.of hq9, rfl, a7, Cs 11, d7, _, y, rfl, e71, e72, T.i11.cls, T.n11_line, look2 (by decide +kernel), ?_⟩
      refine ⟨_, rfl, q9, _, _, _, rfl, rfl, SqL.of hq9, rfl, a7, Cs 11, d7, _, x, rfl, e71, e72, T.i11.cls, T.n11_word, (by simp [fs11, List.lookup]), ?_⟩
      refine ⟨_, rfl, q9, _, _, _, rfl, rfl, SqL.of hq9, rfl, a8, Cs 12, d8, _, y, rfl, e81, e82, T.i12.cls, T.n12_what, look2 (by decide +kernel), ?_⟩
      refine ⟨_, rfl, q9, _, _, _, rfl, rfl, SqL.of hq9, rfl, a8, Cs 12, d8, _, x, rfl, e81, e82, T.i12.cls, T.n12_most, (by simp [fs12, List.lookup]), ?_⟩
      refine ⟨(by show 4 ≤ sizeLine; decide), fun q10 hq10 nq10 => ?_⟩
      have s10 : Same H2 (upd H5 q10 (.lst [y, x, y, x])) := s5.new hq10
      have dx := dat_same s10 hD
      have dy := dat_same s10 hE
      refine ⟨_, .list [e, d, e, d], rfl, (rd_list upd_same nq10 (.cons dy.rd (.cons dx.rd (.cons dy.rd (.cons dx.rd .nil))))).v, n1, n2, n3, ?_⟩
      refine ⟨_, rfl, _, rfl, _, rfl, _, rfl, (by show 4 ≤ sizeLine; decide), fun q11 hq11 nq11 => ?_⟩
      have s11 : Same H2 (upd (upd H5 q10 (.lst [y, x, y, x])) q11 (.lst [y, x, y, x])) := s10.new hq11
      have dx' := dat_same s11 hD
      have dy' := dat_same s11 hE
      refine ⟨_, .list [e, d, e, d], rfl, (rd_list upd_same nq11 (.cons dy'.rd (.cons dx'.rd (.cons dy'.rd (.cons dx'.rd .nil))))).v, n1, n2, n3, rfl, _, rfl, iteNS rfl ?_⟩
      exact ⟨_, rfl, s11⟩
    clear s5 hq9 e71 e72 e81 e82 s4
    rintro σ H6 ⟨o7, rfl, s6⟩
    intro a10 h10
    have s10 : Same H2 (upd H6 a10 (exo a10 (Cs 13) none)) := s6.new h10
    refine ⟨a10, 13, rfl, ⟨by decide, none, upd_same, fun b z => nomatch z⟩, fun H11 q11 s11 n11 e11 => ?_⟩
    refine ⟨(by show 1 ≤ sizeLine; decide), fun q12 h12 => ?_⟩
    have c12 := (Same.refl H11).new (o := .lst [.int 13]) h12
    refine ⟨.list [.int ((13 : Nat) : Int)], .list [.int 13], .lst (SqL.of (c12 _ _ e11)) (.cons (.int _) .nil), .lst (SqL.of upd_same) (.cons (.int _) .nil), shaped_ints [((13 : Nat) : Int)], shaped_ints [(13 : Int)], _, rfl, ?_⟩
    refine ite_yes (eqv_one 13) ?_
    intro a13 h13
    have s13 : Same H2 (upd (upd H11 q12 (.lst [.int 13])) a13 (exo a13 (Cs 13) none)) := ((s10.trans s11).new h12).new h13
    refine ⟨a13, 13, rfl, ⟨by decide, none, upd_same, fun b z => nomatch z⟩, _, rfl, iteT ?_⟩
    refine ⟨_, rfl, rfl, fun a14 H14 n14 s14 e14 => ?_⟩
    obtain ⟨d14, f1, f2⟩ := e14
    have s15 := s13.trans s14
    have dx := dat_same s15 hD
    have dp : d.depth ≤ 20 := Nat.le_trans hN.deep (by decide)
    have sz : d.shown.length ≤ sizeLine := Nat.le_trans hN.long (by decide)
    refine ⟨a14, Cs 5, d14, _, x, rfl, f1, f2, T.i5.cls, T.n5_at, (by simp [fs5, List.lookup]), x, d, rfl, dx.rd.v, hN.show_, dp, sz, ?_⟩
    refine ⟨_, rfl, x, d, rfl, dx.rd.v, hN.show_, dp, sz, rfl, ?_⟩
    have fin := k _ (pen2 s15)
    show Q (.bl (decide (V.str d.shown = V.str d.shown))) _
    rw [decide_eq_true rfl]
    exact fin
end
end Toy
set_option maxRecDepth 100000
namespace Toy
open PySem L2
abbrev s__law_kinds_right : Stmt := top 30
theorem Pen2.go {H H1 H2 : Hp} {p l : Addr} {ns : List Int} {a n : Int} (h : Pen2 H H1 p l ns a n) (s : Same H1 H2) : Pen2 H H2 p l ns a n :=
  ⟨h.but.trans (But.of s), let ⟨a', b', q, z⟩ := h.at_; ⟨a', b', q.same s, z⟩⟩
theorem of_ints {xs : List Int} {j : Nat} {v : V} (h : (xs.map V.int)[j]? = some v) : ∃ i, v = .int i := by
  rw [List.getElem?_map] at h
  cases e : xs[j]? with
  | none => rw [e] at h; cases h
  | some i => rw [e] at h; exact ⟨i, (Option.some.inj h).symm⟩
theorem not_int {v : V} (h : isI v = false) : numV v = false ∧ ∀ lo hi, withinV lo hi v = false := by
  cases v with
  | int i => cases h
  | _ => exact ⟨rfl, fun _ _ => rfl⟩
theorem eqv_b3 (a b c : Bool) : PyData.eqv (.list [.bool a, .bool b, .bool c]) (.list [.bool a, .bool b, .bool c]) = true := by
  cases a <;> cases b <;> cases c <;> decide +kernel
theorem shaped_b3 (a b c : Bool) : SeqAt.shaped (.list [.bool a, .bool b, .bool c]) = true := by
  cases a <;> cases b <;> cases c <;> decide +kernel
def words : List Str := ["a", "z", "abcdefgh", "abcdefghi", "", "A", "a1", "a b", "-", "name", "bank"]
theorem of_words {j : Nat} {v : V} (h : (words.map V.str)[j]? = some v) : ∃ z, v = .str z ∧ z.length ≤ 9 ∧ PyData.strOk z = true := by
  rw [List.getElem?_map] at h
  cases e : words[j]? with
  | none => rw [e] at h; cases h
  | some z =>
    rw [e] at h
    have all : ∀ z ∈ words, z.length ≤ 9 ∧ PyData.strOk z = true := by decide +kernel
    exact ⟨z, (Option.some.inj h).symm, all z (List.mem_of_getElem? e)⟩
theorem dp_signs {K : PySem.W.Frag} {H : Hp} : ∀ cs : List Nat, DpAll K H (cs.map fun c => V.str ⟨#[c]⟩) (cs.map fun c => PyData.str ⟨#[c]⟩)
  | [] => .nil
  | c :: r => .cons (.str _) (dp_signs r)
theorem ok_sign {z : Str} (h : PyData.strOk z = true) {c : Nat} (m : c ∈ z.cps.toList) : PyData.strOk ⟨#[c]⟩ = true := by
  have h2 : ∀ i (hi : i < z.cps.size), z.cps[i] < 0x110000 := by simpa [PyData.strOk] using h
  obtain ⟨i, hi, e⟩ := List.getElem_of_mem m
  have h3 := h2 i (by simpa using hi)
  have e2 : z.cps[i]'(by simpa using hi) = c := by simpa using e
  rw [e2] at h3
  simp [PyData.strOk, h3]
theorem shaped_signs (cs : List Nat) (h : ∀ c ∈ cs, PyData.strOk ⟨#[c]⟩ = true) : SeqAt.shaped (.list (cs.map fun c => PyData.str ⟨#[c]⟩)) = true := by
  have q : PyData.canLayAll0 (cs.map fun c => PyData.str ⟨#[c]⟩) = true ∧ PyData.depthAll (cs.map fun c => PyData.str ⟨#[c]⟩) = 0 := by
    induction cs with
    | nil => exact ⟨rfl, rfl⟩
    | cons c r ih =>
      have h1 := h c (List.mem_cons_self ..)
      have h2 := ih fun x m => h x (List.mem_cons_of_mem _ m)
      exact ⟨by simp [PyData.canLayAll0, PyData.canLay0, h1, h2.1], by simp [PyData.depthAll, PyData.depth, h2.2]⟩
  simp [SeqAt.shaped, PyData.canLay0, PyData.depth, q]
theorem eqv_cons_nil (x : PyData) (xs : List PyData) : PyData.eqv (.list (x :: xs)) (.list []) = false := by simp [PyData.eqv, PyData.eqvAll]
theorem eqv_filter (cs : List Nat) : PyData.eqv (.list ((cs.filter fun c => !decide (c ∈ letters.cps.toList)).map fun c => .str ⟨#[c]⟩)) (.list []) = cs.all fun c => decide (c ∈ letters.cps.toList) := by
  induction cs with
  | nil => rfl
  | cons c r ih =>
    rw [List.filter_cons, List.all_cons]
    cases h : decide (c ∈ letters.cps.toList) with
    | true => exact ih
    | false => exact eqv_cons_nil _ _
section
variable {P : Program} {w : World} {K : PySem.W.Frag} {mg : Str → Option Value} {base : Heap}
abbrev N__law_kinds_right : List Str := ["_law_pen_here", "_law_number", "_law_told", "_law_odd", "_law_word", "_law_is_right", "_law_sign"]
theorem sc__law_kinds_right : FnScope N__law_kinds_right ["_law_pen_here"] (defScope s__law_kinds_right) := ⟨rfl, rfl, rfl, by decide +kernel, rfl, by decide +kernel, by decide +kernel⟩
set_option maxHeartbeats 4000000 in
theorem ok__law_kinds_right {f fP fD fI fN fW fM : Addr} {fd fdP fdD fdI fdN fdW fdM : FuncData} (F : Fun K "_law_kinds_right" "_law_kinds_right" s__law_kinds_right f fd) (T : TC mg)
    (GP : FnOk P w K mg base CX0 2 fP fdP ["_law_pen_here", "_law_some"] (spPick K)) (gP : mg "_law_pick" = some (.ref fP)) (kP : PySem.W.keepIn K (.ref fP) = true) (bP : Binds K fdP ["_law_pen_here", "_law_some"] [])
    (GD : FnOk P w K mg base CX0 1 fD fdD ["_law_pen_here", "_law_many"] spDraw) (gD : mg "_law_draw" = some (.ref fD)) (kD : PySem.W.keepIn K (.ref fD) = true) (bD : Binds K fdD ["_law_pen_here", "_law_many"] [])
    (FI : Fun K "is_integer" "is_integer" s_is_integer fI fdI) (GI : FnOk P w K mg base CX0 1 fI fdI ["value"] (spIsInt K)) (gI : mg "is_integer" = some (.ref fI)) (bI : Binds K fdI ["value"] [])
    (FN : Fun K "is_number" "is_number" s_is_number fN fdN) (GN : FnOk P w K mg base CX0 2 fN fdN ["value"] (spNumber K)) (gN : mg "is_number" = some (.ref fN)) (bN : Binds K fdN ["value"] [])
    (FW : Fun K "is_within" "is_within" s_is_within fW fdW) (GW : FnOk P w K mg base CX0 2 fW fdW ["value", "least", "most"] (spWithin K)) (gW : mg "is_within" = some (.ref fW)) (bW : Binds K fdW ["value", "least", "most"] [])
    (FM : Fun K "is_name" "is_name" s_is_name fM fdM) (GM : FnOk P w K mg base CX0 1 fM fdM ["value"] (spName K)) (gM : mg "is_name" = some (.ref fM)) (bM : Binds K fdM ["value"] []) :
    FnOk P w K mg base CX0 3 f fd ["_law_pen_here"] (spRight 5) := by
  have kI := FI.kp
  have kN := FN.kp
  have kW := FW.kp
  have kM := FM.kp
  have bIk : KBn K fdI ["value"] 0 ["value"] (fun us ws => us ++ ws) (fun vs zs => vs ++ zs) := FI.kbn 0 ["value"] _ _ (fun _ _ _ _ _ _ us ws l1 l2 => match us, ws, l1, l2 with | [], [_], _, _ => rfl) fun r q => r.append q
  have bNk : KBn K fdN ["value"] 0 ["value"] (fun us ws => us ++ ws) (fun vs zs => vs ++ zs) := FN.kbn 0 ["value"] _ _ (fun _ _ _ _ _ _ us ws l1 l2 => match us, ws, l1, l2 with | [], [_], _, _ => rfl) fun r q => r.append q
  have bMk : KBn K fdM ["value"] 0 ["value"] (fun us ws => us ++ ws) (fun vs zs => vs ++ zs) := FM.kbn 0 ["value"] _ _ (fun _ _ _ _ _ _ us ws l1 l2 => match us, ws, l1, l2 with | [], [_], _, _ => rfl) fun r q => r.append q
  have bWk : KBn K fdW ["value", "least", "most"] 0 ["most", "least", "value"] (fun us ws => us ++ ws.reverse) (fun vs zs => vs ++ zs.reverse) := FW.kbn 0 ["most", "least", "value"] _ _ (fun _ _ _ _ _ _ us ws l1 l2 => match us, ws, l1, l2 with | [], [_, _, _], _, _ => rfl) fun r q => r.append q.rev
  refine F.ok sc__law_kinds_right (fun vs H Q E h => ?_) (fun cdv A outer s H vs Q E hr h => ?_)
  · obtain ⟨p, l, ns, a, b, rfl, _⟩ := h
    rfl
  · obtain ⟨p, l, ns, a, b, rfl, hP, ha, k⟩ := h
    have hrP : Room 2 _ := hr
    have hrN : Room 2 _ := hr
    have hrW : Room 2 _ := hr
    have hrD : Room 1 _ := hr.mono (by decide)
    have hrI : Room 1 _ := hr.mono (by decide)
    have hrM : Room 1 _ := hr.mono (by decide)
    refine ⟨_, (C8.pss_cut (ps_set (i := 1) sc__law_kinds_right.nd rfl (Or.inl rfl) (by exact (pe_call GP hrP rfl gP kP bP .nil pass0 (pa_cons (pv 0) (pa_cons (pe_lst (pa_cons (pe_un un_neg pe_int) (pa_cons pe_int (pa_cons pe_int (pa_cons pe_int (pa_cons pe_int (pa_cons (pe_call GD hrD rfl gD kD bD .nil pass0 (pa_cons (pv 0) (pa_cons pe_int pa_nil))) (pa_cons (pe_op op_pow pe_int pe_int) (pa_cons (pe_un un_neg (pe_op op_pow pe_int pe_int)) pa_nil))))))))) pa_nil)))))
 (C8.pss_cut (ps_set (i := 2) sc__law_kinds_right.nd rfl (Or.inl rfl) (pe_lst (pa_cons (pe_call GI hrI rfl gI kI bI .nil pass0 (pa_cons (pv 1) pa_nil)) (pa_cons (pe_callK0 GN hrN rfl gN kN bNk pass0 (pk_cons (pv 1) pk_nil)) (pa_cons (pe_call GW hrW rfl gW kW bW .nil pass0 (pa_cons (pv 1) (pa_cons pe_int (pa_cons pe_int pa_nil)))) pa_nil)))))
 (C8.pss_cut (ps_if (pt_cmpR (op_neD hr.units) (pv 2) (pe_lst (pa_cons pe_bl (pa_cons (pe_cmpR op_le pe_int (pv 1) (nomark _)) (pa_cons (pe_chain op_le op_le pe_int (pv 1) pe_int) pa_nil)))) (nomark _)) (pss_one (ps_ret pe_bl)) pss_nil)
 (C8.pss_cut (ps_set (i := 3) sc__law_kinds_right.nd rfl (Or.inl rfl) (by exact (pe_call GP hrP rfl gP kP bP .nil pass0 (pa_cons (pv 0) (pa_cons (pe_lst (pa_cons pe_non (pa_cons pe_bl (pa_cons pe_bl (pa_cons pe_str (pa_cons pe_str (pa_cons (pe_tup (pa_cons pe_int pa_nil)) (pa_cons (pe_lst (pa_cons pe_int pa_nil)) (pa_cons pe_dnewK (pa_cons (pe_disp (pps_cons pe_int pe_int pps_nil) rfl rfl (by decide) (by decide)) pa_nil)))))))))) pa_nil)))))
 (C8.pss_cut (ps_if (pt_cmpR (op_neD hr.units) (pe_lst (pa_cons (pe_callK0 GI hrI rfl gI kI bIk pass0 (pk_cons (pv 3) pk_nil)) (pa_cons (pe_call GN hrN rfl gN kN bN .nil pass0 (pa_cons (pv 3) pa_nil)) (pa_cons (pe_callK0 GW hrW rfl gW kW bWk pass0 (pk_cons pe_int (pk_cons pe_int (pk_cons (pv 3) pk_nil)))) pa_nil)))) (pe_op op_rep (pe_lst (pa_cons pe_bl pa_nil)) pe_int) (nomark _)) (pss_one (ps_ret pe_bl)) pss_nil)
 (C8.pss_cut (ps_set (i := 4) sc__law_kinds_right.nd rfl (Or.inl rfl) (by exact (pe_call GP hrP rfl gP kP bP .nil pass0 (pa_cons (pv 0) (pa_cons (pe_lst (pa_cons pe_str (pa_cons pe_str (pa_cons pe_str (pa_cons pe_str (pa_cons pe_str (pa_cons pe_str (pa_cons pe_str (pa_cons pe_str (pa_cons pe_str (pa_cons pe_str (pa_cons pe_str pa_nil)))))))))))) pa_nil)))))
 (C8.pss_cut (ps_set (i := 5) sc__law_kinds_right.nd rfl (Or.inl rfl) (pe_and (pe_chain op_le op_le pe_int (pe_callB call_len_str (by rfl) T.m_len (by decide +kernel) (pa_cons (pv 4) pa_nil)) pe_int) (pe_one (pe_cmpR (op_eqD hr.units) (pe_lc (own := [("_law_sign", 6)]) (g := (gName 6)) rfl sc__law_kinds_right.nd (pi_str (pv 4)) (blkOk_by (N := N__law_kinds_right) (sc := defScope s__law_kinds_right) (by decide +kernel)) (fun _ _ _ _ _ => (pg_name (i := 6) sc__law_kinds_right.nd rfl (Or.inl rfl))) (fun _ _ _ _ _ => (pts_one (pt_cmpR op_notIn_sign (pv 6) pe_str (by rfl)))) (fun _ _ _ _ _ => (pv 6))) (pe_lst pa_nil) (nomark _)))))
 (pss_one (ps_ret (pe_and (pe_cmpR op_eq (pe_call GM hrM rfl gM kM bM .nil pass0 (pa_cons (pv 4) pa_nil)) (pv 5) (nomark _)) (pe_one (pe_cmpR op_isBl (pe_callK0 GM hrM rfl gM kM bMk pass0 (pk_cons (pe_call GP hrP rfl gP kP bP .nil pass0 (pa_cons (pv 0) (pa_cons (pe_lst (pa_cons pe_non (pa_cons pe_int (pa_cons pe_bl (pa_cons (pe_lst (pa_cons pe_str pa_nil)) (pa_cons (pe_tup (pa_cons pe_str pa_nil)) (pa_cons pe_dnewK pa_nil))))))) pa_nil))) pk_nil)) pe_bl (nomark _))))))))))))), ?_⟩
    refine ⟨fun σ H1 => ∃ i : Int, σ = [some (.ref p), some (.int i), none, none, none, none, none] ∧ Pen2 H H1 p l ns a 2, ?_, ?_⟩
    · refine ⟨_, rfl, _, rfl, _, rfl, p, l, ns, a, b, 70, rfl, hP, by omega, by decide, by decide, fun H1 d a1 b1 d0 d1 u1 u2 B1 R1 => ?_⟩
      refine ⟨_, _, rfl, rfl, ⟨by decide, by decide, by decide⟩, _, _, rfl, rfl, ⟨by decide, by decide, by decide⟩, _, rfl, ?_⟩
      refine ⟨(by show 8 ≤ sizeLine; decide), fun q hq => ?_⟩
      have s1 : Same H1 (upd H1 q (.lst ([-1, 0, 1, 2, 16, d, 10 ^ 39, -(10 ^ 39)].map V.int))) := (Same.refl _).new hq
      refine ⟨p, l, q, ns, a1, b1, [-1, 0, 1, 2, 16, d, 10 ^ 39, -(10 ^ 39)].map V.int, rfl, R1.same s1, by omega, SqL.of upd_same, (ne_of_none R1.pen hq).symm, (by show 0 < 8; decide), (by show 8 ≤ 1000; decide), fun H2 j v a2 b2 hv v1 v2 B2 R2 => ?_⟩
      obtain ⟨i, rfl⟩ := of_ints hv
      exact ⟨i, rfl, ⟨(B1.trans (But.of s1)).trans B2, a2, b2, R2, by omega, by omega⟩⟩
    rintro σ H1 ⟨i, rfl, N1⟩
    refine ⟨fun σ H2 => ∃ q, σ = [some (.ref p), some (.int i), some (.ref q), none, none, none, none] ∧ Same H1 H2 ∧ H2 q = some (.lst [.bl true, .bl (decide (0 ≤ i)), .bl (decide (2 ≤ i ∧ i ≤ 16))]), ?_, ?_⟩
    · refine ⟨_, rfl, .int i, "int", rfl, .int i, _, rfl, rfl, .int i, "int", rfl, .int i, _, rfl, .int i, "int", 2, 16, rfl, .int i, ?_⟩
      refine ⟨(by show 3 ≤ sizeLine; decide), fun q hq => ?_⟩
      exact ⟨q, rfl, (Same.refl _).new hq, upd_same⟩
    rintro σ H2 ⟨q, rfl, s2, hq⟩
    refine ⟨fun σ H3 => σ = [some (.ref p), some (.int i), some (.ref q), none, none, none, none] ∧ Same H1 H3, ?_, ?_⟩
    · refine ⟨_, rfl, _, rfl, _, _, rfl, rfl, _, rfl, _, _, rfl, rfl, _, rfl, ?_⟩
      refine ite2 (fun c => ?_) (fun c => ?_)
      · have c2 : 2 ≤ i := of_decide_eq_true c
        have e : decide (2 ≤ i ∧ i ≤ 16) = decide (i ≤ 16) := by simp [c2]
        refine ⟨_, _, rfl, rfl, (by show 3 ≤ sizeLine; decide), fun q3 hq3 => ?_⟩
        have c3 := (Same.refl H2).new (o := .lst [.bl true, .bl (decide (0 ≤ i)), .bl (decide (i ≤ 16))]) hq3
        rw [e] at hq
        refine ⟨.list [.bool true, .bool (decide (0 ≤ i)), .bool (decide (i ≤ 16))], .list [.bool true, .bool (decide (0 ≤ i)), .bool (decide (i ≤ 16))], .lst (SqL.of (c3 _ _ hq)) (.cons (.bl _) (.cons (.bl _) (.cons (.bl _) .nil))), .lst (SqL.of upd_same) (.cons (.bl _) (.cons (.bl _) (.cons (.bl _) .nil))), shaped_b3 _ _ _, shaped_b3 _ _ _, _, rfl, ?_⟩
        refine ite_not (eqv_b3 _ _ _) ?_
        exact ⟨rfl, s2.new hq3⟩
      · have c2 : ¬ 2 ≤ i := fun z => c (decide_eq_true z)
        have e : decide (2 ≤ i ∧ i ≤ 16) = false := by simp [c2]
        refine ⟨(by show 3 ≤ sizeLine; decide), fun q3 hq3 => ?_⟩
        have c3 := (Same.refl H2).new (o := .lst [.bl true, .bl (decide (0 ≤ i)), .bl false]) hq3
        rw [e] at hq
        refine ⟨.list [.bool true, .bool (decide (0 ≤ i)), .bool false], .list [.bool true, .bool (decide (0 ≤ i)), .bool false], .lst (SqL.of (c3 _ _ hq)) (.cons (.bl _) (.cons (.bl _) (.cons (.bl _) .nil))), .lst (SqL.of upd_same) (.cons (.bl _) (.cons (.bl _) (.cons (.bl _) .nil))), shaped_b3 _ _ _, shaped_b3 _ _ _, _, rfl, ?_⟩
        refine ite_not (eqv_b3 _ _ _) ?_
        exact ⟨rfl, s2.new hq3⟩
    clear hq s2
    rintro σ H3 ⟨rfl, s3⟩
    have N3 := N1.go s3
    clear N1 s3
    refine ⟨fun σ H4 => ∃ (v : V) (S : String), σ = [some (.ref p), some (.int i), some (.ref q), some v, none, none, none] ∧ Pen2 H H4 p l ns a 3 ∧ Plain K H4 v S ∧ isI v = false, ?_, ?_⟩
    · obtain ⟨B3, a3, b3, R3, u1, u2⟩ := N3
      refine ⟨_, rfl, (by show 1 ≤ sizeLine; decide), fun t ht => ?_⟩
      refine ⟨(by show 1 ≤ sizeLine; decide), fun l2 hl2 => ?_⟩
      intro e1 he1 e2 he2
      refine ⟨upd_same, [(.inl 0, .int 1)], rfl, by decide, ?_⟩
      refine ⟨(by show 9 ≤ sizeLine; decide), fun q2 hq2 => ?_⟩
      have c1 : Same H3 (upd H3 t (.tup [.int 0])) := (Same.refl _).new ht
      have c2 := (Same.refl (upd H3 t (.tup [.int 0]))).new (o := .lst [.int 1]) hl2
      have c3 := (Same.refl (upd (upd H3 t (.tup [.int 0])) l2 (.lst [.int 1]))).new (o := .dK []) he1
      have c4 : Same (upd (upd (upd H3 t (.tup [.int 0])) l2 (.lst [.int 1])) e1 (.dK [])) (upd (upd (upd (upd (upd H3 t (.tup [.int 0])) l2 (.lst [.int 1])) e1 (.dK [])) e2 (.dK [])) e2 (.dK (mergeK [] [(.inl 0, .int 1)]))) := by
        rw [upd_upd]
        exact (Same.refl _).new he2
      have c5 := (Same.refl (upd (upd (upd (upd (upd H3 t (.tup [.int 0])) l2 (.lst [.int 1])) e1 (.dK [])) e2 (.dK [])) e2 (.dK (mergeK [] [(.inl 0, .int 1)])))).new (o := .lst [V.non, .bl true, .bl false, .str "0", .str "", .ref t, .ref l2, .ref e1, .ref e2]) hq2
      have s5 := ((((c1.trans c2).trans c3).trans c4).trans c5)
      have s4 := (((c1.trans c2).trans c3).trans c4)
      have R5 := R3.same s5
      refine ⟨p, l, q2, ns, a3, b3, [V.non, .bl true, .bl false, .str "0", .str "", .ref t, .ref l2, .ref e1, .ref e2], rfl, R5, by omega, SqL.of upd_same, (ne_of_none (s4 _ _ R3.pen) hq2).symm, (by show 0 < 9; decide), (by show 9 ≤ 1000; decide), fun H4 j v a4 b4 hv v1 v2 B4 R4 => ?_⟩
      have f1 := c5 _ _ (c4 _ _ (c3 _ _ (c2 _ _ (upd_same (H := H3) (a := t) (o := .tup [.int 0])))))
      have f2 := c5 _ _ (c4 _ _ (c3 _ _ (upd_same (H := upd H3 t (.tup [.int 0])) (a := l2) (o := .lst [.int 1]))))
      have f3 := c5 _ _ (c4 _ _ (upd_same (H := upd (upd H3 t (.tup [.int 0])) l2 (.lst [.int 1])) (a := e1) (o := .dK [])))
      have f4 := c5 _ _ (upd_same (H := upd (upd (upd (upd H3 t (.tup [.int 0])) l2 (.lst [.int 1])) e1 (.dK [])) e2 (.dK [])) (a := e2) (o := .dK (mergeK [] [(.inl 0, .int 1)])))
      have off : ∀ {z : Addr} {o : HO}, upd (upd (upd (upd (upd (upd H3 t (.tup [.int 0])) l2 (.lst [.int 1])) e1 (.dK [])) e2 (.dK [])) e2 (.dK (mergeK [] [(.inl 0, .int 1)]))) q2 (.lst [V.non, .bl true, .bl false, .str "0", .str "", .ref t, .ref l2, .ref e1, .ref e2]) z = some o →
          o ≠ .lst [.ref l, .int a3, .int b3] → H4 z = some o := fun {z o} e n => B4 _ _ (fun w => by rw [w, R5.pen] at e; exact n (Option.some.inj e).symm) e
      obtain ⟨S, g1, g2⟩ : ∃ S, Plain K H4 v S ∧ isI v = false := by
        match j, hv with
        | 0, h => cases h; exact ⟨_, .non, rfl⟩
        | 1, h => cases h; exact ⟨_, .bl _, rfl⟩
        | 2, h => cases h; exact ⟨_, .bl _, rfl⟩
        | 3, h => cases h; exact ⟨_, .str _, rfl⟩
        | 4, h => cases h; exact ⟨_, .str _, rfl⟩
        | 5, h => cases h; exact ⟨_, .tup (off f1 (by intro z; cases z)), rfl⟩
        | 6, h => cases h; exact ⟨_, .lst (off f2 (by intro z; cases z)), rfl⟩
        | 7, h => cases h; exact ⟨_, .dK (off f3 (by intro z; cases z)), rfl⟩
        | 8, h => cases h; exact ⟨_, .dK (off f4 (by intro z; cases z)), rfl⟩
        | n + 9, h => exact absurd (List.getElem?_eq_some_iff.mp h).1 (by simp)
      exact ⟨v, S, rfl, ⟨(B3.trans (But.of s5)).trans B4, a4, b4, R4, by omega, by omega⟩, g1, g2⟩
    clear N3
    rintro σ H4 ⟨v, S, rfl, N4, pl, hi⟩
    obtain ⟨hn, hw⟩ := not_int hi
    refine ⟨fun σ H5 => σ = [some (.ref p), some (.int i), some (.ref q), some v, none, none, none] ∧ Same H4 H5, ?_, ?_⟩
    · refine ⟨_, rfl, rfl, v, S, rfl, pl, _, rfl, v, S, rfl, pl, _, rfl, rfl, v, S, 0, 9, rfl, pl, ?_⟩
      refine ⟨(by show 3 ≤ sizeLine; decide), fun q5 hq5 => ?_⟩
      refine ⟨(by show 1 ≤ sizeLine; decide), fun q6 hq6 => ?_⟩
      refine ⟨q6, 3, _, rfl, rfl, upd_same, by decide, by decide, (by show 1 * 3 ≤ sizeLine; decide), fun q7 hq7 => ?_⟩
      have c5 := (Same.refl H4).new (o := .lst [.bl (isI v), .bl (numV v), .bl (withinV 0 9 v)]) hq5
      have c6 := (Same.refl (upd H4 q5 (.lst [.bl (isI v), .bl (numV v), .bl (withinV 0 9 v)]))).new (o := .lst [.bl false]) hq6
      have c7 := (Same.refl (upd (upd H4 q5 (.lst [.bl (isI v), .bl (numV v), .bl (withinV 0 9 v)])) q6 (.lst [.bl false]))).new (o := .lst [.bl false, .bl false, .bl false]) hq7
      refine ⟨.list [.bool (isI v), .bool (numV v), .bool (withinV 0 9 v)], .list [.bool false, .bool false, .bool false], .lst (SqL.of (c7 _ _ (c6 _ _ upd_same))) (.cons (.bl _) (.cons (.bl _) (.cons (.bl _) .nil))), .lst (SqL.of upd_same) (.cons (.bl _) (.cons (.bl _) (.cons (.bl _) .nil))), shaped_b3 _ _ _, shaped_b3 _ _ _, _, rfl, ?_⟩
      refine ite_not (by rw [hi, hn, hw 0 9]; exact eqv_b3 _ _ _) ?_
      exact ⟨rfl, (c5.trans c6).trans c7⟩
    clear pl hn hw hi
    rintro σ H5 ⟨rfl, s5⟩
    have N5 := N4.go s5
    clear N4 s5
    refine ⟨fun σ H6 => ∃ z : Str, σ = [some (.ref p), some (.int i), some (.ref q), some v, some (.str z), none, none] ∧ Pen2 H H6 p l ns a 4 ∧ z.length ≤ 9 ∧ PyData.strOk z = true, ?_, ?_⟩
    · obtain ⟨B3, a3, b3, R3, u1, u2⟩ := N5
      refine ⟨_, rfl, (by show 11 ≤ sizeLine; decide), fun q2 hq2 => ?_⟩
      have s1 : Same H5 (upd H5 q2 (.lst (words.map V.str))) := (Same.refl _).new hq2
      refine ⟨p, l, q2, ns, a3, b3, words.map V.str, rfl, R3.same s1, by omega, SqL.of upd_same, (ne_of_none R3.pen hq2).symm, (by show 0 < 11; decide), (by show 11 ≤ 1000; decide), fun H6 j v a4 b4 hv v1 v2 B4 R4 => ?_⟩
      obtain ⟨z, rfl, z1, z2⟩ := of_words hv
      exact ⟨z, rfl, ⟨(B3.trans (But.of s1)).trans B4, a4, b4, R4, by omega, by omega⟩, z1, z2⟩
    clear N5
    rintro σ H6 ⟨z, rfl, N6, z9, zok⟩
    have hzs : z.length ≤ sizeLine := Nat.le_trans z9 (by decide)
    refine ⟨fun σ H7 => ∃ o6 : Option V, σ = [some (.ref p), some (.int i), some (.ref q), some v, some (.str z), some (.bl (nameZ z)), o6] ∧ Same H6 H7, ?_, ?_⟩
    · refine ⟨_, rfl, z, rfl, hzs, _, _, rfl, rfl, _, rfl, ?_⟩
      refine ite2 (fun c1 => ?_) (fun c1 => ?_)
      · refine ⟨_, _, rfl, rfl, _, rfl, ?_⟩
        refine ite2 (fun c2 => ?_) (fun c2 => ?_)
        · have d1 : 1 ≤ z.length := by
            have := of_decide_eq_true c1
            omega
          have d2 : z.length ≤ 8 := by
            have := of_decide_eq_true c2
            omega
          refine ⟨_, rfl, z, rfl, fun D hD => lc_it walk_str (fun i H1 => H1 = upd H6 D (.lst (((z.cps.toList.take i).filter fun c => !decide (c ∈ letters.cps.toList)).map fun c => V.str ⟨#[c]⟩))) rfl (fun _ _ _ _ => trivial) ?_ ?_⟩
          · rintro i x H1 H2 hi rfl ⟨rfl, c, hc, rfl⟩
            have hc' : z.cps.toList[i]? = some c := by rw [Array.getElem?_toList]; exact hc
            refine ⟨rfl, _, rfl, c, letters, rfl, rfl, _, rfl, ?_⟩
            refine ite2 (fun d => ?_) (fun d => ?_)
            · have d' : (!decide (c ∈ letters.cps.toList)) = true := d
              refine ⟨_, rfl, _, upd_same, ?_, ?_⟩
              · rw [List.length_map]
                exact Nat.lt_of_le_of_lt (List.length_filter_le _ _) (by rw [List.length_take]; exact Nat.lt_of_le_of_lt (Nat.min_le_left _ _) (Nat.lt_of_lt_of_le hi hzs))
              · rw [upd_upd, List.take_add_one, hc', List.filter_append, List.map_append]
                congr 2
                simp only [Option.toList, List.filter_cons, d', if_true, List.filter_nil, List.map_cons, List.map_nil]
            · have d' : (!decide (c ∈ letters.cps.toList)) = false := Bool.eq_false_iff.mpr d
              rw [List.take_add_one, hc', List.filter_append]
              simp only [Option.toList, List.filter_cons, d', List.filter_nil]
              simp
          · rintro H1 rfl
            have e : z.cps.toList.take z.cps.size = z.cps.toList := List.take_of_length_le (by simp)
            rw [e]
            refine ⟨Nat.zero_le _, fun q2 hq2 => ?_⟩
            have c9 := (Same.refl (upd H6 D (.lst ((z.cps.toList.filter fun c => !decide (c ∈ letters.cps.toList)).map fun c => V.str ⟨#[c]⟩)))).new (o := .lst []) hq2
            refine ⟨.list ((z.cps.toList.filter fun c => !decide (c ∈ letters.cps.toList)).map fun c => .str ⟨#[c]⟩), .list [], .lst (SqL.of (c9 _ _ upd_same)) (dp_signs _), .lst (SqL.of upd_same) .nil, shaped_signs _ (fun c hc => ok_sign zok (List.mem_filter.mp hc).1), rfl, ?_⟩
            refine ⟨none, ?_, (((Same.refl _).new hD).trans c9)⟩
            have ev : PyData.eqv (.list ((z.cps.toList.filter fun c => !decide (c ∈ letters.cps.toList)).map fun c => .str ⟨#[c]⟩)) (.list []) = nameZ z := by
              unfold nameZ
              rw [decide_eq_true ⟨d1, d2⟩, Bool.true_and]
              exact eqv_filter _
            rw [ev]
            rfl
        · refine ⟨none, ?_, Same.refl _⟩
          have ev : nameZ z = false := by
            unfold nameZ
            rw [decide_eq_false (fun q => c2 (decide_eq_true (by have := q.2; omega)))]
            rfl
          rw [ev]
          rfl
      · refine ⟨_, rfl, iteF ?_⟩
        refine ⟨none, ?_, Same.refl _⟩
        have ev : nameZ z = false := by
          unfold nameZ
          rw [decide_eq_false (fun q => c1 (decide_eq_true (by have := q.1; omega)))]
          rfl
        rw [ev]
        rfl
    rintro σ H7 ⟨o6, rfl, s7⟩
    have N7 := N6.go s7
    clear N6 s7
    refine ⟨_, rfl, .str z, "str", rfl, .str z, (fun y e => by cases e; omega), fun H8 s8 => ?_⟩
    have N8 := N7.go s8
    refine ⟨_, rfl, rfl, _, rfl, ite_yes (decide_eq_true rfl) ?_⟩
    obtain ⟨B3, a3, b3, R3, u1, u2⟩ := N8
    refine ⟨_, rfl, (by show 1 ≤ sizeLine; decide), fun l2 hl2 => ?_⟩
    refine ⟨(by show 1 ≤ sizeLine; decide), fun t ht => ?_⟩
    intro e1 he1
    refine ⟨(by show 6 ≤ sizeLine; decide), fun q2 hq2 => ?_⟩
    have c1 : Same H8 (upd H8 l2 (.lst [.str "a"])) := (Same.refl _).new hl2
    have c2 := (Same.refl (upd H8 l2 (.lst [.str "a"]))).new (o := .tup [.str "a"]) ht
    have c3 := (Same.refl (upd (upd H8 l2 (.lst [.str "a"])) t (.tup [.str "a"]))).new (o := .dK []) he1
    have c4 := (Same.refl (upd (upd (upd H8 l2 (.lst [.str "a"])) t (.tup [.str "a"])) e1 (.dK []))).new (o := .lst [V.non, .int 0, .bl true, .ref l2, .ref t, .ref e1]) hq2
    have s3 := (c1.trans c2).trans c3
    have s4 := s3.trans c4
    have R5 := R3.same s4
    refine ⟨p, l, q2, ns, a3, b3, [V.non, .int 0, .bl true, .ref l2, .ref t, .ref e1], rfl, R5, by omega, SqL.of upd_same, (ne_of_none (s3 _ _ R3.pen) hq2).symm, (by show 0 < 6; decide), (by show 6 ≤ 1000; decide), fun H9 j y a4 b4 hv v1 v2 B4 R4 => ?_⟩
    have f1 := c4 _ _ (c3 _ _ (c2 _ _ (upd_same (H := H8) (a := l2) (o := .lst [.str "a"]))))
    have f2 := c4 _ _ (c3 _ _ (upd_same (H := upd H8 l2 (.lst [.str "a"])) (a := t) (o := .tup [.str "a"])))
    have f3 := c4 _ _ (upd_same (H := upd (upd H8 l2 (.lst [.str "a"])) t (.tup [.str "a"])) (a := e1) (o := .dK []))
    have off : ∀ {x : Addr} {o : HO}, upd (upd (upd (upd H8 l2 (.lst [.str "a"])) t (.tup [.str "a"])) e1 (.dK [])) q2 (.lst [V.non, .int 0, .bl true, .ref l2, .ref t, .ref e1]) x = some o →
        o ≠ .lst [.ref l, .int a3, .int b3] → H9 x = some o := fun {x o} e n => B4 _ _ (fun w => by rw [w, R5.pen] at e; exact n (Option.some.inj e).symm) e
    obtain ⟨S2, g1, g2, g3⟩ : ∃ S, Plain K H9 y S ∧ nameV y = false ∧ isS y = false := by
      match j, hv with
      | 0, h => cases h; exact ⟨_, .non, rfl, rfl⟩
      | 1, h => cases h; exact ⟨_, .int _, rfl, rfl⟩
      | 2, h => cases h; exact ⟨_, .bl _, rfl, rfl⟩
      | 3, h => cases h; exact ⟨_, .lst (off f1 (by intro z; cases z)), rfl, rfl⟩
      | 4, h => cases h; exact ⟨_, .tup (off f2 (by intro z; cases z)), rfl, rfl⟩
      | 5, h => cases h; exact ⟨_, .dK (off f3 (by intro z; cases z)), rfl, rfl⟩
      | n + 6, h => exact absurd (List.getElem?_eq_some_iff.mp h).1 (by simp)
    refine ⟨rfl, y, S2, rfl, g1, (fun z e => by rw [e] at g3; cases g3), fun HA sA => ?_⟩
    have fin := k HA ⟨((B3.trans (But.of s4)).trans B4).trans (But.of sA), a4, b4, R4.same sA, by omega, by omega⟩
    refine ⟨_, _, rfl, rfl, ?_⟩
    show Q (.bl (decide (nameV y = false))) HA
    rw [decide_eq_true g2]
    exact fin
end
end Toy
set_option maxRecDepth 100000
namespace Toy
open PySem L2
abbrev s_law : Stmt := top 31
def spLaw (K : PySem.W.Frag) : Sp := fun vs H Q _ => ∃ (a : Addr) (ns : List Int), vs = [.ref a] ∧ SqL K H a (ns.map V.int) ∧ ns.length ≤ 63 ∧ (∀ z ∈ ns, Builtin.Int.intBits z ≤ 1048576) ∧ ∀ H', Q (.bl true) H'
section
variable {P : Program} {w : World} {K : PySem.W.Frag} {mg : Str → Option Value} {base : Heap}
abbrev N_law : List Str := ["_law_script", "_law_pen_here", "_law_turn"]
theorem sc_law : FnScope N_law ["_law_script"] (defScope s_law) := ⟨rfl, rfl, rfl, by decide +kernel, rfl, by decide +kernel, by decide +kernel⟩
theorem ok_law {f fN fE fK : Addr} {fd fdN fdE fdK : FuncData} (F : Fun K "law" "law" s_law f fd) (mr : mg "range" = none)
    (GN : FnOk P w K mg base CX0 1 fN fdN ["_law_script"] (spPen K)) (gN : mg "_law_pen" = some (.ref fN)) (kN : PySem.W.keepIn K (.ref fN) = true) (bN : Binds K fdN ["_law_script"] [])
    (GE : FnG P w K mg base CX0 5 fE fdE ["_law_pen_here"] (spRight 2)) (gE : mg "_law_errors_right" = some (.ref fE)) (kE : PySem.W.keepIn K (.ref fE) = true) (bE : Binds K fdE ["_law_pen_here"] [])
    (GK : FnOk P w K mg base CX0 3 fK fdK ["_law_pen_here"] (spRight 5)) (gK : mg "_law_kinds_right" = some (.ref fK)) (kK : PySem.W.keepIn K (.ref fK) = true) (bK : Binds K fdK ["_law_pen_here"] []) :
    FnG P w K mg base CX0 6 f fd ["_law_script"] (spLaw K) := by
  refine F.okG sc_law (fun vs H Q E h => ?_) (fun cdv A outer s H vs Q E gd0 hr h => ?_)
  · obtain ⟨a, ns, rfl, _⟩ := h
    rfl
  · obtain ⟨a, ns, rfl, hS, hl, hb, k⟩ := h
    have hrN : Room 1 _ := hr.mono (by decide)
    have hrE : Room 5 _ := hr
    have hrK : Room 3 _ := hr.mono (by decide)
    have gd : (cxOf CX0 P w K mg base N_law "law" (defScope s_law) f cdv A outer s H E).nox.A.guards = some [] := gd0
    refine ⟨_, (pss_cons (ps_set (i := 1) sc_law.nd rfl (Or.inl rfl) (by exact (pe_call GN hrN rfl gN kN bN .nil pass0 (pa_cons (pv 0) pa_nil))))
 (pss_cons (ps_for PassesOwn.never rfl (pi_range1 rfl mr (pa_cons pe_int pa_nil)) (pg_name (i := 2) sc_law.nd rfl (Or.inl rfl))
 (pss_one (ps_if (PW.pt (pw_or (pt_not (pt_val (pe_callG GE gd hrE rfl gE kE bE .nil pass0 (pa_cons (pv 1) pa_nil)))) (pw_or1 (pt_not (pt_val (pe_call GK hrK rfl gK kK bK .nil pass0 (pa_cons (pv 1) pa_nil))))))) (pss_one (ps_ret pe_bl)) pss_nil)))
 (pss_one (ps_ret pe_bl)))), ?_⟩
    refine ⟨_, rfl, a, ns, rfl, hS, hl, hb, fun H1 p l s1 np R1 => ?_⟩
    refine ⟨14, rfl, by decide, by decide, ?_⟩
    refine for_range (n := 14) (fun i σ H' => ∃ (o : Option V) (c d : Int), σ = [some (.ref a), some (.ref p), o] ∧ PenAt H' p l ns c d ∧ c ≤ 7 * (i : Int)) ⟨none, 0, 0, rfl, R1, by omega⟩ ?_ ?_
    · rintro i σ H2 hi ⟨o, c, d, rfl, R2, hc⟩
      have hi14 : i < 14 := hi
      refine ⟨_, rfl, p, l, ns, c, d, rfl, R2, by omega, fun H3 N3 => ?_⟩
      obtain ⟨B3, a3, b3, R3, u1, u2⟩ := N3
      refine ⟨_, rfl, iteF ?_⟩
      refine ⟨_, rfl, p, l, ns, a3, b3, rfl, R3, by omega, fun H4 N4 => ?_⟩
      obtain ⟨B4, a4, b4, R4, u3, u4⟩ := N4
      refine ⟨_, rfl, iteF ?_⟩
      exact ⟨_, a4, b4, rfl, R4, by omega⟩
    · rintro σ H2 ⟨o, c, d, rfl, R2, hc⟩
      exact k _
end
end Toy
set_option maxRecDepth 100000
namespace Toy
open PySem L2
theorem own_kit {K : PySem.W.Frag} {B : Addr} {cs : List Addr} (h : ∀ i (hi : i < cs.length), XL K cs[i] B) (nd : (B :: cs).Nodup) : ∀ i j, i < cs.length → j < cs.length → PySem.W.kitOne K (.ref (cs.getD i 0)) (.ref (cs.getD j 0)) = some (decide (i = j)) := by
  intro i j hi hj
  have e1 : cs.getD i 0 = cs[i] := by simp [hi]
  have e2 : cs.getD j 0 = cs[j] := by simp [hj]
  rw [e1, e2, kit_own (h i hi) (h j hj).isC (h j hj).ty]
  obtain ⟨n1, n2⟩ := List.nodup_cons.mp nd
  have e3 : decide (B = cs[j]) = false := decide_eq_false fun z => n1 (by rw [z]; exact List.getElem_mem hj)
  rw [e3, Bool.or_false]
  congr 1
  exact decide_eq_decide.mpr (List.getElem_inj n2)

set_option maxHeartbeats 4000000 in
theorem all_mk {l : PySem.W.OpenLaw} {w : World} {K : PySem.W.Frag} {h : Heap} {mg : Str → Option Value} {fa B f_0 f_1 f_2 f_3 f_4 f_5 f_6 f_7 f_8 f_9 f_10 f_11 f_12 C0 C1 C2 C3 C4 C5 C6 C7 C8 C9 C10 C11 C12 C13 I0 I1 I2 I3 I4 I5 I6 I7 I8 I9 I10 I11 I12 : Addr} (X : K.In h) (G : h.Ns mainGlobals mg) (hfa : mg "law" = some (.ref fa))
    {oc_0 kV_0 dc_0 pm_0 cd_0 ct_0 : Value} {od_0 an_0 : Option Addr} {sl_0 : Array (Option Value)}
    {oc_1 kV_1 dc_1 pm_1 cd_1 ct_1 : Value} {od_1 an_1 : Option Addr} {sl_1 : Array (Option Value)}
    {oc_2 kV_2 dc_2 pm_2 cd_2 ct_2 : Value} {od_2 an_2 : Option Addr} {sl_2 : Array (Option Value)}
    {oc_3 kV_3 dc_3 pm_3 cd_3 ct_3 : Value} {od_3 an_3 : Option Addr} {sl_3 : Array (Option Value)}
    {oc_4 kV_4 dc_4 pm_4 cd_4 ct_4 : Value} {od_4 an_4 : Option Addr} {sl_4 : Array (Option Value)}
    {oc_5 kV_5 dc_5 pm_5 cd_5 ct_5 : Value} {od_5 an_5 : Option Addr} {sl_5 : Array (Option Value)}
    {oc_6 kV_6 dc_6 pm_6 cd_6 ct_6 : Value} {od_6 an_6 : Option Addr} {sl_6 : Array (Option Value)}
    {oc_7 kV_7 dc_7 pm_7 cd_7 ct_7 : Value} {od_7 an_7 : Option Addr} {sl_7 : Array (Option Value)}
    {oc_8 kV_8 dc_8 pm_8 cd_8 ct_8 : Value} {od_8 an_8 : Option Addr} {sl_8 : Array (Option Value)}
    {oc_9 kV_9 dc_9 pm_9 cd_9 ct_9 : Value} {od_9 an_9 : Option Addr} {sl_9 : Array (Option Value)}
    {oc_10 kV_10 dc_10 pm_10 cd_10 ct_10 : Value} {od_10 an_10 : Option Addr} {sl_10 : Array (Option Value)}
    {oc_11 kV_11 dc_11 pm_11 cd_11 ct_11 : Value} {od_11 an_11 : Option Addr} {sl_11 : Array (Option Value)}
    {oc_12 kV_12 dc_12 pm_12 cd_12 ct_12 : Value} {od_12 an_12 : Option Addr} {sl_12 : Array (Option Value)}
    {nm0 q0 : Str} {N0 : Addr} {bs0 : List Value} {sn0 : List Str} {sub0 : List Value} {ab0 : Bool} {col0 : Option Bool} {dd0 : Option Addr} {x0 y0 z0 u0 v0 : Option Value}
    {oci0 kVi0 dci0 pmi0 cdi0 cti0 : Value} {odi0 ani0 : Option Addr} {sli0 : Array (Option Value)}
    {nm1 q1 : Str} {N1 : Addr} {bs1 : List Value} {sn1 : List Str} {sub1 : List Value} {ab1 : Bool} {col1 : Option Bool} {dd1 : Option Addr} {x1 y1 z1 u1 v1 : Option Value}
    {oci1 kVi1 dci1 pmi1 cdi1 cti1 : Value} {odi1 ani1 : Option Addr} {sli1 : Array (Option Value)}
    {nm2 q2 : Str} {N2 : Addr} {bs2 : List Value} {sn2 : List Str} {sub2 : List Value} {ab2 : Bool} {col2 : Option Bool} {dd2 : Option Addr} {x2 y2 z2 u2 v2 : Option Value}
    {oci2 kVi2 dci2 pmi2 cdi2 cti2 : Value} {odi2 ani2 : Option Addr} {sli2 : Array (Option Value)}
    {nm3 q3 : Str} {N3 : Addr} {bs3 : List Value} {sn3 : List Str} {sub3 : List Value} {ab3 : Bool} {col3 : Option Bool} {dd3 : Option Addr} {x3 y3 z3 u3 v3 : Option Value}
    {oci3 kVi3 dci3 pmi3 cdi3 cti3 : Value} {odi3 ani3 : Option Addr} {sli3 : Array (Option Value)}
    {nm4 q4 : Str} {N4 : Addr} {bs4 : List Value} {sn4 : List Str} {sub4 : List Value} {ab4 : Bool} {col4 : Option Bool} {dd4 : Option Addr} {x4 y4 z4 u4 v4 : Option Value}
    {oci4 kVi4 dci4 pmi4 cdi4 cti4 : Value} {odi4 ani4 : Option Addr} {sli4 : Array (Option Value)}
    {nm5 q5 : Str} {N5 : Addr} {bs5 : List Value} {sn5 : List Str} {sub5 : List Value} {ab5 : Bool} {col5 : Option Bool} {dd5 : Option Addr} {x5 y5 z5 u5 v5 : Option Value}
    {oci5 kVi5 dci5 pmi5 cdi5 cti5 : Value} {odi5 ani5 : Option Addr} {sli5 : Array (Option Value)}
    {nm6 q6 : Str} {N6 : Addr} {bs6 : List Value} {sn6 : List Str} {sub6 : List Value} {ab6 : Bool} {col6 : Option Bool} {dd6 : Option Addr} {x6 y6 z6 u6 v6 : Option Value}
    {oci6 kVi6 dci6 pmi6 cdi6 cti6 : Value} {odi6 ani6 : Option Addr} {sli6 : Array (Option Value)}
    {nm7 q7 : Str} {N7 : Addr} {bs7 : List Value} {sn7 : List Str} {sub7 : List Value} {ab7 : Bool} {col7 : Option Bool} {dd7 : Option Addr} {x7 y7 z7 u7 v7 : Option Value}
    {oci7 kVi7 dci7 pmi7 cdi7 cti7 : Value} {odi7 ani7 : Option Addr} {sli7 : Array (Option Value)}
    {nm8 q8 : Str} {N8 : Addr} {bs8 : List Value} {sn8 : List Str} {sub8 : List Value} {ab8 : Bool} {col8 : Option Bool} {dd8 : Option Addr} {x8 y8 z8 u8 v8 : Option Value}
    {oci8 kVi8 dci8 pmi8 cdi8 cti8 : Value} {odi8 ani8 : Option Addr} {sli8 : Array (Option Value)}
    {nm9 q9 : Str} {N9 : Addr} {bs9 : List Value} {sn9 : List Str} {sub9 : List Value} {ab9 : Bool} {col9 : Option Bool} {dd9 : Option Addr} {x9 y9 z9 u9 v9 : Option Value}
    {oci9 kVi9 dci9 pmi9 cdi9 cti9 : Value} {odi9 ani9 : Option Addr} {sli9 : Array (Option Value)}
    {nm10 q10 : Str} {N10 : Addr} {bs10 : List Value} {sn10 : List Str} {sub10 : List Value} {ab10 : Bool} {col10 : Option Bool} {dd10 : Option Addr} {x10 y10 z10 u10 v10 : Option Value}
    {oci10 kVi10 dci10 pmi10 cdi10 cti10 : Value} {odi10 ani10 : Option Addr} {sli10 : Array (Option Value)}
    {nm11 q11 : Str} {N11 : Addr} {bs11 : List Value} {sn11 : List Str} {sub11 : List Value} {ab11 : Bool} {col11 : Option Bool} {dd11 : Option Addr} {x11 y11 z11 u11 v11 : Option Value}
    {oci11 kVi11 dci11 pmi11 cdi11 cti11 : Value} {odi11 ani11 : Option Addr} {sli11 : Array (Option Value)}
    {nm12 q12 : Str} {N12 : Addr} {bs12 : List Value} {sn12 : List Str} {sub12 : List Value} {ab12 : Bool} {col12 : Option Bool} {dd12 : Option Addr} {x12 y12 z12 u12 v12 : Option Value}
    {oci12 kVi12 dci12 pmi12 cdi12 cti12 : Value} {odi12 ani12 : Option Addr} {sli12 : Array (Option Value)}
    {nm13 q13 : Str} {N13 : Addr} {bs13 : List Value} {sn13 : List Str} {sub13 : List Value} {ab13 : Bool} {col13 : Option Bool} {dd13 : Option Addr} {x13 y13 z13 u13 v13 : Option Value}
    {tL : Tok}
    (a_0 : PySem.W.nsIn K mainGlobals "is_integer" = some (some (.ref f_0)))
    (l_0 : K.lookup f_0 = some ⟨oc_0, od_0, .func (PySem.W.fnOf "is_integer" "is_integer" (defArgs s_is_integer) (defBody s_is_integer) (defScope s_is_integer) .none kV_0 dc_0 pm_0 an_0 cd_0 ct_0), sl_0⟩)
    (c_0 : PySem.W.codeIn K cd_0 "is_integer" = true)
    (k_0 : PySem.W.keepIn K (.ref f_0) = true)
    (a_1 : PySem.W.nsIn K mainGlobals "is_within" = some (some (.ref f_1)))
    (l_1 : K.lookup f_1 = some ⟨oc_1, od_1, .func (PySem.W.fnOf "is_within" "is_within" (defArgs s_is_within) (defBody s_is_within) (defScope s_is_within) .none kV_1 dc_1 pm_1 an_1 cd_1 ct_1), sl_1⟩)
    (c_1 : PySem.W.codeIn K cd_1 "is_within" = true)
    (k_1 : PySem.W.keepIn K (.ref f_1) = true)
    (a_2 : PySem.W.nsIn K mainGlobals "is_number" = some (some (.ref f_2)))
    (l_2 : K.lookup f_2 = some ⟨oc_2, od_2, .func (PySem.W.fnOf "is_number" "is_number" (defArgs s_is_number) (defBody s_is_number) (defScope s_is_number) .none kV_2 dc_2 pm_2 an_2 cd_2 ct_2), sl_2⟩)
    (c_2 : PySem.W.codeIn K cd_2 "is_number" = true)
    (k_2 : PySem.W.keepIn K (.ref f_2) = true)
    (a_3 : PySem.W.nsIn K mainGlobals "is_name" = some (some (.ref f_3)))
    (l_3 : K.lookup f_3 = some ⟨oc_3, od_3, .func (PySem.W.fnOf "is_name" "is_name" (defArgs s_is_name) (defBody s_is_name) (defScope s_is_name) .none kV_3 dc_3 pm_3 an_3 cd_3 ct_3), sl_3⟩)
    (c_3 : PySem.W.codeIn K cd_3 "is_name" = true)
    (k_3 : PySem.W.keepIn K (.ref f_3) = true)
    (a_4 : PySem.W.nsIn K mainGlobals "_law_pen" = some (some (.ref f_4)))
    (l_4 : K.lookup f_4 = some ⟨oc_4, od_4, .func (PySem.W.fnOf "_law_pen" "_law_pen" (defArgs s__law_pen) (defBody s__law_pen) (defScope s__law_pen) .none kV_4 dc_4 pm_4 an_4 cd_4 ct_4), sl_4⟩)
    (c_4 : PySem.W.codeIn K cd_4 "_law_pen" = true)
    (k_4 : PySem.W.keepIn K (.ref f_4) = true)
    (a_5 : PySem.W.nsIn K mainGlobals "_law_draw" = some (some (.ref f_5)))
    (l_5 : K.lookup f_5 = some ⟨oc_5, od_5, .func (PySem.W.fnOf "_law_draw" "_law_draw" (defArgs s__law_draw) (defBody s__law_draw) (defScope s__law_draw) .none kV_5 dc_5 pm_5 an_5 cd_5 ct_5), sl_5⟩)
    (c_5 : PySem.W.codeIn K cd_5 "_law_draw" = true)
    (k_5 : PySem.W.keepIn K (.ref f_5) = true)
    (a_6 : PySem.W.nsIn K mainGlobals "_law_pick" = some (some (.ref f_6)))
    (l_6 : K.lookup f_6 = some ⟨oc_6, od_6, .func (PySem.W.fnOf "_law_pick" "_law_pick" (defArgs s__law_pick) (defBody s__law_pick) (defScope s__law_pick) .none kV_6 dc_6 pm_6 an_6 cd_6 ct_6), sl_6⟩)
    (c_6 : PySem.W.codeIn K cd_6 "_law_pick" = true)
    (k_6 : PySem.W.keepIn K (.ref f_6) = true)
    (a_7 : PySem.W.nsIn K mainGlobals "_law_made" = some (some (.ref f_7)))
    (l_7 : K.lookup f_7 = some ⟨oc_7, od_7, .func (PySem.W.fnOf "_law_made" "_law_made" (defArgs s__law_made) (defBody s__law_made) (defScope s__law_made) .none kV_7 dc_7 pm_7 an_7 cd_7 ct_7), sl_7⟩)
    (c_7 : PySem.W.codeIn K cd_7 "_law_made" = true)
    (k_7 : PySem.W.keepIn K (.ref f_7) = true)
    (a_8 : PySem.W.nsIn K mainGlobals "_law_classes" = some (some (.ref f_8)))
    (l_8 : K.lookup f_8 = some ⟨oc_8, od_8, .func (PySem.W.fnOf "_law_classes" "_law_classes" (defArgs s__law_classes) (defBody s__law_classes) (defScope s__law_classes) .none kV_8 dc_8 pm_8 an_8 cd_8 ct_8), sl_8⟩)
    (c_8 : PySem.W.codeIn K cd_8 "_law_classes" = true)
    (k_8 : PySem.W.keepIn K (.ref f_8) = true)
    (a_9 : PySem.W.nsIn K mainGlobals "_law_is_error" = some (some (.ref f_9)))
    (l_9 : K.lookup f_9 = some ⟨oc_9, od_9, .func (PySem.W.fnOf "_law_is_error" "_law_is_error" (defArgs s__law_is_error) (defBody s__law_is_error) (defScope s__law_is_error) .none kV_9 dc_9 pm_9 an_9 cd_9 ct_9), sl_9⟩)
    (c_9 : PySem.W.codeIn K cd_9 "_law_is_error" = true)
    (k_9 : PySem.W.keepIn K (.ref f_9) = true)
    (a_10 : PySem.W.nsIn K mainGlobals "_law_errors_right" = some (some (.ref f_10)))
    (l_10 : K.lookup f_10 = some ⟨oc_10, od_10, .func (PySem.W.fnOf "_law_errors_right" "_law_errors_right" (defArgs s__law_errors_right) (defBody s__law_errors_right) (defScope s__law_errors_right) .none kV_10 dc_10 pm_10 an_10 cd_10 ct_10), sl_10⟩)
    (c_10 : PySem.W.codeIn K cd_10 "_law_errors_right" = true)
    (k_10 : PySem.W.keepIn K (.ref f_10) = true)
    (a_11 : PySem.W.nsIn K mainGlobals "_law_kinds_right" = some (some (.ref f_11)))
    (l_11 : K.lookup f_11 = some ⟨oc_11, od_11, .func (PySem.W.fnOf "_law_kinds_right" "_law_kinds_right" (defArgs s__law_kinds_right) (defBody s__law_kinds_right) (defScope s__law_kinds_right) .none kV_11 dc_11 pm_11 an_11 cd_11 ct_11), sl_11⟩)
    (c_11 : PySem.W.codeIn K cd_11 "_law_kinds_right" = true)
    (k_11 : PySem.W.keepIn K (.ref f_11) = true)
    (a_12 : PySem.W.nsIn K mainGlobals "law" = some (some (.ref f_12)))
    (l_12 : K.lookup f_12 = some ⟨oc_12, od_12, .func (PySem.W.fnOf "law" "law" (defArgs s_law) (defBody s_law) (defScope s_law) .none kV_12 dc_12 pm_12 an_12 cd_12 ct_12), sl_12⟩)
    (c_12 : PySem.W.codeIn K cd_12 "law" = true)
    (k_12 : PySem.W.keepIn K (.ref f_12) = true)
    (aB : PySem.W.nsIn K mainGlobals "BankError" = some (some (.ref B)))
    (aC0 : PySem.W.nsIn K mainGlobals "BadSet" = some (some (.ref C0)))
    (x0L : K.lookup C0 = some (excClassObj nm0 q0 C0 N0 bs0 (.ref B :: [.type "ValueError", .type "Exception", .type "BaseException", .type "object"]) true sn0 sub0 ab0 col0 dd0 x0 y0 z0 u0 v0 "ValueError.__new__"))
    (sa0 : PySem.W.findIn K (.ref C0) "__setattr__" = some (some (.builtin "object.__setattr__")))
    (ga0 : PySem.W.findIn K (.ref C0) "__getattribute__" = some (some (.builtin "BaseException.__getattribute__")))
    (gg0 : PySem.W.findIn K (.ref C0) "__getattr__" = some none)
    (ca0 : PySem.W.findIn K (.ref C0) "__class__" = some (some (.builtin "object.__class__")))
    (kC0 : PySem.W.keepIn K (.ref C0) = true)
    (no0_part : PySem.W.findIn K (.ref C0) "part" = some none)
    (in0 : PySem.W.findIn K (.ref C0) "__init__" = some (some (.ref I0)))
    (ti0 : PySem.W.typeIn K (.ref I0) = some (.type "function"))
    (li0 : K.lookup I0 = some ⟨oci0, odi0, .func (PySem.W.fnOf "__init__" "BadSet.__init__" (defArgs s_i0) (defBody s_i0) (defScope s_i0) .none kVi0 dci0 pmi0 ani0 cdi0 cti0), sli0⟩)
    (ci0 : PySem.W.codeIn K cdi0 "BadSet.__init__" = true)
    (ki0 : PySem.W.keepIn K (.ref I0) = true)
    (aC1 : PySem.W.nsIn K mainGlobals "BadRule" = some (some (.ref C1)))
    (x1L : K.lookup C1 = some (excClassObj nm1 q1 C1 N1 bs1 (.ref B :: [.type "ValueError", .type "Exception", .type "BaseException", .type "object"]) true sn1 sub1 ab1 col1 dd1 x1 y1 z1 u1 v1 "ValueError.__new__"))
    (sa1 : PySem.W.findIn K (.ref C1) "__setattr__" = some (some (.builtin "object.__setattr__")))
    (ga1 : PySem.W.findIn K (.ref C1) "__getattribute__" = some (some (.builtin "BaseException.__getattribute__")))
    (gg1 : PySem.W.findIn K (.ref C1) "__getattr__" = some none)
    (ca1 : PySem.W.findIn K (.ref C1) "__class__" = some (some (.builtin "object.__class__")))
    (kC1 : PySem.W.keepIn K (.ref C1) = true)
    (no1_part : PySem.W.findIn K (.ref C1) "part" = some none)
    (in1 : PySem.W.findIn K (.ref C1) "__init__" = some (some (.ref I1)))
    (ti1 : PySem.W.typeIn K (.ref I1) = some (.type "function"))
    (li1 : K.lookup I1 = some ⟨oci1, odi1, .func (PySem.W.fnOf "__init__" "BadRule.__init__" (defArgs s_i1) (defBody s_i1) (defScope s_i1) .none kVi1 dci1 pmi1 ani1 cdi1 cti1), sli1⟩)
    (ci1 : PySem.W.codeIn K cdi1 "BadRule.__init__" = true)
    (ki1 : PySem.W.keepIn K (.ref I1) = true)
    (aC2 : PySem.W.nsIn K mainGlobals "BadUnit" = some (some (.ref C2)))
    (x2L : K.lookup C2 = some (excClassObj nm2 q2 C2 N2 bs2 (.ref B :: [.type "ValueError", .type "Exception", .type "BaseException", .type "object"]) true sn2 sub2 ab2 col2 dd2 x2 y2 z2 u2 v2 "ValueError.__new__"))
    (sa2 : PySem.W.findIn K (.ref C2) "__setattr__" = some (some (.builtin "object.__setattr__")))
    (ga2 : PySem.W.findIn K (.ref C2) "__getattribute__" = some (some (.builtin "BaseException.__getattribute__")))
    (gg2 : PySem.W.findIn K (.ref C2) "__getattr__" = some none)
    (ca2 : PySem.W.findIn K (.ref C2) "__class__" = some (some (.builtin "object.__class__")))
    (kC2 : PySem.W.keepIn K (.ref C2) = true)
    (no2_part : PySem.W.findIn K (.ref C2) "part" = some none)
    (in2 : PySem.W.findIn K (.ref C2) "__init__" = some (some (.ref I2)))
    (ti2 : PySem.W.typeIn K (.ref I2) = some (.type "function"))
    (li2 : K.lookup I2 = some ⟨oci2, odi2, .func (PySem.W.fnOf "__init__" "BadUnit.__init__" (defArgs s_i2) (defBody s_i2) (defScope s_i2) .none kVi2 dci2 pmi2 ani2 cdi2 cti2), sli2⟩)
    (ci2 : PySem.W.codeIn K cdi2 "BadUnit.__init__" = true)
    (ki2 : PySem.W.keepIn K (.ref I2) = true)
    (aC3 : PySem.W.nsIn K mainGlobals "BadTile" = some (some (.ref C3)))
    (x3L : K.lookup C3 = some (excClassObj nm3 q3 C3 N3 bs3 (.ref B :: [.type "ValueError", .type "Exception", .type "BaseException", .type "object"]) true sn3 sub3 ab3 col3 dd3 x3 y3 z3 u3 v3 "ValueError.__new__"))
    (sa3 : PySem.W.findIn K (.ref C3) "__setattr__" = some (some (.builtin "object.__setattr__")))
    (ga3 : PySem.W.findIn K (.ref C3) "__getattribute__" = some (some (.builtin "BaseException.__getattribute__")))
    (gg3 : PySem.W.findIn K (.ref C3) "__getattr__" = some none)
    (ca3 : PySem.W.findIn K (.ref C3) "__class__" = some (some (.builtin "object.__class__")))
    (kC3 : PySem.W.keepIn K (.ref C3) = true)
    (no3_part : PySem.W.findIn K (.ref C3) "part" = some none)
    (in3 : PySem.W.findIn K (.ref C3) "__init__" = some (some (.ref I3)))
    (ti3 : PySem.W.typeIn K (.ref I3) = some (.type "function"))
    (li3 : K.lookup I3 = some ⟨oci3, odi3, .func (PySem.W.fnOf "__init__" "BadTile.__init__" (defArgs s_i3) (defBody s_i3) (defScope s_i3) .none kVi3 dci3 pmi3 ani3 cdi3 cti3), sli3⟩)
    (ci3 : PySem.W.codeIn K cdi3 "BadTile.__init__" = true)
    (ki3 : PySem.W.keepIn K (.ref I3) = true)
    (aC4 : PySem.W.nsIn K mainGlobals "BadNumber" = some (some (.ref C4)))
    (x4L : K.lookup C4 = some (excClassObj nm4 q4 C4 N4 bs4 (.ref B :: [.type "ValueError", .type "Exception", .type "BaseException", .type "object"]) true sn4 sub4 ab4 col4 dd4 x4 y4 z4 u4 v4 "ValueError.__new__"))
    (sa4 : PySem.W.findIn K (.ref C4) "__setattr__" = some (some (.builtin "object.__setattr__")))
    (ga4 : PySem.W.findIn K (.ref C4) "__getattribute__" = some (some (.builtin "BaseException.__getattribute__")))
    (gg4 : PySem.W.findIn K (.ref C4) "__getattr__" = some none)
    (ca4 : PySem.W.findIn K (.ref C4) "__class__" = some (some (.builtin "object.__class__")))
    (kC4 : PySem.W.keepIn K (.ref C4) = true)
    (no4_value : PySem.W.findIn K (.ref C4) "value" = some none)
    (in4 : PySem.W.findIn K (.ref C4) "__init__" = some (some (.ref I4)))
    (ti4 : PySem.W.typeIn K (.ref I4) = some (.type "function"))
    (li4 : K.lookup I4 = some ⟨oci4, odi4, .func (PySem.W.fnOf "__init__" "BadNumber.__init__" (defArgs s_i4) (defBody s_i4) (defScope s_i4) .none kVi4 dci4 pmi4 ani4 cdi4 cti4), sli4⟩)
    (ci4 : PySem.W.codeIn K cdi4 "BadNumber.__init__" = true)
    (ki4 : PySem.W.keepIn K (.ref I4) = true)
    (aC5 : PySem.W.nsIn K mainGlobals "BadLog" = some (some (.ref C5)))
    (x5L : K.lookup C5 = some (excClassObj nm5 q5 C5 N5 bs5 (.ref B :: [.type "ValueError", .type "Exception", .type "BaseException", .type "object"]) true sn5 sub5 ab5 col5 dd5 x5 y5 z5 u5 v5 "ValueError.__new__"))
    (sa5 : PySem.W.findIn K (.ref C5) "__setattr__" = some (some (.builtin "object.__setattr__")))
    (ga5 : PySem.W.findIn K (.ref C5) "__getattribute__" = some (some (.builtin "BaseException.__getattribute__")))
    (gg5 : PySem.W.findIn K (.ref C5) "__getattr__" = some none)
    (ca5 : PySem.W.findIn K (.ref C5) "__class__" = some (some (.builtin "object.__class__")))
    (kC5 : PySem.W.keepIn K (.ref C5) = true)
    (no5_at : PySem.W.findIn K (.ref C5) "at" = some none)
    (in5 : PySem.W.findIn K (.ref C5) "__init__" = some (some (.ref I5)))
    (ti5 : PySem.W.typeIn K (.ref I5) = some (.type "function"))
    (li5 : K.lookup I5 = some ⟨oci5, odi5, .func (PySem.W.fnOf "__init__" "BadLog.__init__" (defArgs s_i5) (defBody s_i5) (defScope s_i5) .none kVi5 dci5 pmi5 ani5 cdi5 cti5), sli5⟩)
    (ci5 : PySem.W.codeIn K cdi5 "BadLog.__init__" = true)
    (ki5 : PySem.W.keepIn K (.ref I5) = true)
    (aC6 : PySem.W.nsIn K mainGlobals "BadMemory" = some (some (.ref C6)))
    (x6L : K.lookup C6 = some (excClassObj nm6 q6 C6 N6 bs6 (.ref B :: [.type "ValueError", .type "Exception", .type "BaseException", .type "object"]) true sn6 sub6 ab6 col6 dd6 x6 y6 z6 u6 v6 "ValueError.__new__"))
    (sa6 : PySem.W.findIn K (.ref C6) "__setattr__" = some (some (.builtin "object.__setattr__")))
    (ga6 : PySem.W.findIn K (.ref C6) "__getattribute__" = some (some (.builtin "BaseException.__getattribute__")))
    (gg6 : PySem.W.findIn K (.ref C6) "__getattr__" = some none)
    (ca6 : PySem.W.findIn K (.ref C6) "__class__" = some (some (.builtin "object.__class__")))
    (kC6 : PySem.W.keepIn K (.ref C6) = true)
    (no6_part : PySem.W.findIn K (.ref C6) "part" = some none)
    (in6 : PySem.W.findIn K (.ref C6) "__init__" = some (some (.ref I6)))
    (ti6 : PySem.W.typeIn K (.ref I6) = some (.type "function"))
    (li6 : K.lookup I6 = some ⟨oci6, odi6, .func (PySem.W.fnOf "__init__" "BadMemory.__init__" (defArgs s_i6) (defBody s_i6) (defScope s_i6) .none kVi6 dci6 pmi6 ani6 cdi6 cti6), sli6⟩)
    (ci6 : PySem.W.codeIn K cdi6 "BadMemory.__init__" = true)
    (ki6 : PySem.W.keepIn K (.ref I6) = true)
    (aC7 : PySem.W.nsIn K mainGlobals "BadCommand" = some (some (.ref C7)))
    (x7L : K.lookup C7 = some (excClassObj nm7 q7 C7 N7 bs7 (.ref B :: [.type "ValueError", .type "Exception", .type "BaseException", .type "object"]) true sn7 sub7 ab7 col7 dd7 x7 y7 z7 u7 v7 "ValueError.__new__"))
    (sa7 : PySem.W.findIn K (.ref C7) "__setattr__" = some (some (.builtin "object.__setattr__")))
    (ga7 : PySem.W.findIn K (.ref C7) "__getattribute__" = some (some (.builtin "BaseException.__getattribute__")))
    (gg7 : PySem.W.findIn K (.ref C7) "__getattr__" = some none)
    (ca7 : PySem.W.findIn K (.ref C7) "__class__" = some (some (.builtin "object.__class__")))
    (kC7 : PySem.W.keepIn K (.ref C7) = true)
    (no7_word : PySem.W.findIn K (.ref C7) "word" = some none)
    (in7 : PySem.W.findIn K (.ref C7) "__init__" = some (some (.ref I7)))
    (ti7 : PySem.W.typeIn K (.ref I7) = some (.type "function"))
    (li7 : K.lookup I7 = some ⟨oci7, odi7, .func (PySem.W.fnOf "__init__" "BadCommand.__init__" (defArgs s_i7) (defBody s_i7) (defScope s_i7) .none kVi7 dci7 pmi7 ani7 cdi7 cti7), sli7⟩)
    (ci7 : PySem.W.codeIn K cdi7 "BadCommand.__init__" = true)
    (ki7 : PySem.W.keepIn K (.ref I7) = true)
    (aC8 : PySem.W.nsIn K mainGlobals "BadName" = some (some (.ref C8)))
    (x8L : K.lookup C8 = some (excClassObj nm8 q8 C8 N8 bs8 (.ref B :: [.type "ValueError", .type "Exception", .type "BaseException", .type "object"]) true sn8 sub8 ab8 col8 dd8 x8 y8 z8 u8 v8 "ValueError.__new__"))
    (sa8 : PySem.W.findIn K (.ref C8) "__setattr__" = some (some (.builtin "object.__setattr__")))
    (ga8 : PySem.W.findIn K (.ref C8) "__getattribute__" = some (some (.builtin "BaseException.__getattribute__")))
    (gg8 : PySem.W.findIn K (.ref C8) "__getattr__" = some none)
    (ca8 : PySem.W.findIn K (.ref C8) "__class__" = some (some (.builtin "object.__class__")))
    (kC8 : PySem.W.keepIn K (.ref C8) = true)
    (no8_value : PySem.W.findIn K (.ref C8) "value" = some none)
    (in8 : PySem.W.findIn K (.ref C8) "__init__" = some (some (.ref I8)))
    (ti8 : PySem.W.typeIn K (.ref I8) = some (.type "function"))
    (li8 : K.lookup I8 = some ⟨oci8, odi8, .func (PySem.W.fnOf "__init__" "BadName.__init__" (defArgs s_i8) (defBody s_i8) (defScope s_i8) .none kVi8 dci8 pmi8 ani8 cdi8 cti8), sli8⟩)
    (ci8 : PySem.W.codeIn K cdi8 "BadName.__init__" = true)
    (ki8 : PySem.W.keepIn K (.ref I8) = true)
    (aC9 : PySem.W.nsIn K mainGlobals "NoName" = some (some (.ref C9)))
    (x9L : K.lookup C9 = some (excClassObj nm9 q9 C9 N9 bs9 (.ref B :: [.type "ValueError", .type "Exception", .type "BaseException", .type "object"]) true sn9 sub9 ab9 col9 dd9 x9 y9 z9 u9 v9 "ValueError.__new__"))
    (sa9 : PySem.W.findIn K (.ref C9) "__setattr__" = some (some (.builtin "object.__setattr__")))
    (ga9 : PySem.W.findIn K (.ref C9) "__getattribute__" = some (some (.builtin "BaseException.__getattribute__")))
    (gg9 : PySem.W.findIn K (.ref C9) "__getattr__" = some none)
    (ca9 : PySem.W.findIn K (.ref C9) "__class__" = some (some (.builtin "object.__class__")))
    (kC9 : PySem.W.keepIn K (.ref C9) = true)
    (no9_name : PySem.W.findIn K (.ref C9) "name" = some none)
    (in9 : PySem.W.findIn K (.ref C9) "__init__" = some (some (.ref I9)))
    (ti9 : PySem.W.typeIn K (.ref I9) = some (.type "function"))
    (li9 : K.lookup I9 = some ⟨oci9, odi9, .func (PySem.W.fnOf "__init__" "NoName.__init__" (defArgs s_i9) (defBody s_i9) (defScope s_i9) .none kVi9 dci9 pmi9 ani9 cdi9 cti9), sli9⟩)
    (ci9 : PySem.W.codeIn K cdi9 "NoName.__init__" = true)
    (ki9 : PySem.W.keepIn K (.ref I9) = true)
    (aC10 : PySem.W.nsIn K mainGlobals "NoMember" = some (some (.ref C10)))
    (x10L : K.lookup C10 = some (excClassObj nm10 q10 C10 N10 bs10 (.ref B :: [.type "ValueError", .type "Exception", .type "BaseException", .type "object"]) true sn10 sub10 ab10 col10 dd10 x10 y10 z10 u10 v10 "ValueError.__new__"))
    (sa10 : PySem.W.findIn K (.ref C10) "__setattr__" = some (some (.builtin "object.__setattr__")))
    (ga10 : PySem.W.findIn K (.ref C10) "__getattribute__" = some (some (.builtin "BaseException.__getattribute__")))
    (gg10 : PySem.W.findIn K (.ref C10) "__getattr__" = some none)
    (ca10 : PySem.W.findIn K (.ref C10) "__class__" = some (some (.builtin "object.__class__")))
    (kC10 : PySem.W.keepIn K (.ref C10) = true)
    (no10_at : PySem.W.findIn K (.ref C10) "at" = some none)
    (in10 : PySem.W.findIn K (.ref C10) "__init__" = some (some (.ref I10)))
    (ti10 : PySem.W.typeIn K (.ref I10) = some (.type "function"))
    (li10 : K.lookup I10 = some ⟨oci10, odi10, .func (PySem.W.fnOf "__init__" "NoMember.__init__" (defArgs s_i10) (defBody s_i10) (defScope s_i10) .none kVi10 dci10 pmi10 ani10 cdi10 cti10), sli10⟩)
    (ci10 : PySem.W.codeIn K cdi10 "NoMember.__init__" = true)
    (ki10 : PySem.W.keepIn K (.ref I10) = true)
    (aC11 : PySem.W.nsIn K mainGlobals "BadText" = some (some (.ref C11)))
    (x11L : K.lookup C11 = some (excClassObj nm11 q11 C11 N11 bs11 (.ref B :: [.type "ValueError", .type "Exception", .type "BaseException", .type "object"]) true sn11 sub11 ab11 col11 dd11 x11 y11 z11 u11 v11 "ValueError.__new__"))
    (sa11 : PySem.W.findIn K (.ref C11) "__setattr__" = some (some (.builtin "object.__setattr__")))
    (ga11 : PySem.W.findIn K (.ref C11) "__getattribute__" = some (some (.builtin "BaseException.__getattribute__")))
    (gg11 : PySem.W.findIn K (.ref C11) "__getattr__" = some none)
    (ca11 : PySem.W.findIn K (.ref C11) "__class__" = some (some (.builtin "object.__class__")))
    (kC11 : PySem.W.keepIn K (.ref C11) = true)
    (no11_line : PySem.W.findIn K (.ref C11) "line" = some none)
    (no11_word : PySem.W.findIn K (.ref C11) "word" = some none)
    (in11 : PySem.W.findIn K (.ref C11) "__init__" = some (some (.ref I11)))
    (ti11 : PySem.W.typeIn K (.ref I11) = some (.type "function"))
    (li11 : K.lookup I11 = some ⟨oci11, odi11, .func (PySem.W.fnOf "__init__" "BadText.__init__" (defArgs s_i11) (defBody s_i11) (defScope s_i11) .none kVi11 dci11 pmi11 ani11 cdi11 cti11), sli11⟩)
    (ci11 : PySem.W.codeIn K cdi11 "BadText.__init__" = true)
    (ki11 : PySem.W.keepIn K (.ref I11) = true)
    (aC12 : PySem.W.nsIn K mainGlobals "TooMany" = some (some (.ref C12)))
    (x12L : K.lookup C12 = some (excClassObj nm12 q12 C12 N12 bs12 (.ref B :: [.type "ValueError", .type "Exception", .type "BaseException", .type "object"]) true sn12 sub12 ab12 col12 dd12 x12 y12 z12 u12 v12 "ValueError.__new__"))
    (sa12 : PySem.W.findIn K (.ref C12) "__setattr__" = some (some (.builtin "object.__setattr__")))
    (ga12 : PySem.W.findIn K (.ref C12) "__getattribute__" = some (some (.builtin "BaseException.__getattribute__")))
    (gg12 : PySem.W.findIn K (.ref C12) "__getattr__" = some none)
    (ca12 : PySem.W.findIn K (.ref C12) "__class__" = some (some (.builtin "object.__class__")))
    (kC12 : PySem.W.keepIn K (.ref C12) = true)
    (no12_what : PySem.W.findIn K (.ref C12) "what" = some none)
    (no12_most : PySem.W.findIn K (.ref C12) "most" = some none)
    (in12 : PySem.W.findIn K (.ref C12) "__init__" = some (some (.ref I12)))
    (ti12 : PySem.W.typeIn K (.ref I12) = some (.type "function"))
    (li12 : K.lookup I12 = some ⟨oci12, odi12, .func (PySem.W.fnOf "__init__" "TooMany.__init__" (defArgs s_i12) (defBody s_i12) (defScope s_i12) .none kVi12 dci12 pmi12 ani12 cdi12 cti12), sli12⟩)
    (ci12 : PySem.W.codeIn K cdi12 "TooMany.__init__" = true)
    (ki12 : PySem.W.keepIn K (.ref I12) = true)
    (aC13 : PySem.W.nsIn K mainGlobals "Nothing" = some (some (.ref C13)))
    (x13L : K.lookup C13 = some (excClassObj nm13 q13 C13 N13 bs13 (.ref B :: [.type "ValueError", .type "Exception", .type "BaseException", .type "object"]) true sn13 sub13 ab13 col13 dd13 x13 y13 z13 u13 v13 "ValueError.__new__"))
    (sa13 : PySem.W.findIn K (.ref C13) "__setattr__" = some (some (.builtin "object.__setattr__")))
    (ga13 : PySem.W.findIn K (.ref C13) "__getattribute__" = some (some (.builtin "BaseException.__getattribute__")))
    (gg13 : PySem.W.findIn K (.ref C13) "__getattr__" = some none)
    (ca13 : PySem.W.findIn K (.ref C13) "__class__" = some (some (.builtin "object.__class__")))
    (kC13 : PySem.W.keepIn K (.ref C13) = true)
    (e13 : PySem.W.excIn K C13 [.type "ValueError", .type "Exception", .type "BaseException", .type "object"] "ValueError.__new__" = true)
    (icB : PySem.W.isClsIn K B = true)
    (tyB : PySem.W.typeIn K (.ref B) = some (.type "type"))
    (gs : PySem.W.specialIn K (.builtin "object.__class__") "__get__" = some (some (.builtin "getset_descriptor.__get__")))
    (tk : PySem.W.takesIn K (.builtin "object.__class__") = some true)
    (aL : PySem.W.nsIn K mainGlobals "LETTERS" = some (some (.str letters tL)))
    (z_int : PySem.W.nsIn K mainGlobals "int" = some none)
    (z_abs : PySem.W.nsIn K mainGlobals "abs" = some none)
    (z_len : PySem.W.nsIn K mainGlobals "len" = some none)
    (z_list : PySem.W.nsIn K mainGlobals "list" = some none)
    (z_isinstance : PySem.W.nsIn K mainGlobals "isinstance" = some none)
    (z_bool : PySem.W.nsIn K mainGlobals "bool" = some none)
    (z_str : PySem.W.nsIn K mainGlobals "str" = some none)
    (z_all : PySem.W.nsIn K mainGlobals "all" = some none)
    (z_ValueError : PySem.W.nsIn K mainGlobals "ValueError" = some none)
    (z_range : PySem.W.nsIn K mainGlobals "range" = some none)
    (z_repr : PySem.W.nsIn K mainGlobals "repr" = some none)
    (nd : ([B, C0, C1, C2, C3, C4, C5, C6, C7, C8, C9, C10, C11, C12, C13] : List Addr).Nodup)
    : ∃ fd : FuncData, (∀ (s : Shared) (v : Value), BindsTo s fd ⟨[v], []⟩ [("_law_script", v)]) ∧ ∀ base : Heap, K.In base → base.Ns mainGlobals mg → FnG l.prog w K mg base CX0 6 fa fd ["_law_script"] (spLaw K) := by
  have e := hfa.symm.trans (PySem.W.mg_of X G a_12)
  cases e
  have F_0 := fun_mk (st := s_is_integer) l_0 c_0 k_0
  have g_0 := PySem.W.mg_of X G a_0
  have b_0 := F_0.binds (ps := ["value"]) fun _ _ _ _ _ _ us hl => match us, hl with | [_], _ => rfl
  have F_1 := fun_mk (st := s_is_within) l_1 c_1 k_1
  have g_1 := PySem.W.mg_of X G a_1
  have b_1 := F_1.binds (ps := ["value", "least", "most"]) fun _ _ _ _ _ _ us hl => match us, hl with | [_, _, _], _ => rfl
  have F_2 := fun_mk (st := s_is_number) l_2 c_2 k_2
  have g_2 := PySem.W.mg_of X G a_2
  have b_2 := F_2.binds (ps := ["value"]) fun _ _ _ _ _ _ us hl => match us, hl with | [_], _ => rfl
  have F_3 := fun_mk (st := s_is_name) l_3 c_3 k_3
  have g_3 := PySem.W.mg_of X G a_3
  have b_3 := F_3.binds (ps := ["value"]) fun _ _ _ _ _ _ us hl => match us, hl with | [_], _ => rfl
  have F_4 := fun_mk (st := s__law_pen) l_4 c_4 k_4
  have g_4 := PySem.W.mg_of X G a_4
  have b_4 := F_4.binds (ps := ["_law_script"]) fun _ _ _ _ _ _ us hl => match us, hl with | [_], _ => rfl
  have F_5 := fun_mk (st := s__law_draw) l_5 c_5 k_5
  have g_5 := PySem.W.mg_of X G a_5
  have b_5 := F_5.binds (ps := ["_law_pen_here", "_law_many"]) fun _ _ _ _ _ _ us hl => match us, hl with | [_, _], _ => rfl
  have F_6 := fun_mk (st := s__law_pick) l_6 c_6 k_6
  have g_6 := PySem.W.mg_of X G a_6
  have b_6 := F_6.binds (ps := ["_law_pen_here", "_law_some"]) fun _ _ _ _ _ _ us hl => match us, hl with | [_, _], _ => rfl
  have F_7 := fun_mk (st := s__law_made) l_7 c_7 k_7
  have g_7 := PySem.W.mg_of X G a_7
  have b_7 := F_7.binds (ps := ["_law_value", "_law_more"]) fun _ _ _ _ _ _ us hl => match us, hl with | [_, _], _ => rfl
  have F_8 := fun_mk (st := s__law_classes) l_8 c_8 k_8
  have g_8 := PySem.W.mg_of X G a_8
  have b_8 := F_8.binds (ps := ["_law_error"]) fun _ _ _ _ _ _ us hl => match us, hl with | [_], _ => rfl
  have F_9 := fun_mk (st := s__law_is_error) l_9 c_9 k_9
  have g_9 := PySem.W.mg_of X G a_9
  have b_9 := F_9.binds (ps := ["_law_error"]) fun _ _ _ _ _ _ us hl => match us, hl with | [_], _ => rfl
  have F_10 := fun_mk (st := s__law_errors_right) l_10 c_10 k_10
  have g_10 := PySem.W.mg_of X G a_10
  have b_10 := F_10.binds (ps := ["_law_pen_here"]) fun _ _ _ _ _ _ us hl => match us, hl with | [_], _ => rfl
  have F_11 := fun_mk (st := s__law_kinds_right) l_11 c_11 k_11
  have g_11 := PySem.W.mg_of X G a_11
  have b_11 := F_11.binds (ps := ["_law_pen_here"]) fun _ _ _ _ _ _ us hl => match us, hl with | [_], _ => rfl
  have F_12 := fun_mk (st := s_law) l_12 c_12 k_12
  have g_12 := PySem.W.mg_of X G a_12
  have b_12 := F_12.binds (ps := ["_law_script"]) fun _ _ _ _ _ _ us hl => match us, hl with | [_], _ => rfl
  have m_int := PySem.W.mg_none_of X G z_int
  have m_abs := PySem.W.mg_none_of X G z_abs
  have m_len := PySem.W.mg_none_of X G z_len
  have m_list := PySem.W.mg_none_of X G z_list
  have m_isinstance := PySem.W.mg_none_of X G z_isinstance
  have m_bool := PySem.W.mg_none_of X G z_bool
  have m_str := PySem.W.mg_none_of X G z_str
  have m_all := PySem.W.mg_none_of X G z_all
  have m_ValueError := PySem.W.mg_none_of X G z_ValueError
  have m_range := PySem.W.mg_none_of X G z_range
  have m_repr := PySem.W.mg_none_of X G z_repr
  have xl0 : XL K C0 B := ⟨_, _, _, _, _, _, _, _, _, _, _, _, _, _, x0L⟩
  have xc0 : XvC K C0 := xl0.x sa0 ga0 gg0 ca0 kC0 gs tk
  have xl1 : XL K C1 B := ⟨_, _, _, _, _, _, _, _, _, _, _, _, _, _, x1L⟩
  have xc1 : XvC K C1 := xl1.x sa1 ga1 gg1 ca1 kC1 gs tk
  have xl2 : XL K C2 B := ⟨_, _, _, _, _, _, _, _, _, _, _, _, _, _, x2L⟩
  have xc2 : XvC K C2 := xl2.x sa2 ga2 gg2 ca2 kC2 gs tk
  have xl3 : XL K C3 B := ⟨_, _, _, _, _, _, _, _, _, _, _, _, _, _, x3L⟩
  have xc3 : XvC K C3 := xl3.x sa3 ga3 gg3 ca3 kC3 gs tk
  have xl4 : XL K C4 B := ⟨_, _, _, _, _, _, _, _, _, _, _, _, _, _, x4L⟩
  have xc4 : XvC K C4 := xl4.x sa4 ga4 gg4 ca4 kC4 gs tk
  have xl5 : XL K C5 B := ⟨_, _, _, _, _, _, _, _, _, _, _, _, _, _, x5L⟩
  have xc5 : XvC K C5 := xl5.x sa5 ga5 gg5 ca5 kC5 gs tk
  have xl6 : XL K C6 B := ⟨_, _, _, _, _, _, _, _, _, _, _, _, _, _, x6L⟩
  have xc6 : XvC K C6 := xl6.x sa6 ga6 gg6 ca6 kC6 gs tk
  have xl7 : XL K C7 B := ⟨_, _, _, _, _, _, _, _, _, _, _, _, _, _, x7L⟩
  have xc7 : XvC K C7 := xl7.x sa7 ga7 gg7 ca7 kC7 gs tk
  have xl8 : XL K C8 B := ⟨_, _, _, _, _, _, _, _, _, _, _, _, _, _, x8L⟩
  have xc8 : XvC K C8 := xl8.x sa8 ga8 gg8 ca8 kC8 gs tk
  have xl9 : XL K C9 B := ⟨_, _, _, _, _, _, _, _, _, _, _, _, _, _, x9L⟩
  have xc9 : XvC K C9 := xl9.x sa9 ga9 gg9 ca9 kC9 gs tk
  have xl10 : XL K C10 B := ⟨_, _, _, _, _, _, _, _, _, _, _, _, _, _, x10L⟩
  have xc10 : XvC K C10 := xl10.x sa10 ga10 gg10 ca10 kC10 gs tk
  have xl11 : XL K C11 B := ⟨_, _, _, _, _, _, _, _, _, _, _, _, _, _, x11L⟩
  have xc11 : XvC K C11 := xl11.x sa11 ga11 gg11 ca11 kC11 gs tk
  have xl12 : XL K C12 B := ⟨_, _, _, _, _, _, _, _, _, _, _, _, _, _, x12L⟩
  have xc12 : XvC K C12 := xl12.x sa12 ga12 gg12 ca12 kC12 gs tk
  have xl13 : XL K C13 B := ⟨_, _, _, _, _, _, _, _, _, _, _, _, _, _, x13L⟩
  have xc13 : XvC K C13 := xl13.x sa13 ga13 gg13 ca13 kC13 gs tk
  have own : ∀ i (hi : i < [C0, C1, C2, C3, C4, C5, C6, C7, C8, C9, C10, C11, C12, C13].length), XL K ([C0, C1, C2, C3, C4, C5, C6, C7, C8, C9, C10, C11, C12, C13] : List Addr)[i] B := by
    intro i hi
    match i, hi with
    | 0, _ => exact xl0
    | 1, _ => exact xl1
    | 2, _ => exact xl2
    | 3, _ => exact xl3
    | 4, _ => exact xl4
    | 5, _ => exact xl5
    | 6, _ => exact xl6
    | 7, _ => exact xl7
    | 8, _ => exact xl8
    | 9, _ => exact xl9
    | 10, _ => exact xl10
    | 11, _ => exact xl11
    | 12, _ => exact xl12
    | 13, _ => exact xl13
  have kk := own_kit own nd
  have T : TX K mg (fun i => [C0, C1, C2, C3, C4, C5, C6, C7, C8, C9, C10, C11, C12, C13].getD i 0) (fun i => [I0, I1, I2, I3, I4, I5, I6, I7, I8, I9, I10, I11, I12].getD i 0) (fun i => match i with
      | 0 => (PySem.W.fnOf "__init__" "BadSet.__init__" (defArgs s_i0) (defBody s_i0) (defScope s_i0) .none kVi0 dci0 pmi0 ani0 cdi0 cti0)
      | 1 => (PySem.W.fnOf "__init__" "BadRule.__init__" (defArgs s_i1) (defBody s_i1) (defScope s_i1) .none kVi1 dci1 pmi1 ani1 cdi1 cti1)
      | 2 => (PySem.W.fnOf "__init__" "BadUnit.__init__" (defArgs s_i2) (defBody s_i2) (defScope s_i2) .none kVi2 dci2 pmi2 ani2 cdi2 cti2)
      | 3 => (PySem.W.fnOf "__init__" "BadTile.__init__" (defArgs s_i3) (defBody s_i3) (defScope s_i3) .none kVi3 dci3 pmi3 ani3 cdi3 cti3)
      | 4 => (PySem.W.fnOf "__init__" "BadNumber.__init__" (defArgs s_i4) (defBody s_i4) (defScope s_i4) .none kVi4 dci4 pmi4 ani4 cdi4 cti4)
      | 5 => (PySem.W.fnOf "__init__" "BadLog.__init__" (defArgs s_i5) (defBody s_i5) (defScope s_i5) .none kVi5 dci5 pmi5 ani5 cdi5 cti5)
      | 6 => (PySem.W.fnOf "__init__" "BadMemory.__init__" (defArgs s_i6) (defBody s_i6) (defScope s_i6) .none kVi6 dci6 pmi6 ani6 cdi6 cti6)
      | 7 => (PySem.W.fnOf "__init__" "BadCommand.__init__" (defArgs s_i7) (defBody s_i7) (defScope s_i7) .none kVi7 dci7 pmi7 ani7 cdi7 cti7)
      | 8 => (PySem.W.fnOf "__init__" "BadName.__init__" (defArgs s_i8) (defBody s_i8) (defScope s_i8) .none kVi8 dci8 pmi8 ani8 cdi8 cti8)
      | 9 => (PySem.W.fnOf "__init__" "NoName.__init__" (defArgs s_i9) (defBody s_i9) (defScope s_i9) .none kVi9 dci9 pmi9 ani9 cdi9 cti9)
      | 10 => (PySem.W.fnOf "__init__" "NoMember.__init__" (defArgs s_i10) (defBody s_i10) (defScope s_i10) .none kVi10 dci10 pmi10 ani10 cdi10 cti10)
      | 11 => (PySem.W.fnOf "__init__" "BadText.__init__" (defArgs s_i11) (defBody s_i11) (defScope s_i11) .none kVi11 dci11 pmi11 ani11 cdi11 cti11)
      | _ => (PySem.W.fnOf "__init__" "TooMany.__init__" (defArgs s_i12) (defBody s_i12) (defScope s_i12) .none kVi12 dci12 pmi12 ani12 cdi12 cti12)
    ) B :=
    { g0 := PySem.W.mg_of X G aC0
      g1 := PySem.W.mg_of X G aC1
      g2 := PySem.W.mg_of X G aC2
      g3 := PySem.W.mg_of X G aC3
      g4 := PySem.W.mg_of X G aC4
      g5 := PySem.W.mg_of X G aC5
      g6 := PySem.W.mg_of X G aC6
      g7 := PySem.W.mg_of X G aC7
      g8 := PySem.W.mg_of X G aC8
      g9 := PySem.W.mg_of X G aC9
      g10 := PySem.W.mg_of X G aC10
      g11 := PySem.W.mg_of X G aC11
      g12 := PySem.W.mg_of X G aC12
      g13 := PySem.W.mg_of X G aC13
      i0 := ⟨xc0, in0, ti0⟩
      i1 := ⟨xc1, in1, ti1⟩
      i2 := ⟨xc2, in2, ti2⟩
      i3 := ⟨xc3, in3, ti3⟩
      i4 := ⟨xc4, in4, ti4⟩
      i5 := ⟨xc5, in5, ti5⟩
      i6 := ⟨xc6, in6, ti6⟩
      i7 := ⟨xc7, in7, ti7⟩
      i8 := ⟨xc8, in8, ti8⟩
      i9 := ⟨xc9, in9, ti9⟩
      i10 := ⟨xc10, in10, ti10⟩
      i11 := ⟨xc11, in11, ti11⟩
      i12 := ⟨xc12, in12, ti12⟩
      f0 := fun_mk (st := s_i0) li0 ci0 ki0
      f1 := fun_mk (st := s_i1) li1 ci1 ki1
      f2 := fun_mk (st := s_i2) li2 ci2 ki2
      f3 := fun_mk (st := s_i3) li3 ci3 ki3
      f4 := fun_mk (st := s_i4) li4 ci4 ki4
      f5 := fun_mk (st := s_i5) li5 ci5 ki5
      f6 := fun_mk (st := s_i6) li6 ci6 ki6
      f7 := fun_mk (st := s_i7) li7 ci7 ki7
      f8 := fun_mk (st := s_i8) li8 ci8 ki8
      f9 := fun_mk (st := s_i9) li9 ci9 ki9
      f10 := fun_mk (st := s_i10) li10 ci10 ki10
      f11 := fun_mk (st := s_i11) li11 ci11 ki11
      f12 := fun_mk (st := s_i12) li12 ci12 ki12
      n0_part := no0_part
      n1_part := no1_part
      n2_part := no2_part
      n3_part := no3_part
      n4_value := no4_value
      n5_at := no5_at
      n6_part := no6_part
      n7_word := no7_word
      n8_value := no8_value
      n9_name := no9_name
      n10_at := no10_at
      n11_line := no11_line
      n11_word := no11_word
      n12_what := no12_what
      n12_most := no12_most
      x13 := xc13
      e13 := e13
      gB := PySem.W.mg_of X G aB
      is_ := kk
      bank := fun i hi => by
        match i, hi with
        | 0, _ => exact (kit_own xl0 icB tyB).trans (by simp)
        | 1, _ => exact (kit_own xl1 icB tyB).trans (by simp)
        | 2, _ => exact (kit_own xl2 icB tyB).trans (by simp)
        | 3, _ => exact (kit_own xl3 icB tyB).trans (by simp)
        | 4, _ => exact (kit_own xl4 icB tyB).trans (by simp)
        | 5, _ => exact (kit_own xl5 icB tyB).trans (by simp)
        | 6, _ => exact (kit_own xl6 icB tyB).trans (by simp)
        | 7, _ => exact (kit_own xl7 icB tyB).trans (by simp)
        | 8, _ => exact (kit_own xl8 icB tyB).trans (by simp)
        | 9, _ => exact (kit_own xl9 icB tyB).trans (by simp)
        | 10, _ => exact (kit_own xl10 icB tyB).trans (by simp)
        | 11, _ => exact (kit_own xl11 icB tyB).trans (by simp)
        | 12, _ => exact (kit_own xl12 icB tyB).trans (by simp)
        | 13, _ => exact (kit_own xl13 icB tyB).trans (by simp)
      ve := fun i hi => by
        match i, hi with
        | 0, _ => exact kit_ve xl0
        | 1, _ => exact kit_ve xl1
        | 2, _ => exact kit_ve xl2
        | 3, _ => exact kit_ve xl3
        | 4, _ => exact kit_ve xl4
        | 5, _ => exact kit_ve xl5
        | 6, _ => exact kit_ve xl6
        | 7, _ => exact kit_ve xl7
        | 8, _ => exact kit_ve xl8
        | 9, _ => exact kit_ve xl9
        | 10, _ => exact kit_ve xl10
        | 11, _ => exact kit_ve xl11
        | 12, _ => exact kit_ve xl12
        | 13, _ => exact kit_ve xl13
      m_isinstance := m_isinstance
      m_ValueError := m_ValueError
      m_range := m_range
      m_len := m_len }
  have TBo : TB mg := ⟨m_int, m_abs, m_len, m_list⟩
  have TCo : TC mg := ⟨m_isinstance, m_int, m_bool, m_str, m_len, m_all⟩
  refine ⟨(PySem.W.fnOf "law" "law" (defArgs s_law) (defBody s_law) (defScope s_law) .none kV_12 dc_12 pm_12 an_12 cd_12 ct_12), fun s v => .of_eq rfl, fun base _ _ => ?_⟩
  have GI := ok_is_integer (P := l.prog) (w := w) (base := base) F_0 TCo
  have GW := ok_is_within (P := l.prog) (w := w) (base := base) F_1 TCo F_0 g_0 b_0
  have GN := ok_is_number (P := l.prog) (w := w) (base := base) F_2 TCo F_0 g_0 b_0
  have GM := ok_is_name (P := l.prog) (w := w) (base := base) F_3 TCo (PySem.W.mg_of X G aL)
  have GPen := ok__law_pen (P := l.prog) (w := w) (base := base) F_4 TBo
  have GD := ok__law_draw (P := l.prog) (w := w) (K := K) (base := base) F_5 TBo
  have GP := ok__law_pick (P := l.prog) (w := w) (base := base) F_6 TBo F_5 g_5 b_5
  have GMade := ok__law_made (P := l.prog) (w := w) (base := base) F_7 T
  have GCl := ok__law_classes (P := l.prog) (w := w) (base := base) F_8 T
  have GEr := ok__law_is_error (P := l.prog) (w := w) (base := base) F_9 T
  have GE := ok__law_errors_right (P := l.prog) (w := w) (base := base) F_10 T m_repr GP g_6 k_6 b_6 GMade g_7 k_7 b_7 GCl g_8 k_8 b_8 GEr g_9 k_9 b_9
  have GK := ok__law_kinds_right (P := l.prog) (w := w) (base := base) F_11 TCo GP g_6 k_6 b_6 GD g_5 k_5 b_5 F_0 GI g_0 b_0 F_2 GN g_2 b_2 F_1 GW g_1 b_1 F_3 GM g_3 b_3
  exact ok_law F_12 m_range GPen g_4 k_4 b_4 GE g_10 k_10 b_10 GK g_11 k_11 b_11
theorem walk {l : PySem.W.OpenLaw} {q : Program} {loose : List Str} {XP : (Str → Option Value) → Heap → Prop} {YP : World → Heap → Prop} {d : DefRec} {K : Params → PySem.W.Frag} (hn : l.most = some 63) (hdf : d.params.defaults = [])
    (hY : ∀ (w : World) (h : Heap), YP w h → (K w.params).In h)
    (F : ∀ (w : World) (mg : Str → Option Value) (fa : Addr) (h : Heap), (K w.params).In h → h.Ns mainGlobals mg → mg d.name = some (.ref fa) →
      ∃ fd : FuncData, (∀ (s : Shared) (u : Value), BindsTo s fd ⟨[u], []⟩ [("_law_script", u)]) ∧ ∀ base : Heap, (K w.params).In base → base.Ns mainGlobals mg → FnG l.prog w (K w.params) mg base CX0 6 fa fd ["_law_script"] (spLaw (K w.params))) :
    PySem.W.WalkO q loose XP YP l.row.toRowW d [] (fun f vs => PySem.call f vs) :=
  L2.walk_ofG (n := 63) (k := 6) (x := "_law_script") (sp := fun w => spLaw (K w.params)) hn (by decide) hdf ⟨rfl, by decide, by decide⟩ hY F fun _ _ a ns hl hb _ hS => ⟨a, ns, rfl, hS, hl, hb, fun _ => rfl⟩
end Toy

open PySem PySem.W PyProof.Rows in
set_option maxRecDepth 100000 in
set_option maxHeartbeats 0 in
theorem PySem.Challenge.cw_lanebanks_k01_errors_and_kinds_of_values_holds : PySem.Challenge.rw_lanebanks_k01_errors_and_kinds_of_values.Holds := by
  w_on; o_law; k_head; (case hw => w_witness2)
  k_fill
  refine Toy.walk (l := PySem.Challenge.rw_lanebanks_k01_errors_and_kinds_of_values) rfl rfl (fun w h Y => PySem.W.kIn_of Y) ?F
  case F =>
    intro w mg fa h KX G hmg
    refine' Toy.all_mk KX G hmg ?a_0 ?l_0 ?c_0 ?k_0 ?a_1 ?l_1 ?c_1 ?k_1 ?a_2 ?l_2 ?c_2 ?k_2 ?a_3 ?l_3 ?c_3 ?k_3 ?a_4 ?l_4 ?c_4 ?k_4 ?a_5 ?l_5 ?c_5 ?k_5 ?a_6 ?l_6 ?c_6 ?k_6 ?a_7 ?l_7 ?c_7 ?k_7 ?a_8 ?l_8 ?c_8 ?k_8 ?a_9 ?l_9 ?c_9 ?k_9 ?a_10 ?l_10 ?c_10 ?k_10 ?a_11 ?l_11 ?c_11 ?k_11 ?a_12 ?l_12 ?c_12 ?k_12 ?aB ?aC0 ?x0L ?sa0 ?ga0 ?gg0 ?ca0 ?kC0 ?no0_part ?in0 ?ti0 ?li0 ?ci0 ?ki0 ?aC1 ?x1L ?sa1 ?ga1 ?gg1 ?ca1 ?kC1 ?no1_part ?in1 ?ti1 ?li1 ?ci1 ?ki1 ?aC2 ?x2L ?sa2 ?ga2 ?gg2 ?ca2 ?kC2 ?no2_part ?in2 ?ti2 ?li2 ?ci2 ?ki2 ?aC3 ?x3L ?sa3 ?ga3 ?gg3 ?ca3 ?kC3 ?no3_part ?in3 ?ti3 ?li3 ?ci3 ?ki3 ?aC4 ?x4L ?sa4 ?ga4 ?gg4 ?ca4 ?kC4 ?no4_value ?in4 ?ti4 ?li4 ?ci4 ?ki4 ?aC5 ?x5L ?sa5 ?ga5 ?gg5 ?ca5 ?kC5 ?no5_at ?in5 ?ti5 ?li5 ?ci5 ?ki5 ?aC6 ?x6L ?sa6 ?ga6 ?gg6 ?ca6 ?kC6 ?no6_part ?in6 ?ti6 ?li6 ?ci6 ?ki6 ?aC7 ?x7L ?sa7 ?ga7 ?gg7 ?ca7 ?kC7 ?no7_word ?in7 ?ti7 ?li7 ?ci7 ?ki7 ?aC8 ?x8L ?sa8 ?ga8 ?gg8 ?ca8 ?kC8 ?no8_value ?in8 ?ti8 ?li8 ?ci8 ?ki8 ?aC9 ?x9L ?sa9 ?ga9 ?gg9 ?ca9 ?kC9 ?no9_name ?in9 ?ti9 ?li9 ?ci9 ?ki9 ?aC10 ?x10L ?sa10 ?ga10 ?gg10 ?ca10 ?kC10 ?no10_at ?in10 ?ti10 ?li10 ?ci10 ?ki10 ?aC11 ?x11L ?sa11 ?ga11 ?gg11 ?ca11 ?kC11 ?no11_line ?no11_word ?in11 ?ti11 ?li11 ?ci11 ?ki11 ?aC12 ?x12L ?sa12 ?ga12 ?gg12 ?ca12 ?kC12 ?no12_what ?no12_most ?in12 ?ti12 ?li12 ?ci12 ?ki12 ?aC13 ?x13L ?sa13 ?ga13 ?gg13 ?ca13 ?kC13 ?e13 ?icB ?tyB ?gs ?tk ?aL ?z_int ?z_abs ?z_len ?z_list ?z_isinstance ?z_bool ?z_str ?z_all ?z_ValueError ?z_range ?z_repr ?nd
    (case a_0 => k_is)
    (case l_0 => k_is)
    (case c_0 => k_is)
    (case k_0 => k_is)
    (case a_1 => k_is)
    (case l_1 => k_is)
    (case c_1 => k_is)
    (case k_1 => k_is)
    (case a_2 => k_is)
    (case l_2 => k_is)
    (case c_2 => k_is)
    (case k_2 => k_is)
    (case a_3 => k_is)
    (case l_3 => k_is)
    (case c_3 => k_is)
    (case k_3 => k_is)
    (case a_4 => k_is)
    (case l_4 => k_is)
    (case c_4 => k_is)
    (case k_4 => k_is)
    (case a_5 => k_is)
    (case l_5 => k_is)
    (case c_5 => k_is)
    (case k_5 => k_is)
    (case a_6 => k_is)
    (case l_6 => k_is)
    (case c_6 => k_is)
    (case k_6 => k_is)
    (case a_7 => k_is)
    (case l_7 => k_is)
    (case c_7 => k_is)
    (case k_7 => k_is)
    (case a_8 => k_is)
    (case l_8 => k_is)
    (case c_8 => k_is)
    (case k_8 => k_is)
    (case a_9 => k_is)
    (case l_9 => k_is)
    (case c_9 => k_is)
    (case k_9 => k_is)
    (case a_10 => k_is)
    (case l_10 => k_is)
    (case c_10 => k_is)
    (case k_10 => k_is)
    (case a_11 => k_is)
    (case l_11 => k_is)
    (case c_11 => k_is)
    (case k_11 => k_is)
    (case a_12 => k_is)
    (case l_12 => k_is)
    (case c_12 => k_is)
    (case k_12 => k_is)
    (case aB => k_is)
    (case aC0 => k_is)
    (case x0L => k_is)
    (case sa0 => k_is)
    (case ga0 => k_is)
    (case gg0 => k_is)
    (case ca0 => k_is)
    (case kC0 => k_is)
    (case no0_part => k_is)
    (case in0 => k_is)
    (case ti0 => k_is)
    (case li0 => k_is)
    (case ci0 => k_is)
    (case ki0 => k_is)
    (case aC1 => k_is)
    (case x1L => k_is)
    (case sa1 => k_is)
    (case ga1 => k_is)
    (case gg1 => k_is)
    (case ca1 => k_is)
    (case kC1 => k_is)
    (case no1_part => k_is)
    (case in1 => k_is)
    (case ti1 => k_is)
    (case li1 => k_is)
    (case ci1 => k_is)
    (case ki1 => k_is)
    (case aC2 => k_is)
    (case x2L => k_is)
    (case sa2 => k_is)
    (case ga2 => k_is)
    (case gg2 => k_is)
    (case ca2 => k_is)
    (case kC2 => k_is)
    (case no2_part => k_is)
    (case in2 => k_is)
    (case ti2 => k_is)
    (case li2 => k_is)
    (case ci2 => k_is)
    (case ki2 => k_is)
    (case aC3 => k_is)
    (case x3L => k_is)
    (case sa3 => k_is)
    (case ga3 => k_is)
    (case gg3 => k_is)
    (case ca3 => k_is)
    (case kC3 => k_is)
    (case no3_part => k_is)
    (case in3 => k_is)
    (case ti3 => k_is)
    (case li3 => k_is)
    (case ci3 => k_is)
    (case ki3 => k_is)
    (case aC4 => k_is)
    (case x4L => k_is)
    (case sa4 => k_is)
    (case ga4 => k_is)
    (case gg4 => k_is)
    (case ca4 => k_is)
    (case kC4 => k_is)
    (case no4_value => k_is)
    (case in4 => k_is)
    (case ti4 => k_is)
    (case li4 => k_is)
    (case ci4 => k_is)
    (case ki4 => k_is)
    (case aC5 => k_is)
    (case x5L => k_is)
    (case sa5 => k_is)
    (case ga5 => k_is)
    (case gg5 => k_is)
    (case ca5 => k_is)
    (case kC5 => k_is)
    (case no5_at => k_is)
    (case in5 => k_is)
    (case ti5 => k_is)
    (case li5 => k_is)
    (case ci5 => k_is)
    (case ki5 => k_is)
    (case aC6 => k_is)
    (case x6L => k_is)
    (case sa6 => k_is)
    (case ga6 => k_is)
    (case gg6 => k_is)
    (case ca6 => k_is)
    (case kC6 => k_is)
    (case no6_part => k_is)
    (case in6 => k_is)
    (case ti6 => k_is)
    (case li6 => k_is)
    (case ci6 => k_is)
    (case ki6 => k_is)
    (case aC7 => k_is)
    (case x7L => k_is)
    (case sa7 => k_is)
    (case ga7 => k_is)
    (case gg7 => k_is)
    (case ca7 => k_is)
    (case kC7 => k_is)
    (case no7_word => k_is)
    (case in7 => k_is)
    (case ti7 => k_is)
    (case li7 => k_is)
    (case ci7 => k_is)
    (case ki7 => k_is)
    (case aC8 => k_is)
    (case x8L => k_is)
    (case sa8 => k_is)
    (case ga8 => k_is)
    (case gg8 => k_is)
    (case ca8 => k_is)
    (case kC8 => k_is)
    (case no8_value => k_is)
    (case in8 => k_is)
    (case ti8 => k_is)
    (case li8 => k_is)
    (case ci8 => k_is)
    (case ki8 => k_is)
    (case aC9 => k_is)
    (case x9L => k_is)
    (case sa9 => k_is)
    (case ga9 => k_is)
    (case gg9 => k_is)
    (case ca9 => k_is)
    (case kC9 => k_is)
    (case no9_name => k_is)
    (case in9 => k_is)
    (case ti9 => k_is)
    (case li9 => k_is)
    (case ci9 => k_is)
    (case ki9 => k_is)
    (case aC10 => k_is)
    (case x10L => k_is)
    (case sa10 => k_is)
    (case ga10 => k_is)
    (case gg10 => k_is)
    (case ca10 => k_is)
    (case kC10 => k_is)
    (case no10_at => k_is)
    (case in10 => k_is)
    (case ti10 => k_is)
    (case li10 => k_is)
    (case ci10 => k_is)
    (case ki10 => k_is)
    (case aC11 => k_is)
    (case x11L => k_is)
    (case sa11 => k_is)
    (case ga11 => k_is)
    (case gg11 => k_is)
    (case ca11 => k_is)
    (case kC11 => k_is)
    (case no11_line => k_is)
    (case no11_word => k_is)
    (case in11 => k_is)
    (case ti11 => k_is)
    (case li11 => k_is)
    (case ci11 => k_is)
    (case ki11 => k_is)
    (case aC12 => k_is)
    (case x12L => k_is)
    (case sa12 => k_is)
    (case ga12 => k_is)
    (case gg12 => k_is)
    (case ca12 => k_is)
    (case kC12 => k_is)
    (case no12_what => k_is)
    (case no12_most => k_is)
    (case in12 => k_is)
    (case ti12 => k_is)
    (case li12 => k_is)
    (case ci12 => k_is)
    (case ki12 => k_is)
    (case aC13 => k_is)
    (case x13L => k_is)
    (case sa13 => k_is)
    (case ga13 => k_is)
    (case gg13 => k_is)
    (case ca13 => k_is)
    (case kC13 => k_is)
    (case e13 => k_exc)
    (case icB => k_is)
    (case tyB => k_is)
    (case gs => k_is)
    (case tk => k_is)
    (case aL => k_is)
    (case z_int => k_is)
    (case z_abs => k_is)
    (case z_len => k_is)
    (case z_list => k_is)
    (case z_isinstance => k_is)
    (case z_bool => k_is)
    (case z_str => k_is)
    (case z_all => k_is)
    (case z_ValueError => k_is)
    (case z_range => k_is)
    (case z_repr => k_is)
    (case nd => decide)
