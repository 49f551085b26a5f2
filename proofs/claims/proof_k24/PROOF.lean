import PyProof.Rows.All
import Wide.All
import OpenK.AllK
import Wide.FinOn
import HandS.ForMost
import HandS.ForExc
import HandS.ExcInit
import HandS.IsInst
import HandS.Wide
import HandS.EndBits
import HandS.Conv
import HandS.Defaults
import KE.KExcIs
import HandS.MakeKw
import HandS.Codes
import HandS.ExcValue
import HandS.Walk
import HandS.Style
import HandS.TupMul
import HandS.TupAny
import HandS.ExcOwn
import HandS.WordsExc
import HandS.Property
import KE.KAssignIn
import HandS.OwnEq
import HandS.More
import HandS.HeadHook2
import KE.GoesEnum
import KE.KDictZip
import HandS.Zip
import HandS.ListItems
import HandS.Star
import HandS.Words
import HandS.Text
import PyProof.Rows.RegReprOcc
import PyProof.Rows.StrRev
import PyProof.FString
import PyProof.FString3
import HandS.Small
import PyProof.Rows.StrIntSpec
import HandS.FStr
import PyProof.Rows.StrStep
import HandS.Lambda
import HandS.ClsMeth
import KE.KOpsOwn
import KE.KMathGC
import HandS.Gcd
import KE.KCallOwn
import HandS.EndTab
import HandS.HeadHook4
import HandS.HeadNt
import KE.KStateDown
import Lean
import HandS.Head0
import HandS.Head1
import HandS.Head2
import HandS.Head3
import HandS.HeadEnd
import PySem.Challenge.RW_lanebanks_k24_whole_rules_of_kinds
set_option Elab.async false
set_option linter.all false
set_option maxRecDepth 100000
namespace L2
open PySem PySem.Spec PyProof.Rows
/-! exceptions of the program's own as values -/
structure XvC (K : PySem.W.Frag) (C : Addr) : Prop where
  oex : OexC K C
  ga : PySem.W.findIn K (.ref C) "__getattribute__" = some (some (.builtin "BaseException.__getattribute__"))
  gg : PySem.W.findIn K (.ref C) "__getattr__" = some none
  dd : PySem.W.hasDictIn K C = true
  ic : (PySem.W.clsIn K C).isSome = true
  ca : PySem.W.findIn K (.ref C) "__class__" = some (some (.builtin "object.__class__"))
  gs : PySem.W.specialIn K (.builtin "object.__class__") "__get__" = some (some (.builtin "getset_descriptor.__get__"))
  tk : PySem.W.takesIn K (.builtin "object.__class__") = some true
  mo : PySem.W.mroIn K C (.type "object") = some true
/-- an exception object with (some) dict -/
def XvD (H : Hp) (d : Option Addr) : Prop := ∀ b, d = some b → ∃ fs, H b = some (exd b fs)
section
variable {X : Cx} {pins : List (Addr × Obj)} {σ : St} {H : Hp} {s : Shared}
theorem xv_inst {a C : Addr} {d : Option Addr} (I : Inv X pins σ H s) (e : H a = some (exo a C d)) (hd : XvD H d) : ∃ oe od, PySem.W.InstAt s.heap a oe C od := by
  obtain ⟨t1, ho⟩ := exo_at I.hok e
  cases d with
  | none => exact ⟨_, none, ho, rfl, rfl, trivial⟩
  | some b =>
    obtain ⟨fs, eb⟩ := hd b rfl
    obtain ⟨mA, hns, hr⟩ := exd_at I.hok eb
    obtain ⟨od, hod, hl⟩ := lookIn_ns hns
    exact ⟨_, some od, ho, rfl, rfl, hod⟩
/-- e.f off such a value -/
def tXat (K : PySem.W.Frag) (te : TE) (f : Str) : TE := fun σ H Q => te σ H fun x H1 => ∃ (a C d : Addr) (fs : List (Str × V)) (v : V), x = .ref a ∧ H1 a = some (exo a C (some d)) ∧ H1 d = some (exd d fs) ∧ XvC K C ∧ PySem.W.findIn K (.ref C) f = some none ∧ fs.lookup f = some v ∧ Q v H1
theorem pe_xat {e : Expr} {te : TE} {f : Str} {pos : Pos} (he : PE X e te) (hb : attributeBase e f X.env (eval e X.env) = eval e X.env := by rfl) : PE X (.Attribute e f pos) (tXat X.K te f) := by
  refine ⟨fun pins s σ H Q I h => ?_⟩
  refine attr_of hb (thn (he.run pins s σ H _ I h) fun u s1 hh => ?_)
  obtain ⟨x, H1, I1, rx, a, C, d, fs, v, ex, ea, ed, T, no, l, q⟩ := hh
  subst ex
  obtain rfl : u = Value.ref a := rx
  obtain ⟨t1, ho⟩ := exo_at I1.hok ea
  obtain ⟨mA, hns, hr⟩ := exd_at I1.hok ed
  obtain ⟨od, hod, hl⟩ := lookIn_ns hns
  obtain ⟨u, hu, ru⟩ := RelO.some_of (v := v) (o := mA f) (by rw [← l]; exact hr f)
  have J : PySem.W.InstAt s1.heap a _ C (some od) := ⟨ho, rfl, rfl, hod⟩
  exact HandSPX.exc_get I1.kIn J T.ga T.gg T.oex.exC (PySem.W.findObj_own T.dd no rfl (by rw [hl, hu])) (handed_of ru) ⟨v, H1, I1.tok _, ru, q⟩
/-- isinstance(e, c) -/
def rIsX (K : PySem.W.Frag) : List V → Hp → VK → Prop := fun xs H Q => ∃ (a C : Addr) (d : Option Addr) (c : V) (cv : Value) (b : Bool), xs = [.ref a, c] ∧ H a = some (exo a C d) ∧ XvD H d ∧ XvC K C ∧ ClsV c cv ∧ PySem.W.kitOne K (.ref C) cv = some b ∧ Q (.bl b) H
theorem call_isx : CallR X (.builtin "isinstance") (rIsX X.K) := by
  intro pins s σ H xs us Q I r h
  obtain ⟨a, C, d, c, cv, b, rfl, ea, hd, T, k, e, q⟩ := h
  obtain ⟨u1, u2, rfl, r1, r2⟩ := vals2 r
  have e2 := k.eq r2
  subst e2
  obtain rfl : u1 = Value.ref a := r1
  obtain ⟨oe, od, J⟩ := xv_inst I ea hd
  exact PySem.W.kia_one (PySem.W.kitx_exc T.ic T.ga T.gg T.oex.exC T.ca T.gs T.tk T.mo) I.kIn J e (fun z => nomatch z) fun tk => ⟨.bl b, H, I.tok tk, rfl, q⟩
end
end L2
set_option maxRecDepth 100000
namespace PySem
namespace XKw
open Builtin Builtin.ObjectAttr PySem.HandSPX
section
variable {M : Model} {A : Around} {E : Value → Shared → Prop} {hh : Heap} {gg : Array GenState} {dr : Drawn} {tt : Nat} {oss : OsState}
variable {nm q : Str} {C N : Addr} {bs bm bmB : List Value} {hdct : Bool} {sn : List Str} {sub : List Value} {ab : Bool} {col : Option Bool} {dd : Option Addr} {k0 k1 k2 k3 k5 : Option Value} {B nid iid : String}
theorem chk_new (FF : ExcBaseFacts B nid iid bmB) (hT : ∀ Y : String, bm.contains (.type Y) = bmB.contains (.type Y)) {us : List Value} {kw : List (Str × Value)} {Q : Unit → Shared → Prop}
    (hC : hh.get? C = some (excClassObj nm q C N bs bm hdct sn sub ab col dd k0 k1 k2 k3 k5 nid))
    (hq : Q () ⟨hh, gg, dr, tt, oss⟩) : wpAny M A (checkBuiltinCall nid ⟨.ref C :: us, kw⟩) Q E ⟨hh, gg, dr, tt, oss⟩ := by
  have hc : (Value.ref C :: bm).contains (.type B) = true := by rw [List.contains_cons, hT, FF.hasB]; exact Bool.or_true _
  have hs := FF.noStar
  simp only [checkBuiltinCall, FF.newKind, FF.newSplit, FF.newRow]
  repeat (first
    | refine wpAny_loadPart_at hC ?_
    | (refine wpAny_isSubtype_exc hC ?_; rw [hc])
    | refine wpAny_staticBase_exc hC ?_
    | refine wpAny_madeBy_exc hC ?_
    | simp only [bne_self_eq_false, Bool.false_eq_true, if_false]
    | wp_step)
  exact hq
end
section
variable {prog : Program} {w : World} {A : Around} {E : Value → Shared → Prop} {R : Result → Shared → Prop} {hh : Heap} {gg : Array GenState} {dr : Drawn} {tt : Nat} {oss : OsState}
variable {nm q : Str} {C N : Addr} {bs bm bmB : List Value} {hdct : Bool} {sn : List Str} {sub : List Value} {ab : Bool} {col : Option Bool} {dd : Option Addr} {k0 k1 k2 k3 k5 : Option Value} {B nid iid : String} {kw : List (Str × Value)}
theorem mk_new (FF : ExcBaseFacts B nid iid bmB) (hT : ∀ Y : String, bm.contains (.type Y) = bmB.contains (.type Y)) {us : List Value}
    (hC : hh.get? C = some (excClassObj nm q C N bs bm hdct sn sub ab col dd k0 k1 k2 k3 k5 nid))
    (hq : R (.ok (.ret (.ref (hh.objs.size + 1)))) ⟨(hh.push (W.kdv_tup us)).push (excO C hh.objs.size), gg, dr, tt, oss⟩) (hu : us.length ≤ sizeLine) :
    codeAny (model prog w) A (.builtin nid ⟨.ref C :: us, kw⟩) R ⟨hh, gg, dr, tt, oss⟩ := by
  have he := FF.ends
  have c1 : (Value.ref C :: bm).contains (.type B) = true := by rw [List.contains_cons, hT, FF.hasB]; exact Bool.or_true _
  have c2 : (Value.ref C :: bm).contains (.type "AttributeError") = false := by rw [List.contains_cons, hT, FF.noAttr]; exact Bool.or_false _
  have c3 : (Value.ref C :: bm).contains (.type "NameError") = false := by rw [List.contains_cons, hT, FF.noName]; exact Bool.or_false _
  refine codeAny_builtinAt FF.entry ?_
  unfold Builtin.«BaseException.__new__»
  refine wpAt_bind ?_
  show wpAt _ _ _ (PySem.stack >>= _) _ _ _
  refine wpAt_bind (wpAt_stack fun _ _ => wpAt_of_wpAny ?_)
  wp_walk
  refine wpAt_of_wpAny ?_
  rw [FF.owner]
  repeat (first
    | with_reducible refine wpAny_madeHere_exc FF.canon hC ?_
    | with_reducible refine wpAny_loadPart_at hC ?_
    | (with_reducible refine wpAny_isSubtype_exc hC ?_; first | rw [c1] | rw [c2] | rw [c3])
    | wp_step)
  show R _ _
  rw [Heap.size_push]
  exact hq
theorem mk_type (FF : ExcBaseFacts B nid iid bmB) (hT : ∀ Y : String, bm.contains (.type Y) = bmB.contains (.type Y)) {us : List Value} {fI : Addr} {Q : Fin → Shared → Prop}
    (hC : hh.get? C = some (excClassObj nm q C N bs bm hdct sn sub ab col dd k0 k1 k2 k3 k5 nid))
    (hi : W.Looks (model prog w) hh (typeLookup (.ref C) "__init__") (some (.ref fI)))
    (hb : ∀ y, W.Looks (model prog w) hh (bindSpecial (.ref fI) y) (.ref fI, [y])) (hu : us.length ≤ sizeLine)
    (hq : codeAny (model prog w) A (.call (.ref fI) ⟨.ref (hh.objs.size + 1) :: us, kw⟩)
      (fun r z => match r with
        | .ok (.ret v) => v = .none ∧ Q (.done (.ret (.ref (hh.objs.size + 1)))) z
        | .ok _ => False
        | .error e => E e z)
      ⟨(hh.push (W.kdv_tup us)).push (excO C hh.objs.size), gg, dr, tt, oss⟩) :
    wpAny (model prog w) A (Builtin.«type.__call__» ⟨.ref C :: us, kw⟩) Q E ⟨hh, gg, dr, tt, oss⟩ := by
  repeat (first
    | with_reducible refine wpAny_loadPart_at hC ?_
    | with_reducible refine wpAny_madeBy_exc hC ?_
    | wp_step)
  refine codeAny_call_builtin_code (Code.quiet_builtin _ FF.quiet) (chk_new FF hT hC ?_)
  refine mk_new FF hT hC ?_ hu
  show wpAny _ _ _ _ _ _
  have k : ∀ b o, hh.get? b = some o → ((hh.push (W.kdv_tup us)).push (excO C hh.objs.size)).get? b = some o :=
    fun _ _ e => Heap.get?_push_of_some _ (Heap.get?_push_of_some _ e)
  have hC1 := k _ _ hC
  have hg : ((hh.push (W.kdv_tup us)).push (excO C hh.objs.size)).get? (hh.objs.size + 1) = some (excO C hh.objs.size) := by
    heap_get
  have cC : (Value.ref C :: bm).contains (.ref C) = true := by simp
  have i1 := hi.keeps k
  have b1 := (hb (.ref (hh.objs.size + 1))).keeps k
  unfold isInstance
  repeat (first
    | with_reducible refine wpAny_loadPart_at hg ?_
    | (with_reducible refine wpAny_isSubtype_exc hC1 ?_; rw [cC])
    | wp_step)
  show wpAny _ _ (typeLookup (.ref C) _) _ _ _
  refine i1.at ?_
  refine wpAny_holding (wpAny_bind (b1.at ?_))
  refine wpAny_bind (wpAny_call (codeAny_mono hq fun r z y => ?_))
  cases r with
  | error e => exact y
  | ok fl =>
    cases fl with
    | ret v =>
      obtain ⟨rfl, y⟩ := y
      first
        | exact wpAny_pure (wpAny_pure y)
        | (wp_walk; done)
        | (wp_walk; exact y)
    | next => exact y.elim
    | brk => exact y.elim
    | cont => exact y.elim
theorem mk_call (FF : ExcBaseFacts B nid iid bmB) (hT : ∀ Y : String, bm.contains (.type Y) = bmB.contains (.type Y)) {us : List Value} {fI : Addr}
    (hC : hh.get? C = some (excClassObj nm q C N bs bm hdct sn sub ab col dd k0 k1 k2 k3 k5 nid))
    (hi : W.Looks (model prog w) hh (typeLookup (.ref C) "__init__") (some (.ref fI)))
    (hb : ∀ y, W.Looks (model prog w) hh (bindSpecial (.ref fI) y) (.ref fI, [y])) (hu : us.length ≤ sizeLine)
    (hq : codeAny (model prog w) (A.under (.builtin "type.__call__" ⟨.ref C :: us, kw⟩)) (.call (.ref fI) ⟨.ref (hh.objs.size + 1) :: us, kw⟩) (W.InitBack (hh.objs.size + 1) R)
      ⟨(hh.push (W.kdv_tup us)).push (excO C hh.objs.size), gg, dr, tt, oss⟩) :
    codeAny (model prog w) A (.call (.ref C) ⟨us, kw⟩) R ⟨hh, gg, dr, tt, oss⟩ := by
  have f1 := tc_lookup
  have f2 := tc_bind (.ref C)
  have hTy : (⟨hh, gg, dr, tt, oss⟩ : Shared).TypeIs (.ref C) "type" := ⟨_, hC, rfl⟩
  refine codeAny_of_tree ?_
  show wpAny _ _ (callAny (.ref C) _) _ _ _
  repeat (any_goals (first
    | assumption
    | with_reducible refine wpAny_loadPart_at hC ?_
    | wp_step))
  refine ⟨rfl, ?_⟩
  refine codeAny_call_builtin_at (Code.quiet_builtin _ (by decide +kernel)) entry_typeCall (wpAny_check_type_call_sub hC (mk_type FF hT hC hi hb hu ?_))
  refine codeAny_mono hq fun r z y => ?_
  rcases r with e | (v | _ | _ | _) <;> exact y
end
end XKw
end PySem
set_option maxRecDepth 100000
namespace L2
open PySem PySem.Spec PyProof.Rows
/-- a def's promise where nothing is being shown around it (repr asks that) -/
structure FnG (P : Program) (w : World) (K : PySem.W.Frag) (mg : Str → Option Value) (base : Heap) (CX : CXT) (k : Nat) (f : Addr) (fd : FuncData) (ps : List Str) (sp : Sp) : Prop where
  len : ∀ vs H Q E, sp vs H Q E → vs.length = ps.length
  run : ∀ (A : Around) (outer : List Env) (s : Shared) (H : Hp) (args : Args) (us : List Value) (vs : List V) (Q : VK) (E : XK), A.guards = some [] → Room k A →
    Env0 P w K mg base A outer s H → BindsTo s fd args (ps.zip us) → Vals vs us → sp vs H Q E →
    codeAny (model P w) A (.call (.ref f) args) (CR CX outer P w H s Q E) s
section
variable {P : Program} {w : World} {K : PySem.W.Frag} {mg : Str → Option Value} {base : Heap} {CX : CXT} {k : Nat} {f : Addr} {fd : FuncData} {ps : List Str} {sp : Sp}
theorem FnOk.g (F : FnOk P w K mg base CX k f fd ps sp) : FnG P w K mg base CX k f fd ps sp :=
  ⟨F.len, fun A o s H a us vs Q E _ => F.run A o s H a us vs Q E⟩
theorem FnG.mono {j : Nat} (F : FnG P w K mg base CX j f fd ps sp) (h : j ≤ k) : FnG P w K mg base CX k f fd ps sp :=
  ⟨F.len, fun A o s H a us vs Q E g r => F.run A o s H a us vs Q E g (r.mono h)⟩
end
/-- a def by its body -/
theorem Fun.okG {P : Program} {w : World} {K : PySem.W.Frag} {mg : Str → Option Value} {base : Heap} {x qual : Str} {st : Stmt} {f : Addr} {fd : FuncData} {N ps : List Str} {k : Nat} {sp : Sp}
    (F : Fun K x qual st f fd) (S : FnScope N ps (defScope st)) (len : ∀ vs H Q E, sp vs H Q E → vs.length = ps.length)
    (body : ∀ (cdv : Value) (A : Around) (outer : List Env) (s : Shared) (H : Hp) (vs : List V) (Q : VK) (E : XK), A.guards = some [] →
      Room k (A.deeper (envOfC qual (defScope st) s.heap.objs.size f cdv)) → sp vs H Q E →
      ∃ t, PSs (cxOf CX0 P w K mg base N qual (defScope st) f cdv A outer s H E).nox (defBody st) t ∧
        t { nx := fun _ H' => Q .non H', rt := Q } (start N vs) H) :
    FnG P w K mg base CX0 (k + 1) f fd ps sp := by
  obtain ⟨oc, od, kV, doc, pm, an, cdv, ct, osl, rfl, lk, hcd⟩ := F.ex
  refine ⟨len, fun A outer s H args us vs Q E hgd hr e0 hb r hsp => ?_⟩
  have hn := len _ _ _ _ hsp
  have bk : ∀ b o, base.get? b = some o → s.heap.get? b = some o := fun b o e => (e0.bs b o e).1
  have kin := e0.mod.kin.keeps bk
  have lim := e0.mod.nolimit.keeps bk
  have kinds : ∀ y ∈ ps.zip us, (defScope st).names.lookup y.1 = some .local ∨
      ((defScope st).names.lookup y.1 = some .cell ∧ ((cellsFrom (s.heap.objs.size + 1) (defScope st).names []).lookup y.1).isSome = true) := by
    rintro ⟨n, v⟩ hy
    cases S.par n (List.of_mem_zip hy).1 with
    | inl q => exact .inl q
    | inr q => exact .inr ⟨q, PySem.W.cellsFrom_some _ _ _ (.inl q)⟩
  refine codeAny_call_function hr.depth (kin _ _ lk) rfl S.co S.gen rfl (PySem.W.codeRec_of kin hcd) (hb _ _ _ _ ?_)
  refine wpAny_newFunctionEnv_cells S.kind kinds fun env he s1 x => ?_
  subst he
  refine ⟨lim.keeps x.toInCall.keep, codeAny_func ?_⟩
  obtain ⟨t, ht, hq⟩ := body cdv A outer s H vs Q E hgd (hr.deeper _) hsp
  have I := inv_start (CX := CX0) (P := P) (w := w) (K := K) (mg := mg) (base := base) (E := E) S hr.hd e0 hn r x
  refine wpAny_mono (ht.nox.run [] s1 (start N vs) H _ I hq) (fun fl s' hs => ?_) fun _ _ hs => hs
  cases fl with
  | brk =>
    obtain ⟨_, _, _, q⟩ := hs
    exact q.elim
  | cont =>
    obtain ⟨_, _, _, q⟩ := hs
    exact q.elim
  | next =>
    obtain ⟨σ', H', J, q⟩ := hs
    exact ⟨V.non, H', J.os, J.bare, J.base, J.hok, rfl, q⟩
  | ret u =>
    obtain ⟨v, σ', H', J, rv, q⟩ := hs
    exact ⟨v, H', J.os, J.bare, J.base, J.hok, rv, q⟩
section
variable {X : Cx} {CX : CXT} {k : Nat} {f : Addr} {fd : FuncData} {ps ks : List Str} {sp : Sp} {dvs : List V} {ds : List Value} {E : XK} {x : Str} {p pos : Pos} {e : Expr} {es : List Expr} {t : TA}
theorem run_g {pins : List (Addr × Obj)} {σ : St} {H : Hp} {s : Shared} {Q : VK} {us : List Value} {vs : List V} (F : FnG X.prog X.w X.K X.mg X.base CX k f fd ps sp) (gd : X.A.guards = some []) (hr : Room k X.A)
    (hb : Binds X.K fd ps ds) (hd : Vals dvs ds) (hx : Passes CX X E) (I : Inv X pins σ H s) (r : Vals vs us) (h : sp (vs ++ dvs) H Q E) :
    wpAny (model X.prog X.w) X.A (call (.ref f) us) (EP X pins σ Q) X.xe s := by
  have rr := Vals.append r hd
  have hl : (us ++ ds).length = ps.length := (rr.length.symm).trans (F.len _ _ _ _ h)
  refine wpAny_call (codeAny_mono (F.run X.A X.stack s H _ _ _ Q E gd hr I.env0 (hb s us I.kIn hl) rr h) fun r s' hq => ?_)
  cases r with
  | error er => exact hx pins σ H s er s' I hq
  | ok fl =>
    cases fl with
    | ret u => exact I.after hq
    | next => exact hq.elim
    | brk => exact hq.elim
    | cont => exact hq.elim
theorem pe_callG (F : FnG X.prog X.w X.K X.mg X.base CX k f fd ps sp) (gd : X.A.guards = some []) (hr : Room k X.A) (hg : Gl X x) (hm : X.mg x = some (.ref f)) (hk : PySem.W.keepIn X.K (.ref f) = true)
    (hb : Binds X.K fd ps ds) (hd : Vals dvs ds) (hx : Passes CX X E) (ha : PA X (e :: es) t) (hdb : (x == ("__debug__" : Str)) = false := by decide)
    (he : starEach (e :: es) X.env = (false, eval e X.env) :: starEach es X.env := by rfl) (hpl : (backTo pos (starEach es X.env)).any (·.1) = false := by rfl) :
    PE X (.Call (.Name x p) (e :: es) [] pos) (tCall sp dvs E t) := by
  refine ⟨fun pins s σ H Q I h => wpAny_Call_Name_kw (ld_glob I hg hm ?_ hdb)⟩
  refine PySem.W.callWith_K (h₀ := X.base) I.ok.mod.kin hk (thn (ha.run pos pins s σ H _ I h) fun us s1 hh => ?_) he hpl
  obtain ⟨vs, H1, I1, r, q⟩ := hh
  exact ⟨I1.kIn, run_g F gd hr hb hd hx I1 r q⟩
/-! repr -/
/-- x reads as d, in every state over H -/
def RdV (X : Cx) (H : Hp) (x : V) (d : PyData) : Prop := ∀ (pins : List (Addr × Obj)) (σ : St) (s : Shared) (u : Value), Inv X pins σ H s → RelV x u → ∃ as, Reads s.heap u d as ∧ (d.hasDict = true → sysModules ∉ as)
def rRepr (X : Cx) : List V → Hp → VK → Prop := fun xs H Q => ∃ (x : V) (d : PyData), xs = [x] ∧ RdV X H x d ∧ d.showable = true ∧ d.depth ≤ 20 ∧ d.shown.length ≤ sizeLine ∧ Q (.str d.shown) H
theorem call_reprG (gd : X.A.guards = some []) (hu : X.A.units + 64 < cLine) : CallR X (.builtin "repr") (rRepr X) := by
  intro pins s σ H xs us Q I r h
  obtain ⟨x, d, rfl, rd, sh, dp, sz, q⟩ := h
  obtain ⟨u, rfl, ru⟩ : ∃ u, us = [u] ∧ RelV x u := by
    cases r with
    | cons a b =>
      cases b
      exact ⟨_, rfl, a⟩
  obtain ⟨as, rr, hsm⟩ := rd pins σ s u I ru
  have fin : ∀ (h' : Heap) (t : Tok) (tk : Nat), (∀ b o, s.heap.get? b = some o → h'.get? b = some o) → EP X pins σ Q (.str d.shown t) { s with heap := h', toks := tk } :=
    fun h' t tk k => ⟨.str d.shown, H, I.kept (t' := tk) k, ⟨t, rfl⟩, q⟩
  cases rr with
  | none => exact PySem.P.repr_of_none (fin s.heap s.toks _ fun _ _ z => z)
  | bool b => exact PySem.P.repr_of_bool (fin s.heap s.toks _ fun _ _ z => z)
  | int i t =>
    have hb : i.natAbs.log2 < 1920 := by simpa [PyData.showable] using sh
    exact PySem.P.repr_of_int hb (fin s.heap s.toks _ fun _ _ z => z)
  | str y t => exact PySem.P.repr_of_str (fin s.heap s.toks _ fun _ _ z => z) sz
  | list h1 h2 h3 h4 => exact repr_of_reads' (.list h1 h2 h3 h4) sh hsm gd (by omega) (fun _ _ z => z) (fun h' u tk k => fin h' u tk k) sz
  | tuple h1 h2 h3 h4 => exact repr_of_reads' (.tuple h1 h2 h3 h4) sh hsm gd (by omega) (fun _ _ z => z) (fun h' u tk k => fin h' u tk k) sz
  | dict h1 h2 h3 h4 h5 => exact repr_of_reads' (.dict h1 h2 h3 h4 h5) sh hsm gd (by omega) (fun _ _ z => z) (fun h' u tk k => fin h' u tk k) sz
end
end L2
set_option maxRecDepth 100000
namespace L2
open PySem PySem.Spec PyProof.Rows
/-- the law's call, by a promise that holds where nothing is being shown -/
theorem end_core {P : Program} {w : World} {K : PySem.W.Frag} {mg mb : Str → Option Value} {k : Nat} {fa a : Addr} {fd : FuncData} {x : Str} {sp : Sp} {s₁ : Shared} {vs : List Value} {H : Hp}
    (KX : K.In s₁.heap) (hns : s₁.heap.Ns mainGlobals mg) (hb : s₁.heap.Ns builtinsNs mb) (hbb : ∀ y : Str, y ≠ "__name__" → mb y = bootBuiltins y)
    (lim : s₁.heap.NoLimit) (hg : s₁.gens = #[]) (ha : s₁.heap.get? a = some { cls := .type "list", data := .seq vs.toArray }) (hr : Room k callerA)
    (F : ∀ base : Heap, K.In base → base.Ns mainGlobals mg → FnG P w K mg base CX0 k fa fd [x] sp) (bind : ∀ (s : Shared) (u : Value), BindsTo s fd ⟨[u], []⟩ [(x, u)])
    (hO : Only H) (hok : HOk P w H s₁.heap) (hA : ∀ b, H b ≠ none → b = a) (hK : H a ≠ none → K.lookup a = none)
    (hsp : sp [.ref a] H (fun v _ => v = .bl true) fun _ _ _ => False) :
    codeAny (model P w) callerA (.call (.ref fa) ⟨[.ref a], []⟩) (fun r s' => r = .ok (.ret (.bool true)) ∧ OldK s₁.heap s'.heap ∧ s'.os = s₁.os ∧ AllBare s'.gens) s₁ := by
  have free : ∀ {b : Addr} {o : Obj} {es : Array DictEntry} {ep : Nat}, s₁.heap.get? b = some o → o.data = .dict es ep → H b = none := by
    intro b o es ep e d
    refine Classical.byContradiction fun n => ?_
    have eb := hA b n
    subst eb
    have eo := Option.some.inj (e.symm.trans ha)
    subst eo
    cases d
  have ns' : ∀ {b : Addr} {m : Str → Option Value}, s₁.heap.Ns b m → (hidT s₁.heap H).Ns b m := by
    rintro b m ⟨o, es, ep, e, d, r⟩
    exact ⟨o, es, ep, hidT_get e (free e d), d, r⟩
  have kb : K.In (hidT s₁.heap H) := by
    intro b o e
    refine hidT_get (KX b o e) (Classical.byContradiction fun n => ?_)
    have eb := hA b n
    subst eb
    rw [hK n] at e
    cases e
  have md : Mod K mg (hidT s₁.heap H) := by
    obtain ⟨mc, h1, h2⟩ := lim
    exact ⟨kb, ns' hns, ⟨mb, ns' hb, hbb⟩, ⟨mc, ns' h1, h2⟩⟩
  have ev : Env0 P w K mg (hidT s₁.heap H) callerA [] s₁ H :=
    ⟨rfl, md, fun b o e => of_hidT e, Nat.le_of_eq (hidT_size _ _), trivial, fun b hb => (nomatch hb), hok, .of_eq hg⟩
  refine codeAny_mono ((F _ kb (ns' hns)).run callerA [] s₁ H _ [.ref a] [.ref a] _ _ rfl hr ev (bind s₁ (.ref a)) (.cons rfl .nil) hsp) fun r s' h => ?_
  cases r with
  | error e => exact (h : False).elim
  | ok fl =>
    cases fl with
    | next => exact (h : False).elim
    | brk => exact (h : False).elim
    | cont => exact (h : False).elim
    | ret u =>
      obtain ⟨v, H', os, bare, un, hok', r', q⟩ := h
      have q' : v = .bl true := q
      subst q'
      obtain rfl : u = Value.bool true := r'
      refine ⟨rfl, OldK.of_keep fun b o e => ?_, os, bare⟩
      rcases hO b with z | ⟨ob, xs, z⟩
      · exact un.keep b o e z (fun m => nomatch m) (fun m => nomatch m)
      · have e1 := (hok b _ z).1
        have e2 := (hok' b _ (un.frzs b ob _ z)).1
        exact (Option.some.inj (e.symm.trans e1)) ▸ e2
theorem end_call {P : Program} {w : World} {K : PySem.W.Frag} {mg mb : Str → Option Value} {k : Nat} {fa a : Addr} {fd : FuncData} {x : Str} {sp : Sp} {s₁ : Shared} {vs : List Value} {ns : List Int}
    (KX : K.In s₁.heap) (hns : s₁.heap.Ns mainGlobals mg) (hb : s₁.heap.Ns builtinsNs mb) (hbb : ∀ y : Str, y ≠ "__name__" → mb y = bootBuiltins y)
    (lim : s₁.heap.NoLimit) (hg : s₁.gens = #[]) (ha : s₁.heap.get? a = some { cls := .type "list", data := .seq vs.toArray }) (hi : IntsAre vs ns) (hl : ns.length ≤ sizeLine) (hr : Room k callerA)
    (F : ∀ base : Heap, K.In base → base.Ns mainGlobals mg → FnG P w K mg base CX0 k fa fd [x] sp) (bind : ∀ (s : Shared) (u : Value), BindsTo s fd ⟨[u], []⟩ [(x, u)])
    (hsp : ∀ H : Hp, Only H → SqL K H a (ns.map V.int) → sp [.ref a] H (fun v _ => v = .bl true) fun _ _ _ => False) :
    codeAny (model P w) callerA (.call (.ref fa) ⟨[.ref a], []⟩) (fun r s' => r = .ok (.ret (.bool true)) ∧ OldK s₁.heap s'.heap ∧ s'.os = s₁.os ∧ AllBare s'.gens) s₁ := by
  have rv := vals_ints hi
  cases hk : K.lookup a with
  | some o =>
    have eo := Option.some.inj ((KX a o hk).symm.trans ha)
    subst eo
    refine end_core (H := fun _ => none) KX hns hb hbb lim hg ha hr F bind (fun _ => .inl rfl) (fun _ _ z => nomatch z) (fun _ z => (z rfl).elim) (fun z => (z rfl).elim) (hsp _ (fun _ => .inl rfl) ?_)
    exact .inr ⟨_, vs.toArray, _, hk, rfl, rfl, rfl, by rw [List.size_toArray, hi.length]; exact hl, by simpa using rv⟩
  | none =>
    have at_ : ∀ b, (if b = a then some (HO.frz { cls := .type "list", data := .seq vs.toArray } (.lst (ns.map V.int))) else none) ≠ none → b = a := by
      intro b n
      refine Classical.byContradiction fun z => n (if_neg z)
    have on : Only (fun b => if b = a then some (HO.frz { cls := .type "list", data := .seq vs.toArray } (.lst (ns.map V.int))) else none) := by
      intro b
      by_cases eb : b = a
      · exact .inr ⟨_, _, if_pos eb⟩
      · exact .inl (if_neg eb)
    refine end_core KX hns hb hbb lim hg ha hr F bind on (fun b u z => ?_) at_ (fun _ => hk) (hsp _ on (.inl (.inr ⟨_, if_pos rfl⟩)))
    have eb := at_ b (fun n => nomatch z.symm.trans n)
    subst eb
    have eu := Option.some.inj ((if_pos rfl).symm.trans z)
    subst eu
    exact ⟨ha, by rw [List.length_map]; exact hl, vs, _, rv, ha⟩
theorem walk_ofG {l : PySem.W.OpenLaw} {n k : Nat} {q : Program} {loose : List Str} {XP : (Str → Option Value) → Heap → Prop} {YP : World → Heap → Prop} {d : DefRec} {K : Params → PySem.W.Frag} {sp : World → Sp} {x : Str}
    (hn : l.most = some n) (hn2 : n ≤ sizeLine) (hdf : d.params.defaults = []) (hr : Room k callerA)
    (hY : ∀ (w : World) (h : Heap), YP w h → (K w.params).In h)
    (F : ∀ (w : World) (mg : Str → Option Value) (fa : Addr) (h : Heap), (K w.params).In h → h.Ns mainGlobals mg → mg d.name = some (.ref fa) →
      ∃ fd : FuncData, (∀ (s : Shared) (u : Value), BindsTo s fd ⟨[u], []⟩ [(x, u)]) ∧
        ∀ base : Heap, (K w.params).In base → base.Ns mainGlobals mg → FnG l.prog w (K w.params) mg base CX0 k fa fd [x] (sp w))
    (hsp : ∀ (w : World) (H : Hp) (a : Addr) (ns : List Int), ns.length ≤ n → (∀ z ∈ ns, Builtin.Int.intBits z ≤ 1048576) → Only H → SqL (K w.params) H a (ns.map V.int) →
      sp w [.ref a] H (fun v _ => v = .bl true) fun _ _ _ => False) :
    PySem.W.WalkO q loose XP YP l.row.toRowW d [] (fun f vs => PySem.call f vs) := by
  refine Att.attach_callB hn hdf fun w s₀ s₁ mg mb fa o pm cd doc a vs ns G Y ho hd hcd hmg hobj hints hlen hbits hg => ?_
  obtain ⟨fd, b, f⟩ := F w mg fa _ (hY w _ Y) G.T.g hmg
  exact end_call (hY w _ Y) G.T.g G.T.b G.T.builtins G.T.nolimit hg hobj hints (Nat.le_trans hlen hn2) hr f b fun H hO hS => hsp w H a ns hlen hbits hO hS
end L2
set_option maxRecDepth 100000
namespace L2
open PySem PySem.Spec PyProof.Rows
/-- an own exception class with an own __init__ -/
structure XvI (K : PySem.W.Frag) (C fI : Addr) : Prop where
  cls : XvC K C
  ini : PySem.W.findIn K (.ref C) "__init__" = some (some (.ref fI))
  ty : PySem.W.typeIn K (.ref fI) = some (.type "function")
theorem Vals.rev : ∀ {xs : List V} {us : List Value}, Vals xs us → Vals xs.reverse us.reverse
  | _, _, .nil => .nil
  | _, _, .cons r t => by
    rw [List.reverse_cons, List.reverse_cons]
    exact Vals.append (Vals.rev t) (.cons r .nil)
theorem Fun.kbn {K : PySem.W.Frag} {x qual : Str} {st : Stmt} {f : Addr} {fd : FuncData} {ps : List Str} (F : Fun K x qual st f fd) (n : Nat) (ks : List Str) (g : List Value → List Value → List Value) (gV : List V → List V → List V)
    (h : ∀ (kV doc pm : Value) (an : Option Addr) (cdv ct : Value) (us ws : List Value), us.length = n → ws.length = ks.length →
      bindArgs (PySem.W.fnOf x qual (defArgs st) (defBody st) (defScope st) .none kV doc pm an cdv ct) ⟨us, ks.zip ws⟩ = pure (ps.zip (g us ws)))
    (rel : ∀ {vs : List V} {us : List Value} {zs : List V} {ws : List Value}, Vals vs us → Vals zs ws → Vals (gV vs zs) (g us ws)) : KBn K fd ps n ks g gV := by
  obtain ⟨oc, od, kV, doc, pm, an, cdv, ct, osl, rfl, lk, hcd⟩ := F.ex
  exact ⟨fun s us ws _ l1 l2 => BindsTo.of_eq (h kV doc pm an cdv ct us ws l1 l2), rel⟩
section
variable {X : Cx} {k n : Nat} {fI C : Addr} {fd : FuncData} {ps ks : List Str} {sp : Sp} {x : Str} {p pos : Pos} {e : Expr} {es : List Expr} {kws : List Keyword} {t tk : TA} {g : List Value → List Value → List Value} {gV : List V → List V → List V}
theorem run_mkx {pins : List (Addr × Obj)} {σ : St} {H : Hp} {s : Shared} {Q : VK} {us ws : List Value} {vs zs : List V} (T : XvI X.K C fI) (F : FnOk X.prog X.w X.K X.mg X.base CX0 k fI fd ps sp) (hr : Room (k + 1) X.A)
    (hb : KBn X.K fd ps (n + 1) ks g gV) (hn : n ≤ 1000) (I : Inv X pins σ H s) (r : Vals vs us) (rz : Vals zs ws) (l1 : vs.length = n) (l2 : zs.length = ks.length)
    (h : ∀ a, H a = none → sp (gV (.ref a :: vs) zs) (upd H a (exo a C none)) (fun v H2 => v = .non ∧ Q (.ref a) H2) E0) :
    wpAny (model X.prog X.w) X.A (call (.ref C) us (ks.zip ws)) (EP X pins σ Q) X.xe s := by
  obtain ⟨nm, q, N, bs, bm, sn, sub, ab, col, dd, k0, k1, k2, k3, k5, hC, hbm⟩ := T.cls.oex.cls
  obtain ⟨hp, gn, dr, tt, oss⟩ := s
  have sz : hp.objs.size ≤ hp.objs.size + 1 := Nat.le_succ _
  have keep : ∀ b o, hp.get? b = some o → ((hp.push (PySem.W.kdv_tup us)).push (PySem.HandSPX.excO C hp.objs.size)).get? b = some o :=
    fun _ _ e => Heap.get?_push_of_some _ (Heap.get?_push_of_some _ e)
  have at_ : ((hp.push (PySem.W.kdv_tup us)).push (PySem.HandSPX.excO C hp.objs.size)).get? (hp.objs.size + 1) = some (PySem.HandSPX.excO C hp.objs.size) := by
    heap_get
  have I2 := I.laid (t' := tt) (a := hp.objs.size + 1) (o := exo (hp.objs.size + 1) C none) keep sz (exo_ok at_)
  have hq := h (hp.objs.size + 1) (I.hok.fresh sz)
  have rs : Vals (V.ref (hp.objs.size + 1) :: vs) (Value.ref (hp.objs.size + 1) :: us) := .cons rfl r
  have ln : (Value.ref (hp.objs.size + 1) :: us).length = n + 1 := by rw [List.length_cons, ← r.length, l1]
  have hus : us.length ≤ sizeLine := by
    rw [← r.length, l1, sizeLine_eq]
    omega
  refine wpAny_call (PySem.XKw.mk_call PySem.F.excBase_ValueError (fun Y => PySem.HandSPX.refsVE_contains Y bm hbm) (I.kIn _ _ hC) (PySem.W.looks_findIn I.kIn T.ini)
    (fun y => PySem.W.bind_fn I.kIn y T.ty) hus ?_)
  refine codeAny_mono (F.run _ X.stack _ _ _ _ _ _ _ (hr.make C us (ks.zip ws)) (I2.env0.make C us (ks.zip ws)) (hb.to _ _ ws I2.kIn ln (rz.length.symm.trans l2)) (hb.rel rs rz) hq) fun r s' hq' => ?_
  cases r with
  | error er => exact (hq' : False).elim
  | ok fl =>
    cases fl with
    | ret u =>
      obtain ⟨v, H3, I3, rv, ev, q3⟩ := I2.after hq'
      subst ev
      exact ⟨rv, V.ref (hp.objs.size + 1), H3, I3, rfl, q3⟩
    | next => exact (hq' : False).elim
    | brk => exact (hq' : False).elim
    | cont => exact (hq' : False).elim
/-- C(e, ..) -/
def tMkX (C : Addr) (n : Nat) (sp : Sp) (gV : List V → List V → List V) (t : TA) : TE := fun σ H Q => t σ H fun vs H1 => vs.length = n ∧ ∀ a, H1 a = none → sp (gV (.ref a :: vs) []) (upd H1 a (exo a C none)) (fun v H2 => v = .non ∧ Q (.ref a) H2) E0
theorem pe_mkx (T : XvI X.K C fI) (F : FnOk X.prog X.w X.K X.mg X.base CX0 k fI fd ps sp) (hr : Room (k + 1) X.A) (hb : KBn X.K fd ps (n + 1) [] g gV) (hg : Gl X x) (hm : X.mg x = some (.ref C)) (ha : PA X (e :: es) t)
    (hn : n ≤ 1000 := by decide) (hdb : (x == ("__debug__" : Str)) = false := by decide)
    (he : starEach (e :: es) X.env = (false, eval e X.env) :: starEach es X.env := by rfl) (hpl : (backTo pos (starEach es X.env)).any (·.1) = false := by rfl) :
    PE X (.Call (.Name x p) (e :: es) [] pos) (tMkX C n sp gV t) := by
  refine ⟨fun pins s σ H Q I h => wpAny_Call_Name_kw (ld_glob I hg hm ?_ hdb)⟩
  refine PySem.W.callWith_K (h₀ := X.base) I.ok.mod.kin T.cls.oex.kC (thn (ha.run pos pins s σ H _ I h) fun us s1 hh => ?_) he hpl
  obtain ⟨vs, H1, I1, r, l1, q⟩ := hh
  exact ⟨I1.kIn, run_mkx (ws := []) (zs := []) T F hr hb hn I1 r .nil l1 rfl q⟩
/-- C(k = v, ..) -/
def tMkXK (C : Addr) (m : Nat) (sp : Sp) (gV : List V → List V → List V) (tk : TA) : TE := fun σ H Q => tk σ H fun zs H1 => zs.length = m ∧ ∀ a, H1 a = none → sp (gV [.ref a] zs) (upd H1 a (exo a C none)) (fun v H2 => v = .non ∧ Q (.ref a) H2) E0
theorem pe_mkxK (T : XvI X.K C fI) (F : FnOk X.prog X.w X.K X.mg X.base CX0 k fI fd ps sp) (hr : Room (k + 1) X.A) (hb : KBn X.K fd ps 1 ks g gV) (hg : Gl X x) (hm : X.mg x = some (.ref C)) (hkw : PK X kws tk)
    (hall : (backToKw pos (keywordEach kws X.env)).all (·.1.isSome) = true := by rfl) (hks : (backToKw pos (keywordEach kws X.env)).filterMap (·.1) = ks := by rfl) (hdb : (x == ("__debug__" : Str)) = false := by decide)
    (hpl : ((backTo pos (starEach [] X.env)).any (·.1) || (backToKw pos (keywordEach kws X.env)).any (·.1.isNone)) = false := by rfl) :
    PE X (.Call (.Name x p) [] kws pos) (tMkXK C ks.length sp gV tk) := by
  refine ⟨fun pins s σ H Q I h => wpAny_Call_Name_kw (ld_glob I hg hm ?_ hdb)⟩
  refine PySem.W.callWith_KW0 (h₀ := X.base) I.ok.mod.kin T.cls.oex.kC hall ?_ hpl
  refine thn (hkw.run pos pins s σ H _ I h) fun ws s2 hh => ?_
  obtain ⟨zs, H2, I2, rz, l2, q2⟩ := hh
  refine ⟨I2.kIn, ?_⟩
  rw [hks]
  exact run_mkx (n := 0) (us := []) (vs := []) T F hr hb (Nat.zero_le _) I2 .nil rz rfl l2 q2
/-- C(), no __init__ of its own -/
theorem pe_mkx0 {bmB : List Value} {B newId initId : String} (FF : ExcBaseFacts B newId initId bmB) (q : PySem.W.excIn X.K C bmB newId = true) (kC : PySem.W.keepIn X.K (.ref C) = true) (hg : Gl X x) (hm : X.mg x = some (.ref C))
    (hdb : (x == ("__debug__" : Str)) = false := by decide) : PE X (.Call (.Name x p) [] [] pos) (fun _ H Q => ∀ a, H a = none → Q (.ref a) (upd H a (exo a C none))) := by
  refine ⟨fun pins s σ H Q I h => wpAny_Call_Name_kw (ld_glob I hg hm ?_ hdb)⟩
  refine PySem.W.callWith_K0 I.kIn kC ?_
  obtain ⟨bm, N, nm, qn, bs, hdct, sn, sub, ab, col, dd, k0, k1, k2, k3, k5, mN, hC, hN, hni, T⟩ := exc_obj I.kIn q
  refine wpAny_call_exc_subT FF T hC hN hni (fun h' a hm => ?_) (Nat.zero_le _)
  have hn : H a = none := I.hok.gone hm.new
  obtain ⟨t, ht, _⟩ := hm.there
  exact ⟨V.ref a, upd H a (exo a C none), I.laidN hm.keeps hm.new hn (exo_ok ht), rfl, h a hn⟩
end
end L2
set_option maxRecDepth 100000
namespace Toy
open PySem L2
def top (i : Nat) : Stmt := PySem.Challenge.pw_lanebanks_k24_whole_rules_of_kinds.main.body.getD i (.Pass ⟨0, 0, 0, 0⟩)
abbrev s__law_pen : Stmt := top 38
abbrev s__law_draw : Stmt := top 39
abbrev s__law_pick : Stmt := top 40
/-- the built-ins' names stand for themselves -/
structure TB (mg : Str → Option Value) : Prop where
  m_int : mg "int" = none
  m_abs : mg "abs" = none
  m_len : mg "len" = none
  m_list : mg "list" = none
/-- the pen at p: the cells ns at l, how many were drawn, what is left of a great one -/
structure PenAt (H : Hp) (p l : Addr) (ns : List Int) (at_ left : Int) : Prop where
  pen : H p = some (.lst [.ref l, .int at_, .int left])
  cells : H l = some (.lst (ns.map V.int))
  few : ns.length ≤ 63
  bits : ∀ z ∈ ns, Builtin.Int.intBits z ≤ 1048576
  low : 0 ≤ at_
theorem PenAt.ne {H : Hp} {p l : Addr} {ns : List Int} {a b : Int} (P : PenAt H p l ns a b) : l ≠ p := fun e => by
  have h1 := P.cells
  rw [e, P.pen] at h1
  cases ns with
  | nil => cases h1
  | cons z r => cases r with
    | nil => cases h1
    | cons y r => cases h1
theorem PenAt.put {H : Hp} {p l : Addr} {ns : List Int} {a b : Int} (P : PenAt H p l ns a b) (c d : Int) (h : 0 ≤ c) : PenAt (upd H p (.lst [.ref l, .int c, .int d])) p l ns c d :=
  ⟨upd_same, by rw [upd_ne P.ne]; exact P.cells, P.few, P.bits, h⟩
/-- all that was tracked but p is as it was -/
def But (p : Addr) (H H' : Hp) : Prop := ∀ b o, b ≠ p → H b = some o → H' b = some o
theorem But.refl (p : Addr) (H : Hp) : But p H H := fun _ _ _ h => h
theorem But.of {p : Addr} {H H' : Hp} (h : Same H H') : But p H H' := fun b o _ e => h b o e
theorem But.trans {p : Addr} {H H1 H2 : Hp} (a : But p H H1) (b : But p H1 H2) : But p H H2 := fun c o n h => b c o n (a c o n h)
theorem But.put {p : Addr} {H H1 : Hp} {o : HO} (a : But p H H1) : But p H (upd H1 p o) := fun c u n h => by
  rw [upd_ne n]
  exact a c u n h
theorem But.new {p q : Addr} {H H1 : Hp} {o : HO} (a : But p H H1) (hq : H1 q = none) : But p H (upd H1 q o) := fun c u n h => by
  rw [upd_ne (ne_of_none (a c u n h) hq)]
  exact a c u n h
theorem But.free {p q : Addr} {H H1 : Hp} (a : But p H H1) (hq : H1 q = none) (n : q ≠ p) : H q = none := by
  cases e : H q with
  | none => rfl
  | some o =>
    rw [a q o n e] at hq
    cases hq
theorem PenAt.new {H : Hp} {p l q : Addr} {ns : List Int} {a b : Int} {o : HO} (P : PenAt H p l ns a b) (hq : H q = none) : PenAt (upd H q o) p l ns a b :=
  ⟨by rw [upd_ne (ne_of_none P.pen hq)]; exact P.pen, by rw [upd_ne (ne_of_none P.cells hq)]; exact P.cells, P.few, P.bits, P.low⟩
theorem atI_of {α : Type} {xs : List α} {i : Int} {v : α} (h0 : 0 ≤ i) (h : xs[i.toNat]? = some v) : atI xs i = some v := by
  have e : i = ((i.toNat : Nat) : Int) := (Int.toNat_of_nonneg h0).symm
  rw [e]
  exact atI_nat h
theorem dp_ints {K : PySem.W.Frag} {H : Hp} : ∀ ns : List Int, DpAll K H (ns.map V.int) (ns.map PyData.int)
  | [] => .nil
  | z :: r => .cons (.int z) (dp_ints r)
theorem shaped_ints (ns : List Int) : SeqAt.shaped (.list (ns.map PyData.int)) = true := by
  have h : ∀ ns : List Int, PyData.canLayAll0 (ns.map PyData.int) = true ∧ PyData.depthAll (ns.map PyData.int) = 0 := by
    intro ns
    induction ns with
    | nil => exact ⟨rfl, rfl⟩
    | cons z r ih => exact ⟨by simp [PyData.canLayAll0, PyData.canLay0, ih.1], by simp [PyData.depthAll, PyData.depth, ih.2]⟩
  simp [SeqAt.shaped, PyData.canLay0, PyData.depth, h ns]
/-- _law_pen(script) -/
def spPen (K : PySem.W.Frag) : Sp := fun vs H Q _ => ∃ (a : Addr) (ns : List Int), vs = [.ref a] ∧ SqL K H a (ns.map V.int) ∧ ns.length ≤ 63 ∧ (∀ z ∈ ns, Builtin.Int.intBits z ≤ 1048576) ∧
  ∀ (H' : Hp) (p l : Addr), Same H H' → H p = none → PenAt H' p l ns 0 0 → Q (.ref p) H'
/-- _law_draw(pen, many): some digit below many; the pen goes on -/
def spDraw : Sp := fun vs H Q _ => ∃ (p l : Addr) (ns : List Int) (a b many : Int), vs = [.ref p, .int many] ∧ PenAt H p l ns a b ∧ a ≤ 1000000 ∧ 0 < many ∧ many.natAbs.log2 < 9000 ∧
  ∀ (H' : Hp) (d a' b' : Int), 0 ≤ d → d < many → a ≤ a' → a' ≤ a + 1 → But p H H' → PenAt H' p l ns a' b' → Q (.int d) H'
/-- _law_pick(pen, some): one of a list's items -/
def spPick (K : PySem.W.Frag) : Sp := fun vs H Q _ => ∃ (p l q : Addr) (ns : List Int) (a b : Int) (xs : List V), vs = [.ref p, .ref q] ∧ PenAt H p l ns a b ∧ a ≤ 1000000 ∧ SqL K H q xs ∧ q ≠ p ∧ 0 < xs.length ∧ xs.length ≤ 1000 ∧
  ∀ (H' : Hp) (i : Nat) (v : V) (a' b' : Int), xs[i]? = some v → a ≤ a' → a' ≤ a + 1 → But p H H' → PenAt H' p l ns a' b' → Q v H'
theorem sq_lt {a : Int} (h0 : 0 ≤ a) (h : a ≤ 1000000) : 0 ≤ a * a ∧ a * a ≤ 1000000000000 := by
  refine ⟨Int.mul_nonneg h0 h0, ?_⟩
  have := Int.mul_le_mul h h h0 (by decide)
  omega
theorem mul_lt_of {x y m n : Int} (h0 : 0 ≤ x) (h1 : x ≤ m) (h2 : 0 ≤ y) (h3 : y ≤ n) : 0 ≤ x * y ∧ x * y ≤ m * n :=
  ⟨Int.mul_nonneg h0 h2, Int.mul_le_mul h1 h3 h2 (Int.le_trans h0 h1)⟩
theorem mix_ok {x a c d : Int} (h0 : 0 ≤ x) (h1 : x < 2147483629) (a0 : 0 ≤ a) (a1 : a ≤ 1000000) (c0 : 0 ≤ c) (c1 : c ≤ 1000000) (d0 : 0 ≤ d) (d1 : d ≤ 1000000) :
    0 ≤ x * (2 * a + c) + d * a * a + 13 ∧ x * (2 * a + c) + d * a * a + 13 < 18446744073709551616 := by
  have h2 := mul_lt_of (m := 2147483629) (n := 3000000) h0 (by omega) (show 0 ≤ 2 * a + c by omega) (by omega)
  have h3 := mul_lt_of (m := 1000000) (n := 1000000000000) d0 d1 (sq_lt a0 a1).1 (sq_lt a0 a1).2
  rw [Int.mul_assoc d a a]
  omega
theorem natAbs_lt_of {x : Int} (h0 : 0 ≤ x) (h : x < 18446744073709551616) : x.natAbs < 2 ^ 64 := by
  have e : (2 : Nat) ^ 64 = 18446744073709551616 := by decide
  rw [e]
  omega
section
variable {P : Program} {w : World} {K : PySem.W.Frag} {mg : Str → Option Value} {base : Heap}
abbrev N__law_pen : List Str := ["_law_script"]
theorem sc__law_pen : FnScope N__law_pen ["_law_script"] (defScope s__law_pen) := ⟨rfl, rfl, rfl, by decide +kernel, rfl, by decide +kernel, by decide +kernel⟩
theorem ok__law_pen {f : Addr} {fd : FuncData} (F : Fun K "_law_pen" "_law_pen" s__law_pen f fd) (T : TB mg) : FnOk P w K mg base CX0 1 f fd ["_law_script"] (spPen K) := by
  refine F.ok sc__law_pen (fun vs H Q E h => ?_) (fun cdv A outer s H vs Q E hr h => ?_)
  · obtain ⟨a, ns, rfl, _⟩ := h
    rfl
  · obtain ⟨a, ns, rfl, hS, hl, hb, k⟩ := h
    refine ⟨_, (pss_one (ps_ret (pe_lst (pa_cons (pe_callTy call_list_of (by rfl) T.m_list (by decide +kernel) (pa_cons (pe_slice sl_list (pv 0) po_none (po_some pe_int)) pa_nil)) (pa_cons pe_int (pa_cons pe_int pa_nil)))))), ?_⟩
    refine ⟨_, rfl, _, rfl, _, _, rfl, hS, fun q hq => ?_⟩
    have e : cutV (ns.map V.int) none (some 63) = ns.map V.int := by
      show ((ns.map V.int).drop 0).take (HT.sIx _ _ _ - 0) = _
      have h2 : (ns.map V.int).length ≤ HT.sIx (ns.map V.int).length (ns.map V.int).length (some 63) - 0 := by
        rw [List.length_map]
        simp [HT.sIx]
        omega
      rw [List.drop_zero, List.take_of_length_le h2]
    refine ⟨q, _, rfl, .inl (SqL.of upd_same), fun l hl2 => ?_⟩
    have nlq : l ≠ q := fun e => by
      rw [e, upd_same] at hl2
      cases hl2
    refine ⟨(by show 3 ≤ sizeLine; decide), fun p hp => ?_⟩
    have npl : p ≠ l := fun e => by
      rw [e, upd_same] at hp
      cases hp
    rw [upd_ne npl] at hp
    have npq : p ≠ q := fun e => by
      rw [e, upd_same] at hp
      cases hp
    rw [upd_ne npq] at hp
    refine k _ p l (fun b o e2 => ?_) hp ⟨upd_same, ?_, hl, hb, Int.le_refl 0⟩
    · rw [upd_ne (ne_of_none e2 hp)]
      have hl3 := hl2
      rw [upd_ne nlq] at hl3
      rw [upd_ne (ne_of_none e2 hl3), upd_ne (ne_of_none e2 hq)]
      exact e2
    · rw [upd_ne npl.symm, upd_same, e]
abbrev N__law_draw : List Str := ["_law_pen_here", "_law_many", "_law_digit", "_law_at", "_law_cell", "_law_great", "_law_mixed"]
theorem sc__law_draw : FnScope N__law_draw ["_law_pen_here", "_law_many"] (defScope s__law_draw) := ⟨rfl, rfl, rfl, by decide +kernel, rfl, by decide +kernel, by decide +kernel⟩
set_option maxHeartbeats 4000000 in
theorem ok__law_draw {f : Addr} {fd : FuncData} (F : Fun K "_law_draw" "_law_draw" s__law_draw f fd) (T : TB mg) : FnOk P w K mg base CX0 1 f fd ["_law_pen_here", "_law_many"] spDraw := by
  refine F.ok sc__law_draw (fun vs H Q E h => ?_) (fun cdv A outer s H vs Q E hr h => ?_)
  · obtain ⟨p, l, ns, a, b, m, rfl, _⟩ := h
    rfl
  · obtain ⟨p, l, ns, a, b, m, rfl, hP, ha, hm, hml, k⟩ := h
    have hp := hP.pen
    have hc := hP.cells
    have h0 := hP.low
    refine ⟨_, (pss_cons (ps_if (pt_cmpR op_gt (pe_ix ix_list (pv 0) pe_int (fun _ _ => rfl)) pe_int (nomark _)) (pss_cons (ps_set (i := 2) sc__law_draw.nd rfl (Or.inl rfl) (pe_op op_mod (pe_callTy call_int1 (by rfl) T.m_int (by decide +kernel) (pa_cons (pe_ix ix_list (pv 0) pe_int (fun _ _ => rfl)) pa_nil)) (pv 1)))
 (pss_cons (ps_asg (pe_op op_fdivW (pe_callTy call_int1 (by rfl) T.m_int (by decide +kernel) (pa_cons (pe_ix ix_list (pv 0) pe_int (fun _ _ => rfl)) pa_nil)) (pv 1)) (pg_sub (pv 0) pe_int set_list))
 (pss_one (ps_ret (pv 2))))) pss_nil)
 (pss_cons (ps_set (i := 3) sc__law_draw.nd rfl (Or.inl rfl) (pe_ix ix_list (pv 0) pe_int (fun _ _ => rfl)))
 (pss_cons (ps_asg (pe_op op_add (pv 3) pe_int) (pg_sub (pv 0) pe_int set_list))
 (pss_cons (ps_set (i := 4) sc__law_draw.nd rfl (Or.inl rfl) (pe_op op_add (pe_op op_mul pe_int (pv 3)) pe_int))
 (C8.pss_cut (ps_if (pt_cmpR (op_neD hr.units) (pe_ix ix_list (pv 0) pe_int (fun _ _ => rfl)) (pe_lst pa_nil) (nomark _)) (pss_one (ps_set (i := 4) sc__law_draw.nd rfl (Or.inl rfl) (pe_ix ix_list (pe_ix ix_list (pv 0) pe_int (fun _ _ => rfl)) (pe_op op_mod (pe_callTy call_int1 (by rfl) T.m_int (by decide +kernel) (pa_cons (pv 3) pa_nil)) (pe_callB call_len_seq (by rfl) T.m_len (by decide +kernel) (pa_cons (pe_ix ix_list (pv 0) pe_int (fun _ _ => rfl)) pa_nil))) (fun _ _ => rfl)))) pss_nil)
 (C8.pss_cut (ps_if (PW.pt (pw_and (pt_cmpR op_lt (pv 3) (pe_callB call_len_seq (by rfl) T.m_len (by decide +kernel) (pa_cons (pe_ix ix_list (pv 0) pe_int (fun _ _ => rfl)) pa_nil)) (nomark _)) (pw_and1 (pt_cmpR op_ge (pe_callB call_abs (by rfl) T.m_abs (by decide +kernel) (pa_cons (pv 4) pa_nil)) (pe_op op_pow pe_int pe_int) (nomark _))))) (pss_cons (ps_set (i := 5) sc__law_draw.nd rfl (Or.inl rfl) (pe_op op_add (pe_op op_mul pe_int (pe_op op_sub (pe_callB call_abs (by rfl) T.m_abs (by decide +kernel) (pa_cons (pv 4) pa_nil)) (pe_op op_pow pe_int pe_int))) (pe_callTy call_int1 (by rfl) T.m_int (by decide +kernel) (pa_cons (pe_cmpR op_lt (pv 4) pe_int (nomark _)) pa_nil))))
 (pss_cons (ps_asg (pe_op op_fdivW (pe_callTy call_int1 (by rfl) T.m_int (by decide +kernel) (pa_cons (pv 5) pa_nil)) (pv 1)) (pg_sub (pv 0) pe_int set_list))
 (pss_one (ps_ret (pe_op op_mod (pe_callTy call_int1 (by rfl) T.m_int (by decide +kernel) (pa_cons (pv 5) pa_nil)) (pv 1)))))) pss_nil)
 (pss_cons (ps_set (i := 6) sc__law_draw.nd rfl (Or.inl rfl) (pe_op op_mod (pe_callTy call_int1 (by rfl) T.m_int (by decide +kernel) (pa_cons (pe_op op_pow (pe_op op_add (pe_op op_add (pe_op op_mod (pe_callTy call_int1 (by rfl) T.m_int (by decide +kernel) (pa_cons (pv 4) pa_nil)) pe_int) (pe_op op_mul pe_int (pv 3))) pe_int) pe_int) pa_nil)) pe_int))
 (pss_cons (ps_set (i := 6) sc__law_draw.nd rfl (Or.inl rfl) (pe_op op_mod (pe_callTy call_int1 (by rfl) T.m_int (by decide +kernel) (pa_cons (pe_op op_pow (pe_op op_add (pe_op op_add (pe_op op_mul (pv 6) (pe_op op_add (pe_op op_mul pe_int (pv 3)) pe_int)) (pe_op op_mul (pe_op op_mul pe_int (pv 3)) (pv 3))) pe_int) pe_int) pa_nil)) pe_int))
 (pss_one (ps_ret (pe_op op_mod (pe_callTy call_int1 (by rfl) T.m_int (by decide +kernel) (pa_cons (pe_op op_fdivW (pv 6) pe_int) pa_nil)) (pv 1)))))))))))), ?_⟩
    refine ⟨_, rfl, p, _, _, _, rfl, rfl, SqL.of hp, rfl, _, _, rfl, rfl, _, rfl, ?_⟩
    refine ite2 (fun c1 => ?_) (fun c1 => ?_)
    · -- a digit of what is left
      refine ⟨_, rfl, p, _, _, _, rfl, rfl, SqL.of hp, rfl, .inl ⟨_, rfl, _, rfl, _, _, rfl, rfl, hm, ?_⟩⟩
      refine ⟨_, rfl, p, _, _, _, rfl, rfl, SqL.of hp, rfl, .inl ⟨_, rfl, _, rfl, _, _, rfl, rfl, ⟨hm, hml⟩, ?_⟩⟩
      refine ⟨_, rfl, p, _, _, _, rfl, rfl, hp, rfl, ?_⟩
      refine ⟨_, rfl, ?_⟩
      exact k _ _ _ _ (Int.emod_nonneg _ (Int.ne_of_gt hm)) (Int.emod_lt_of_pos _ hm) (Int.le_refl _) (by omega) (But.refl _ _).put (hP.put _ _ h0)
    · refine ⟨_, rfl, p, _, _, _, rfl, rfl, SqL.of hp, rfl, ?_⟩
      refine ⟨_, rfl, _, _, rfl, rfl, _, rfl, p, _, _, _, rfl, rfl, hp, rfl, ?_⟩
      have hP1 : PenAt (upd H p (.lst [.ref l, .int (a + 1), .int b])) p l ns (a + 1) b := hP.put _ _ (by omega)
      have hB1 : But p H (upd H p (.lst [.ref l, .int (a + 1), .int b])) := (But.refl _ _).put
      refine ⟨_, rfl, _, _, rfl, rfl, .inl ⟨by omega, by omega⟩, _, _, rfl, rfl, ?_⟩
      refine ⟨fun σ H' => ∃ cell : Int, σ = [some (.ref p), some (.int m), none, some (.int a), some (.int cell), none, none] ∧ PenAt H' p l ns (a + 1) b ∧ But p H H', ?_, ?_⟩
      · refine ⟨_, rfl, p, _, _, _, rfl, rfl, SqL.of hP1.pen, rfl, Nat.zero_le _, fun q hq => ?_⟩
        have hP2 := hP1.new (o := .lst []) hq
        have hB2 := hB1.new (o := .lst []) hq
        refine ⟨.list (ns.map .int), .list [], .lst (SqL.of hP2.cells) (dp_ints ns), .lst (SqL.of upd_same) .nil, shaped_ints ns, rfl, _, rfl, ?_⟩
        refine ite2 (fun c2 => ?_) (fun c2 => ?_)
        · have hne : ns ≠ [] := by
            rintro rfl
            exact absurd c2 (by decide +kernel)
          have hpos : 0 < ns.length := List.length_pos_iff.mpr hne
          have hm1 := Int.emod_nonneg a (b := (ns.length : Int)) (by omega)
          have hm2 := Int.emod_lt_of_pos a (b := (ns.length : Int)) (by omega)
          have hi : (a % (ns.length : Int)).toNat < ns.length := by omega
          have hat : atI (ns.map V.int) (a % (ns.length : Int)) = some (.int ns[(a % (ns.length : Int)).toNat]) := atI_of hm1 (by
            rw [List.getElem?_map, List.getElem?_eq_getElem hi]
            rfl)
          refine ⟨_, rfl, p, _, _, _, rfl, rfl, SqL.of hP2.pen, rfl, ?_⟩
          refine ⟨_, rfl, .inl ⟨_, rfl, _, rfl, p, _, _, _, rfl, rfl, SqL.of hP2.pen, rfl, l, _, rfl, .inl (SqL.of hP2.cells), _, _, rfl, rfl, by rw [List.length_map]; omega, ?_⟩⟩
          refine ⟨l, _, _, _, rfl, rfl, SqL.of hP2.cells, by rw [List.length_map]; exact hat, ?_⟩
          exact ⟨_, rfl, hP2, hB2⟩
        · exact ⟨_, rfl, hP2, hB2⟩
      · rintro σ H' ⟨cell, rfl, hQ, hB⟩
        have hpw : CPow 10 18 := ⟨by decide, by decide, by decide⟩
        refine ⟨fun σ H3 => σ = [some (.ref p), some (.int m), none, some (.int a), some (.int cell), none, none] ∧ PenAt H3 p l ns (a + 1) b ∧ But p H H3, ?_, ?_⟩
        rotate_left
        · rintro σ H3 ⟨rfl, hR, hC⟩
          have b1 := Int.emod_nonneg cell (b := 2147483563) (by decide)
          have b2 := Int.emod_lt_of_pos cell (b := 2147483563) (by decide)
          refine ⟨_, rfl, .inl ⟨_, rfl, _, _, rfl, rfl, (by show (0 : Int) < 2147483563; decide), _, rfl, _, _, rfl, rfl, .inl ⟨by decide, by decide⟩, _, _, rfl, rfl, _, _, rfl, rfl, _, _, rfl, rfl, ⟨by decide, by decide, natAbs_lt_of (by omega) (by omega)⟩, ?_⟩⟩
          refine .inl ⟨_, rfl, _, _, rfl, rfl, (by show (0 : Int) < 2147483629; decide), ?_⟩
          have x1 := Int.emod_nonneg ((cell % 2147483563 + 79352 * a + 4816) ^ 5) (b := 2147483629) (by decide)
          have x2 := Int.emod_lt_of_pos ((cell % 2147483563 + 79352 * a + 4816) ^ 5) (b := 2147483629) (by decide)
          have mx := mix_ok (c := 389) (d := 54056) x1 x2 h0 ha (by decide) (by decide) (by decide) (by decide)
          refine ⟨_, rfl, _, rfl, _, _, rfl, rfl, .inl ⟨by decide, by decide⟩, _, _, rfl, rfl, _, _, rfl, rfl, .inl ⟨Int.lt_of_lt_of_le (by decide) x1, Int.lt_trans x2 (by decide)⟩, ?_⟩
          refine ⟨_, rfl, _, _, rfl, rfl, .inl ⟨by decide, by decide⟩, _, rfl, _, _, rfl, rfl, .inl ⟨by omega, by omega⟩, _, _, rfl, rfl, _, _, rfl, rfl, _, _, rfl, rfl, ⟨by decide, by decide, natAbs_lt_of mx.1 mx.2⟩, ?_⟩
          refine .inl ⟨_, rfl, _, _, rfl, rfl, (by show (0 : Int) < 2147483587; decide), ?_⟩
          refine ⟨_, rfl, _, _, rfl, rfl, ⟨by decide, by decide⟩, .inl ⟨_, rfl, _, rfl, _, _, rfl, rfl, hm, ?_⟩⟩
          exact k _ _ _ _ (Int.emod_nonneg _ (Int.ne_of_gt hm)) (Int.emod_lt_of_pos _ hm) (by omega) (Int.le_refl _) hC hR
        refine ⟨_, rfl, _, rfl, p, _, _, _, rfl, rfl, SqL.of hQ.pen, rfl, l, _, rfl, .inl (SqL.of hQ.cells), _, _, rfl, rfl, _, rfl, ?_⟩
        refine ite2 (fun c2 => ?_) (fun c2 => ?_)
        · refine ⟨_, rfl, _, rfl, _, _, rfl, rfl, hpw, _, _, rfl, rfl, _, rfl, ?_⟩
          refine ite2 (fun c3 => ?_) (fun c3 => ?_)
          · refine ⟨_, rfl, _, rfl, _, _, rfl, rfl, hpw, _, _, rfl, rfl, _, _, rfl, rfl, .inl ⟨by decide, by decide⟩, _, rfl, _, _, rfl, rfl, .inr ⟨_, rfl, _, _, rfl, rfl, ?_⟩⟩
            refine ⟨_, rfl, .inl ⟨_, rfl, _, rfl, _, _, rfl, rfl, ⟨hm, hml⟩, _, rfl, p, _, _, _, rfl, rfl, hQ.pen, rfl, ?_⟩⟩
            refine ⟨_, rfl, .inl ⟨_, rfl, _, rfl, _, _, rfl, rfl, hm, ?_⟩⟩
            exact k _ _ _ _ (Int.emod_nonneg _ (Int.ne_of_gt hm)) (Int.emod_lt_of_pos _ hm) (by omega) (Int.le_refl _) hB.put (hQ.put _ _ (by omega))
          · exact ⟨rfl, hQ, hB⟩
        · exact ⟨rfl, hQ, hB⟩
abbrev N__law_pick : List Str := ["_law_pen_here", "_law_some"]
theorem sc__law_pick : FnScope N__law_pick ["_law_pen_here", "_law_some"] (defScope s__law_pick) := ⟨rfl, rfl, rfl, by decide +kernel, rfl, by decide +kernel, by decide +kernel⟩
theorem ok__law_pick {f fD : Addr} {fd fdD : FuncData} (F : Fun K "_law_pick" "_law_pick" s__law_pick f fd) (T : TB mg) (FD : Fun K "_law_draw" "_law_draw" s__law_draw fD fdD) (gD : mg "_law_draw" = some (.ref fD)) (bD : Binds K fdD ["_law_pen_here", "_law_many"] []) :
    FnOk P w K mg base CX0 2 f fd ["_law_pen_here", "_law_some"] (spPick K) := by
  have GD : FnOk P w K mg base CX0 1 fD fdD ["_law_pen_here", "_law_many"] spDraw := ok__law_draw FD T
  have kD := FD.kp
  refine F.ok sc__law_pick (fun vs H Q E h => ?_) (fun cdv A outer s H vs Q E hr h => ?_)
  · obtain ⟨p, l, q, ns, a, b, xs, rfl, _⟩ := h
    rfl
  · obtain ⟨p, l, q, ns, a, b, xs, rfl, hP, ha, hq, nq, x0, x1, k⟩ := h
    refine ⟨_, (pss_one (ps_ret (pe_ix ix_list (pv 1) (pe_call GD hr rfl gD kD bD .nil pass0 (pa_cons (pv 0) (pa_cons (pe_callB call_len_seq (by rfl) T.m_len (by decide +kernel) (pa_cons (pv 1) pa_nil)) pa_nil))) (fun _ _ => rfl)))), ?_⟩
    refine ⟨_, rfl, _, rfl, _, rfl, q, _, rfl, .inl hq, p, l, ns, a, b, _, rfl, hP, ha, by omega, ?_, fun H' d a' b' d0 d1 e1 e2 hB hR => ?_⟩
    · have h2 : (xs.length : Int).natAbs < 2 ^ 10 := by
        have e : (2 : Nat) ^ 10 = 1024 := by decide
        rw [e]
        omega
      exact Nat.lt_of_lt_of_le (PySem.Flt.log2_lt_of (by decide) h2) (by decide)
    · have hi : d.toNat < xs.length := by omega
      refine ⟨q, xs, d, xs[d.toNat], rfl, rfl, ?_, atI_of d0 (List.getElem?_eq_getElem hi), k H' d.toNat _ a' b' (List.getElem?_eq_getElem hi) e1 e2 hB hR⟩
      rcases hq with (h | ⟨o, h⟩) | h
      · exact .inl (.inl (hB _ _ nq h))
      · exact .inl (.inr ⟨o, hB _ _ nq h⟩)
      · exact .inr h
end
end Toy
set_option maxRecDepth 100000
namespace L2
open PySem PySem.Spec PyProof.Rows
section
variable {X : Cx} {CX : CXT} {k n : Nat} {f : Addr} {fd : FuncData} {ps ks : List Str} {sp : Sp} {E : XK} {x : Str} {p pos : Pos} {kws : List Keyword} {tk : TA} {g : List Value → List Value → List Value} {gV : List V → List V → List V}
/-- f(k = v, ..) -/
def tCallK0 (m : Nat) (sp : Sp) (gV : List V → List V → List V) (E : XK) (tk : TA) : TE := fun σ H Q => tk σ H fun zs H1 => zs.length = m ∧ sp (gV [] zs) H1 Q E
theorem pe_callK0 (F : FnOk X.prog X.w X.K X.mg X.base CX k f fd ps sp) (hr : Room k X.A) (hg : Gl X x) (hm : X.mg x = some (.ref f)) (hk : PySem.W.keepIn X.K (.ref f) = true) (hb : KBn X.K fd ps 0 ks g gV) (hx : Passes CX X E) (hkw : PK X kws tk)
    (hall : (backToKw pos (keywordEach kws X.env)).all (·.1.isSome) = true := by rfl) (hks : (backToKw pos (keywordEach kws X.env)).filterMap (·.1) = ks := by rfl) (hdb : (x == ("__debug__" : Str)) = false := by decide)
    (hpl : ((backTo pos (starEach [] X.env)).any (·.1) || (backToKw pos (keywordEach kws X.env)).any (·.1.isNone)) = false := by rfl) :
    PE X (.Call (.Name x p) [] kws pos) (tCallK0 ks.length sp gV E tk) := by
  refine ⟨fun pins s σ H Q I h => wpAny_Call_Name_kw (ld_glob I hg hm ?_ hdb)⟩
  refine PySem.W.callWith_KW0 (h₀ := X.base) I.ok.mod.kin hk hall ?_ hpl
  refine thn (hkw.run pos pins s σ H _ I h) fun ws s2 hh => ?_
  obtain ⟨zs, H2, I2, rz, l2, q2⟩ := hh
  refine ⟨I2.kIn, ?_⟩
  rw [hks]
  exact run_fnN (n := 0) (us := []) (vs := []) F hr hb hx I2 .nil rz rfl l2 q2
end
/-- kinds of plain values -/
inductive Plain (K : PySem.W.Frag) (H : Hp) : V → String → Prop where
  | non : Plain K H .non "NoneType"
  | bl (b : Bool) : Plain K H (.bl b) "bool"
  | int (i : Int) : Plain K H (.int i) "int"
  | str (z : Str) : Plain K H (.str z) "str"
  | lst {a : Addr} {xs : List V} (e : H a = some (.lst xs)) : Plain K H (.ref a) "list"
  | tup {a : Addr} {xs : List V} (e : H a = some (.tup xs)) : Plain K H (.ref a) "tuple"
  | dK {a : Addr} {kvs : List (Key × V)} (e : H a = some (.dK kvs)) : Plain K H (.ref a) "dict"
theorem Plain.ty {K : PySem.W.Frag} {H : Hp} {x : V} {T : String} (h : Plain K H x T) : TyX K H x (.type T) := by
  cases h with
  | non => exact .base .non
  | bl b => exact .base (.bl b)
  | int i => exact .base (.int i)
  | str z => exact .base (.str z)
  | lst e => exact .base (.lst e)
  | tup e => exact .base (.tup e)
  | dK e => exact .base (.dK e)
def isI : V → Bool
  | .int _ => true
  | _ => false
def isB : V → Bool
  | .bl _ => true
  | _ => false
def isS : V → Bool
  | .str _ => true
  | _ => false
theorem Plain.kInt {K : PySem.W.Frag} {H : Hp} {x : V} {T : String} (h : Plain K H x T) : PySem.W.kitOne K (.type T) (.type "int") = some (isI x || isB x) := by
  cases h <;> first
    | exact kit_ty (show kitB _ _ = some true by decide +kernel)
    | exact kit_ty (show kitB _ _ = some false by decide +kernel)
theorem Plain.kBool {K : PySem.W.Frag} {H : Hp} {x : V} {T : String} (h : Plain K H x T) : PySem.W.kitOne K (.type T) (.type "bool") = some (isB x) := by
  cases h <;> first
    | exact kit_ty (show kitB _ _ = some true by decide +kernel)
    | exact kit_ty (show kitB _ _ = some false by decide +kernel)
theorem Plain.kStr {K : PySem.W.Frag} {H : Hp} {x : V} {T : String} (h : Plain K H x T) : PySem.W.kitOne K (.type T) (.type "str") = some (isS x) := by
  cases h <;> first
    | exact kit_ty (show kitB _ _ = some true by decide +kernel)
    | exact kit_ty (show kitB _ _ = some false by decide +kernel)
end L2
set_option maxRecDepth 100000
namespace L2
open PySem PySem.Spec PyProof.Rows
theorem PE.imp {X : Cx} {e : Expr} {t t' : TE} (h : PE X e t) (i : ∀ σ H Q, t' σ H Q → t σ H Q) : PE X e t' :=
  ⟨fun pins s σ H Q I q => h.run pins s σ H Q I (i σ H Q q)⟩
/-- an own exception's __init__ of n arguments that stores fields -/
def spX (C : Addr) (n : Nat) (fs : List V → List (Str × V)) : Sp := fun vs H Q _ => ∃ (a : Addr) (ys : List V), vs = .ref a :: ys ∧ ys.length = n ∧ H a = some (exo a C none) ∧
  ∀ (dx : Addr) (H' : Hp), H dx = none → dx ≠ a → H' a = some (exo a C (some dx)) → H' dx = some (exd dx (fs ys)) → (∀ b, b ≠ a → b ≠ dx → H' b = H b) → Q .non H'
/-- an exception of the class at C with these fields -/
def ErrAt (H : Hp) (a C : Addr) (fs : List (Str × V)) : Prop := ∃ d, H a = some (exo a C (some d)) ∧ H d = some (exd d fs)
theorem ErrAt.same {H H' : Hp} {a C : Addr} {fs : List (Str × V)} (s : Same H H') (h : ErrAt H a C fs) : ErrAt H' a C fs :=
  let ⟨d, h1, h2⟩ := h
  ⟨d, s _ _ h1, s _ _ h2⟩
theorem Same.new {H H' : Hp} {q : Addr} {o : HO} (s : Same H H') (hq : H' q = none) : Same H (upd H' q o) := fun b u e => by
  rw [upd_ne (ne_of_none (s b u e) hq)]
  exact s b u e
theorem spX_new {C : Addr} {n : Nat} {fs : List V → List (Str × V)} {H : Hp} {Q : VK} {a : Addr} {ys : List V} (ha : H a = none) (hn : ys.length = n)
    (h : ∀ H', Same H H' → ErrAt H' a C (fs ys) → Q (.ref a) H') : spX C n fs (.ref a :: ys) (upd H a (exo a C none)) (fun v H2 => v = .non ∧ Q (.ref a) H2) E0 := by
  refine ⟨a, ys, rfl, hn, upd_same, fun dx H' hd nd h1 h2 h3 => ⟨rfl, h H' (fun b o e => ?_) ⟨dx, h1, h2⟩⟩⟩
  have hd' : H dx = none := by
    rw [upd_ne nd] at hd
    exact hd
  rw [h3 b (ne_of_none e ha) (ne_of_none e hd'), upd_ne (ne_of_none e ha)]
  exact e
section
variable {X : Cx} {k n : Nat} {fI C : Addr} {fd : FuncData} {ps ks : List Str} {fs : List V → List (Str × V)} {x : Str} {p pos : Pos} {e : Expr} {es : List Expr} {kws : List Keyword} {t tk : TA} {g : List Value → List Value → List Value} {gV : List V → List V → List V}
/-- C(e, ..) where __init__ stores fields -/
def tNewX (C : Addr) (n : Nat) (fs : List V → List (Str × V)) (t : TA) : TE := fun σ H Q => t σ H fun vs H1 => vs.length = n ∧ ∀ a H', H1 a = none → Same H1 H' → ErrAt H' a C (fs vs) → Q (.ref a) H'
end
/-- the readings of argument lists go on with what follows -/
def Mono (t : TA) : Prop := ∀ σ H (Q Q' : List V → Hp → Prop), (∀ vs H', Q vs H' → Q' vs H') → t σ H Q → t σ H Q'
theorem mono_nil : Mono tNil := fun _ _ _ _ h q => h _ _ q
theorem mono_var {i : Nat} {t : TA} (h : Mono t) : Mono (tCons (tVar i) t) := fun σ H Q Q' i q => by
  obtain ⟨v, e, q⟩ := q
  exact ⟨v, e, h _ _ _ _ (fun vs H' z => i _ _ z) q⟩
section
variable {X : Cx} {k n : Nat} {fI C : Addr} {fd : FuncData} {ps ks : List Str} {fs : List V → List (Str × V)} {x : Str} {p pos : Pos} {e : Expr} {es : List Expr} {kws : List Keyword} {t tk : TA} {g : List Value → List Value → List Value} {gV : List V → List V → List V}
theorem pe_newX (T : XvI X.K C fI) (F : FnOk X.prog X.w X.K X.mg X.base CX0 k fI fd ps (spX C n fs)) (hr : Room (k + 1) X.A) (hb : KBn X.K fd ps (n + 1) [] g fun vs zs => vs ++ zs) (hg : Gl X x) (hm : X.mg x = some (.ref C)) (mo : Mono t) (ha : PA X (e :: es) t)
    (hn : n ≤ 1000 := by decide) (hdb : (x == ("__debug__" : Str)) = false := by decide)
    (he : starEach (e :: es) X.env = (false, eval e X.env) :: starEach es X.env := by rfl) (hpl : (backTo pos (starEach es X.env)).any (·.1) = false := by rfl) :
    PE X (.Call (.Name x p) (e :: es) [] pos) (tNewX C n fs t) := by
  refine (pe_mkx T F hr hb hg hm ha hn hdb he hpl).imp fun σ H Q q => mo _ _ _ _ (fun vs H1 z => ⟨z.1, fun a ha => ?_⟩) q
  show spX C n fs ((V.ref a :: vs) ++ []) _ _ _
  rw [List.append_nil]
  exact spX_new ha z.1 (z.2 a · ha)
/-- C(k = v, ..): the fields by all the values, in the parameters' order -/
def tNewXK (C : Addr) (m : Nat) (fs : List V → List (Str × V)) (tk : TA) : TE := fun σ H Q => tk σ H fun zs H1 => zs.length = m ∧ ∀ a H', H1 a = none → Same H1 H' → ErrAt H' a C (fs zs) → Q (.ref a) H'
theorem pe_newXK (T : XvI X.K C fI) (F : FnOk X.prog X.w X.K X.mg X.base CX0 k fI fd ps (spX C n fs)) (hr : Room (k + 1) X.A) (ord : List V → List V) (hb : KBn X.K fd ps 1 ks g fun vs zs => vs ++ ord zs) (ho : ∀ zs, (ord zs).length = zs.length) (hl : ks.length = n) (hg : Gl X x) (hm : X.mg x = some (.ref C)) (mo : Mono tk) (hkw : PK X kws tk)
    (hall : (backToKw pos (keywordEach kws X.env)).all (·.1.isSome) = true := by rfl) (hks : (backToKw pos (keywordEach kws X.env)).filterMap (·.1) = ks := by rfl) (hdb : (x == ("__debug__" : Str)) = false := by decide)
    (hpl : ((backTo pos (starEach [] X.env)).any (·.1) || (backToKw pos (keywordEach kws X.env)).any (·.1.isNone)) = false := by rfl) :
    PE X (.Call (.Name x p) [] kws pos) (tNewXK C ks.length (fun zs => fs (ord zs)) tk) := by
  refine (pe_mkxK T F hr hb hg hm hkw hall hks hdb hpl).imp fun σ H Q q => mo _ _ _ _ (fun zs H1 z => ⟨z.1, fun a ha => ?_⟩) q
  show spX C n fs (V.ref a :: ord zs) _ _ _
  exact spX_new ha ((ho zs).trans (z.1.trans hl)) (z.2 a · ha)
/-- e.f off an error -/
theorem xat_err {K : PySem.W.Frag} {f : Str} {H : Hp} {a C : Addr} {fs : List (Str × V)} {v : V} {Q : VK} (h : ErrAt H a C fs) (T : XvC K C) (no : PySem.W.findIn K (.ref C) f = some none) (l : fs.lookup f = some v) (q : Q v H) :
    ∃ (a' C' d : Addr) (fs' : List (Str × V)) (v' : V), V.ref a = .ref a' ∧ H a' = some (exo a' C' (some d)) ∧ H d = some (exd d fs') ∧ XvC K C' ∧ PySem.W.findIn K (.ref C') f = some none ∧ fs'.lookup f = some v' ∧ Q v' H :=
  let ⟨d, h1, h2⟩ := h
  ⟨a, C, d, fs, v, rfl, h1, h2, T, no, l, q⟩
/-- (C(e, ..), C(k = v, ..).f): the pair -/
def tRow (K : PySem.W.Frag) (C : Addr) (n m : Nat) (fs fs' : List V → List (Str × V)) (f : Str) (t tk : TA) : TE := fun σ H Q => ∃ (vs zs : List V) (v : V), (∀ H Q, Q vs H → t σ H Q) ∧ (∀ H Q, Q zs H → tk σ H Q) ∧ vs.length = n ∧ zs.length = m ∧
  XvC K C ∧ PySem.W.findIn K (.ref C) f = some none ∧ (fs' zs).lookup f = some v ∧ ∀ (p a : Addr) (H' : Hp), Same H H' → H p = none → H' p = some (.tup [.ref a, v]) → ErrAt H' a C (fs vs) → Q (.ref p) H'
theorem pe_row {m : Nat} {fs' : List V → List (Str × V)} {e1 e2 : Expr} {f : Str} {b : Nat} {p1 p2 : Pos} (h1 : PE X e1 (tNewX C n fs t)) (h2 : PE X e2 (tNewXK C m fs' tk)) (hb : attributeBase e2 f X.env (eval e2 X.env) = eval e2 X.env := by rfl)
    (hs : starEach [e1, .Attribute e2 f p1] X.env = (false, eval e1 X.env) :: starEach [.Attribute e2 f p1] X.env := by rfl) :
    PE X (.Tuple [e1, .Attribute e2 f p1] b p2) (tRow X.K C n m fs fs' f t tk) := by
  refine (pe_tup (pa_cons h1 (hs := hs) (pa_cons (pe_xat h2 hb) pa_nil))).imp fun σ H Q q => ?_
  obtain ⟨vs, zs, v, a1, a2, l1, l2, T, no, lk, q⟩ := q
  refine a1 _ _ ⟨l1, fun a Ha na sa ea => a2 _ _ ⟨l2, fun c Hc nc sc ec => ?_⟩⟩
  refine xat_err ec T no lk ⟨(by show 2 ≤ sizeLine; decide), fun p hp => ?_⟩
  have s2 : Same H Hc := sa.trans sc
  refine q p a _ (s2.new hp) (s2.free hp) upd_same ((ea.same sc).same ((Same.refl _).new hp))
end
end L2
set_option maxRecDepth 100000
namespace L2
open PySem PySem.Spec PyProof.Rows
/-! try: .. except X as n: suite, where the error outlives the suite by another name: it is tracked from then on -/
/-- at a: an error of the class cls that has been caught, its dict at d -/
def exz (a : Addr) (cls : Value) (d : Option Addr) : HO := .ext fun h => ∃ (oe : Obj) (vs : Array Value), h.get? a = some oe ∧ Zc cls d oe ∧ oe.data = .fields vs
theorem exz_ok {P : Program} {w : World} {H : Hp} {h : Heap} {a : Addr} {cls : Value} {d : Option Addr} {oe : Obj} {vs : Array Value} (e : h.get? a = some oe) (z : Zc cls d oe) (f : oe.data = .fields vs) : ObjOk P w H h a (exz a cls d) :=
  ⟨⟨oe, vs, e, z, f⟩, ⟨oe, e⟩, fun _ _ ⟨o, ws, e1, z1, f1⟩ k => ⟨o, ws, k _ e1, z1, f1⟩⟩
theorem exz_at {P : Program} {w : World} {H : Hp} {h : Heap} {a : Addr} {cls : Value} {d : Option Addr} (hok : HOk P w H h) (e : H a = some (exz a cls d)) : ∃ (oe : Obj) (vs : Array Value), h.get? a = some oe ∧ Zc cls d oe ∧ oe.data = .fields vs := by
  have x : ObjOk P w H h a (.ext fun h => ∃ (oe : Obj) (vs : Array Value), h.get? a = some oe ∧ Zc cls d oe ∧ oe.data = .fields vs) := hok a _ e
  exact x.1
theorem exz_ne_own {a x : Addr} {cls : Value} {d : Option Addr} : exz a cls d ≠ .own x := fun z => by
  have z2 : HO.ext _ = HO.own x := z
  cases z2
section
variable {X : Cx} {pins : List (Addr × Obj)} {σ : St} {H : Hp} {s : Shared}
/-- what was not tracked, is not of the entry and no cell, is tracked from now on -/
theorem Inv.track {a : Addr} {o : HO} (I : Inv X pins σ H s) (na : H a = none) (n0 : X.s_0.heap.get? a = none) (nl : a ≠ X.env.locals) (nc : ∀ x c, X.env.cells.lookup x = some c → c ≠ a) (np : ∀ p ∈ X.pn ++ pins, p.1 ≠ a)
    (new : ObjOk X.prog X.w (upd H a o) s.heap a o) : Inv X pins σ (upd H a o) s := by
  have old : ∀ {b : Addr} {u : Obj}, X.s_0.heap.get? b = some u → b ≠ a := fun {b u} e z => by
    rw [z, n0] at e
    cases e
  have tr : ∀ {b : Addr} {u : HO}, H b = some u → b ≠ a := fun e => ne_of_none e na
  refine ⟨I.ok, I.os, I.bare, ⟨I.base.keep, I.base.slot, fun b u e n x => ?_, I.base.there, fun b xs e => ?_, fun b u v e => ?_, fun b ps e => ?_⟩, I.loc, I.cell, ?_, fun x c e => ?_, fun p hp => ?_, fun b u e => ?_, I.len⟩
  · rw [upd_ne (old e)]
    exact I.base.free b u e n x
  · have q := I.base.tups b xs e
    rw [upd_ne (tr q)]
    exact q
  · have q := I.base.frzs b u v e
    rw [upd_ne (tr q)]
    exact q
  · obtain ⟨more, q⟩ := I.base.tbls b ps e
    exact ⟨more, by rw [upd_ne (tr q)]; exact q⟩
  · rw [upd_ne nl.symm]
    exact I.free
  · rw [upd_ne (nc x c e)]
    exact I.freeC x c e
  · obtain ⟨h1, h2, h3⟩ := I.pin p hp
    exact ⟨h1, by rw [upd_ne (np p hp)]; exact h2, h3⟩
  · by_cases hb : b = a
    · subst hb
      rw [upd_same] at e
      cases e
      exact new
    · rw [upd_ne hb] at e
      exact (I.hok b u e).stay (fun _ _ _ z => z) (fun _ z => by rw [upd_ne (tr z)]; exact z) fun _ _ z => by rw [upd_ne (tr z)]; exact z
/-- fewer pins -/
theorem Inv.unpin {q : Addr × Obj} (I : Inv X (q :: pins) σ H s) : Inv X pins σ H s :=
  ⟨I.ok, I.os, I.bare, I.base, I.loc, I.cell, I.free, I.freeC, fun p hp => I.pin p ((List.mem_append.mp hp).elim (fun z => List.mem_append_left _ z) fun z => List.mem_append_right _ (List.mem_cons_of_mem _ z)), I.hok, I.len⟩
/-- out of a suite, the error's object still pinned -/
theorem Inv.offSuite {a : Addr} {q : Addr × Obj} (I : Inv (X.suite a (q :: (X.pn ++ pins))) [] σ H s) (ok : X.Ok) : Inv X (q :: pins) σ H s := by
  refine ⟨ok, I.os, I.bare, I.base, I.loc, I.cell, I.free, I.freeC, fun p hp => I.pin p (List.mem_append_left _ ?_), I.hok, I.len⟩
  rcases List.mem_append.mp hp with z | z
  · exact List.mem_cons_of_mem _ (List.mem_append_left _ z)
  · rcases List.mem_cons.mp z with z | z
    · rw [z]
      exact List.mem_cons_self ..
    · exact List.mem_cons_of_mem _ (List.mem_append_right _ z)
end
/-- what the clause wishes: at the suite's end the error is tracked -/
def wKeep (K : PySem.W.Frag) (c : Value) (i m : Nat) (ts : Addr → Value → Option Addr → TS) (Wout : WX) (D : Ends) : WX := fun cls d σ H => ∃ b, PySem.W.exmOne K cls c = some b ∧
  (b = true → σ.length = m → ∀ a, H a = none → ts a cls d { nx := fun τ G => D.nx (τ.set i none) (upd G a (exz a cls d)), rt := fun _ _ => False, bk := fun _ _ => False, ct := fun _ _ => False } (σ.set i (some (.ref a))) H) ∧ (b = false → Wout cls d σ H)
section
variable {X : Cx} {x n : Str} {c : Value} {i : Nat} {body rest : List Stmt} {first : Stmt} {p1 p2 p3 : Pos} {tb : WX → TS} {ts : Addr → Value → Option Addr → TS} {Wout : WX}
theorem ps_try_keep (st : X.stack = X.env :: X.outer) (fr : X.env.frame = some X.env.locals) (nd : X.N.Nodup) (hi : X.N[i]? = some n) (kd : X.env.kindOf n = some .local) (nm : Names X x c) (tk : Takes X Wout) (nx : X.ex = [])
    (hb : ∀ (W : WX) (pn : List (Addr × Obj)) (xe : Value → Shared → Prop), Takes (X.tr pn xe) W → PassesOwn (model X.prog X.w) X.A X.env xe → PSs (X.tr pn xe) body (tb W))
    (hsu : ∀ (a : Addr) (oe : Obj) (cls : Value) (d : Option Addr) (pn : List (Addr × Obj)), Zc cls d oe → (∃ vs, oe.data = .fields vs) → PSs (X.suite a ((a, oe) :: pn)) (first :: rest) (ts a cls d)) :
    PS X (.Try body [.ExceptHandler (some (.Name x p1)) (some n) (first :: rest) p2] [] [] p3) (fun D σ H => tb (wKeep X.K c i X.N.length ts Wout D) D σ H) := by
  refine ⟨fun pins s σ H D I h => wpAny_Try_except ?_⟩
  have ok := I.ok
  have afr : X.A.frames = some (X.env :: X.outer) := by
    rw [ok.frames, st]
  let nxt : Value → Shared → Prop := fun e s₁ => wpAny (model X.prog X.w) X.A (noteFrame e X.env) (fun _ s₂ => wpAny (model X.prog X.w) X.A (setFlight e none)
    (fun _ s₃ => wpAny (model X.prog X.w) X.A (handleBy e X.env [.ExceptHandler (some (.Name x p1)) (some n) (first :: rest) p2]) (SP X pins D) X.xe s₃) X.xe s₂) X.xe s₁
  have caught : ∀ u s', XE (X.tr (X.pn ++ pins) nxt) (wKeep X.K c i X.N.length ts Wout D) u s' → nxt u s' := by
    rintro u s' ⟨a, B, sI, pinsI, σ1, H1, cls, d, rfl, J0, gb, us, sky, na, eo, ab, b, hm, yes, no⟩
    have J : Inv X pins σ1 H1 sI := J0.ofTry ok
    rw [show (X.tr (X.pn ++ pins) nxt).stack = X.env :: X.outer from st] at sky
    refine Sky.land Zc.steady afr fr sky fun hA flA uA => ?_
    have JA : Inv X pins σ1 H1 { s' with heap := hA } := J.landed gb flA.1 (us.trans uA) eo ab
    have off : ∀ {g : Heap} {o : Obj} {ws : Array Value}, g.FunFrames B (X.env :: X.outer) → g.get? a = some o → o.data = .fields ws → a ∉ frs (X.env :: X.outer) := by
      intro g o ws ff e dd z
      obtain ⟨_, o2, e2, k⟩ := ff.mem z
      rw [e] at e2
      cases e2
      exact k _ dd
    obtain ⟨o3, w3, a3, z3, d3⟩ := flA.there
    have nfr := off flA.2.2.1 a3 d3
    have nL : a ≠ X.env.locals := fun z => nfr (List.mem_filterMap.mpr ⟨X.env, List.mem_cons_self, by rw [fr, z]⟩)
    have nF : a ∉ X.fs := fun z => by
      obtain ⟨e, he, q⟩ := List.mem_filterMap.mp z
      exact nfr (List.mem_filterMap.mpr ⟨e, List.mem_cons_of_mem _ he, q⟩)
    have new : sI.heap.get? a = none := by
      cases q : sI.heap.get? a with
      | none => rfl
      | some o =>
        have z := gb a o q (by rw [show (X.tr (X.pn ++ pins) nxt).stack = X.env :: X.outer from st]; exact nfr)
        rw [flA.2.1] at z
        cases z
    have n0 : X.s_0.heap.get? a = none := by
      cases q : X.s_0.heap.get? a with
      | none => rfl
      | some o =>
        obtain ⟨o2, z⟩ := J.base.there a o q (by rw [nx]; simp)
        rw [new] at z
        cases z
    have np : ∀ p ∈ X.pn ++ pins, p.1 ≠ a := fun p hp z => by
      have q := (J.pin p hp).1
      rw [z, new] at q
      cases q
    have SA := JA.suite a3 d3 na nL nF
    have look : PySem.W.Looks (model X.prog X.w) hA (typeOf (.ref a)) cls := fun A Q E s k q => wpAny_typeOf_ref (k _ _ a3) (by rw [z3.1]; exact q)
    have which := PySem.W.exm_one (M := model X.prog X.w) JA.kIn look hm
    have name : ∀ {Q E : Value → Shared → Prop}, Q c { s' with heap := hA } → wpAny (model X.prog X.w) (X.A.mark (some (.ref a))) (eval (.Name x p1) X.env) Q E { s' with heap := hA } := by
      intro Q E q
      obtain ⟨g, db, g2⟩ := nm
      rcases g2 with g2 | ⟨g2, bv, nn⟩
      · exact ld_glob (X := X.suite a ((a, o3) :: (X.pn ++ pins))) SA g g2 q db
      · exact ld_blt (X := X.suite a ((a, o3) :: (X.pn ++ pins))) SA g g2 bv q nn db
    refine wpAny_handleBy_cons (codeAny_handlers_test (name (which.here ?_))) (by intro q; cases q)
    cases b with
    | true =>
      refine codeAny_handlers_suite_as (HandSPX.lands_againZ flA fun hB flB uB => ?_)
      have JB : Inv X pins σ1 H1 { s' with heap := hB } := J.landed gb flB.1 ((us.trans uA).trans uB) eo ab
      obtain ⟨o4, w4, a4, z4, d4⟩ := flB.there
      have SB := JB.suite a4 d4 na nL nF
      refine store_ok (X := X.suite a ((a, o4) :: (X.pn ++ pins))) (v := .ref a) SB nd hi (.inl kd) rfl (fun s5 S5 => ?_) (.inr kd)
      refine wpAny_mono ((hsu a o4 cls d (X.pn ++ pins) z4 ⟨_, d4⟩).run [] s5 _ H1 _ S5 (yes rfl J.len a na)) (fun f s6 sp => ?_) fun _ _ z => z.elim
      cases f with
      | next =>
        obtain ⟨σ6, H6, S6, q6⟩ := sp
        refine gone_ok (S6.offSuite ok) nd hi kd fun s7 J7 => ?_
        obtain ⟨at7, n7, _⟩ := J7.pin (a, o4) (List.mem_append_right _ (List.mem_cons_self ..))
        have cells : ∀ y c', X.env.cells.lookup y = some c' → c' ≠ a := fun y c' e z => by
          obtain ⟨v, o, ho, hd⟩ := J7.cell y c' e
          rw [z, at7] at ho
          cases ho
          rw [d4] at hd
          cases hd
        exact ⟨_, _, J7.unpin.track n7 n0 nL cells np (exz_ok at7 z4 d4), q6⟩
      | brk =>
        obtain ⟨_, _, _, q6⟩ := sp
        exact q6.elim
      | cont =>
        obtain ⟨_, _, _, q6⟩ := sp
        exact q6.elim
      | ret u =>
        obtain ⟨_, _, _, _, _, q6⟩ := sp
        exact q6.elim
    | false =>
      refine wpAny_handleBy_nil ?_
      obtain ⟨f1, f2, f3, oe, vs, T, oT, tr, e1, e2, e3, e4, e5⟩ := id flA
      have out : wpAny (model X.prog X.w) X.A (setFlight (.ref a) X.env.frame) (fun _ s4 => wpAny (model X.prog X.w) X.A (throw (.ref a) : Sem Flow) (SP X pins D) X.xe s4) X.xe { s' with heap := hA } := by
        rw [fr]
        refine HandSPX.setFlight_upZ flA fun hB up uB => wpAny_throw (tk _ _ ⟨a, B, sI, pins, σ1, H1, cls, d, rfl, J, gb, (us.trans uA).trans uB, .inr (.inr (by rw [st]; exact up)), na, eo, ab, no rfl⟩)
      unfold PySem.passOn
      refine wpAny_bind (wpAny_field e1 e3 e4 ?_)
      rw [if_neg (show ¬ (Value.ref T == Value.none) = true by simp)]
      first
        | exact wpAny_bind (wpAny_pure (wpAny_bind out))
        | exact wpAny_bind out
  refine wpAny_mono ((hb _ (X.pn ++ pins) nxt caught PassesOwn.looking).run [] s σ H D (I.toTry _) h) (fun f s1 sp => ?_) fun _ _ z => z
  cases f with
  | next =>
    obtain ⟨σ2, H2, J, q⟩ := sp
    exact wpAny_execs_nil ⟨σ2, H2, J.ofTry ok, q⟩
  | brk =>
    obtain ⟨σ2, H2, J, q⟩ := sp
    exact ⟨σ2, H2, J.ofTry ok, q⟩
  | cont =>
    obtain ⟨σ2, H2, J, q⟩ := sp
    exact ⟨σ2, H2, J.ofTry ok, q⟩
  | ret u =>
    obtain ⟨v, σ2, H2, J, r, q⟩ := sp
    exact ⟨v, σ2, H2, J.ofTry ok, r, q⟩
end
end L2
set_option maxRecDepth 100000
namespace L2
open PySem PySem.Spec PyProof.Rows
/-! a caught error by another name: its class asked, its fields read -/
/-- at a: a caught error of the class at C, with these fields -/
def Caught (H : Hp) (a C : Addr) (fs : List (Str × V)) : Prop := ∃ d, H a = some (exz a (.ref C) (some d)) ∧ H d = some (.xd fs)
theorem xd_at {P : Program} {w : World} {H : Hp} {h : Heap} {d : Addr} {fs : List (Str × V)} (hok : HOk P w H h) (e : H d = some (.xd fs)) : ∃ mA, h.Ns1 d mA ∧ ∀ f, RelO (fs.lookup f) (mA f) := by
  have x : ObjOk P w H h d (.xd fs) := hok d _ e
  exact x
theorem Caught.same {H H' : Hp} {a C : Addr} {fs : List (Str × V)} (s : Same H H') (h : Caught H a C fs) : Caught H' a C fs :=
  let ⟨d, h1, h2⟩ := h
  ⟨d, s _ _ h1, s _ _ h2⟩
section
variable {X : Cx} {pins : List (Addr × Obj)} {σ : St} {H : Hp} {s : Shared}
theorem caught_inst {a C : Addr} {fs : List (Str × V)} (I : Inv X pins σ H s) (h : Caught H a C fs) : ∃ (oe od : Obj) (mA : Str → Option Value), PySem.W.InstAt s.heap a oe C (some od) ∧ (∀ f, PySem.W.lookIn f od = some (mA f)) ∧ ∀ f, RelO (fs.lookup f) (mA f) := by
  obtain ⟨d, ea, ed⟩ := h
  obtain ⟨oe, vs, e1, z, e2⟩ := exz_at I.hok ea
  obtain ⟨mA, hns, hr⟩ := xd_at I.hok ed
  obtain ⟨od, hod, hl⟩ := lookIn_ns hns
  refine ⟨oe, od, mA, ⟨e1, z.1, ?_, ?_⟩, hl, hr⟩
  · unfold PySem.W.notCls
    rw [e2]
  · rw [z.2]
    exact hod
/-- isinstance(e, c) -/
def rIsZ (K : PySem.W.Frag) : List V → Hp → VK → Prop := fun xs H Q => ∃ (a C : Addr) (fs : List (Str × V)) (c : V) (cv : Value) (b : Bool), xs = [.ref a, c] ∧ Caught H a C fs ∧ XvC K C ∧ ClsV c cv ∧ PySem.W.kitOne K (.ref C) cv = some b ∧ Q (.bl b) H
theorem call_isz : CallR X (.builtin "isinstance") (rIsZ X.K) := by
  intro pins s σ H xs us Q I r h
  obtain ⟨a, C, fs, c, cv, b, rfl, ea, T, k, e, q⟩ := h
  obtain ⟨u1, u2, rfl, r1, r2⟩ := vals2 r
  have e2 := k.eq r2
  subst e2
  obtain rfl : u1 = Value.ref a := r1
  obtain ⟨oe, od, mA, J, _⟩ := caught_inst I ea
  exact PySem.W.kia_one (PySem.W.kitx_exc T.ic T.ga T.gg T.oex.exC T.ca T.gs T.tk T.mo) I.kIn J e (fun z => nomatch z) fun tk => ⟨.bl b, H, I.tok tk, rfl, q⟩
/-- e.f -/
def tZat (K : PySem.W.Frag) (te : TE) (f : Str) : TE := fun σ H Q => te σ H fun x H1 => ∃ (a C : Addr) (fs : List (Str × V)) (v : V), x = .ref a ∧ Caught H1 a C fs ∧ XvC K C ∧ PySem.W.findIn K (.ref C) f = some none ∧ fs.lookup f = some v ∧ Q v H1
theorem pe_zat {e : Expr} {te : TE} {f : Str} {pos : Pos} (he : PE X e te) (hb : attributeBase e f X.env (eval e X.env) = eval e X.env := by rfl) : PE X (.Attribute e f pos) (tZat X.K te f) := by
  refine ⟨fun pins s σ H Q I h => attr_of hb (thn (he.run pins s σ H _ I h) fun u s1 hh => ?_)⟩
  obtain ⟨x, H1, I1, rx, a, C, fs, v, ex, ea, T, no, l, q⟩ := hh
  subst ex
  obtain rfl : u = Value.ref a := rx
  obtain ⟨oe, od, mA, J, hl, hr⟩ := caught_inst I1 ea
  obtain ⟨u, hu, ru⟩ : ∃ u, mA f = some u ∧ RelV v u := RelO.some_of (v := v) (o := mA f) (by rw [← l]; exact hr f)
  exact HandSPX.exc_get I1.kIn J T.ga T.gg T.oex.exC (PySem.W.findObj_own T.dd no rfl (by rw [hl, hu])) (handed_of ru) ⟨v, H1, I1.tok _, ru, q⟩
end
end L2
set_option maxRecDepth 100000
set_option maxHeartbeats 4000000
namespace L2
open PySem PySem.Spec PyProof.Rows
/-! a tuple taken once: t * 1 is t itself -/
theorem tuple_mul_one (l : Addr) (its : Array Value) (n : Nat) (dd : Option Addr) (sl : Array (Option Value)) (u : Tok) :
    Meets (Builtin.«tuple.__mul__» ⟨[.ref l, .int 1 u], []⟩) (fun _ R s => s.heap.get? l = some { cls := .type "tuple", dict := dd, data := .seq its n, slots := sl } ∧ R (.ok (.ret (.ref l))) s) :=
  .of_wp fun prog w A R s h => by
    obtain ⟨hp, g, d, tk, os⟩ := s
    obtain ⟨hl, h⟩ := h
    have f1 := AutoSeq1.idx_int
    have c1 : (its.isEmpty || (1 : Int) == 1) = true := by simp
    wp_walk using wpAny_loadPart' hl
    repeat (first
      | (refine wpAny_ite_true (decide_eq_true c1) ?_; wp_walk using wpAny_loadPart' hl)
      | (refine wpAny_ite_false (decide_eq_false (by decide)) ?_; wp_walk using wpAny_loadPart' hl))
    exact ⟨_, rfl, h⟩
def rRep1 (K : PySem.W.Frag) : R2 := fun x y H Q => ∃ l xs, x = .ref l ∧ y = .int 1 ∧ SqT K H l xs ∧ Q (.ref l) H
theorem op_rep1 {X : Cx} : OpR X (binaryOp .Mult) (rRep1 X.K) := by
  intro pins s σ H x y v u Q I rx ry h
  obtain ⟨l, xs, rfl, rfl, hT, q⟩ := h
  cases rx
  obtain ⟨t, rfl⟩ := ry
  obtain ⟨its, r, ⟨⟨cls, dd, data, sl⟩, ho, hc, n, hd⟩, hs⟩ := I.tuple hT
  simp only at hc hd
  subst hc hd
  exact wpAny_binaryOp_repeat_ref (T := "tuple") (U := "int") (by decide) ⟨_, ho, rfl⟩ (fun s' => typeIs_int s' 1 t) noFill_tuple_mul F.fills_int_mul F.slot_int_rmul repeat_tuple F.slot_int_index.lookup
    (call_meets F.slot_int_rmul (typeIs_int s 1 t) F.entry_int_rmul (F.args_int_rmul_2 _ _) (int_rmul_tuple 1 t l its.toArray n dd sl)
      ⟨ho, rfl, ⟨_, ho, rfl⟩, call_meets F.slot_tuple_mul ⟨_, ho, rfl⟩ F.entry_tuple_mul (F.args_tuple_mul_2 _ _) (tuple_mul_one l its.toArray n dd sl t) ⟨ho, ⟨.ref l, H, I, rfl, q⟩⟩⟩)
/-- t * k -/
theorem op_repA {X : Cx} : OpR X (binaryOp .Mult) (fun x y H Q => rRep1 X.K x y H Q ∨ rRepT X.K x y H Q) := by
  intro pins s σ H x y v u Q I rx ry h
  rcases h with h | h
  · exact op_rep1 pins s σ H x y v u Q I rx ry h
  · exact op_repT pins s σ H x y v u Q I rx ry h
end L2
set_option maxRecDepth 100000
namespace L2
open PySem PySem.Spec PyProof.Rows
/-! a list or a tuple, walked -/
def Seq (K : PySem.W.Frag) (H : Hp) (a : Addr) (xs : List V) : Prop := SqL K H a xs ∨ SqT K H a xs
def iSeq (K : PySem.W.Frag) (tl : TE) : TI := fun σ H R => tl σ H fun x H1 => ∃ (a : Addr) (xs : List V), x = .ref a ∧ ((SqL K H1 a xs ∧ R (Itl K a) H1) ∨ (SqT K H1 a xs ∧ R (Itt K a) H1))
theorem pi_seq {X : Cx} {tg l : Expr} {tl : TE} (hl : PE X l tl) : PI X tg l (iSeq X.K tl) := by
  constructor
  intro pins s σ H R I h
  refine thn (hl.run pins s σ H _ I h) ?_
  rintro v s1 ⟨x, G, J, r, a, xs, rfl, q⟩
  obtain rfl : v = Value.ref a := r
  have fresh : ∀ b ∈ [s1.heap.objs.size], b = s1.heap.objs.size := fun b hb => List.mem_singleton.mp hb
  have nw := J.hok.fresh (Nat.le_refl s1.heap.objs.size)
  rcases q with ⟨hq, q⟩ | ⟨hq, q⟩
  · obtain ⟨_, _, p, _⟩ := J.list hq
    exact wpAny_pyIter_list p.isList ⟨_, [s1.heap.objs.size], _, _, G, rfl, J.kept (t' := s1.toks) (fun _ _ z => Heap.get?_push_of_some _ z), turn_list a _, ⟨_, Heap.get?_push_size _ rfl, rfl, rfl⟩, fun b hb => by rw [fresh b hb]; exact J.fpOk (Nat.le_refl _) nw, q⟩
  · obtain ⟨_, _, p, _⟩ := J.tuple hq
    exact wpAny_pyIter_tuple (show Heap.IsTuple s1.heap a _ from p) ⟨_, [s1.heap.objs.size], _, _, G, rfl, J.kept (t' := s1.toks) (fun _ _ z => Heap.get?_push_of_some _ z), turn_tuple a _, ⟨_, Heap.get?_push_size _ rfl, rfl, rfl⟩, fun b hb => by rw [fresh b hb]; exact J.fpOk (Nat.le_refl _) nw, q⟩
theorem Same.seqT {K : PySem.W.Frag} {H H' : Hp} {a : Addr} {xs : List V} (e : Same H H') (h : SqT K H a xs) : SqT K H' a xs := by
  rcases h with (z | ⟨o, z⟩) | z
  · exact .inl (.inl (e a _ z))
  · exact .inl (.inr ⟨o, e a _ z⟩)
  · exact .inr z
theorem Seq.same {K : PySem.W.Frag} {H H' : Hp} {a : Addr} {xs : List V} (s : Same H H') (h : Seq K H a xs) : Seq K H' a xs := h.elim (fun z => .inl (s.seq z)) fun z => .inr (s.seqT z)
end L2
set_option maxRecDepth 100000
namespace Toy
open PySem L2
abbrev s_is_integer : Stmt := top 3
abbrev s_is_within : Stmt := top 4
abbrev s_is_number : Stmt := top 5
abbrev s_banks_by : Stmt := top 9
abbrev s_are_moduli : Stmt := top 10
abbrev s_are_banks : Stmt := top 11
structure TR (mg : Str → Option Value) : Prop where
  m_isinstance : mg "isinstance" = none
  m_int : mg "int" = none
  m_bool : mg "bool" = none
  m_len : mg "len" = none
  m_all : mg "all" = none
  m_list : mg "list" = none
  m_tuple : mg "tuple" = none
  m_range : mg "range" = none
  m_sum : mg "sum" = none
  m_zip : mg "zip" = none
  m_enumerate : mg "enumerate" = none
  g_MOST_MODULI : ∃ t, mg "MOST_MODULI" = some (.int 5 t)
  g_MOST_BANKS : ∃ t, mg "MOST_BANKS" = some (.int 32 t)
  g_MOST_PLACES : ∃ t, mg "MOST_PLACES" = some (.int 24 t)
def spIsInt (K : PySem.W.Frag) : Sp := fun vs H Q _ => ∃ (x : V) (S : String), vs = [x] ∧ Plain K H x S ∧ Q (.bl (isI x)) H
def numV : V → Bool
  | .int i => decide (0 ≤ i)
  | _ => false
def withinV (lo hi : Int) : V → Bool
  | .int i => decide (lo ≤ i ∧ i ≤ hi)
  | _ => false
def spNumber (K : PySem.W.Frag) : Sp := fun vs H Q _ => ∃ (x : V) (S : String), vs = [x] ∧ Plain K H x S ∧ Q (.bl (numV x)) H
def spWithin (K : PySem.W.Frag) : Sp := fun vs H Q _ => ∃ (x : V) (S : String) (lo hi : Int), vs = [x, .int lo, .int hi] ∧ Plain K H x S ∧ Q (.bl (withinV lo hi x)) H
/-- a list or a tuple -/
def SeqAt (H : Hp) (a : Addr) (xs : List V) : Prop := H a = some (.lst xs) ∨ H a = some (.tup xs)
theorem SeqAt.same {H H' : Hp} {a : Addr} {xs : List V} (s : Same H H') (h : SeqAt H a xs) : SeqAt H' a xs := h.elim (fun z => .inl (s _ _ z)) fun z => .inr (s _ _ z)
theorem plain_same {K : PySem.W.Frag} {H H' : Hp} {x : V} {S : String} (s : Same H H') (h : Plain K H x S) : Plain K H' x S := by
  cases h with
  | non => exact .non
  | bl b => exact .bl b
  | int i => exact .int i
  | str z => exact .str z
  | lst e => exact .lst (s _ _ e)
  | tup e => exact .tup (s _ _ e)
  | dK e => exact .dK (s _ _ e)
/-- what a caller may hand in: a list or tuple of plain values, or a plain value of another kind -/
inductive Arg (K : PySem.W.Frag) (H : Hp) : V → Option (List V) → Prop where
  | seq {a : Addr} {xs : List V} (e : SeqAt H a xs) (p : ∀ y ∈ xs, ∃ S, Plain K H y S) (l : xs.length ≤ 1000) : Arg K H (.ref a) (some xs)
  | other {x : V} {S : String} (p : Plain K H x S) (h : PySem.W.kitAny K (.type S) [.type "list", .type "tuple"] = some false) : Arg K H x none
theorem Arg.same {K : PySem.W.Frag} {H H' : Hp} {x : V} {o : Option (List V)} (s : Same H H') (h : Arg K H x o) : Arg K H' x o := by
  cases h with
  | seq e p l => exact .seq (e.same s) (fun y hy => let ⟨S, q⟩ := p y hy; ⟨S, plain_same s q⟩) l
  | other p h => exact .other (plain_same s p) h
theorem Arg.ty {K : PySem.W.Frag} {H : Hp} {x : V} {o : Option (List V)} (h : Arg K H x o) : ∃ t, TyX K H x t ∧ PySem.W.kitAny K t [.type "list", .type "tuple"] = some o.isSome := by
  cases h with
  | seq e p l =>
    rcases e with e | e
    · exact ⟨_, (Plain.lst (K := K) e).ty, rfl⟩
    · exact ⟨_, (Plain.tup (K := K) e).ty, rfl⟩
  | other p h => exact ⟨_, p.ty, h⟩
def intOf : V → Int
  | .int i => i
  | _ => 0
def prodV (xs : List V) : Int := xs.foldl (fun p x => p * intOf x) 1
def okMod : Option (List V) → Bool
  | none => false
  | some xs => decide (1 ≤ xs.length ∧ xs.length ≤ 5) && (xs.all (withinV 2 32) && decide (prodV xs ≤ 32))
def okBanks (n : Int) : Option (List V) → Bool
  | none => false
  | some xs => xs.all (withinV 0 (n - 1))
theorem within_int {lo hi : Int} {x : V} (h : withinV lo hi x = true) : ∃ i, x = .int i ∧ lo ≤ i ∧ i ≤ hi := by
  cases x with
  | int i => exact ⟨i, rfl, (of_decide_eq_true h).1, (of_decide_eq_true h).2⟩
  | _ => cases h
def spBanksBy (K : PySem.W.Frag) : Sp := fun vs H Q _ => ∃ (a : Addr) (xs : List V), vs = [.ref a] ∧ SeqAt H a xs ∧ xs.all (withinV 2 32) = true ∧ Q (.int (prodV xs)) H
def spAreModuli (K : PySem.W.Frag) : Sp := fun vs H Q _ => ∃ (x : V) (o : Option (List V)), vs = [x] ∧ Arg K H x o ∧ ∀ H', Same H H' → Q (.bl (okMod o)) H'
def spAreBanks (K : PySem.W.Frag) : Sp := fun vs H Q _ => ∃ (x : V) (n : Int) (o : Option (List V)), vs = [x, .int n] ∧ Arg K H x o ∧ ∀ H', Same H H' → Q (.bl (okBanks n o)) H'
section
variable {P : Program} {w : World} {K : PySem.W.Frag} {mg : Str → Option Value} {base : Heap}
theorem sc_is_integer : FnScope ["value"] ["value"] (defScope s_is_integer) := ⟨rfl, rfl, rfl, by decide +kernel, rfl, by decide +kernel, by decide +kernel⟩
theorem ok_is_integer {f : Addr} {fd : FuncData} (F : Fun K "is_integer" "is_integer" s_is_integer f fd) (T : TR mg) : FnOk P w K mg base CX0 1 f fd ["value"] (spIsInt K) := by
  refine F.ok sc_is_integer (fun vs H Q E h => ?_) (fun cdv A outer s H vs Q E hr h => ?_)
  · obtain ⟨x, S, rfl, _⟩ := h
    rfl
  · obtain ⟨x, S, rfl, hx, k⟩ := h
    refine ⟨_, (pss_one (ps_ret (pe_and (pe_callB call_isi (by rfl) T.m_isinstance (by decide +kernel) (pa_cons (pv 0) (pa_cons (pe_bltn (v := .ty "int") (u := .type "int") rfl T.m_int (by decide +kernel) rfl) pa_nil))) (pe_one (pe_not (pe_callB call_isi (by rfl) T.m_isinstance (by decide +kernel) (pa_cons (pv 0) (pa_cons (pe_bltn (v := .ty "bool") (u := .type "bool") rfl T.m_bool (by decide +kernel) rfl) pa_nil)))))))), ?_⟩
    refine ⟨_, rfl, _, _, _, _, _, rfl, .ty _, hx.ty, hx.kInt, _, rfl, ?_⟩
    cases hi : isI x with
    | true =>
      refine ⟨_, rfl, _, _, _, _, _, rfl, .ty _, hx.ty, hx.kBool, _, rfl, ?_⟩
      have hb : isB x = false := by
        cases x <;> first | rfl | (cases hi)
      rw [hb]
      rw [hi] at k
      exact k
    | false =>
      cases hb : isB x with
      | true =>
        refine ⟨_, rfl, _, _, _, _, _, rfl, .ty _, hx.ty, hx.kBool, _, rfl, ?_⟩
        rw [hb]
        rw [hi] at k
        exact k
      | false =>
        rw [hi] at k
        exact k
theorem sc_is_number : FnScope ["value"] ["value"] (defScope s_is_number) := ⟨rfl, rfl, rfl, by decide +kernel, rfl, by decide +kernel, by decide +kernel⟩
theorem ok_is_number {f fI : Addr} {fd fdI : FuncData} (F : Fun K "is_number" "is_number" s_is_number f fd) (T : TR mg) (FI : Fun K "is_integer" "is_integer" s_is_integer fI fdI) (gI : mg "is_integer" = some (.ref fI)) (bI : Binds K fdI ["value"] []) :
    FnOk P w K mg base CX0 2 f fd ["value"] (spNumber K) := by
  have GI : FnOk P w K mg base CX0 1 fI fdI ["value"] (spIsInt K) := ok_is_integer FI T
  have kI := FI.kp
  refine F.ok sc_is_number (fun vs H Q E h => ?_) (fun cdv A outer s H vs Q E hr h => ?_)
  · obtain ⟨x, S, rfl, _⟩ := h
    rfl
  · obtain ⟨x, S, rfl, hx, k⟩ := h
    refine ⟨_, (pss_one (ps_ret (pe_and (pe_call GI hr rfl gI kI bI .nil pass0 (pa_cons (pv 0) pa_nil)) (pe_one (pe_cmpR op_ge (pv 0) pe_int (nomark _)))))), ?_⟩
    refine ⟨_, rfl, _, _, rfl, hx, _, rfl, ?_⟩
    cases x with
    | int i => exact ⟨_, rfl, _, _, rfl, rfl, k⟩
    | _ => exact k
theorem sc_is_within : FnScope ["value", "least", "most"] ["value", "least", "most"] (defScope s_is_within) := ⟨rfl, rfl, rfl, by decide +kernel, rfl, by decide +kernel, by decide +kernel⟩
theorem ok_is_within {f fI : Addr} {fd fdI : FuncData} (F : Fun K "is_within" "is_within" s_is_within f fd) (T : TR mg) (FI : Fun K "is_integer" "is_integer" s_is_integer fI fdI) (gI : mg "is_integer" = some (.ref fI)) (bI : Binds K fdI ["value"] []) :
    FnOk P w K mg base CX0 2 f fd ["value", "least", "most"] (spWithin K) := by
  have GI : FnOk P w K mg base CX0 1 fI fdI ["value"] (spIsInt K) := ok_is_integer FI T
  have kI := FI.kp
  refine F.ok sc_is_within (fun vs H Q E h => ?_) (fun cdv A outer s H vs Q E hr h => ?_)
  · obtain ⟨x, S, lo, hi, rfl, _⟩ := h
    rfl
  · obtain ⟨x, S, lo, hi, rfl, hx, k⟩ := h
    refine ⟨_, (pss_one (ps_ret (pe_and (pe_call GI hr rfl gI kI bI .nil pass0 (pa_cons (pv 0) pa_nil)) (pe_one (pe_chain op_le op_le (pv 1) (pv 0) (pv 2)))))), ?_⟩
    refine ⟨_, rfl, _, _, rfl, hx, _, rfl, ?_⟩
    cases x with
    | int i =>
      refine ⟨_, rfl, _, rfl, _, _, rfl, rfl, _, rfl, ?_⟩
      refine ite2 (fun c1 => ?_) (fun c1 => ?_)
      · refine ⟨_, rfl, _, _, rfl, rfl, ?_⟩
        have e : decide (i ≤ hi) = withinV lo hi (.int i) := by
          have c2 := of_decide_eq_true c1
          simp [withinV, c2]
        show Q (V.bl (decide (i ≤ hi))) H
        rw [e]
        exact k
      · have e : withinV lo hi (.int i) = false := by
          have c2 : ¬ lo ≤ i := fun z => c1 (decide_eq_true z)
          simp [withinV, c2]
        rw [e] at k
        exact k
    | _ => exact k
theorem sc_banks_by : FnScope ["moduli", "banks", "modulus"] ["moduli"] (defScope s_banks_by) := ⟨rfl, rfl, rfl, by decide +kernel, rfl, by decide +kernel, by decide +kernel⟩
theorem ok_banks_by {f : Addr} {fd : FuncData} (F : Fun K "banks_by" "banks_by" s_banks_by f fd) : FnOk P w K mg base CX0 1 f fd ["moduli"] (spBanksBy K) := by
  refine F.ok sc_banks_by (fun vs H Q E h => ?_) (fun cdv A outer s H vs Q E hr h => ?_)
  · obtain ⟨a, xs, rfl, _⟩ := h
    rfl
  · obtain ⟨a, xs, rfl, he, hw, k⟩ := h
    refine ⟨_, (pss_cons (ps_set (i := 1) sc_banks_by.nd rfl (Or.inl rfl) pe_int)
 (pss_cons (ps_for PassesOwn.never rfl (pi_seq (pv 0)) (pg_name (i := 2) sc_banks_by.nd rfl (Or.inl rfl))
 (pss_one (ps_set (i := 1) sc_banks_by.nd rfl (Or.inl rfl) (pe_op op_mul (pv 1) (pv 2)))))
 (pss_one (ps_ret (pv 1))))), ?_⟩
    have turn : ∀ (i : Nat) (x : V) (u : Option V), xs[i]? = some x → ∃ n, x = .int n ∧ 2 ≤ n ∧ n ≤ 32 ∧ prodV (xs.take (i + 1)) = prodV (xs.take i) * n := by
      intro i x u hi
      obtain ⟨n, rfl, h1, h2⟩ := within_int (List.all_eq_true.mp hw x (List.mem_of_getElem? hi))
      refine ⟨n, rfl, h1, h2, ?_⟩
      rw [List.take_add_one, hi]
      simp [prodV, intOf]
    refine ⟨_, rfl, a, xs, rfl, ?_⟩
    rcases he with he | he
    · refine .inl ⟨SqL.of he, for_it walk_list (fun i σ G => G = H ∧ ∃ u, σ = [some (.ref a), some (.int (prodV (xs.take i))), u]) ⟨rfl, none, rfl⟩ (fun i σ G _ p => by rw [p.1]; exact SqL.of he) ?_ ?_⟩
      · rintro i x σ G G' hi ⟨rfl, u, rfl⟩ ⟨rfl, hx⟩
        obtain ⟨n, rfl, h1, h2, e⟩ := turn i x u hx
        refine ⟨_, rfl, _, rfl, _, _, rfl, rfl, .inr ⟨by omega, by omega⟩, rfl, some (.int n), ?_⟩
        rw [e]
        all_goals rfl
      · rintro σ G ⟨rfl, u, rfl⟩
        rw [List.take_length]
        exact ⟨_, rfl, k⟩
    · refine .inr ⟨SqT.of he, for_it walk_tup (fun i σ G => G = H ∧ ∃ u, σ = [some (.ref a), some (.int (prodV (xs.take i))), u]) ⟨rfl, none, rfl⟩ (fun i σ G _ p => by rw [p.1]; exact SqT.of he) ?_ ?_⟩
      · rintro i x σ G G' hi ⟨rfl, u, rfl⟩ ⟨rfl, hx⟩
        obtain ⟨n, rfl, h1, h2, e⟩ := turn i x u hx
        refine ⟨_, rfl, _, rfl, _, _, rfl, rfl, .inr ⟨by omega, by omega⟩, rfl, some (.int n), ?_⟩
        rw [e]
        all_goals rfl
      · rintro σ G ⟨rfl, u, rfl⟩
        rw [List.take_length]
        exact ⟨_, rfl, k⟩
end
end Toy
set_option maxRecDepth 100000
namespace Toy
open PySem L2
section
variable {P : Program} {w : World} {K : PySem.W.Frag} {mg : Str → Option Value} {base : Heap}
theorem cls2 : PySem.Paired ClsV [V.ty "list", V.ty "tuple"] [.type "list", .type "tuple"] := .cons (.ty _) (.cons (.ty _) .nil)
abbrev N_are_banks : List Str := ["value", "banks", "bank"]
theorem sc_are_banks : FnScope N_are_banks ["value", "banks"] (defScope s_are_banks) := ⟨rfl, rfl, rfl, by decide +kernel, rfl, by decide +kernel, by decide +kernel⟩
theorem ok_are_banks {f fI fW : Addr} {fd fdI fdW : FuncData} (F : Fun K "are_banks" "are_banks" s_are_banks f fd) (T : TR mg) (FI : Fun K "is_integer" "is_integer" s_is_integer fI fdI) (gI : mg "is_integer" = some (.ref fI)) (bI : Binds K fdI ["value"] [])
    (FW : Fun K "is_within" "is_within" s_is_within fW fdW) (gW : mg "is_within" = some (.ref fW)) (bW : Binds K fdW ["value", "least", "most"] []) : FnOk P w K mg base CX0 3 f fd ["value", "banks"] (spAreBanks K) := by
  have GW : FnOk P w K mg base CX0 2 fW fdW ["value", "least", "most"] (spWithin K) := ok_is_within FW T FI gI bI
  have kW := FW.kp
  refine F.ok sc_are_banks (fun vs H Q E h => ?_) (fun cdv A outer s H vs Q E hr h => ?_)
  · obtain ⟨x, n, o, rfl, _⟩ := h
    rfl
  · obtain ⟨x, n, o, rfl, ha, k⟩ := h
    refine ⟨_, (pss_one (ps_ret (pe_and (pe_callB call_isiT (by rfl) T.m_isinstance (by decide +kernel) (pa_cons (pv 0) (pa_cons (pe_tup (pa_cons (pe_bltn (v := .ty "list") (u := .type "list") rfl T.m_list (by decide +kernel) rfl) (pa_cons (pe_bltn (v := .ty "tuple") (u := .type "tuple") rfl T.m_tuple (by decide +kernel) rfl) pa_nil))) pa_nil))) (pe_one (pe_callB (cr_all rfl) (by rfl) T.m_all (by decide +kernel) (pa_cons (pe_lc (own := [("bank", 2)]) (g := (gName 2)) (tt := tYes) rfl sc_are_banks.nd (pi_seq (pv 0)) (blkOk_by (N := N_are_banks) (sc := defScope s_are_banks) (by decide +kernel)) (fun _ _ _ _ _ => (pg_name (i := 2) sc_are_banks.nd rfl (Or.inl rfl))) (fun _ _ _ _ _ => pts_nil) (fun _ _ _ _ _ => (pe_call GW hr rfl gW kW bW .nil pass0 (pa_cons (pv 2) (pa_cons pe_int (pa_cons (pe_op op_sub (pv 1) pe_int) pa_nil)))))) pa_nil)))))), ?_⟩
    refine ⟨_, rfl, (by show 2 ≤ sizeLine; decide), fun q hq => ?_⟩
    have s1 : Same H (upd H q (.tup [.ty "list", .ty "tuple"])) := (Same.refl H).new hq
    obtain ⟨t, ht, hk⟩ := (ha.same s1).ty
    refine ⟨_, q, _, t, _, _, rfl, upd_same, cls2, ht, hk, _, rfl, ?_⟩
    cases ha with
    | other p h => exact k _ s1
    | @seq a xs e p l =>
      have e1 := e.same s1
      have szl : ∀ i : Nat, i < xs.length → i < sizeLine := fun i hi => Nat.lt_of_lt_of_le hi (Nat.le_of_lt (small1000 (by omega)))
      have fin : ∀ (D : Addr) (G : Hp), upd H q (.tup [.ty "list", .ty "tuple"]) D = none → G = upd (upd H q (.tup [.ty "list", .ty "tuple"])) D (.lst (((xs.take xs.length).map (withinV 0 (n - 1))).map V.bl)) →
          ∃ (b : Addr) (bs : List Bool), [V.ref D] = [V.ref b] ∧ SqL K G b (bs.map V.bl) ∧ Q (.bl (bs.all id)) G := by
        rintro D G hD rfl
        refine ⟨D, _, rfl, SqL.of upd_same, ?_⟩
        rw [List.take_length, List.all_map]
        exact k _ (s1.new hD)
      refine ⟨_, rfl, a, xs, rfl, ?_⟩
      rcases e1 with e1 | e1
      · refine .inl ⟨SqL.of e1, fun D hD => lc_it walk_list (fun i G => G = upd (upd H q (.tup [.ty "list", .ty "tuple"])) D (.lst (((xs.take i).map (withinV 0 (n - 1))).map V.bl))) rfl (fun i G _ z => by rw [z, ]; exact SqL.of (by rw [upd_ne (ne_of_none e1 hD)]; exact e1)) ?_ (fun G z => fin D G hD z)⟩
        rintro i x G G' hi rfl ⟨rfl, hx⟩
        obtain ⟨S, hS⟩ := p x (List.mem_of_getElem? hx)
        refine ⟨rfl, _, rfl, _, rfl, _, _, rfl, rfl, x, S, 0, n - 1, rfl, plain_same (s1.new hD) hS, _, upd_same, by rw [List.length_map, List.length_map, List.length_take]; exact szl _ (by omega), ?_⟩
        rw [upd_upd, List.take_add_one, hx]
        simp
      · refine .inr ⟨SqT.of e1, fun D hD => lc_it walk_tup (fun i G => G = upd (upd H q (.tup [.ty "list", .ty "tuple"])) D (.lst (((xs.take i).map (withinV 0 (n - 1))).map V.bl))) rfl (fun i G _ z => by rw [z, ]; exact SqT.of (by rw [upd_ne (ne_of_none e1 hD)]; exact e1)) ?_ (fun G z => fin D G hD z)⟩
        rintro i x G G' hi rfl ⟨rfl, hx⟩
        obtain ⟨S, hS⟩ := p x (List.mem_of_getElem? hx)
        refine ⟨rfl, _, rfl, _, rfl, _, _, rfl, rfl, x, S, 0, n - 1, rfl, plain_same (s1.new hD) hS, _, upd_same, by rw [List.length_map, List.length_map, List.length_take]; exact szl _ (by omega), ?_⟩
        rw [upd_upd, List.take_add_one, hx]
        simp
abbrev N_are_moduli : List Str := ["value", "modulus"]
theorem sc_are_moduli : FnScope N_are_moduli ["value"] (defScope s_are_moduli) := ⟨rfl, rfl, rfl, by decide +kernel, rfl, by decide +kernel, by decide +kernel⟩
theorem ok_are_moduli {f fI fW fB : Addr} {fd fdI fdW fdB : FuncData} (F : Fun K "are_moduli" "are_moduli" s_are_moduli f fd) (T : TR mg) (FI : Fun K "is_integer" "is_integer" s_is_integer fI fdI) (gI : mg "is_integer" = some (.ref fI)) (bI : Binds K fdI ["value"] [])
    (FW : Fun K "is_within" "is_within" s_is_within fW fdW) (gW : mg "is_within" = some (.ref fW)) (bW : Binds K fdW ["value", "least", "most"] []) (FB : Fun K "banks_by" "banks_by" s_banks_by fB fdB) (gB : mg "banks_by" = some (.ref fB)) (bB : Binds K fdB ["moduli"] []) :
    FnOk P w K mg base CX0 3 f fd ["value"] (spAreModuli K) := by
  have GW : FnOk P w K mg base CX0 2 fW fdW ["value", "least", "most"] (spWithin K) := ok_is_within FW T FI gI bI
  have GB : FnOk P w K mg base CX0 1 fB fdB ["moduli"] (spBanksBy K) := ok_banks_by FB
  have kW := FW.kp
  have kB := FB.kp
  refine F.ok sc_are_moduli (fun vs H Q E h => ?_) (fun cdv A outer s H vs Q E hr h => ?_)
  · obtain ⟨x, o, rfl, _⟩ := h
    rfl
  · obtain ⟨x, o, rfl, ha, k⟩ := h
    have hrB : Room 1 _ := hr.mono (by decide)
    refine ⟨_, (pss_cons (ps_if (PW.pt (pw_or (pt_not (pt_val (pe_callB call_isiT (by rfl) T.m_isinstance (by decide +kernel) (pa_cons (pv 0) (pa_cons (pe_tup (pa_cons (pe_bltn (v := .ty "list") (u := .type "list") rfl T.m_list (by decide +kernel) rfl) (pa_cons (pe_bltn (v := .ty "tuple") (u := .type "tuple") rfl T.m_tuple (by decide +kernel) rfl) pa_nil))) pa_nil))))) (pw_or1 (pt_not (pt_chain op_le op_le pe_int (pe_callB call_len_seq (by rfl) T.m_len (by decide +kernel) (pa_cons (pv 0) pa_nil)) (pe_glob (v := .int 5) rfl T.g_MOST_MODULI.choose_spec ⟨_, rfl⟩)))))) (pss_one (ps_ret pe_bl)) pss_nil)
 (pss_one (ps_ret (pe_and (pe_callB (cr_all rfl) (by rfl) T.m_all (by decide +kernel) (pa_cons (pe_lc (own := [("modulus", 1)]) (g := (gName 1)) (tt := tYes) rfl sc_are_moduli.nd (pi_seq (pv 0)) (blkOk_by (N := N_are_moduli) (sc := defScope s_are_moduli) (by decide +kernel)) (fun _ _ _ _ _ => (pg_name (i := 1) sc_are_moduli.nd rfl (Or.inl rfl))) (fun _ _ _ _ _ => pts_nil) (fun _ _ _ _ _ => (pe_call GW hr rfl gW kW bW .nil pass0 (pa_cons (pv 1) (pa_cons pe_int (pa_cons (pe_glob (v := .int 32) rfl T.g_MOST_BANKS.choose_spec ⟨_, rfl⟩) pa_nil)))))) pa_nil)) (pe_one (pe_cmpR op_le (pe_call GB hrB rfl gB kB bB .nil pass0 (pa_cons (pv 0) pa_nil)) (pe_glob (v := .int 32) rfl T.g_MOST_BANKS.choose_spec ⟨_, rfl⟩) (nomark _))))))), ?_⟩
    refine ⟨_, rfl, (by show 2 ≤ sizeLine; decide), fun q hq => ?_⟩
    have s1 : Same H (upd H q (.tup [.ty "list", .ty "tuple"])) := (Same.refl H).new hq
    obtain ⟨t, ht, hk⟩ := (ha.same s1).ty
    refine ⟨_, q, _, t, _, _, rfl, upd_same, cls2, ht, hk, _, rfl, ?_⟩
    cases ha with
    | other p h => exact iteT (k _ s1)
    | @seq a xs e p l =>
      have e1 := e.same s1
      have szl : ∀ i : Nat, i < xs.length → i < sizeLine := fun i hi => Nat.lt_of_lt_of_le hi (Nat.le_of_lt (small1000 (by omega)))
      have no : ¬ (1 ≤ xs.length ∧ xs.length ≤ 5) → okMod (some xs) = false := fun z => by
        show (decide _ && _) = false
        rw [decide_eq_false z]
        rfl
      refine iteF ?_
      refine ⟨_, rfl, a, xs, rfl, e1.elim (fun z => .inl (SqL.of z)) (fun z => .inr (SqT.of z)), _, _, rfl, rfl, _, rfl, ?_⟩
      refine ite2 (fun c1 => ?_) (fun c1 => ?_)
      · refine ⟨_, _, rfl, rfl, _, rfl, ?_⟩
        refine ite2 (fun c2 => ?_) (fun c2 => ?_)
        · have a2 : ¬ xs.length ≤ 5 := fun z => by
            have y : decide ((xs.length : Int) ≤ 5) = true := decide_eq_true (by omega)
            rw [y] at c2
            cases c2
          have k' := k _ s1
          rw [no (fun z => a2 z.2)] at k'
          exact k'
        · have ok5 : 1 ≤ xs.length ∧ xs.length ≤ 5 := by
            have a1 := of_decide_eq_true c1
            have a2 : (xs.length : Int) ≤ 5 := by
              cases y : decide ((xs.length : Int) ≤ 5) with
              | true => exact of_decide_eq_true y
              | false => exact absurd (by rw [y]; rfl) c2
            omega
          have okE : okMod (some xs) = (xs.all (withinV 2 32) && decide (prodV xs ≤ 32)) := by
            show (decide _ && _) = _
            rw [decide_eq_true ok5]
            rfl
          rw [okE] at k
          have fin : ∀ (D : Addr) (G : Hp), upd H q (.tup [.ty "list", .ty "tuple"]) D = none → G = upd (upd H q (.tup [.ty "list", .ty "tuple"])) D (.lst (((xs.take xs.length).map (withinV 2 32)).map V.bl)) →
              ∃ bs : List Bool, SqL K G D (bs.map V.bl) ∧ bs.all id = xs.all (withinV 2 32) ∧ Same H G := by
            rintro D G hD rfl
            refine ⟨_, SqL.of upd_same, ?_, s1.new hD⟩
            rw [List.take_length, List.all_map]
            rfl
          refine ⟨_, rfl, a, xs, rfl, ?_⟩
          rcases e1 with e1 | e1
          · refine .inl ⟨SqL.of e1, fun D hD => lc_it walk_list (fun i G => G = upd (upd H q (.tup [.ty "list", .ty "tuple"])) D (.lst (((xs.take i).map (withinV 2 32)).map V.bl))) rfl (fun i G _ z => by rw [z]; exact SqL.of (by rw [upd_ne (ne_of_none e1 hD)]; exact e1)) ?_ (fun G z => ?_)⟩
            · rintro i x G G' hi rfl ⟨rfl, hx⟩
              obtain ⟨S, hS⟩ := p x (List.mem_of_getElem? hx)
              refine ⟨rfl, _, rfl, x, S, 2, 32, rfl, plain_same (s1.new hD) hS, _, upd_same, by rw [List.length_map, List.length_map, List.length_take]; exact szl _ (by omega), ?_⟩
              rw [upd_upd, List.take_add_one, hx]
              simp
            · obtain ⟨bs, b1, b2, b3⟩ := fin D G hD z
              refine ⟨D, bs, rfl, b1, ?_⟩
              rw [b2]
              cases hb : xs.all (withinV 2 32) with
              | false =>
                rw [hb] at k
                exact ⟨_, rfl, iteF (k _ b3)⟩
              | true =>
                rw [hb] at k
                exact ⟨_, rfl, iteT ⟨_, rfl, a, xs, rfl, e.same b3, hb, _, _, rfl, rfl, k _ b3⟩⟩
          · refine .inr ⟨SqT.of e1, fun D hD => lc_it walk_tup (fun i G => G = upd (upd H q (.tup [.ty "list", .ty "tuple"])) D (.lst (((xs.take i).map (withinV 2 32)).map V.bl))) rfl (fun i G _ z => by rw [z]; exact SqT.of (by rw [upd_ne (ne_of_none e1 hD)]; exact e1)) ?_ (fun G z => ?_)⟩
            · rintro i x G G' hi rfl ⟨rfl, hx⟩
              obtain ⟨S, hS⟩ := p x (List.mem_of_getElem? hx)
              refine ⟨rfl, _, rfl, x, S, 2, 32, rfl, plain_same (s1.new hD) hS, _, upd_same, by rw [List.length_map, List.length_map, List.length_take]; exact szl _ (by omega), ?_⟩
              rw [upd_upd, List.take_add_one, hx]
              simp
            · obtain ⟨bs, b1, b2, b3⟩ := fin D G hD z
              refine ⟨D, bs, rfl, b1, ?_⟩
              rw [b2]
              cases hb : xs.all (withinV 2 32) with
              | false =>
                rw [hb] at k
                exact ⟨_, rfl, iteF (k _ b3)⟩
              | true =>
                rw [hb] at k
                exact ⟨_, rfl, iteT ⟨_, rfl, a, xs, rfl, e.same b3, hb, _, _, rfl, rfl, k _ b3⟩⟩
      · have a1 : ¬ 1 ≤ xs.length := fun z => c1 (decide_eq_true (by omega))
        have k' := k _ s1
        rw [no (fun z => a1 z.1)] at k'
        exact ⟨_, rfl, iteT k'⟩
end
end Toy
set_option maxRecDepth 100000
namespace L2
open PySem PySem.Spec PyProof.Rows
/-! operations of tuples, whether the result is a new tuple or an old one -/
section
variable {X : Cx}
theorem OpR.imp {f : Value → Value → Sem Value} {r r' : R2} (h : OpR X f r) (i : ∀ x y H Q, r' x y H Q → r x y H Q) : OpR X f r' := fun pins s σ H x y v u Q I rx ry q => h pins s σ H x y v u Q I rx ry (i x y H Q q)
theorem SlR.imp {r r' : V → Option Int → Option Int → Hp → VK → Prop} (h : SlR X r) (i : ∀ x lo hi H Q, r' x lo hi H Q → r x lo hi H Q) : SlR X r' := fun pins s σ H x v vl vu lo hi sl Q I rx hs pl pu q => h pins s σ H x v vl vu lo hi sl Q I rx hs pl pu (i x lo hi H Q q)
theorem Same.lay {H : Hp} {p : Addr} {o : HO} (h : H p = none) : Same H (upd H p o) := (Same.refl H).new h
theorem cutV_all {xs : List V} {lo hi : Option Int} (h : HT.sIx xs.length 0 lo = 0 ∧ HT.sIx xs.length xs.length hi = xs.length) : cutV xs lo hi = xs := by
  unfold cutV
  rw [h.1, h.2]
  simp
/-- t[i:j] -/
def rSlP : V → Option Int → Option Int → Hp → VK → Prop := fun x lo hi H Q => ∃ (a : Addr) (xs : List V), x = .ref a ∧ H a = some (.tup xs) ∧ ∀ p H', Same H H' → H' p = some (.tup (cutV xs lo hi)) → Q (.ref p) H'
theorem sl_tupP : SlR X rSlP := sl_tupA.imp fun x lo hi H Q ⟨a, xs, e, h, q⟩ => ⟨a, xs, e, SqT.of h, fun z => q a H (Same.refl H) (by rw [cutV_all z]; exact h), fun _ p hp => q p _ (Same.lay hp) upd_same⟩
/-- t * k -/
def rRepP : R2 := fun x y H Q => ∃ (a : Addr) (k : Int) (xs : List V), x = .ref a ∧ y = .int k ∧ H a = some (.tup xs) ∧ xs ≠ [] ∧ 1 ≤ k ∧ k ≤ 1000 ∧ xs.length ≤ 1000 ∧ ∀ p H', Same H H' → H' p = some (.tup (List.replicate k.toNat xs).flatten) → Q (.ref p) H'
theorem op_repP : OpR X (binaryOp .Mult) rRepP := op_repA.imp fun x y H Q ⟨a, k, xs, e1, e2, h, ne, h1, h2, h3, q⟩ => by
  by_cases hk : k = 1
  · subst hk
    exact .inl ⟨a, xs, e1, e2, SqT.of h, q a H (Same.refl H) (by simpa using h)⟩
  · exact .inr ⟨a, k, xs, e1, e2, SqT.of h, ne, by omega, h2, h3, fun p hp => q p _ (Same.lay hp) upd_same⟩
/-- t + u -/
def rCatP : R2 := fun x y H Q => ∃ (a b : Addr) (xs ys : List V), x = .ref a ∧ y = .ref b ∧ H a = some (.tup xs) ∧ H b = some (.tup ys) ∧ xs.length + ys.length ≤ 1000 ∧ ∀ p H', Same H H' → H' p = some (.tup (xs ++ ys)) → Q (.ref p) H'
theorem op_catP : OpR X (binaryOp .Add) rCatP := op_catA.imp fun x y H Q ⟨a, b, xs, ys, e1, e2, h1, h2, l, q⟩ =>
  ⟨a, b, xs, ys, e1, e2, SqT.of h1, SqT.of h2, Nat.le_of_lt (small1000 (by omega)), fun z => q b H (Same.refl H) (by rw [z]; exact h2), fun _ z => q a H (Same.refl H) (by rw [z, List.append_nil]; exact h1), fun _ _ p hp => q p _ (Same.lay hp) upd_same⟩
end
/-! whole numbers in tuples, compared -/
theorem eqvAll_ints : ∀ a b : List Int, PyData.eqvAll (a.map .int) (b.map .int) = decide (a = b)
  | [], [] => rfl
  | [], _ :: _ => rfl
  | _ :: _, [] => rfl
  | x :: xs, y :: ys => by
    have ih := eqvAll_ints xs ys
    show (PyData.eqv (.int x) (.int y) && PyData.eqvAll (xs.map .int) (ys.map .int)) = _
    rw [ih]
    show ((x == y) && decide (xs = ys)) = decide (x :: xs = y :: ys)
    by_cases h : x = y
    · subst h
      simp
    · have h2 : (x == y) = false := by simpa using h
      rw [h2]
      simp [h]
theorem eqv_tups (a b : List Int) : PyData.eqv (.tuple (a.map .int)) (.tuple (b.map .int)) = decide (a = b) := by
  rw [← eqvAll_ints a b]
  rfl
theorem dp_ints' {K : PySem.W.Frag} {H : Hp} : ∀ ns : List Int, DpAll K H (ns.map V.int) (ns.map PyData.int)
  | [] => .nil
  | z :: r => .cons (.int z) (dp_ints' r)
theorem shaped_tup (ns : List Int) : PySem.SeqAt.shaped (.tuple (ns.map PyData.int)) = true := by
  have h : ∀ ns : List Int, PyData.canLayAll0 (ns.map PyData.int) = true ∧ PyData.depthAll (ns.map PyData.int) = 0 := by
    intro ns
    induction ns with
    | nil => exact ⟨rfl, rfl⟩
    | cons z r ih => exact ⟨by simp [PyData.canLayAll0, PyData.canLay0, ih.1], by simp [PyData.depthAll, PyData.depth, ih.2]⟩
  simp [PySem.SeqAt.shaped, PyData.canLay0, PyData.depth, h ns]
/-- t == u of whole numbers -/
def rEqP : R2 := fun x y H Q => ∃ (a b : Addr) (ns ms : List Int), x = .ref a ∧ y = .ref b ∧ H a = some (.tup (ns.map V.int)) ∧ H b = some (.tup (ms.map V.int)) ∧ Q (.bl (decide (ns = ms))) H
theorem op_eqP {X : Cx} (hu : X.A.units + 64 < cLine) : OpR X (compareOp .Eq) rEqP := (op_eqD hu).imp fun x y H Q ⟨a, b, ns, ms, e1, e2, h1, h2, q⟩ =>
  ⟨.tuple (ns.map .int), .tuple (ms.map .int), by rw [e1]; exact .tup (SqT.of h1) (dp_ints' ns), by rw [e2]; exact .tup (SqT.of h2) (dp_ints' ms), shaped_tup ns, shaped_tup ms, by rw [eqv_tups]; exact q⟩
theorem op_neP {X : Cx} (hu : X.A.units + 64 < cLine) : OpR X (compareOp .NotEq) (fun x y H Q => ∃ (a b : Addr) (ns ms : List Int), x = .ref a ∧ y = .ref b ∧ H a = some (.tup (ns.map V.int)) ∧ H b = some (.tup (ms.map V.int)) ∧ Q (.bl (decide (ns ≠ ms))) H) := (op_neD hu).imp fun x y H Q ⟨a, b, ns, ms, e1, e2, h1, h2, q⟩ =>
  ⟨.tuple (ns.map .int), .tuple (ms.map .int), by rw [e1]; exact .tup (SqT.of h1) (dp_ints' ns), by rw [e2]; exact .tup (SqT.of h2) (dp_ints' ms), shaped_tup ns, shaped_tup ms, by rw [eqv_tups, ← decide_not]; exact q⟩
/-- len, its reading by name -/
def rLenS (K : PySem.W.Frag) : List V → Hp → VK → Prop := fun xs H Q => ∃ p ys, xs = [V.ref p] ∧ (SqL K H p ys ∨ SqT K H p ys) ∧ Q (V.int (ys.length : Int)) H
theorem call_lenS {X : Cx} : CallR X (.builtin "len") (rLenS X.K) := call_len_seq
end L2
set_option maxRecDepth 100000
namespace Toy
open PySem L2
abbrev s_shortest_weights : Stmt := top 16
/-! the normal form of weights, as mathematics -/
def perOk (t : List Int) (n : Nat) : Bool := decide ((List.replicate (t.length / n) (t.take n)).flatten = t)
def divsTo (m i : Nat) : List Nat := ((List.range i).map (· + 1)).filter fun n => decide (m % n = 0)
def divs (t : List Int) : List Nat := divsTo t.length t.length
def ivs (ls : List Nat) : List V := ls.map fun (n : Nat) => V.int (n : Int)
theorem divsTo_succ (m i : Nat) : divsTo m (i + 1) = if m % (i + 1) = 0 then divsTo m i ++ [i + 1] else divsTo m i := by
  unfold divsTo
  rw [List.range_succ, List.map_append, List.filter_append]
  by_cases h : m % (i + 1) = 0
  · simp [h]
  · simp [h]
theorem divsTo_len (m i : Nat) : (divsTo m i).length ≤ i := by
  unfold divsTo
  exact Nat.le_trans (List.length_filter_le ..) (by simp)
theorem ivs_snoc (ls : List Nat) (n : Nat) : ivs (ls ++ [n]) = ivs ls ++ [V.int (n : Int)] := by simp [ivs]
def per (t : List Int) : Nat := (((divs t).filter (perOk t)).head?).getD t.length
def rotr (t : List Int) : List Int := t.drop (t.length - 1) ++ t.take (t.length - 1)
def trimW : Nat → List Int → List Int → List Int × List Int
  | 0, a, t => (a, t)
  | n + 1, a, t => if a ≠ [] ∧ a.getLast? = t.getLast? then trimW n a.dropLast (rotr t) else (a, t)
def normW (a t : List Int) : List Int × List Int := trimW a.length a (t.take (per t))
theorem mem_divs {t : List Int} {n : Nat} (h : n ∈ divs t) : 1 ≤ n ∧ n ≤ t.length ∧ t.length % n = 0 := by
  unfold divs divsTo at h
  obtain ⟨h1, h2⟩ := List.mem_filter.mp h
  obtain ⟨m, hm, rfl⟩ := List.mem_map.mp h1
  have := List.mem_range.mp hm
  exact ⟨by omega, by omega, of_decide_eq_true h2⟩
theorem len_in_divs {t : List Int} (h : t ≠ []) : t.length ∈ divs t := by
  have hp : 0 < t.length := List.length_pos_iff.mpr h
  exact List.mem_filter.mpr ⟨List.mem_map.mpr ⟨t.length - 1, List.mem_range.mpr (by omega), by omega⟩, by simp⟩
theorem perOk_len {t : List Int} (h : t ≠ []) : perOk t t.length = true := by
  have hp : 0 < t.length := List.length_pos_iff.mpr h
  unfold perOk
  rw [Nat.div_self hp, List.take_length]
  simp
theorem some_per {t : List Int} (h : t ≠ []) : (divs t).filter (perOk t) ≠ [] := fun z => by
  have m : t.length ∈ (divs t).filter (perOk t) := List.mem_filter.mpr ⟨len_in_divs h, perOk_len h⟩
  rw [z] at m
  cases m
theorem cut_take {xs : List V} {n : Nat} (h : n ≤ xs.length) : cutV xs none (some (n : Int)) = xs.take n := by
  unfold cutV
  rw [HT.sIx_none, HT.sIx_nat, Nat.min_eq_left h]
  simp
theorem sIx_m1 {m d : Nat} : HT.sIx m d (some (-1)) = m - 1 := by
  show (if (-1 : Int) < 0 then ((-1 : Int) + (m : Int)).toNat else min (-1 : Int).toNat m) = m - 1
  rw [if_pos (by decide)]
  omega
theorem cut_but (xs : List V) : cutV xs none (some (-1)) = xs.take (xs.length - 1) := by
  unfold cutV
  rw [HT.sIx_none, sIx_m1]
  simp
theorem cut_end (xs : List V) : cutV xs (some (-1)) none = xs.drop (xs.length - 1) := by
  unfold cutV
  rw [HT.sIx_none, sIx_m1]
  exact List.take_of_length_le (by simp)
theorem getLast_at {xs : List Int} {z : Int} (h : xs.getLast? = some z) : atI (xs.map V.int) (-1) = some (V.int z) := by
  cases hx : xs.length with
  | zero =>
    rw [List.length_eq_zero_iff.mp hx] at h
    cases h
  | succ n =>
    have e : ixN (xs.map V.int).length (-1) = some n := by
      rw [List.length_map, hx]
      show (if _ then _ else _) = _
      simp
      omega
    unfold atI
    rw [e]
    show (xs.map V.int)[n]? = _
    have e2 : xs[n]? = some z := by
      rw [← h, List.getLast?_eq_getElem?, hx]
      simp
    rw [List.getElem?_map, e2]
    rfl
theorem ivs_at {ls : List Nat} {i : Nat} {x : V} (h : (ivs ls)[i]? = some x) : ∃ n, ls[i]? = some n ∧ x = V.int (n : Int) := by
  unfold ivs at h
  rw [List.getElem?_map] at h
  cases e : ls[i]? with
  | none =>
    rw [e] at h
    cases h
  | some n =>
    rw [e] at h
    exact ⟨n, rfl, (Option.some.inj h).symm⟩
theorem take_len {ms : List Int} {n : Nat} (h : n ≤ ms.length) : (ms.take n).length = n := by
  rw [List.length_take]
  omega
/-- the second comprehension's list: the tuples of the periods found so far -/
def Found (ms : List Int) (ls : List Nat) (G : Hp) (rs : List V) : Prop := (rs = [] ∧ ls.filter (perOk ms) = []) ∨ ∃ (p : Addr) (r : List V) (n : Nat) (r' : List Nat), rs = .ref p :: r ∧ ls.filter (perOk ms) = n :: r' ∧ G p = some (.tup ((ms.take n).map V.int))
theorem Found.keep {ms : List Int} {ls : List Nat} {G G' : Hp} {rs : List V} {D : Addr} (h : Found ms ls G rs) (hD : ∃ xs, G D = some (.lst xs)) (k : But D G G') : Found ms ls G' rs := by
  rcases h with h | ⟨p, r, n, r', e1, e2, e3⟩
  · exact .inl h
  · refine .inr ⟨p, r, n, r', e1, e2, k p _ (fun z => ?_) e3⟩
    obtain ⟨xs, hD⟩ := hD
    rw [z, hD] at e3
    cases e3
theorem Found.more {ms : List Int} {ls : List Nat} {G : Hp} {rs : List V} {n : Nat} {p : Addr} (h : Found ms ls G rs) (ok : perOk ms n = true) (e : G p = some (.tup ((ms.take n).map V.int))) : Found ms (ls ++ [n]) G (rs ++ [.ref p]) := by
  have f1 : (ls ++ [n]).filter (perOk ms) = ls.filter (perOk ms) ++ [n] := by
    rw [List.filter_append]
    simp [ok]
  rcases h with ⟨h1, h2⟩ | ⟨q, r, m, r', e1, e2, e3⟩
  · exact .inr ⟨p, [], n, [], by rw [h1]; rfl, by rw [f1, h2]; rfl, e⟩
  · exact .inr ⟨q, r ++ [.ref p], m, r' ++ [n], by rw [e1]; rfl, by rw [f1, e2]; rfl, e3⟩
theorem Found.skip {ms : List Int} {ls : List Nat} {G : Hp} {rs : List V} {n : Nat} (h : Found ms ls G rs) (ok : perOk ms n = false) : Found ms (ls ++ [n]) G rs := by
  have f1 : (ls ++ [n]).filter (perOk ms) = ls.filter (perOk ms) := by
    rw [List.filter_append]
    simp [ok]
  unfold Found
  rw [f1]
  exact h
/-- the loop's measure: how long the tuple in slot 0 is -/
def lenAt (σ : L2.St) (G : Hp) : Nat := match σ with
  | some (.ref a) :: _ => match G a with
    | some (.tup xs) => xs.length
    | _ => 0
  | _ => 0
theorem lenAt_of {σ : L2.St} {G : Hp} {a : Addr} {xs : List V} (h : G a = some (.tup xs)) : lenAt (some (.ref a) :: σ) G = xs.length := by
  simp [lenAt, h]
theorem rotr_len (t : List Int) : (rotr t).length = t.length := by
  unfold rotr
  rw [List.length_append, List.length_drop, List.length_take]
  omega
theorem trim_go {A T : List Int} (h : A ≠ []) (e : A.getLast? = T.getLast?) : trimW A.length A T = trimW A.dropLast.length A.dropLast (rotr T) := by
  cases hA : A.length with
  | zero => exact absurd (List.length_eq_zero_iff.mp hA) h
  | succ n =>
    have e2 : A.dropLast.length = n := by
      rw [List.length_dropLast]
      omega
    rw [e2]
    show (if A ≠ [] ∧ A.getLast? = T.getLast? then _ else _) = _
    rw [if_pos ⟨h, e⟩]
theorem trim_stop {A T : List Int} (h : A = [] ∨ A.getLast? ≠ T.getLast?) : trimW A.length A T = (A, T) := by
  cases hA : A.length with
  | zero => rfl
  | succ n =>
    show (if A ≠ [] ∧ A.getLast? = T.getLast? then _ else _) = _
    rw [if_neg]
    rintro ⟨h1, h2⟩
    rcases h with h | h
    · exact h1 h
    · exact h h2
theorem last_some {A : List Int} (h : A ≠ []) : ∃ z, A.getLast? = some z := by
  cases e : A.getLast? with
  | none => exact absurd (List.getLast?_eq_none_iff.mp e) h
  | some z => exact ⟨z, rfl⟩
def spShort : Sp := fun vs H Q _ => ∃ (a b : Addr) (ns ms : List Int), vs = [.ref a, .ref b] ∧ H a = some (.tup (ns.map V.int)) ∧ H b = some (.tup (ms.map V.int)) ∧ ms ≠ [] ∧ ns.length ≤ 300 ∧ ms.length ≤ 300 ∧
  ∀ (H' : Hp) (p x y : Addr), Same H H' → H' p = some (.tup [.ref x, .ref y]) → H' x = some (.tup ((normW ns ms).1.map V.int)) → H' y = some (.tup ((normW ns ms).2.map V.int)) → Q (.ref p) H'
section
variable {P : Program} {w : World} {K : PySem.W.Frag} {mg : Str → Option Value} {base : Heap}
abbrev N_shortest_weights : List Str := ["ahead", "turn", "lengths", "length"]
theorem sc_shortest_weights : FnScope N_shortest_weights ["ahead", "turn"] (defScope s_shortest_weights) := ⟨rfl, rfl, rfl, by decide +kernel, rfl, by decide +kernel, by decide +kernel⟩
theorem ok_shortest_weights {f : Addr} {fd : FuncData} (F : Fun K "shortest_weights" "shortest_weights" s_shortest_weights f fd) (T : TR mg) : FnOk P w K mg base CX0 1 f fd ["ahead", "turn"] spShort := by
  refine F.ok sc_shortest_weights (fun vs H Q E h => ?_) (fun cdv A outer s H vs Q E hr h => ?_)
  · obtain ⟨a, b, ns, ms, rfl, _⟩ := h
    rfl
  · obtain ⟨a, b, ns, ms, rfl, ea, eb, hne, hn, hm, k⟩ := h
    refine ⟨_, (pss_cons (ps_setLc (i := 2) (own := [("length", 3)]) (g := (gName 3)) rfl sc_shortest_weights.nd rfl rfl (sw_true rfl rfl rfl (by decide +kernel)) (pi_range2 rfl T.m_range (pa_cons pe_int (pa_cons (pe_op op_add (pe_callB (show CallR _ (.builtin "len") (rLenS K) from call_lenS) (by rfl) T.m_len (by decide +kernel) (pa_cons (pv 1) pa_nil)) pe_int) pa_nil))) (blkOk_by (N := N_shortest_weights) (sc := defScope s_shortest_weights) (by decide +kernel)) (fun _ _ _ _ _ => (pg_name (i := 3) sc_shortest_weights.nd rfl (Or.inl rfl))) (fun _ _ _ _ _ => (pts_one (pt_cmpR op_eq (pe_op op_mod (pe_callB (show CallR _ (.builtin "len") (rLenS K) from call_lenS) (by rfl) T.m_len (by decide +kernel) (pa_cons (pv 1) pa_nil)) (pv 3)) pe_int (nomark _)))) (fun _ _ _ _ _ => (pv 3)))
 (pss_cons (ps_set (i := 1) sc_shortest_weights.nd rfl (Or.inr rfl) (pe_ix ix_list (pe_lc (own := [("length", 3)]) (g := (gName 3)) rfl sc_shortest_weights.nd (pi_list (pv 2)) (blkOk_by (N := N_shortest_weights) (sc := defScope s_shortest_weights) (by decide +kernel)) (fun _ _ _ _ _ => (pg_name (i := 3) sc_shortest_weights.nd rfl (Or.inl rfl))) (fun _ _ _ _ _ => (pts_one (pt_cmpR (op_eqP hr.units) (pe_op op_repP (pe_slice sl_tupP (pv 1) po_none (po_some (pv 3))) (pe_op op_fdiv (pe_callB (show CallR _ (.builtin "len") (rLenS K) from call_lenS) (by rfl) T.m_len (by decide +kernel) (pa_cons (pv 1) pa_nil)) (pv 3))) (pv 1) (nomark _)))) (fun _ _ _ _ _ => (pe_slice sl_tupP (pv 1) po_none (po_some (pv 3))))) pe_int (fun _ _ => rfl)))
 (pss_cons (ps_while PassesOwn.never (PW.pt (pw_and (pt_truth (pv 0) (fun _ => rfl)) (pw_and1 (pt_cmpR op_eq (pe_ix ix_tup (pv 0) (pe_un un_neg pe_int) (fun _ _ => rfl)) (pe_ix ix_tup (pv 1) (pe_un un_neg pe_int) (fun _ _ => rfl)) (nomark _)))))
 (pss_cons (ps_set (i := 0) sc_shortest_weights.nd rfl (Or.inl rfl) (pe_slice sl_tupP (pv 0) po_none (po_some (pe_un un_neg pe_int))))
 (pss_one (ps_set (i := 1) sc_shortest_weights.nd rfl (Or.inr rfl) (pe_op op_catP (pe_slice sl_tupP (pv 1) (po_some (pe_un un_neg pe_int)) po_none) (pe_slice sl_tupP (pv 1) po_none (po_some (pe_un un_neg pe_int))))))))
 (pss_one (ps_ret (pe_tup (pa_cons (pv 0) (pa_cons (pv 1) pa_nil)))))))), ?_⟩
    have lm : (ms.map V.int).length = ms.length := List.length_map ..
    have hu : ∀ i : Nat, i < 1000 → i < sizeLine := fun i hi => small1000 (by omega)
    have hp : 0 < ms.length := List.length_pos_iff.mpr hne
    refine ⟨_, rfl, b, _, rfl, .inr (SqT.of eb), _, _, rfl, rfl, _, _, rfl, ⟨by decide, by decide, by rw [lm]; omega, by rw [lm]; omega⟩, fun D hD => ?_⟩
    have eN : (((ms.map V.int).length : Int) + 1 - 1).toNat = ms.length := by rw [lm]; omega
    have nD : ∀ {b : Addr} {o : HO} {u : HO}, H b = some o → (upd H D u) b = some o := fun {b o u} e => by rw [upd_ne (ne_of_none e hD)]; exact e
    refine lc_it walk_range (fun i G => G = upd H D (.lst (ivs (divsTo ms.length i)))) rfl (fun _ _ _ _ => trivial) ?_ ?_
    · rintro i x G G' hi rfl ⟨rfl, rfl⟩
      have hi' : i < ms.length := by omega
      have dl := divsTo_len ms.length i
      refine ⟨rfl, _, rfl, b, _, rfl, .inr (SqT.of (nD eb)), _, rfl, _, _, rfl, rfl, (by show (0 : Int) < 1 + (i : Int); omega), rfl, _, rfl, ?_⟩
      have em : ((ms.map V.int).length : Int) % (1 + (i : Int)) = ((ms.length % (i + 1) : Nat) : Int) := by
        rw [lm, show (1 + (i : Int)) = ((i + 1 : Nat) : Int) by omega]
        rfl
      refine ite2 (fun c => ?_) (fun c => ?_)
      · have c2 : ms.length % (i + 1) = 0 := by
          have z := V.int.inj (of_decide_eq_true c)
          rw [em] at z
          omega
        refine ⟨_, rfl, _, upd_same, hu _ (by unfold ivs; rw [List.length_map]; omega), ?_⟩
        rw [upd_upd, divsTo_succ, if_pos c2, ivs_snoc]
        have e1 : (1 + (i : Int)) = ((i + 1 : Nat) : Int) := by omega
        rw [← e1]
      · have c2 : ¬ ms.length % (i + 1) = 0 := fun z => c (decide_eq_true (by show V.int (_ % _) = V.int 0; rw [em, z]; rfl))
        rw [divsTo_succ, if_neg c2]
    · rintro G rfl
      rw [eN]
      have s1 : Same H (upd H D (.lst (ivs (divs ms)))) := Same.lay hD
      refine ⟨_, rfl, D, rfl, ⟨_, SqL.of upd_same⟩, fun D2 hD2 => ?_⟩
      have nDD : D ≠ D2 := ne_of_none upd_same hD2
      refine lc_it (walk_list (xs := ivs (divs ms))) (fun i G => ∃ rs, But D2 (upd H D (.lst (ivs (divs ms)))) G ∧ G D2 = some (.lst rs) ∧ rs.length ≤ i ∧ Found ms ((divs ms).take i) G rs) ?_ ?_ ?_ ?_
      · exact ⟨[], (But.refl D2 _).put, upd_same, Nat.le_refl _, .inl ⟨rfl, by simp⟩⟩
      · rintro i G _ ⟨rs, kp, _⟩
        exact SqL.of (kp D _ nDD upd_same)
      · rintro i x G G' hi ⟨rs, kp, hG, hl, fo⟩ ⟨rfl, hx⟩
        obtain ⟨n, hn', rfl⟩ := ivs_at hx
        obtain ⟨n1, n2, n3⟩ := mem_divs (List.mem_of_getElem? hn')
        have ebG : G' b = some (.tup (ms.map V.int)) := kp b _ (ne_of_none (s1 _ _ eb) hD2) (s1 _ _ eb)
        have ct : cutV (ms.map V.int) none (some (n : Int)) = (ms.take n).map V.int := by rw [cut_take (by rw [lm]; exact n2), List.map_take]
        refine ⟨rfl, _, rfl, _, rfl, _, rfl, b, _, rfl, ebG, fun p1 G1 s2 h1 => ?_⟩
        rw [ct] at h1
        have q1 : ((ms.length : Int) / (n : Int)) = ((ms.length / n : Nat) : Int) := rfl
        have dv1 : 1 ≤ ms.length / n := (Nat.le_div_iff_mul_le (by omega)).mpr (by omega)
        have dv2 : ms.length / n ≤ ms.length := Nat.div_le_self ..
        have tl : ((ms.take n).map V.int).length = n := by rw [List.length_map, take_len n2]
        refine ⟨_, rfl, b, _, rfl, .inr (SqT.of (s2 _ _ ebG)), _, rfl, _, _, rfl, rfl, ⟨by omega, by omega⟩, p1, ((ms.map V.int).length : Int) / (n : Int), _, rfl, rfl, h1, (fun z => by rw [z] at tl; simp at tl; omega), by rw [lm, q1]; omega, by rw [lm, q1]; omega, by rw [tl]; omega, fun p2 G2 s3 h2 => ?_⟩
        have rp : (List.replicate (((ms.map V.int).length : Int) / (n : Int)).toNat ((ms.take n).map V.int)).flatten = ((List.replicate (ms.length / n) (ms.take n)).flatten).map V.int := by
          rw [lm, q1, Int.toNat_natCast, List.map_flatten, List.map_replicate]
        rw [rp] at h2
        refine ⟨_, rfl, p2, b, _, _, rfl, rfl, h2, s3 _ _ (s2 _ _ ebG), _, rfl, ?_⟩
        have s4 : Same G' G2 := fun _ _ z => s3 _ _ (s2 _ _ z)
        have tk : (divs ms).take (i + 1) = (divs ms).take i ++ [n] := by
          rw [List.take_add_one, hn']
          rfl
        refine ite2 (fun c => ?_) (fun c => ?_)
        · have ok : perOk ms n = true := c
          refine ⟨_, rfl, _, rfl, _, rfl, b, _, rfl, s4 _ _ ebG, fun p3 G3 s5 h3 => ?_⟩
          rw [ct] at h3
          have s6 : Same G' G3 := fun _ _ z => s5 _ _ (s4 _ _ z)
          have n3D : p3 ≠ D2 := fun z => by
            rw [z, s6 _ _ hG] at h3
            cases h3
          have il : i < ms.length := by
            have a1 := divsTo_len ms.length ms.length
            have a2 : (ivs (divs ms)).length = (divs ms).length := List.length_map ..
            have a3 : (divs ms).length ≤ ms.length := a1
            omega
          refine ⟨rs, s6 _ _ hG, hu _ (by omega), rs ++ [.ref p3], fun c' o nc e => ?_, upd_same, by simp; omega, ?_⟩
          · rw [upd_ne nc]
            exact s6 _ _ (kp _ _ nc e)
          · rw [tk]
            exact (fo.keep ⟨_, hG⟩ (fun c' o nc e => by rw [upd_ne nc]; exact s6 _ _ e)).more ok (by rw [upd_ne n3D]; exact h3)
        · have ok : perOk ms n = false := by
            cases z : perOk ms n with
            | true => exact absurd z c
            | false => rfl
          refine ⟨rs, fun c' o nc e => s4 _ _ (kp _ _ nc e), s4 _ _ hG, by omega, ?_⟩
          rw [tk]
          exact (fo.keep ⟨_, hG⟩ fun _ _ _ e => s4 _ _ e).skip ok
      · rintro G ⟨rs, kp, hG, hl, fo⟩
        have a2 : (ivs (divs ms)).length = (divs ms).length := List.length_map ..
        rw [a2, List.take_length] at fo
        have keep : Same H G := fun c' o e => kp c' o (ne_of_none (s1 _ _ e) hD2) (s1 _ _ e)
        obtain ⟨p, r, n, r', rfl, e2, e3⟩ : ∃ (p : Addr) (r : List V) (n : Nat) (r' : List Nat), rs = .ref p :: r ∧ (divs ms).filter (perOk ms) = n :: r' ∧ G p = some (.tup ((ms.take n).map V.int)) := by
          rcases fo with ⟨_, z⟩ | z
          · exact absurd z (some_per hne)
          · exact z
        have pe : per ms = n := by
          unfold per
          rw [e2]
          rfl
        have mn : n ∈ divs ms := by
          have z : n ∈ (divs ms).filter (perOk ms) := by
            rw [e2]
            exact List.mem_cons_self ..
          exact (List.mem_filter.mp z).1
        obtain ⟨n1, n2, _⟩ := mem_divs mn
        refine ⟨D2, _, 0, .ref p, rfl, rfl, SqL.of hG, atI_nat (j := 0) rfl, ?_⟩
        refine while_by (fun σ G2 => ∃ (x y : Addr) (A T : List Int), σ = [some (.ref x), some (.ref y), some (.ref D), none] ∧ Same H G2 ∧ G2 x = some (.tup (A.map V.int)) ∧ G2 y = some (.tup (T.map V.int)) ∧ T ≠ [] ∧ A.length ≤ 300 ∧ T.length ≤ 300 ∧ trimW A.length A T = normW ns ms) lenAt ?_ ?_ ?_
        · refine ⟨a, p, ns, ms.take n, rfl, keep, keep _ _ ea, e3, ?_, hn, ?_, ?_⟩
          · intro z
            have y := take_len n2
            rw [z] at y
            simp at y
            omega
          · rw [take_len n2]
            omega
          · unfold normW
            rw [pe]
        · rintro σ G2 ⟨x, y, A, T', rfl, s2, hx, hy, tne, al, tl, inv⟩
          have lA : (A.map V.int).length = A.length := List.length_map ..
          have lT : (T'.map V.int).length = T'.length := List.length_map ..
          have fin : (A = [] ∨ A.getLast? ≠ T'.getLast?) → ∀ q, G2 q = none → Q (.ref q) (upd G2 q (.tup [.ref x, .ref y])) := by
            intro z q hq
            rw [trim_stop z] at inv
            have s3 : Same G2 (upd G2 q (.tup [.ref x, .ref y])) := Same.lay hq
            exact k _ q x y (fun b o e => s3 _ _ (s2 _ _ e)) upd_same (by rw [← inv]; exact s3 _ _ hx) (by rw [← inv]; exact s3 _ _ hy)
          refine ⟨_, rfl, _, .inr (.inl ⟨_, SqT.of hx, rfl⟩), ?_⟩
          refine ite2 (fun c => ?_) (fun c => ?_)
          · have hA : A ≠ [] := fun z => by
              rw [z] at c
              cases c
            obtain ⟨u, hu1⟩ := last_some hA
            obtain ⟨v, hv1⟩ := last_some tne
            refine ⟨_, rfl, _, rfl, x, _, _, _, rfl, rfl, SqT.of hx, getLast_at hu1, _, rfl, _, rfl, y, _, _, _, rfl, rfl, SqT.of hy, getLast_at hv1, rfl, _, rfl, ?_⟩
            refine ite2 (fun c2 => ?_) (fun c2 => ?_)
            · have euv : u = v := V.int.inj (of_decide_eq_true c2)
              have eL : A.getLast? = T'.getLast? := by rw [hu1, hv1, euv]
              rw [trim_go hA eL] at inv
              refine ⟨_, rfl, _, rfl, _, rfl, x, _, rfl, hx, fun x1 G3 s3 hx1 => ?_⟩
              rw [cut_but, lA] at hx1
              refine ⟨_, rfl, _, rfl, _, rfl, y, _, rfl, s3 _ _ hy, fun y1 G4 s4 hy1 => ?_⟩
              rw [cut_end, lT] at hy1
              refine ⟨_, rfl, _, rfl, _, rfl, y, _, rfl, s4 _ _ (s3 _ _ hy), fun y2 G5 s5 hy2 => ?_⟩
              rw [cut_but, lT] at hy2
              refine ⟨y1, y2, _, _, rfl, rfl, s5 _ _ hy1, hy2, by rw [List.length_drop, List.length_take, lT]; omega, fun y3 G6 s6 hy3 => ?_⟩
              have s7 : Same G2 G6 := fun _ _ z => s6 _ _ (s5 _ _ (s4 _ _ (s3 _ _ z)))
              have hx2 : G6 x1 = some (.tup (A.dropLast.map V.int)) := by
                rw [List.dropLast_eq_take, List.map_take]
                exact s6 _ _ (s5 _ _ (s4 _ _ hx1))
              have hy4 : G6 y3 = some (.tup ((rotr T').map V.int)) := by
                unfold rotr
                rw [List.map_append, List.map_drop, List.map_take]
                exact hy3
              refine ⟨⟨x1, y3, A.dropLast, rotr T', rfl, fun _ _ z => s7 _ _ (s2 _ _ z), hx2, hy4, fun z => ?_, by rw [List.length_dropLast]; omega, by rw [rotr_len]; exact tl, inv⟩, ?_⟩
              · have y' := rotr_len T'
                rw [z] at y'
                exact tne (List.length_eq_zero_iff.mp y'.symm)
              · show lenAt (some (.ref x1) :: _) G6 < lenAt (some (.ref x) :: _) G2
                rw [lenAt_of hx2, lenAt_of hx, List.length_map, List.length_map, List.length_dropLast]
                have := List.length_pos_iff.mpr hA
                omega
            · exact ⟨_, rfl, _, rfl, (by show 2 ≤ sizeLine; decide), fin (.inr fun z => c2 (decide_eq_true (by rw [hu1, hv1] at z; show V.int u = V.int v; rw [Option.some.inj z])))⟩
          · have hA : A = [] := by
              cases A with
              | nil => rfl
              | cons z r => exact absurd rfl c
            exact iteF ⟨_, rfl, _, rfl, (by show 2 ≤ sizeLine; decide), fin (.inl hA)⟩
        · rintro σ G2 Q1 Q2 hi ⟨v, e, kk, ht, h⟩
          refine ⟨v, e, kk, ht, ?_⟩
          cases kk with
          | false => exact hi _ _ h
          | true =>
            obtain ⟨v1, w1, i1, w2, a1, x1, i2, u1, w3, w4, w5, w6, v2, y1, i3, y2, a3, x3, i4, u3, y3, y4, y5, y6, z1, c1, z2, z3⟩ := h
            exact ⟨v1, w1, i1, w2, a1, x1, i2, u1, w3, w4, w5, w6, v2, y1, i3, y2, a3, x3, i4, u3, y3, y4, y5, y6, z1, c1, z2, hi _ _ z3⟩
end
end Toy
set_option maxRecDepth 100000
namespace L2
open PySem PySem.Spec PyProof.Rows
/-- a target o.f among several -/
def gFld (K : PySem.W.Frag) (to : TE) (f : Str) : TG := fun v σ H Q => to σ H fun x H1 => ∃ a C dx fs, x = .ref a ∧ H1 a = some (.ins C dx fs) ∧ Cls K C ∧ NoAttr K C f ∧ fs.length < 1000 ∧ Q σ (upd H1 a (.ins C dx (putF f v fs)))
theorem pg_fld {X : Cx} {o : Expr} {f : Str} {p : Pos} {to : TE} (ho : PE X o to) : PG X (.Attribute o f p) (gFld X.K to f) := by
  constructor
  intro pins s σ H v u Q I r h
  refine PySem.W.kas_attr (thn (ho.run pins s σ H _ I h) ?_)
  rintro ov s1 ⟨x, H1, J, rx, a, C, dx, fs, rfl, ea, c, n, l, q⟩
  obtain rfl : ov = Value.ref a := rx
  exact setattr_ok J ea c n l r fun s2 J2 => ⟨σ, _, J2, q⟩
/-- raise C(e, ..), where C's __init__ stores fields -/
def tRaiseX (C : Addr) (n : Nat) (fs : List V → List (Str × V)) (t : TA) : St → Hp → XK → Prop := fun σ H Q => t σ H fun vs H1 => vs.length = n ∧ ∀ d H', H1 d = none → Same H1 H' → H' d = some (.xd (fs vs)) → Q (.ref C) (some d) H'
theorem pmk_x {X : Cx} {k n : Nat} {fI C : Addr} {fd : FuncData} {ps : List Str} {fs : List V → List (Str × V)} {x : Str} {p pos : Pos} {e : Expr} {es : List Expr} {t : TA} (T : XvI X.K C fI) (F : FnOk X.prog X.w X.K X.mg X.base CX0 k fI fd ps (spX C n fs)) (hr : Room (k + 1) X.A) (hb : Binds X.K fd ps []) (hn : n ≤ 1000)
    (hg : Gl X x) (hm : X.mg x = some (.ref C)) (mo : Mono t) (ha : PA X (e :: es) t) (hdb : (x == ("__debug__" : Str)) = false := by decide)
    (he : starEach (e :: es) X.env = (false, eval e X.env) :: starEach es X.env := by rfl) (hpl : (backTo pos (starEach es X.env)).any (·.1) = false := by rfl) : PMk X (.Call (.Name x p) (e :: es) [] pos) (tRaiseX C n fs t) := by
  intro pins s σ H Q I h
  refine pmk_oex T.cls.oex T.ini T.ty F hr hb .nil pass0 hg hm ha hdb he hpl pins s σ H Q I (mo _ _ _ _ (fun vs H1 z => ⟨by rw [z.1]; exact hn, fun a ha => ?_⟩) h)
  refine ⟨a, vs, by rw [List.append_nil], z.1, upd_same, fun dx H' hd nd h1 h2 h3 => ⟨rfl, dx, _, h1, h2, ?_, z.2 dx _ ?_ ?_ upd_same⟩⟩
  · rw [upd_ne nd] at hd
    exact hd
  · rw [upd_ne nd] at hd
    exact hd
  · intro b o eb
    have hd' : H1 dx = none := by
      rw [upd_ne nd] at hd
      exact hd
    have n1 := ne_of_none eb ha
    have n2 := ne_of_none eb hd'
    rw [upd_ne n2, del_ne n1, h3 b n1 n2, upd_ne n1]
    exact eb
end L2
set_option maxRecDepth 100000
namespace Toy
open PySem L2
abbrev s_BadRule : Stmt := (inClass (top 20) 0)
abbrev s_BadNumber : Stmt := (inClass (top 21) 0)
abbrev s_TooMany : Stmt := (inClass (top 23) 0)
abbrev s_Rule_init : Stmt := (inClass (top 36) 0)
abbrev s_Rule_classes : Stmt := (inClass (top 36) 9)
abbrev s_Rule_banks : Stmt := (inClass (top 36) 8)
/-! errors -/
def fs1 (f : Str) : List V → List (Str × V) := fun ys => match ys with
  | [y] => [(f, y)]
  | _ => []
def fs2 (f g : Str) : List V → List (Str × V) := fun ys => match ys with
  | [y, z] => [(g, z), (f, y)]
  | _ => []
/-- what the top has written of the errors' classes -/
structure TErr (K : PySem.W.Frag) (mg : Str → Option Value) (CR CN CT uR uN uT : Addr) (fdR fdN fdT : FuncData) : Prop where
  gBadRule : mg "BadRule" = some (.ref CR)
  iBadRule : XvI K CR uR
  fBadRule : Fun K "__init__" "BadRule.__init__" s_BadRule uR fdR
  nBadRule : PySem.W.findIn K (.ref CR) "part" = some none
  bBadRule : Binds K fdR ["self", "part"] []
  gBadNumber : mg "BadNumber" = some (.ref CN)
  iBadNumber : XvI K CN uN
  fBadNumber : Fun K "__init__" "BadNumber.__init__" s_BadNumber uN fdN
  nBadNumber : PySem.W.findIn K (.ref CN) "value" = some none
  bBadNumber : Binds K fdN ["self", "value"] []
  gTooMany : mg "TooMany" = some (.ref CT)
  iTooMany : XvI K CT uT
  fTooMany : Fun K "__init__" "TooMany.__init__" s_TooMany uT fdT
  nWhat : PySem.W.findIn K (.ref CT) "what" = some none
  nMost : PySem.W.findIn K (.ref CT) "most" = some none
  bTooMany : Binds K fdT ["self", "what", "most"] []
theorem mono_c {v : V} {t : TA} (h : Mono t) : Mono (tCons (tC v) t) := fun σ H Q Q' i q => h σ H _ _ (fun vs H' z => i _ _ z) q
theorem CallR.imp {X : Cx} {g : Value} {r r' : List V → Hp → VK → Prop} (h : CallR X g r) (i : ∀ xs H Q, r' xs H Q → r xs H Q) : CallR X g r' := fun pins s σ H xs us Q I rr q => h pins s σ H xs us Q I rr (i xs H Q q)
/-- tuple(x) -/
def rTupP : List V → Hp → VK → Prop := fun xs H Q => ∃ (a : Addr) (ys : List V), xs = [.ref a] ∧ SeqAt H a ys ∧ ∀ q H', Same H H' → H' q = some (.tup ys) → Q (.ref q) H'
theorem call_tupP {X : Cx} : CallR X (.type "tuple") rTupP := CallR.imp call_tuple_of fun xs H Q ⟨a, ys, e, h, q⟩ => by
  rcases h with h | h
  · exact ⟨a, ys, e, .inl ⟨SqL.of h, fun l hl => q l _ (Same.lay hl) upd_same⟩⟩
  · exact ⟨a, ys, e, .inr ⟨SqT.of h, q a H (Same.refl H) h⟩⟩
/-! rules -/
theorem ne1 : ¬ (("moduli" : Str) = "ahead") := by decide +kernel
theorem ne2 : ¬ (("moduli" : Str) = "turn") := by decide +kernel
theorem ne3 : ¬ (("ahead" : Str) = "turn") := by decide +kernel
def flds (m a t : V) : List (Str × V) := putF "turn" t (putF "ahead" a (putF "moduli" m []))
theorem flds_m (m a t : V) : (flds m a t).lookup ("moduli" : Str) = some m := by
  unfold flds
  rw [lookup_putF, if_neg ne2, lookup_putF, if_neg ne1, lookup_putF, if_pos rfl]
theorem flds_a (m a t : V) : (flds m a t).lookup ("ahead" : Str) = some a := by
  unfold flds
  rw [lookup_putF, if_neg ne3, lookup_putF, if_pos rfl]
theorem flds_t (m a t : V) : (flds m a t).lookup ("turn" : Str) = some t := by
  unfold flds
  rw [lookup_putF, if_pos rfl]
theorem flds_no {m a t : V} {x : Str} (h1 : ¬ x = "turn") (h2 : ¬ x = "ahead") (h3 : ¬ x = "moduli") : (flds m a t).lookup x = none := by
  unfold flds
  rw [lookup_putF, if_neg h1, lookup_putF, if_neg h2, lookup_putF, if_neg h3]
  rfl
/-- a Rule stands at p: its moduli, the weights ahead and in the round -/
def RuleAt (C : Addr) (H : Hp) (p : Addr) (ms : List V) (as ts : List Int) : Prop := ∃ (dx pm pa pt : Addr), H p = some (.ins C dx (flds (.ref pm) (.ref pa) (.ref pt))) ∧ H pm = some (.tup ms) ∧ H pa = some (.tup (as.map V.int)) ∧ H pt = some (.tup (ts.map V.int))
theorem RuleAt.same {C : Addr} {H H' : Hp} {p : Addr} {ms : List V} {as ts : List Int} (s : Same H H') (h : RuleAt C H p ms as ts) : RuleAt C H' p ms as ts :=
  let ⟨dx, pm, pa, pt, h1, h2, h3, h4⟩ := h
  ⟨dx, pm, pa, pt, s _ _ h1, s _ _ h2, s _ _ h3, s _ _ h4⟩
/-- what the top has written of the class -/
structure TRule (K : PySem.W.Frag) (mg : Str → Option Value) (C pc pb gc gb : Addr) : Prop where
  cl : Cls K C
  nM : NoAttr K C "moduli"
  nA : NoAttr K C "ahead"
  nT : NoAttr K C "turn"
  gC : mg "Rule" = some (.ref C)
  pC : PropOf K C "classes" pc gc
  pB : PropOf K C "banks" pb gb
def spClasses (C : Addr) : Sp := fun vs H Q _ => ∃ (p : Addr) (ms : List V) (as ts : List Int), vs = [.ref p] ∧ RuleAt C H p ms as ts ∧ Q (.int ((as.length : Int) + (ts.length : Int))) H
def spBanks (C : Addr) : Sp := fun vs H Q _ => ∃ (p : Addr) (ms : List V) (as ts : List Int), vs = [.ref p] ∧ RuleAt C H p ms as ts ∧ ms.all (withinV 2 32) = true ∧ Q (.int (prodV ms)) H
section
variable {P : Program} {w : World} {K : PySem.W.Frag} {mg : Str → Option Value} {base : Heap} {CR CN CT uR uN uT : Addr} {fdR fdN fdT : FuncData} {C pc pb gc gb : Addr}
theorem sc_BadRule : FnScope ["self", "part"] ["self", "part"] (defScope s_BadRule) := ⟨rfl, rfl, rfl, by decide +kernel, rfl, by decide +kernel, by decide +kernel⟩
theorem ok_BadRule (T : TErr K mg CR CN CT uR uN uT fdR fdN fdT) : FnOk P w K mg base CX0 1 uR fdR ["self", "part"] (spX CR 1 (fs1 "part")) := by
  refine T.fBadRule.ok sc_BadRule (fun vs H Q E h => ?_) (fun cdv A outer s H vs Q E hr h => ?_)
  · obtain ⟨a, ys, rfl, hl, _⟩ := h
    show ys.length + 1 = 2
    omega
  · obtain ⟨a, ys, rfl, hl, ha, k⟩ := h
    obtain ⟨y, rfl⟩ : ∃ y, ys = [y] := by
      match ys, hl with
      | [y], _ => exact ⟨y, rfl⟩
    refine ⟨_, (pss_one (ps_ost (pv 0) (pv 1))), ?_⟩
    refine ⟨_, rfl, _, rfl, a, CR, rfl, T.iBadRule.cls.oex, T.nBadRule, .inl ⟨ha, fun dx hd nd => ?_⟩⟩
    exact k dx _ hd nd upd_same (by rw [upd_ne nd]; exact upd_same) fun b h1 h2 => by rw [upd_ne h1, upd_ne h2]
theorem sc_BadNumber : FnScope ["self", "value"] ["self", "value"] (defScope s_BadNumber) := ⟨rfl, rfl, rfl, by decide +kernel, rfl, by decide +kernel, by decide +kernel⟩
theorem ok_BadNumber (T : TErr K mg CR CN CT uR uN uT fdR fdN fdT) : FnOk P w K mg base CX0 1 uN fdN ["self", "value"] (spX CN 1 (fs1 "value")) := by
  refine T.fBadNumber.ok sc_BadNumber (fun vs H Q E h => ?_) (fun cdv A outer s H vs Q E hr h => ?_)
  · obtain ⟨a, ys, rfl, hl, _⟩ := h
    show ys.length + 1 = 2
    omega
  · obtain ⟨a, ys, rfl, hl, ha, k⟩ := h
    obtain ⟨y, rfl⟩ : ∃ y, ys = [y] := by
      match ys, hl with
      | [y], _ => exact ⟨y, rfl⟩
    refine ⟨_, (pss_one (ps_ost (pv 0) (pv 1))), ?_⟩
    refine ⟨_, rfl, _, rfl, a, CN, rfl, T.iBadNumber.cls.oex, T.nBadNumber, .inl ⟨ha, fun dx hd nd => ?_⟩⟩
    exact k dx _ hd nd upd_same (by rw [upd_ne nd]; exact upd_same) fun b h1 h2 => by rw [upd_ne h1, upd_ne h2]
theorem sc_TooMany : FnScope ["self", "what", "most"] ["self", "what", "most"] (defScope s_TooMany) := ⟨rfl, rfl, rfl, by decide +kernel, rfl, by decide +kernel, by decide +kernel⟩
theorem ok_TooMany (T : TErr K mg CR CN CT uR uN uT fdR fdN fdT) : FnOk P w K mg base CX0 1 uT fdT ["self", "what", "most"] (spX CT 2 (fs2 "what" "most")) := by
  refine T.fTooMany.ok sc_TooMany (fun vs H Q E h => ?_) (fun cdv A outer s H vs Q E hr h => ?_)
  · obtain ⟨a, ys, rfl, hl, _⟩ := h
    show ys.length + 1 = 3
    omega
  · obtain ⟨a, ys, rfl, hl, ha, k⟩ := h
    obtain ⟨y, z, rfl⟩ : ∃ y z, ys = [y, z] := by
      match ys, hl with
      | [y, z], _ => exact ⟨y, z, rfl⟩
    refine ⟨_, (pss_cons (ps_ost (pv 0) (pv 1)) (pss_one (ps_ost (pv 0) (pv 2)))), ?_⟩
    refine ⟨_, rfl, _, rfl, a, CT, rfl, T.iTooMany.cls.oex, T.nWhat, .inl ⟨ha, fun dx hd nd => ?_⟩⟩
    refine ⟨_, rfl, _, rfl, a, CT, rfl, T.iTooMany.cls.oex, T.nMost, .inr ⟨dx, _, upd_same, (by rw [upd_ne nd]; exact upd_same), (by show 1 ≤ 900; decide), ?_⟩⟩
    exact k dx _ hd nd (by rw [upd_ne nd.symm]; exact upd_same) upd_same fun b h1 h2 => by rw [upd_ne h2, upd_ne h1, upd_ne h2]
theorem sc_Rule_classes : FnScope ["self"] ["self"] (defScope s_Rule_classes) := ⟨rfl, rfl, rfl, by decide +kernel, rfl, by decide +kernel, by decide +kernel⟩
theorem ok_Rule_classes {f : Addr} {fd : FuncData} (F : Fun K "classes" "Rule.classes" s_Rule_classes f fd) (T : TR mg) (TU : TRule K mg C pc pb gc gb) : FnOk P w K mg base CX0 1 f fd ["self"] (spClasses C) := by
  refine F.ok sc_Rule_classes (fun vs H Q E h => ?_) (fun cdv A outer s H vs Q E hr h => ?_)
  · obtain ⟨p, ms, as, ts, rfl, _⟩ := h
    rfl
  · obtain ⟨p, ms, as, ts, rfl, ⟨dx, pm, pa, pt, h1, h2, h3, h4⟩, k⟩ := h
    refine ⟨_, (pss_one (ps_ret (pe_op op_add (pe_callB call_len_seq (by rfl) T.m_len (by decide +kernel) (pa_cons (pe_fld (pv 0) rfl) pa_nil)) (pe_callB call_len_seq (by rfl) T.m_len (by decide +kernel) (pa_cons (pe_fld (pv 0) rfl) pa_nil))))), ?_⟩
    refine ⟨_, rfl, p, C, dx, _, _, rfl, h1, TU.cl, TU.nA, flds_a _ _ _, pa, _, rfl, .inr (SqT.of h3), _, rfl, p, C, dx, _, _, rfl, h1, TU.cl, TU.nT, flds_t _ _ _, pt, _, rfl, .inr (SqT.of h4), _, _, rfl, rfl, ?_⟩
    show Q (.int (((as.map V.int).length : Int) + ((ts.map V.int).length : Int))) H
    rw [List.length_map, List.length_map]
    exact k
theorem sc_Rule_banks : FnScope ["self"] ["self"] (defScope s_Rule_banks) := ⟨rfl, rfl, rfl, by decide +kernel, rfl, by decide +kernel, by decide +kernel⟩
theorem ok_Rule_banks {f fB : Addr} {fd fdB : FuncData} (F : Fun K "banks" "Rule.banks" s_Rule_banks f fd) (T : TR mg) (TU : TRule K mg C pc pb gc gb) (FB : Fun K "banks_by" "banks_by" s_banks_by fB fdB) (gB : mg "banks_by" = some (.ref fB)) (bB : Binds K fdB ["moduli"] []) :
    FnOk P w K mg base CX0 2 f fd ["self"] (spBanks C) := by
  have GB : FnOk P w K mg base CX0 1 fB fdB ["moduli"] (spBanksBy K) := ok_banks_by FB
  have kB := FB.kp
  refine F.ok sc_Rule_banks (fun vs H Q E h => ?_) (fun cdv A outer s H vs Q E hrB h => ?_)
  · obtain ⟨p, ms, as, ts, rfl, _⟩ := h
    rfl
  · obtain ⟨p, ms, as, ts, rfl, ⟨dx, pm, pa, pt, h1, h2, h3, h4⟩, hw, k⟩ := h
    refine ⟨_, (pss_one (ps_ret (pe_call GB hrB rfl gB kB bB .nil pass0 (pa_cons (pe_fld (pv 0) rfl) pa_nil)))), ?_⟩
    exact ⟨_, rfl, p, C, dx, _, _, rfl, h1, TU.cl, TU.nM, flds_m _ _ _, pm, ms, rfl, .inr h2, hw, k⟩
end
end Toy
set_option maxRecDepth 100000
namespace Toy
open PySem L2
/-! Rule.__init__ -/
/-- which part is refused -/
def ruleErr (om oa ot : Option (List V)) : Option Str :=
  if okMod om = false then some "moduli" else
  if okBanks (prodV (om.getD [])) oa = false then some "ahead" else
  if okBanks (prodV (om.getD [])) ot = false ∨ ot = some [] then some "turn" else none
def spInit (CR CT C : Addr) (K : PySem.W.Frag) : Sp := fun vs H Q E => ∃ (p dx : Addr) (m a t : V) (om oa ot : Option (List V)), vs = [.ref p, m, a, t] ∧ H p = some (.ins C dx []) ∧ Arg K H m om ∧ Arg K H a oa ∧ Arg K H t ot ∧
  (∀ ys, oa = some ys → ys.length ≤ 300) ∧ (∀ ys, ot = some ys → ys.length ≤ 300) ∧
  (∀ w, ruleErr om oa ot = some w → ∀ d H', H d = none → But p H H' → H' d = some (.xd [("part", .str w)]) → E (.ref CR) (some d) H') ∧
  (∀ ms ns ts, om = some ms → oa = some (ns.map V.int) → ot = some (ts.map V.int) → ruleErr om oa ot = none →
    (24 < (normW ns ts).1.length + (normW ns ts).2.length → ∀ d H', H d = none → But p H H' → H' d = some (.xd [("most", .int 24), ("what", .str "places")]) → E (.ref CT) (some d) H') ∧
    ((normW ns ts).1.length + (normW ns ts).2.length ≤ 24 → ∀ H', But p H H' → RuleAt C H' p ms (normW ns ts).1 (normW ns ts).2 → Q .non H'))
theorem all_ints {lo hi : Int} : ∀ {xs : List V}, xs.all (withinV lo hi) = true → ∃ ns : List Int, xs = ns.map V.int
  | [], _ => ⟨[], rfl⟩
  | x :: r, h => by
    have h2 : (withinV lo hi x && r.all (withinV lo hi)) = true := h
    obtain ⟨i, rfl, _⟩ := within_int (Bool.and_eq_true_iff.mp h2).1
    obtain ⟨ns, rfl⟩ := all_ints (Bool.and_eq_true_iff.mp h2).2
    exact ⟨i :: ns, rfl⟩
theorem but_same {p : Addr} {H H' : Hp} (h : But p H H') {b : Addr} {o : HO} (e : H b = some o) (n : b ≠ p) : H' b = some o := h b o n e
theorem seq_but {p : Addr} {H H' : Hp} {a : Addr} {xs : List V} (h : SeqAt H a xs) (k : But p H H') (n : a ≠ p) : SeqAt H' a xs := h.elim (fun z => .inl (k a _ n z)) fun z => .inr (k a _ n z)
theorem seq_ne {p : Addr} {H : Hp} {a C dx : Addr} {xs : List V} {fs : List (Str × V)} (h : SeqAt H a xs) (hp : H p = some (.ins C dx fs)) : a ≠ p := fun z => by
  rcases h with h | h
  all_goals
    rw [z, hp] at h
    cases h
section
variable {P : Program} {w : World} {K : PySem.W.Frag} {mg : Str → Option Value} {base : Heap} {CR CN CT uR uN uT : Addr} {fdR fdN fdT : FuncData} {C pc pb gc gb : Addr}
theorem sc_Rule_init : FnScope ["self", "moduli", "ahead", "turn"] ["self", "moduli", "ahead", "turn"] (defScope s_Rule_init) := ⟨rfl, rfl, rfl, by decide +kernel, rfl, by decide +kernel, by decide +kernel⟩
theorem ok_Rule_init {f fI fW fB fM fK fS : Addr} {fd fdI fdW fdB fdM fdK fdS fdC : FuncData} (F : Fun K "__init__" "Rule.__init__" s_Rule_init f fd) (T : TR mg) (TE : TErr K mg CR CN CT uR uN uT fdR fdN fdT) (TU : TRule K mg C pc pb gc gb)
    (FI : Fun K "is_integer" "is_integer" s_is_integer fI fdI) (gI : mg "is_integer" = some (.ref fI)) (bI : Binds K fdI ["value"] [])
    (FW : Fun K "is_within" "is_within" s_is_within fW fdW) (gW : mg "is_within" = some (.ref fW)) (bW : Binds K fdW ["value", "least", "most"] [])
    (FB : Fun K "banks_by" "banks_by" s_banks_by fB fdB) (gB : mg "banks_by" = some (.ref fB)) (bB : Binds K fdB ["moduli"] [])
    (FM : Fun K "are_moduli" "are_moduli" s_are_moduli fM fdM) (gM : mg "are_moduli" = some (.ref fM)) (bM : Binds K fdM ["value"] [])
    (FK : Fun K "are_banks" "are_banks" s_are_banks fK fdK) (gK : mg "are_banks" = some (.ref fK)) (bK : Binds K fdK ["value", "banks"] [])
    (FS : Fun K "shortest_weights" "shortest_weights" s_shortest_weights fS fdS) (gS : mg "shortest_weights" = some (.ref fS)) (bS : Binds K fdS ["ahead", "turn"] [])
    (FC : Fun K "classes" "Rule.classes" s_Rule_classes gc fdC) (bC : Binds K fdC ["self"] []) :
    FnOk P w K mg base (L2.CX P w) 4 f fd ["self", "moduli", "ahead", "turn"] (spInit CR CT C K) := by
  have GB : FnOk P w K mg base CX0 1 fB fdB ["moduli"] (spBanksBy K) := ok_banks_by FB
  have GM : FnOk P w K mg base CX0 3 fM fdM ["value"] (spAreModuli K) := ok_are_moduli FM T FI gI bI FW gW bW FB gB bB
  have GK : FnOk P w K mg base CX0 3 fK fdK ["value", "banks"] (spAreBanks K) := ok_are_banks FK T FI gI bI FW gW bW
  have GS : FnOk P w K mg base CX0 1 fS fdS ["ahead", "turn"] spShort := ok_shortest_weights FS T
  have GC : FnOk P w K mg base CX0 1 gc fdC ["self"] (spClasses C) := ok_Rule_classes FC T TU
  have kB := FB.kp
  have kM := FM.kp
  have kK := FK.kp
  have kS := FS.kp
  refine F.okX sc_Rule_init (fun vs H Q E h => ?_) (fun cdv A outer s H vs Q E hrM h => ?_)
  · obtain ⟨p, dx, m, a, t, om, oa, ot, rfl, _⟩ := h
    rfl
  · obtain ⟨p, dx, m, a, t, om, oa, ot, rfl, hp, hm, ha, ht, la, lt, kE, kQ⟩ := h
    have hrB : Room 1 _ := hrM.mono (by decide)
    have hrE : Room 2 _ := hrM.mono (by decide)
    have hrC : Room 2 _ := hrM.mono (by decide)
    refine ⟨_, (pss_cons (ps_if (pt_not (pt_val (pe_call GM hrM rfl gM kM bM .nil pass0 (pa_cons (pv 1) pa_nil)))) (pss_one (ps_raise rfl (takes_of rfl rfl rfl rfl) (pmk_x TE.iBadRule (ok_BadRule TE) hrE TE.bBadRule (by decide) rfl TE.gBadRule (mono_c mono_nil) (pa_cons pe_str pa_nil)))) pss_nil)
 (pss_cons (ps_if (pt_not (pt_val (pe_call GK hrM rfl gK kK bK .nil pass0 (pa_cons (pv 2) (pa_cons (pe_call GB hrB rfl gB kB bB .nil pass0 (pa_cons (pv 1) pa_nil)) pa_nil))))) (pss_one (ps_raise rfl (takes_of rfl rfl rfl rfl) (pmk_x TE.iBadRule (ok_BadRule TE) hrE TE.bBadRule (by decide) rfl TE.gBadRule (mono_c mono_nil) (pa_cons pe_str pa_nil)))) pss_nil)
 (pss_cons (ps_if (PW.pt (pw_or (pt_not (pt_val (pe_call GK hrM rfl gK kK bK .nil pass0 (pa_cons (pv 3) (pa_cons (pe_call GB hrB rfl gB kB bB .nil pass0 (pa_cons (pv 1) pa_nil)) pa_nil))))) (pw_or1 (pt_cmpR op_eq (pe_callB call_len_seq (by rfl) T.m_len (by decide +kernel) (pa_cons (pv 3) pa_nil)) pe_int (nomark _))))) (pss_one (ps_raise rfl (takes_of rfl rfl rfl rfl) (pmk_x TE.iBadRule (ok_BadRule TE) hrE TE.bBadRule (by decide) rfl TE.gBadRule (mono_c mono_nil) (pa_cons pe_str pa_nil)))) pss_nil)
 (pss_cons (ps_fld (pv 0) (pe_callTy call_tupP (by rfl) T.m_tuple (by decide +kernel) (pa_cons (pv 1) pa_nil)) rfl)
 (pss_cons (ps_asg (pe_call GS hrB rfl gS kS bS .nil pass0 (pa_cons (pe_callTy call_tupP (by rfl) T.m_tuple (by decide +kernel) (pa_cons (pv 2) pa_nil)) (pa_cons (pe_callTy call_tupP (by rfl) T.m_tuple (by decide +kernel) (pa_cons (pv 3) pa_nil)) pa_nil))) (pg_tup rfl (pgs_cons (pg_fld (pv 0)) (pgs_cons (pg_fld (pv 0)) pgs_nil))))
 (pss_one (ps_if (pt_cmpR op_gt (pe_prop (pv 0) TU.cl TU.pC GC hrC bC .nil pass0 rfl) (pe_glob (v := .int 24) rfl T.g_MOST_PLACES.choose_spec ⟨_, rfl⟩) (nomark _)) (pss_one (ps_raise rfl (takes_of rfl rfl rfl rfl) (pmk_x TE.iTooMany (ok_TooMany TE) hrE TE.bTooMany (by decide) rfl TE.gTooMany (mono_c (mono_c mono_nil)) (pa_cons pe_str (pa_cons (pe_glob (v := .int 24) rfl T.g_MOST_PLACES.choose_spec ⟨_, rfl⟩) pa_nil))))) pss_nil))))))), ?_⟩
    refine ⟨_, rfl, m, om, rfl, hm, fun H1 s1 => ⟨_, rfl, ?_⟩⟩
    cases hM : okMod om with
    | false => exact iteT ⟨rfl, fun d H' hd s2 e => kE "moduli" (by simp [ruleErr, hM]) d H' (s1.free hd) ((But.of s1).trans (But.of s2)) e⟩
    | true =>
      refine iteF ?_
      cases hm with
      | other _ _ => cases hM
      | @seq am ms em pm lm =>
        have wm : ms.all (withinV 2 32) = true := by
          have z : (decide (1 ≤ ms.length ∧ ms.length ≤ 5) && (ms.all (withinV 2 32) && decide (prodV ms ≤ 32))) = true := hM
          exact (Bool.and_eq_true_iff.mp (Bool.and_eq_true_iff.mp z).2).1
        refine ⟨_, rfl, _, rfl, am, ms, rfl, em.same s1, wm, a, prodV ms, oa, rfl, ha.same s1, fun H2 s2 => ⟨_, rfl, ?_⟩⟩
        have s12 : Same H H2 := fun _ _ z => s2 _ _ (s1 _ _ z)
        cases hA : okBanks (prodV ms) oa with
        | false => exact iteT ⟨rfl, fun d H' hd s3 e => kE "ahead" (by simp [ruleErr, hM, hA]) d H' (s12.free hd) ((But.of s12).trans (But.of s3)) e⟩
        | true =>
          refine iteF ?_
          refine ⟨_, rfl, _, rfl, am, ms, rfl, em.same s12, wm, t, prodV ms, ot, rfl, ht.same s12, fun H3 s3 => ⟨_, rfl, ?_⟩⟩
          have s13 : Same H H3 := fun _ _ z => s3 _ _ (s12 _ _ z)
          have badT : (okBanks (prodV ms) ot = false ∨ ot = some []) → ∀ d H', H3 d = none → Same H3 H' → H' d = some (.xd [("part", .str "turn")]) → E (.ref CR) (some d) H' := by
            intro z d H' hd s4 e
            refine kE "turn" ?_ d H' (s13.free hd) ((But.of s13).trans (But.of s4)) e
            unfold ruleErr
            rw [if_neg (by rw [hM]; exact Bool.noConfusion), if_neg (by show ¬ okBanks (prodV ms) oa = false; rw [hA]; exact Bool.noConfusion)]
            exact if_pos z
          cases hT : okBanks (prodV ms) ot with
          | false => exact iteT (iteT ⟨rfl, fun d H' hd s4 e => badT (.inl hT) d H' hd s4 e⟩)
          | true =>
            refine iteF ?_
            cases ht with
            | other _ _ => cases hT
            | @seq at_ xt et pt_ lt' =>
              cases ha with
              | other _ _ => cases hA
              | @seq aa xa ea pa_ la' =>
                obtain ⟨ts, rfl⟩ := all_ints (show xt.all (withinV 0 (prodV ms - 1)) = true from hT)
                obtain ⟨ns, rfl⟩ := all_ints (show xa.all (withinV 0 (prodV ms - 1)) = true from hA)
                refine ⟨_, rfl, at_, _, rfl, (et.same s13).elim (fun z => .inl (SqL.of z)) (fun z => .inr (SqT.of z)), rfl, _, rfl, ?_⟩
                refine ite2 (fun c => ?_) (fun c => ?_)
                · have z : ts = [] := by
                    cases ts with
                    | nil => rfl
                    | cons y r =>
                      exfalso
                      have z := V.int.inj (of_decide_eq_true c)
                      simp at z
                      omega
                  exact ⟨rfl, fun d H' hd s4 e => badT (.inr (by rw [z]; rfl)) d H' hd s4 e⟩
                · have tne : ts ≠ [] := fun z => c (decide_eq_true (by rw [z]; rfl))
                  have lns : ns.length ≤ 300 := by
                    have z := la _ rfl
                    rw [List.length_map] at z
                    exact z
                  have lts : ts.length ≤ 300 := by
                    have z := lt _ rfl
                    rw [List.length_map] at z
                    exact z
                  have none_ : ruleErr (some ms) (some (ns.map V.int)) (some (ts.map V.int)) = none := by
                    unfold ruleErr
                    rw [if_neg (by rw [hM]; exact Bool.noConfusion), if_neg (by show ¬ okBanks (prodV ms) _ = false; rw [hA]; exact Bool.noConfusion)]
                    refine if_neg ?_
                    rintro (z | z)
                    · rw [show okBanks (prodV ((some ms).getD [])) (some (ts.map V.int)) = true from hT] at z
                      cases z
                    · exact tne (List.map_eq_nil_iff.mp (Option.some.inj z))
                  obtain ⟨k1, k2⟩ := kQ ms ns ts rfl rfl rfl none_
                  have hp3 : H3 p = some (.ins C dx []) := s13 _ _ hp
                  refine ⟨_, rfl, am, ms, rfl, em.same s13, fun q1 H4 s4 h4 => ⟨_, rfl, p, C, dx, [], rfl, s4 _ _ hp3, TU.cl, TU.nM, (by show 0 < 1000; decide), ?_⟩⟩
                  have b5 : But p H (upd H4 p (.ins C dx (putF "moduli" (.ref q1) []))) := ((But.of s13).trans (But.of s4)).put
                  have n1 : q1 ≠ p := fun z => by
                    rw [z, s4 _ _ hp3] at h4
                    cases h4
                  refine ⟨_, rfl, aa, _, rfl, seq_but ea b5 (seq_ne ea hp), fun q2 H6 s6 h6 => ⟨_, rfl, at_, _, rfl, (seq_but et b5 (seq_ne et hp)).same s6, fun q3 H7 s7 h7 => ?_⟩⟩
                  refine ⟨q2, q3, ns, ts, rfl, s7 _ _ h6, h7, tne, lns, lts, fun H8 r x y s8 h8 hx hy => ?_⟩
                  have s58 : Same (upd H4 p (.ins C dx (putF "moduli" (.ref q1) []))) H8 := fun _ _ z => s8 _ _ (s7 _ _ (s6 _ _ z))
                  have hp8 : H8 p = some (.ins C dx (putF "moduli" (.ref q1) [])) := s58 _ _ upd_same
                  have hq8 : H8 q1 = some (.tup ms) := s58 _ _ (by rw [upd_ne n1]; exact h4)
                  have nx : x ≠ p := fun z => by
                    rw [z, hp8] at hx
                    cases hx
                  have ny : y ≠ p := fun z => by
                    rw [z, hp8] at hy
                    cases hy
                  refine ⟨r, _, rfl, SqT.of h8, rfl, _, _, rfl, _, rfl, p, C, dx, _, rfl, hp8, TU.cl, TU.nA, (by show 1 < 1000; decide), _, _, rfl, _, rfl, p, C, dx, _, rfl, upd_same, TU.cl, TU.nT, (by show 2 < 1000; decide), rfl, ?_⟩
                  rw [upd_upd]
                  have RA : RuleAt C (upd H8 p (.ins C dx (flds (.ref q1) (.ref x) (.ref y)))) p ms (normW ns ts).1 (normW ns ts).2 :=
                    ⟨dx, q1, x, y, upd_same, by rw [upd_ne n1]; exact hq8, by rw [upd_ne nx]; exact hx, by rw [upd_ne ny]; exact hy⟩
                  have b9 : But p H (upd H8 p (.ins C dx (flds (.ref q1) (.ref x) (.ref y)))) := (b5.trans (But.of s58)).put
                  refine ⟨_, rfl, p, dx, _, rfl, upd_same, p, ms, _, _, rfl, RA, _, _, rfl, rfl, _, rfl, ?_⟩
                  refine ite2 (fun c5 => ?_) (fun c5 => ?_)
                  · have c6 : ((normW ns ts).1.length : Int) + ((normW ns ts).2.length : Int) > 24 := of_decide_eq_true c5
                    refine ⟨rfl, fun d H' hd s9 e => k1 (by omega) d H' (b9.free hd fun z => ?_) (b9.trans (But.of s9)) e⟩
                    rw [z, upd_same] at hd
                    cases hd
                  · have c6 : ¬ ((normW ns ts).1.length : Int) + ((normW ns ts).2.length : Int) > 24 := fun z => c5 (decide_eq_true z)
                    exact k2 (by omega) _ b9 RA
end
end Toy
set_option maxRecDepth 100000
namespace L2
open PySem PySem.Spec PyProof.Rows
section
variable {X : Cx} {CX : CXT} {k : Nat} {f C : Addr} {fd : FuncData} {ps ks : List Str} {sp : Sp} {E : XK} {m : Str} {apos pos : Pos} {o : Expr} {kws : List Keyword} {ta : TE} {tk : TA} {g : List Value → List Value → List Value} {gV : List V → List V → List V}
/-- o.m(k = v, ..) -/
def tMethK0 (C : Addr) (m : Str) (n : Nat) (sp : Sp) (gV : List V → List V → List V) (E : XK) (ta : TE) (tk : TA) : TE := fun σ H Q => ta σ H fun x H1 => ∃ a dx fs, x = .ref a ∧ H1 a = some (.ins C dx fs) ∧ fs.lookup m = none ∧ tk σ H1 fun zs H2 => zs.length = n ∧ sp (gV [x] zs) H2 Q E
theorem pe_methK0 {pl : Sem Bool} (he : PE X o ta) (c : Cls X.K C) (hm : Meth X.K C m f) (F : FnOk X.prog X.w X.K X.mg X.base CX k f fd ps sp) (hr : Room k X.A) (hb : KBn X.K fd ps 1 ks g gV) (hx : Passes CX X E) (hkw : PK X kws tk)
    (hall : (backToKw pos (keywordEach kws X.env)).all (·.1.isSome) = true := by rfl) (hks : (backToKw pos (keywordEach kws X.env)).filterMap (·.1) = ks := by rfl)
    (hpl : ((backTo pos (starEach [] X.env)).any (·.1) || (backToKw pos (keywordEach kws X.env)).any (·.1.isNone)) = false := by rfl)
    (ht : eval (.Call (.Attribute o m apos) [] kws pos) X.env = (do
      let ov ← eval o X.env
      standAt apos.atName
      let (f, first) ← holding [ov] (getMethod ov m pl)
      callWith pos f first (backTo pos (starEach [] X.env)) (backToKw pos (keywordEach kws X.env))) := by rfl) :
    PE X (.Call (.Attribute o m apos) [] kws pos) (tMethK0 C m ks.length sp gV E ta tk) := by
  constructor
  intro pins s σ H Q I h
  refine PySem.W.methodCall_KW (pl := pl) (thn (he.run pins s σ H _ I h) ?_) ht
  rintro u s1 ⟨x, H1, J, rx, a, dx, fs, rfl, ea, l, q⟩
  obtain rfl : u = Value.ref a := rx
  refine getmeth_ok J ea c hm l (PySem.W.callWith_KW0 (first := [.ref a]) (h₀ := X.base) J.ok.mod.kin hm.kp hall (thn (hkw.run pos pins s1 σ H1 _ J q) ?_) hpl)
  rintro ws s2 ⟨zs, H2, J2, rz, l2, q2⟩
  rw [hks]
  exact ⟨J2.kIn, run_fnN (n := 1) (us := [.ref a]) (vs := [.ref a]) F hr hb hx J2 (.cons rfl .nil) rz rfl l2 q2⟩
end
end L2
set_option maxRecDepth 100000
namespace L2
open PySem PySem.Spec PyProof.Rows
/-! == and != of instances with the text's own __eq__ -/
section
variable {M : Model} {prog : Program} {w : World} {A : Around} {E : Value → Shared → Prop} {s : Shared} {K : PySem.W.Frag} {x C f : Addr} {ox : Obj} {od : Option Obj}
theorem ifBound_objNe {args : List Value} {Q : Option Value → Shared → Prop} (X : K.In s.heap) (I : PySem.W.InstAt s.heap x ox C od) (hs : PySem.W.findIn K (.ref C) "__ne__" = some (some (.builtin "object.__ne__")))
    (h : wpAny M A (call (.builtin "object.__ne__") (.ref x :: args)) (fun v => Q (some v)) E s) : wpAny M A (callSpecialIfBound? (.ref x) "__ne__" args) Q E s := by
  simp only [callSpecialIfBound?, bindSpecialIfBound?]
  refine wpAny_holding (wpAny_bind (wpAny_bind (wpAny_bind (I.type.here ((PySem.W.looks_findIn X hs).here ?_)))))
  refine wpAny_bind (wpAny_askSetting (wpAny_ite ?_))
  have fin : wpAny M A (call (.builtin "object.__ne__") ([.ref x] ++ args) >>= fun v => pure (some v)) Q E s := wpAny_bind (wpAny_mono h (fun v s' h' => wpAny_pure h') fun _ _ h' => h')
  split
  · exact wpAny_bind (wpAny_of_eq (PySem.F.cmp_object.ne.bind _) (wpAny_pure (by exact fin)))
  · exact wpAny_tryCatch (wpAny_bind (wpAny_of_eq (PySem.F.cmp_object.ne.bind _) (wpAny_pure (by exact fin))))
/-- how a call ends that hands back a bool -/
def BoolOut (Q : Bool → Shared → Prop) (E : Value → Shared → Prop) : Result → Shared → Prop := fun r s' => match r with
  | .ok (.ret v) => ∃ z : Bool, v = .bool z ∧ Q z s'
  | .ok _ => False
  | .error e => E e s'
theorem entry_ne {b : Value} {Q : Fin → Shared → Prop} (hu : A.units < cLine) (X : K.In s.heap) (I : PySem.W.InstAt s.heap x ox C od) (hs : PySem.W.findIn K (.ref C) "__eq__" = some (some (.ref f))) (hf : PySem.W.isFn K (.ref f) = true)
    (h : codeAny M A (.call (.ref f) ⟨[.ref x, b], []⟩) (BoolOut (fun r s' => Q (.done (.ret (.bool (!r)))) s') E) s) : wpAny M A (Builtin.«object.__ne__» ⟨[.ref x, b], []⟩) Q E s := by
  unfold Builtin.«object.__ne__»
  repeat (first | with_reducible refine wpAny_cRoomFor hu ?_ | with_reducible refine PySem.W.ifBound_K X I hs hf ?_ | wp_step)
  refine codeAny_mono h fun r s' hr => ?_
  cases r with
  | error e => exact hr
  | ok fl =>
    cases fl with
    | ret v =>
      obtain ⟨z, rfl, q⟩ := hr
      show wpAny M A (do let r ← truthy (.bool z); ret (.bool (!r))) Q E s'
      repeat (first | with_reducible refine wpAny_truthy_bool ?_ | wp_step)
      exact q
    | next => exact hr.elim
    | brk => exact hr.elim
    | cont => exact hr.elim
theorem call_ne {b : Value} {Q : Value → Shared → Prop} (hu : A.in1.units < cLine) (X : K.In s.heap) (I : PySem.W.InstAt s.heap x ox C od) (hm : PySem.W.mroIn K C (.type "object") = some true) (hs : PySem.W.findIn K (.ref C) "__eq__" = some (some (.ref f))) (hf : PySem.W.isFn K (.ref f) = true)
    (h : codeAny (model prog w) A.in1 (.call (.ref f) ⟨[.ref x, b], []⟩) (BoolOut (fun r s' => Q (.bool (!r)) s') E) s) : wpAny (model prog w) A (call (.builtin "object.__ne__") [.ref x, b]) Q E s :=
  wpAny_call (codeAny_call_builtin PySem.F.cmp_object.ne.plain PySem.F.cmpEntry_ne (PySem.W.check_slot PySem.F.cmpKind_ne PySem.F.cmpSplit_ne (I.type.andThen (PySem.W.looks_mroIn X hm)) (PySem.F.cmpArgs_ne _ _) (entry_ne hu X I hs hf h)))
theorem ne_K {b tb : Value} {Q : Value → Shared → Prop} (hu : A.units + 1 < cLine) (X : K.In s.heap) (I : PySem.W.InstAt s.heap x ox C od) (hb : PySem.W.Looks (model prog w) s.heap (typeOf b) tb) (hn : PySem.W.notFirst K C tb = true)
    (hm : PySem.W.mroIn K C (.type "object") = some true) (hne : PySem.W.findIn K (.ref C) "__ne__" = some (some (.builtin "object.__ne__"))) (hs : PySem.W.findIn K (.ref C) "__eq__" = some (some (.ref f))) (hf : PySem.W.isFn K (.ref f) = true)
    (h : codeAny (model prog w) A.in1 (.call (.ref f) ⟨[.ref x, b], []⟩) (BoolOut (fun r s' => Q (.bool (!r)) s') E) s) : wpAny (model prog w) A (richCompare .NotEq (.ref x) b) Q E s := by
  have one : wpAny (model prog w) A (tryCompare (.ref x) (cmpInfo .NotEq).2.1 b) (fun r s' => ∃ v : Bool, r = some (.bool v) ∧ Q (.bool v) s') E s := by
    unfold tryCompare
    refine wpAny_bind (ifBound_objNe X I hne (call_ne (by show A.units + 1 < cLine; exact hu) X I hm hs hf (codeAny_mono h fun r s' hr => ?_)))
    cases r with
    | error e => exact hr
    | ok fl =>
      cases fl with
      | ret v =>
        obtain ⟨z, rfl, q⟩ := hr
        exact ⟨z, rfl, wpAny_pure ⟨_, rfl, q⟩⟩
      | next => exact hr.elim
      | brk => exact hr.elim
      | cont => exact hr.elim
  unfold richCompare
  simp only [oneThing_ref]
  refine wpAny_holding (wpAny_bind (wpAny_cRoomFor (Nat.lt_of_succ_lt hu) ?_))
  refine wpAny_bind (I.type.here (wpAny_bind (hb.here ?_)))
  split
  · rename_i q
    have e : PySem.W.subIn K tb (.ref C) = some false := by
      rcases Bool.or_eq_true_iff.mp hn with e | e
      · rw [beq_iff_eq.mp e] at q; simp at q
      · exact beq_iff_eq.mp e
    refine wpAny_bind ((PySem.W.looks_subIn X e).here ?_)
    simp only [Bool.false_eq_true, if_false]
    refine wpAny_bind (wpAny_mono one (fun r s' z => ?_) fun _ _ e => e)
    obtain ⟨v, rfl, hq⟩ := z
    exact wpAny_pure hq
  · refine wpAny_bind (wpAny_pure ?_)
    simp only [Bool.false_eq_true, if_false]
    refine wpAny_bind (wpAny_mono one (fun r s' z => ?_) fun _ _ e => e)
    obtain ⟨v, rfl, hq⟩ := z
    exact wpAny_pure hq
end
/-- the class has its own == and object's != -/
structure OwnCmp (K : PySem.W.Frag) (C f : Addr) : Prop where
  eq : PySem.W.findIn K (.ref C) "__eq__" = some (some (.ref f))
  fn : PySem.W.isFn K (.ref f) = true
  ne : PySem.W.findIn K (.ref C) "__ne__" = some (some (.builtin "object.__ne__"))
  ob : PySem.W.mroIn K C (.type "object") = some true
/-- what the second thing may be: an instance of C, a tuple -/
inductive Snd (C : Addr) (H : Hp) : V → Prop where
  | ins {b dx : Addr} {fs : List (Str × V)} (h : H b = some (.ins C dx fs)) : Snd C H (.ref b)
  | tup {b : Addr} {xs : List V} (h : H b = some (.tup xs)) : Snd C H (.ref b)
def rOwn (C : Addr) (sp : Sp) (E : XK) (neg : Bool) : R2 := fun x y H Q => ∃ (a dx : Addr) (fs : List (Str × V)), x = .ref a ∧ H a = some (.ins C dx fs) ∧ Snd C H y ∧ sp [x, y] H (fun v H' => ∃ b : Bool, v = .bl b ∧ Q (.bl (if neg then !b else b)) H') E
section
variable {X : Cx} {CX : CXT} {n : Nat} {C f : Addr} {fd : FuncData} {ps : List Str} {sp : Sp} {E : XK}
theorem snd_looks {pins : List (Addr × Obj)} {σ : St} {H : Hp} {s : Shared} {y : V} {u : Value} (I : Inv X pins σ H s) (r : RelV y u) (h : Snd C H y) : ∃ t, (∀ M : Model, PySem.W.Looks M s.heap (typeOf u) t) ∧ PySem.W.notFirst X.K C t = true := by
  cases h with
  | ins h =>
    cases r
    obtain ⟨mA, J, _⟩ := ins_get I.hok h
    obtain ⟨od, J, _⟩ := J.look
    exact ⟨_, fun M => J.type, by simp [PySem.W.notFirst]⟩
  | @tup b xs h =>
    cases r
    obtain ⟨its, rr, e, z⟩ := I.tuple (SqT.of h)
    obtain ⟨o, e2, ec, _⟩ := e
    refine ⟨.type "tuple", fun M => by rw [← ec]; exact (PySem.W.Looks.ld e2).andThen .now, ?_⟩
    have q : fastBuiltinMro "tuple" = some [.type "tuple", .type "object"] := by decide +kernel
    have q2 : PySem.W.subIn X.K (.type "tuple") (.ref C) = some false := by
      show (fastBuiltinMro "tuple").map (·.contains (.ref C)) = some false
      rw [q]
      first | rfl | simp
    unfold PySem.W.notFirst
    rw [q2]
    simp
theorem own_code {A : Around} {pins : List (Addr × Obj)} {σ : St} {H : Hp} {s : Shared} {a : Addr} {y : V} {u : Value} {Q : VK} (F : FnOk X.prog X.w X.K X.mg X.base CX n f fd ps sp) (hb : Binds X.K fd ps []) (hr : Room n A) (fr : A.frames = X.A.frames) (hx : Passes CX X E) (I : Inv X pins σ H s) (r : RelV y u)
    (h : sp [.ref a, y] H Q E) : codeAny (model X.prog X.w) A (.call (.ref f) ⟨[.ref a, u], []⟩) (fun r s' => match r with
      | .ok (.ret v) => EP X pins σ Q v s'
      | .ok _ => False
      | .error e => X.xe e s') s := by
  have e0 : Env0 X.prog X.w X.K X.mg X.base A X.stack s H := by
    have e := I.env0
    exact ⟨by rw [fr]; exact e.frames, e.mod, e.bs, e.bsz, e.funs, e.frf, e.hok, e.bare⟩
  have hl := F.len _ _ _ _ h
  have r2 : Vals [V.ref a, y] [Value.ref a, u] := .cons rfl (.cons r .nil)
  refine codeAny_mono (F.run A X.stack s H ⟨[.ref a, u], []⟩ [.ref a, u] [.ref a, y] _ E hr e0 (by
    have := hb s [.ref a, u] I.kIn (by simpa using hl)
    simpa using this) r2 h) fun r s' hq => ?_
  cases r with
  | error e => exact hx pins σ H s e s' I hq
  | ok fl =>
    cases fl with
    | ret w => exact I.after hq
    | next => exact False.elim hq
    | brk => exact False.elim hq
    | cont => exact False.elim hq
theorem op_eqOwn (F : FnOk X.prog X.w X.K X.mg X.base CX n f fd ps sp) (k : OwnCmp X.K C f) (hb : Binds X.K fd ps []) (hr : Room n X.A) (hx : Passes CX X E) : OpR X (compareOp .Eq) (rOwn C sp E false) := by
  intro pins s σ H x y v u Q I rx ry hq
  obtain ⟨a, dx, fs, rfl, ha, hy, hsp⟩ := hq
  cases rx
  obtain ⟨mA, J, _⟩ := ins_get I.hok ha
  obtain ⟨od, J, _⟩ := J.look
  obtain ⟨t, ht, hn⟩ := snd_looks I ry hy
  obtain ⟨m, hF⟩ := I.fr
  show wpAny (model X.prog X.w) X.A (richCompare .Eq (.ref a) u) (EP X pins σ Q) X.xe s
  refine PySem.W.cmp_K (op := .Eq) (tb := t) hr.units0 hF I.ok.mod.kin J (ht _) hn k.eq k.fn ?_
  refine wpAny_call (codeAny_mono (own_code F hb hr rfl hx I ry hsp) fun r s' z => ?_)
  cases r with
  | error e => exact z
  | ok fl =>
    cases fl with
    | ret w =>
      obtain ⟨v, H', I', rz, b, rfl, q⟩ := z
      obtain rfl : w = Value.bool b := rz
      exact ⟨.bl b, H', I', rfl, q⟩
    | next => exact z.elim
    | brk => exact z.elim
    | cont => exact z.elim
theorem op_neOwn (F : FnOk X.prog X.w X.K X.mg X.base CX n f fd ps sp) (k : OwnCmp X.K C f) (hb : Binds X.K fd ps []) (hr : Room (n + 1) X.A) (hx : Passes CX X E) : OpR X (compareOp .NotEq) (rOwn C sp E true) := by
  intro pins s σ H x y v u Q I rx ry hq
  obtain ⟨a, dx, fs, rfl, ha, hy, hsp⟩ := hq
  cases rx
  obtain ⟨mA, J, _⟩ := ins_get I.hok ha
  obtain ⟨od, J, _⟩ := J.look
  obtain ⟨t, ht, hn⟩ := snd_looks I ry hy
  show wpAny (model X.prog X.w) X.A (richCompare .NotEq (.ref a) u) (EP X pins σ Q) X.xe s
  have hu := hr.units
  refine ne_K (tb := t) (by omega) I.kIn J (ht _) hn k.ob k.ne k.eq k.fn ?_
  refine codeAny_mono (own_code F hb hr.in1 rfl hx I ry hsp) fun r s' z => ?_
  cases r with
  | error e => exact z
  | ok fl =>
    cases fl with
    | ret w =>
      obtain ⟨v, H', I', rz, b, rfl, q⟩ := z
      obtain rfl : w = Value.bool b := rz
      exact ⟨b, rfl, .bl (!b), H', I', rfl, q⟩
    | next => exact z.elim
    | brk => exact z.elim
    | cont => exact z.elim
end
/-- .. as a Bool -/
def ownB (K : PySem.W.Frag) (C : Addr) : Bool := He.eqO (PySem.W.findIn K (.ref C) "__eq__") (some (some (.ref (He.ma K C "__eq__")))) && (PySem.W.isFn K (.ref (He.ma K C "__eq__")) && (He.eqO (PySem.W.findIn K (.ref C) "__ne__") (some (some (.builtin "object.__ne__"))) && decide (PySem.W.mroIn K C (.type "object") = some true)))
theorem own_of {K : PySem.W.Frag} {C : Addr} (h : ownB K C = true) : OwnCmp K C (He.ma K C "__eq__") := by
  obtain ⟨h1, h⟩ := He.ba h
  obtain ⟨h2, h⟩ := He.ba h
  obtain ⟨h3, h4⟩ := He.ba h
  exact ⟨He.eqO_ok h1, h2, He.eqO_ok h3, of_decide_eq_true h4⟩
end L2
set_option maxRecDepth 100000
set_option maxHeartbeats 1000000
/-! list(zip(a, b)): zip's next while its pair is held, the list's loop. -/
namespace Lz
open PySem
section
variable {prog : Program} {w : World} {A : Around} {E : Value → Shared → Prop} {s : Shared} {z TI TO i1 i2 : Addr} {fp1 fp2 : List Addr} {n1 n2 i : Nat} {P1 P2 : Nat → Value → Prop} {St1 St2 : Nat → Heap → Prop} {a1 a2 : Value}

theorem held_item {T : Addr} {f : Bool} {oT : Obj} {Q : Value → Shared → Prop} (S : ZipSep2 z TI TO i1 i2 fp1 fp2) (D1 : Draws prog w A i1 fp1 n1 P1 St1) (D2 : Draws prog w A i2 fp2 n2 P2 St2)
    (hz : IsZipHeld s.heap z TI TO T f) (hT : s.heap.get? T = some oT) (hTI : IsTupOf2 s.heap TI (.ref i1) (.ref i2)) (st1 : St1 i s.heap) (st2 : St2 i s.heap) (hlt1 : i < n1) (hlt2 : i < n2)
    (hQ : ∀ x1 x2 h' tk, P1 i x1 → P2 i x2 → IsZipHeld h' z TI TO T true → St1 (i + 1) h' → St2 (i + 1) h' → IsTupOf2 h' s.heap.objs.size x1 x2 → h'.objs.size = s.heap.objs.size + 1 →
      (∀ c o, c ≠ z → c ≠ TO → c ≠ i1 → c ≠ i2 → s.heap.get? c = some o → h'.get? c = some o) → (∀ o, s.heap.get? TO = some o → h'.get? TO = some o) → Q (.ref s.heap.objs.size) { s with heap := h', toks := tk }) :
    wpAny (model prog w) A (Builtin.«zip.__next__» ⟨[.ref z], []⟩) (fun fin s' => ∃ v, fin = .done (.ret v) ∧ Q v s') E s := by
  obtain ⟨hp, g, d, tk0, os⟩ := s
  show wpAny _ _ (field (.ref z) 2 >>= _) _ _ _
  refine wpAny_bind (wpAny_field hz rfl (x := .bool false) rfl ?_)
  show wpAny _ _ (field (.ref z) 3 >>= _) _ _ _
  refine wpAny_bind (wpAny_field hz rfl (x := .ref TI) rfl ?_)
  refine wpAny_bind (wpAny_seqItems hTI rfl ?_)
  show wpAny _ _ (Builtin.SmallTypes.ownedTupleIsFree (.ref z) >>= _) _ _ _
  refine wpAny_bind (wpAny_tupleHeld_zip hz hT fun g0 hz0 hs0 => ?_)
  simp only [Bool.false_eq_true, if_false]
  replace hs0 : Heap.SameBut z hp g0 := hs0
  refine wpAny_bind ?_
  rw [← Array.forIn_toList]
  simp only [List.forIn_cons, List.forIn_nil]
  refine wpAny_bind (wpAny_bind (wpAny_holding ?_))
  show wpAny _ _ (Builtin.SmallTypes.nextOf (.ref i1) >>= _) _ _ ⟨g0, g, d, tk0, os⟩
  refine wpAny_bind (D1.item i _ _ _ hlt1 (D1.over st1 hs0 S.zf1) fun x1 p1 tk1 hx1 sn1 hp1 => wpAny_pure ?_)
  replace hp1 : Heap.SameBut i1 g0 p1 := hp1
  refine wpAny_pure ?_
  refine wpAny_bind (wpAny_bind (wpAny_holding ?_))
  show wpAny _ _ (Builtin.SmallTypes.nextOf (.ref i2) >>= _) _ _ ⟨p1, g, d, tk1, os⟩
  refine wpAny_bind (D2.item i _ _ _ hlt2 (D2.over (D2.over st2 hs0 S.zf2) hp1 S.sep1_2) fun x2 p2 tk2 hx2 sn2 hp2 => wpAny_pure ?_)
  replace hp2 : Heap.SameBut i2 p1 p2 := hp2
  refine wpAny_pure (wpAny_pure ?_)
  show wpAny _ _ (newTuple [x1, x2] >>= _) _ _ ⟨p2, g, d, tk2, os⟩
  refine wpAny_bind (wpAny_newTuple ?_)
  have hsz : p2.objs.size = hp.objs.size := by rw [hp2.1, hp1.1, hs0.1]
  have hz2 : IsZipHeld p2 z TI TO T true := hp2.extBut _ _ S.zi2 (hp1.extBut _ _ S.zi1 hz0)
  have hk : ∀ c o, c ≠ z → c ≠ i1 → c ≠ i2 → hp.get? c = some o → p2.get? c = some o := fun c o c1 c2 c3 e => hp2.extBut _ _ c3 (hp1.extBut _ _ c2 (hs0.extBut _ _ c1 e))
  refine wpAny_pure ⟨_, rfl, ?_⟩
  show Q (.ref p2.objs.size) ⟨p2.push { cls := .type "tuple", data := .seq #[x1, x2] }, g, d, tk2, os⟩
  have hT' : IsTupOf2 (p2.push { cls := .type "tuple", data := .seq #[x1, x2] }) p2.objs.size x1 x2 := Heap.get?_push_size _ rfl
  have hz4 : (p2.push { cls := .type "tuple", data := .seq #[x1, x2] }).objs.size = p2.objs.size + 1 := Heap.size_push ..
  have up : ∀ c o, p2.get? c = some o → (p2.push { cls := .type "tuple", data := .seq #[x1, x2] }).get? c = some o := fun c o e => Heap.get?_push_of_some _ e
  generalize p2.push { cls := .type "tuple", data := .seq #[x1, x2] } = q2 at hT' hz4 up ⊢
  rw [hsz] at hT' hz4 ⊢
  exact hQ x1 x2 q2 tk2 hx1 hx2 (up _ _ hz2) (D1.frame _ _ _ (D1.over sn1 hp2 S.sep2_1) fun b _ o e => up b o e) (D2.frame _ _ _ sn2 fun b _ o e => up b o e) hT' hz4
    (fun c o c1 _ c3 c4 e => up c o (hk c o c1 c3 c4 e)) fun o e => up _ o (hk _ o S.TOz S.Ti1 S.Ti2 e)

theorem held_end {T : Addr} {f : Bool} {oT : Obj} {Q : Fin → Shared → Prop} (S : ZipSep2 z TI TO i1 i2 fp1 fp2) (D1 : Draws prog w A i1 fp1 n1 P1 St1) (D2 : Draws prog w A i2 fp2 n2 P2 St2)
    (hz : IsZipHeld s.heap z TI TO T f) (hT : s.heap.get? T = some oT) (hTI : IsTupOf2 s.heap TI (.ref i1) (.ref i2)) (st1 : St1 i s.heap) (st2 : St2 i s.heap) (hle1 : i ≤ n1) (hle2 : i ≤ n2) (hend : i = n1 ∨ i = n2)
    (hE : ∀ h' tk e, (∀ c o, c ≠ z → c ≠ TO → c ≠ i1 → c ≠ i2 → s.heap.get? c = some o → h'.get? c = some o) → (∃ o, h'.get? e = some o ∧ o.cls = .type "StopIteration") → E (.ref e) { s with heap := h', toks := tk }) :
    wpAny (model prog w) A (Builtin.«zip.__next__» ⟨[.ref z], []⟩) Q E s := by
  obtain ⟨hp, g, d, tk0, os⟩ := s
  show wpAny _ _ (field (.ref z) 2 >>= _) _ _ _
  refine wpAny_bind (wpAny_field hz rfl (x := .bool false) rfl ?_)
  show wpAny _ _ (field (.ref z) 3 >>= _) _ _ _
  refine wpAny_bind (wpAny_field hz rfl (x := .ref TI) rfl ?_)
  refine wpAny_bind (wpAny_seqItems hTI rfl ?_)
  show wpAny _ _ (Builtin.SmallTypes.ownedTupleIsFree (.ref z) >>= _) _ _ _
  refine wpAny_bind (wpAny_tupleHeld_zip hz hT fun g0 hz0 hs0 => ?_)
  simp only [Bool.false_eq_true, if_false]
  replace hs0 : Heap.SameBut z hp g0 := hs0
  refine wpAny_bind ?_
  rw [← Array.forIn_toList]
  simp only [List.forIn_cons, List.forIn_nil]
  refine wpAny_bind (wpAny_bind (wpAny_holding ?_))
  show wpAny _ _ (Builtin.SmallTypes.nextOf (.ref i1) >>= _) _ _ ⟨g0, g, d, tk0, os⟩
  by_cases hlt1 : i < n1
  · refine wpAny_bind (D1.item i _ _ _ hlt1 (D1.over st1 hs0 S.zf1) fun x1 p1 tk1 hx1 sn1 hp1 => wpAny_pure ?_)
    replace hp1 : Heap.SameBut i1 g0 p1 := hp1
    have hi2 : i = n2 := by omega
    refine wpAny_pure ?_
    refine wpAny_bind (wpAny_bind (wpAny_holding ?_))
    show wpAny _ _ (Builtin.SmallTypes.nextOf (.ref i2) >>= _) _ _ ⟨p1, g, d, tk1, os⟩
    refine wpAny_bind (D2.done ⟨p1, g, d, tk1, os⟩ _ _ (by rw [← hi2]; exact (D2.over (D2.over st2 hs0 S.zf2) hp1 S.sep1_2)) fun q e hq he => ?_)
    replace hq : Heap.ExtBut i2 p1 q := hq
    exact hE q tk1 e (fun c o cz _ c1 c2 x => hq _ _ c2 (hp1.extBut _ _ c1 (hs0.extBut _ _ cz x))) he
  · have hi1 : i = n1 := by omega
    refine wpAny_bind (D1.done ⟨g0, g, d, tk0, os⟩ _ _ (by rw [← hi1]; exact (D1.over st1 hs0 S.zf1)) fun q e hq he => ?_)
    replace hq : Heap.ExtBut i1 g0 q := hq
    exact hE q tk0 e (fun c o cz _ c1 _ x => hq _ _ c1 (hs0.extBut _ _ cz x)) he

/-- a zip on its way, its pair out or not -/
def ZlSt (z TI TO i1 i2 S : Addr) (St1 St2 : Nat → Heap → Prop) (i : Nat) (h : Heap) : Prop :=
  IsTupOf2 h TI (.ref i1) (.ref i2) ∧ (∃ a1 a2, IsTupOf2 h TO a1 a2) ∧ St1 i h ∧ St2 i h ∧
    (IsZip h z TI TO .none ∨ ∃ T f oT, IsZipHeld h z TI TO T f ∧ h.get? T = some oT ∧ T ≠ z ∧ T ≠ TO ∧ T ≠ i1 ∧ T ≠ i2 ∧ T ≠ S)
theorem zl_item {LS : Addr} {Q : Option Value → Shared → Prop} (S : ZipSep2 z TI TO i1 i2 fp1 fp2) (D1 : Draws prog w A.in1 i1 fp1 n1 P1 St1) (D2 : Draws prog w A.in1 i2 fp2 n2 P2 St2)
    (st : ZlSt z TI TO i1 i2 LS St1 St2 i s.heap) (hLS : LS < s.heap.objs.size) (hlt1 : i < n1) (hlt2 : i < n2)
    (hQ : ∀ x1 x2 h' tk, P1 i x1 → P2 i x2 → ZlSt z TI TO i1 i2 LS St1 St2 (i + 1) h' → IsTupOf2 h' s.heap.objs.size x1 x2 → h'.objs.size = s.heap.objs.size + 1 →
      (∀ c o, c ≠ z → c ≠ TO → c ≠ i1 → c ≠ i2 → s.heap.get? c = some o → h'.get? c = some o) → Q (some (.ref s.heap.objs.size)) { s with heap := h', toks := tk }) :
    wpAny (model prog w) A (pyNext (.ref z)) Q E s := by
  obtain ⟨hTI, ⟨a1, a2, hTO⟩, st1, st2, hz⟩ := st
  have ne1 : ∃ o, s.heap.get? i1 = some o := D1.live _ _ st1
  have ne2 : ∃ o, s.heap.get? i2 = some o := D2.live _ _ st2
  have gt : ∀ {c : Addr} {o : Obj}, s.heap.get? c = some o → s.heap.objs.size ≠ c := fun e => Nat.ne_of_gt (Heap.lt_size e)
  rcases hz with hz | ⟨T, f, oT, hz, hT, t1, t2, t3, t4, t5⟩
  · refine wpAny_pyNext_zipD2_item S D1 D2 hz hTI hTO st1 st2 hlt1 hlt2 fun x1 x2 h' tk y1 y2 b1 b2 d1 d2 b5 b6 hk => ?_
    obtain ⟨o1, e1⟩ := ne1
    obtain ⟨o2, e2⟩ := ne2
    exact hQ x1 x2 h' tk y1 y2 ⟨hk _ _ S.TIz S.TITO S.TIi1 S.TIi2 hTI, ⟨_, _, b2⟩, d1, d2, .inr ⟨s.heap.objs.size, false, _, b1, b5, gt hz, gt hTO, gt e1, gt e2, Nat.ne_of_gt hLS⟩⟩ b5 b6 hk
  · have hTy : s.TypeIs (.ref z) "zip" := ⟨_, hz, rfl⟩
    unfold pyNext
    refine wpAny_bind (wpAny_attempt (wpAny_callSpecial?_slot (name := Str.ofString "__next__") hTy F.slot_zip_next
      (wpAny_call_entry F.slot_zip_next hTy F.entry_zip_next (held_item S D1 D2 hz hT hTI st1 st2 hlt1 hlt2 fun x1 x2 h' tk y1 y2 b1 d1 d2 b5 b6 hk hO => wpAny_pure ?_) (F.args_zip_next_1 _))))
    exact hQ x1 x2 h' tk y1 y2 ⟨hk _ _ S.TIz S.TITO S.TIi1 S.TIi2 hTI, ⟨_, _, hO _ hTO⟩, d1, d2, .inr ⟨T, true, oT, b1, hk T oT t1 t2 t3 t4 hT, t1, t2, t3, t4, t5⟩⟩ b5 b6 hk
theorem zl_done {LS : Addr} {Q : Option Value → Shared → Prop} (S : ZipSep2 z TI TO i1 i2 fp1 fp2) (D1 : Draws prog w A.in1 i1 fp1 n1 P1 St1) (D2 : Draws prog w A.in1 i2 fp2 n2 P2 St2)
    (st : ZlSt z TI TO i1 i2 LS St1 St2 i s.heap) (hle1 : i ≤ n1) (hle2 : i ≤ n2) (hend : i = n1 ∨ i = n2)
    (hQ : ∀ h' tk, (∀ c o, c ≠ z → c ≠ TO → c ≠ i1 → c ≠ i2 → s.heap.get? c = some o → h'.get? c = some o) → Q none { s with heap := h', toks := tk }) : wpAny (model prog w) A (pyNext (.ref z)) Q E s := by
  obtain ⟨hTI, ⟨a1, a2, hTO⟩, st1, st2, hz⟩ := st
  rcases hz with hz | ⟨T, f, oT, hz, hT, t1, t2, t3, t4, t5⟩
  · exact wpAny_pyNext_zipD2_end S D1 D2 hz hTI hTO st1 st2 hle1 hle2 hend hQ
  · have hTy : s.TypeIs (.ref z) "zip" := ⟨_, hz, rfl⟩
    unfold pyNext
    refine wpAny_bind (wpAny_attempt (wpAny_callSpecial?_slot (name := Str.ofString "__next__") hTy F.slot_zip_next
      (wpAny_call_entry F.slot_zip_next hTy F.entry_zip_next (held_end S D1 D2 hz hT hTI st1 st2 hle1 hle2 hend fun h' tk e hk he => ?_) (F.args_zip_next_1 _))))
    obtain ⟨o, ho, hc⟩ := he
    refine wpAny_bind (wpAny_isInstance (T := "StopIteration") (b := true) ⟨o, ho, hc⟩ isSubtype_stop ?_)
    exact wpAny_pure (hQ _ _ hk)

/-- the pairs made so far, at rising addresses -/
structure ZlG (P1 P2 : Nat → Value → Prop) (lo : Addr) (h : Heap) (as : List Addr) : Prop where
  rise : as.Pairwise (· < ·)
  above : ∀ a ∈ as, lo < a
  pairs : ∀ (j : Nat) (a : Addr), as[j]? = some a → ∃ x1 x2, P1 j x1 ∧ P2 j x2 ∧ IsTupOf2 h a x1 x2
theorem ZlG.there {lo : Addr} {h : Heap} {as : List Addr} (g : ZlG P1 P2 lo h as) {a : Addr} (ha : a ∈ as) : a < h.objs.size := by
  obtain ⟨j, hj⟩ := List.mem_iff_getElem?.mp ha
  obtain ⟨_, _, _, _, e⟩ := g.pairs j a hj
  exact Heap.lt_size e
end
section
variable {prog : Program} {w : World} {A : Around} {s : Shared} {R : Result → Shared → Prop} {z TI TO i1 i2 : Addr} {fp1 fp2 : List Addr} {n1 n2 : Nat} {P1 P2 : Nat → Value → Prop} {St1 St2 : Nat → Heap → Prop}
theorem ZlSt.keep {h h' : Heap} {LS : Addr} {i : Nat} (D1 : Draws prog w A i1 fp1 n1 P1 St1) (D2 : Draws prog w A i2 fp2 n2 P2 St2) (st : ZlSt z TI TO i1 i2 LS St1 St2 i h) (k : ∀ b o, b ≠ LS → h.get? b = some o → h'.get? b = some o)
    (e1 : z ≠ LS) (e2 : TI ≠ LS) (e3 : TO ≠ LS) (f1 : LS ∉ fp1) (f2 : LS ∉ fp2) : ZlSt z TI TO i1 i2 LS St1 St2 i h' := by
  obtain ⟨hTI, ⟨a1, a2, hTO⟩, st1, st2, hz⟩ := st
  refine ⟨k _ _ e2 hTI, ⟨a1, a2, k _ _ e3 hTO⟩, D1.frame _ _ _ st1 fun b hb o e => k b o (fun q => f1 (q ▸ hb)) e, D2.frame _ _ _ st2 fun b hb o e => k b o (fun q => f2 (q ▸ hb)) e, ?_⟩
  rcases hz with hz | ⟨T, f, oT, hz, hT, t1, t2, t3, t4, t5⟩
  · exact .inl (k _ _ e1 hz)
  · exact .inr ⟨T, f, oT, k _ _ e1 hz, k _ _ t5 hT, t1, t2, t3, t4, t5⟩
theorem zl_loop {LS : Addr} (S : ZipSep2 z TI TO i1 i2 fp1 fp2) (D1 : Draws prog w A.in1.in1 i1 fp1 n1 P1 St1) (D2 : Draws prog w A.in1.in1 i2 fp2 n2 P2 St2) (b1 : z < LS) (b2 : TI < LS) (b3 : TO < LS) (b4 : i1 < LS) (b5 : i2 < LS) (f1 : LS ∉ fp1) (f2 : LS ∉ fp2) (hn : min n1 n2 ≤ sizeLine) (res : Value) {h₁ : Heap}
    (hR : ∀ h' tk acc c as, (∀ b o, b ≠ LS → b ≠ z → b ≠ TO → b ≠ i1 → b ≠ i2 → h₁.get? b = some o → h'.get? b = some o) → h'.get? LS = some { cls := .type "list", dict := none, data := .seq acc c, slots := #[] } → as.length = min n1 n2 → ZlG P1 P2 LS h' as →
      acc.toList = as.map Value.ref → R (.ok (.ret res)) { s with heap := h', toks := tk }) :
    ∀ (k i : Nat) (h : Heap) (tk c : Nat) (acc : Array Value) (as : List Addr), min n1 n2 - i = k → i ≤ min n1 n2 → ZlSt z TI TO i1 i2 LS St1 St2 i h → (∀ b o, b ≠ LS → b ≠ z → b ≠ TO → b ≠ i1 → b ≠ i2 → h₁.get? b = some o → h.get? b = some o) →
      h.get? LS = some { cls := .type "list", dict := none, data := .seq acc c, slots := #[] } → acc.toList = as.map Value.ref → as.length = i → ZlG P1 P2 LS h as →
      codeAny (model prog w) A (.builtin "list.extend.loop" ⟨[.ref LS, .ref z, res], []⟩) R { s with heap := h, toks := tk } := by
  intro k
  induction k with
  | zero =>
    intro i h tk c acc as hk hi hst hkeep hS hacc hal hG
    have hin : i = min n1 n2 := by omega
    refine codeAny_builtin PySem.F.entry_extend_loop ?_
    rw [Around.under_plainId PySem.F.plain_extend_loop _]
    show wpAny _ A.in1 (pyNext (.ref z) >>= _) _ _ _
    refine wpAny_bind (zl_done (s := { s with heap := h, toks := tk }) (A := A.in1) S D1 D2 hst (by omega) (by omega) (by omega) fun h' tk' he => ?_)
    refine wpAny_pure (hR h' tk' acc c as (fun b o q1 q2 q3 q4 q5 e => he b o q2 q3 q4 q5 (hkeep b o q1 q2 q3 q4 q5 e)) (he LS _ (Nat.ne_of_gt b1) (Nat.ne_of_gt b3) (Nat.ne_of_gt b4) (Nat.ne_of_gt b5) hS) (by omega) ⟨hG.rise, hG.above, fun j a hj => ?_⟩ hacc)
    obtain ⟨x1, x2, e1, e2, e3⟩ := hG.pairs j a hj
    have hb := hG.above a (List.mem_of_getElem? hj)
    exact ⟨x1, x2, e1, e2, he a _ (Nat.ne_of_gt (Nat.lt_trans b1 hb)) (Nat.ne_of_gt (Nat.lt_trans b3 hb)) (Nat.ne_of_gt (Nat.lt_trans b4 hb)) (Nat.ne_of_gt (Nat.lt_trans b5 hb)) e3⟩
  | succ k ih =>
    intro i h tk c acc as hk hi hst hkeep hS hacc hal hG
    have hsz : acc.size = i := by rw [← Array.length_toList, hacc, List.length_map, hal]
    have hSl : LS < h.objs.size := Heap.lt_size hS
    refine codeAny_builtin PySem.F.entry_extend_loop ?_
    rw [Around.under_plainId PySem.F.plain_extend_loop _]
    show wpAny _ A.in1 (pyNext (.ref z) >>= _) _ _ _
    refine wpAny_bind (zl_item (s := { s with heap := h, toks := tk }) (A := A.in1) S D1 D2 hst hSl (by omega) (by omega) fun x1 x2 h' tk' y1 y2 hst' ht hz hkp => ?_)
    dsimp only at ht hz hkp ⊢
    have hS' := hkp LS _ (Nat.ne_of_gt b1) (Nat.ne_of_gt b3) (Nat.ne_of_gt b4) (Nat.ne_of_gt b5) hS
    have up : ∀ b o, b ≠ LS → h'.get? b = some o → (h'.update LS (Obj.mapSeq (·.push (Value.ref h.objs.size)))).get? b = some o := fun b o hb e => (Heap.get?_update_other _ _ (Ne.symm hb)).trans e
    show wpAny _ A.in1 (updateSeq LS (·.push (Value.ref h.objs.size)) >>= _) _ _ _
    refine wpAny_bind ?_
    refine wpAny_updateSeq hS' rfl (wpAny_pure ⟨plainId_quiet PySem.F.plain_extend_loop _, ih (i + 1) _ tk' _ (acc.push (Value.ref h.objs.size)) (as ++ [h.objs.size]) (by omega) (by omega)
      (hst'.keep D1 D2 up (Nat.ne_of_lt b1) (Nat.ne_of_lt b2) (Nat.ne_of_lt b3) f1 f2)
      (fun b o q1 q2 q3 q4 q5 e => up b o q1 (hkp b o q2 q3 q4 q5 (hkeep b o q1 q2 q3 q4 q5 e))) (Heap.get?_update_self _ hS' rfl) (by rw [Array.toList_push, hacc, List.map_append]; rfl) (by rw [List.length_append, hal]; rfl) ⟨?_, ?_, ?_⟩⟩) (by rw [hsz]; omega) (by show (acc.push (Value.ref h.objs.size)).size ≤ sizeLine + 1; rw [Array.size_push, hsz]; omega)
    · refine List.pairwise_append.mpr ⟨hG.rise, List.pairwise_singleton _ _, fun a ha b hb => ?_⟩
      rw [List.mem_singleton.mp hb]
      exact hG.there ha
    · intro a ha
      rcases List.mem_append.mp ha with ha | ha
      · exact hG.above a ha
      · rw [List.mem_singleton.mp ha]; exact hSl
    · intro j b hj
      rcases Nat.lt_trichotomy j as.length with q1 | q1 | q1
      · rw [List.getElem?_append_left q1] at hj
        obtain ⟨x1', x2', e1, e2, e3⟩ := hG.pairs j b hj
        have hb := hG.above b (List.mem_of_getElem? hj)
        exact ⟨x1', x2', e1, e2, up b _ (Nat.ne_of_gt hb) (hkp b _ (Nat.ne_of_gt (Nat.lt_trans b1 hb)) (Nat.ne_of_gt (Nat.lt_trans b3 hb)) (Nat.ne_of_gt (Nat.lt_trans b4 hb)) (Nat.ne_of_gt (Nat.lt_trans b5 hb)) e3)⟩
      · subst q1
        have hb : h.objs.size = b := by simpa using hj
        subst hb
        exact ⟨x1, x2, by rw [hal]; exact y1, by rw [hal]; exact y2, up _ _ (Nat.ne_of_gt hSl) ht⟩
      · have hnone : (as ++ [h.objs.size])[j]? = none := List.getElem?_eq_none (by rw [List.length_append, List.length_singleton]; omega)
        rw [hnone] at hj; cases hj
end
theorem zl_no_len : typeLookup (.type "zip") "__len__" = pure none := am_miss_of_fast (by decide +kernel)
theorem zl_no_hint : typeLookup (.type "zip") "__length_hint__" = pure none := am_miss_of_fast (by decide +kernel)
section
variable {prog : Program} {w : World} {A : Around} {E : Value → Shared → Prop} {s : Shared} {z TI TO i1 i2 : Addr} {fp1 fp2 : List Addr} {n1 n2 : Nat} {P1 P2 : Nat → Value → Prop} {St1 St2 : Nat → Heap → Prop}
theorem zl_hint {r : Addr} (hT : s.TypeIs (.ref r) "zip") {Q : Bool → Shared → Prop} (h : Q true s) : wpAny (model prog w) A (Builtin.List.listLengthHint (.ref r)) Q E s := by
  unfold Builtin.List.listLengthHint
  show wpAny _ A (specialOf (Value.ref r) (Str.ofString "__len__") >>= _) _ _ _
  refine wpAny_bind (wpAny_specialOf hT zl_no_len ?_)
  show wpAny _ A (specialOf (Value.ref r) (Str.ofString "__length_hint__") >>= _) _ _ _
  refine wpAny_bind (wpAny_specialOf hT zl_no_hint ?_)
  exact wpAny_pure h
theorem zl_extend {R : Result → Shared → Prop} {LS : Addr} (S : ZipSep2 z TI TO i1 i2 fp1 fp2) (D1 : Draws prog w A.in1.in1 i1 fp1 n1 P1 St1) (D2 : Draws prog w A.in1.in1 i2 fp2 n2 P2 St2) (b1 : z < LS) (b2 : TI < LS) (b3 : TO < LS) (b4 : i1 < LS) (b5 : i2 < LS) (f1 : LS ∉ fp1) (f2 : LS ∉ fp2) (hn : min n1 n2 ≤ sizeLine)
    (hz : IsZip s.heap z TI TO .none) (hst : ZlSt z TI TO i1 i2 LS St1 St2 0 s.heap) (res : Value) (c₀ : Nat) (hS : s.heap.get? LS = some { cls := .type "list", data := .seq #[] c₀ })
    (hR : ∀ h' tk acc c as, (∀ b o, b ≠ LS → b ≠ z → b ≠ TO → b ≠ i1 → b ≠ i2 → s.heap.get? b = some o → h'.get? b = some o) → h'.get? LS = some { cls := .type "list", dict := none, data := .seq acc c, slots := #[] } → as.length = min n1 n2 → ZlG P1 P2 LS h' as →
      acc.toList = as.map Value.ref → R (.ok (.ret res)) { s with heap := h', toks := tk }) :
    wpAny (model prog w) A.in1 (Builtin.List.listExtendWith (.ref LS) (.ref z) res)
      (fun fin s' => match fin with | .done f => R (.ok f) s' | .again c' => c'.quiet = true ∧ codeAny (model prog w) A c' R s') (fun e s' => R (.error e) s') s := by
  have hTy : s.TypeIs (.ref z) "zip" := ⟨_, hz, rfl⟩
  unfold Builtin.List.listExtendWith
  refine wpAny_bind (wpAny_typeOf (T := "zip") hTy ?_)
  have h1 : Builtin.List.listSameRef (.ref LS) (.ref z) = false := by simp [Builtin.List.listSameRef, Nat.ne_of_gt b1]
  have h2 : (Value.type "zip" == Value.type "list") = false := by decide
  have h3 : (Value.type "zip" == Value.type "tuple") = false := by decide
  simp only [h1, h2, h3, Bool.or_false, Bool.false_eq_true, if_false]
  refine wpAny_bind (wpAny_pyIter_zip hz ?_)
  refine wpAny_bind (wpAny_holding (zl_hint hTy ?_))
  refine wpAny_ite_split (fun _ => ?_) (fun hab => absurd rfl hab)
  refine wpAny_bind (wpAny_rule ?_)
  refine wpAny_bind ?_
  show wpAny _ _ (updateSeq LS (·.push .none) >>= fun _ => updateSeq LS (·.pop)) _ _ _
  refine wpAny_bind (wpAny_updateSeq hS rfl ?_)
  have hS₂ := Heap.get?_update_self (Obj.mapSeq (·.push Value.none)) hS rfl
  refine wpAny_updateSeq (hz := by seq_fits) hS₂ rfl ?_
  have hS₃ := Heap.get?_update_self (Obj.mapSeq (·.pop)) hS₂ rfl
  have oth : ∀ b o, b ≠ LS → s.heap.get? b = some o → ((s.heap.update LS (Obj.mapSeq (·.push Value.none))).update LS (Obj.mapSeq (·.pop))).get? b = some o := fun b o hb e => (Heap.get?_update_other _ _ (Ne.symm hb)).trans ((Heap.get?_update_other _ _ (Ne.symm hb)).trans e)
  refine wpAny_pure ⟨plainId_quiet PySem.F.plain_extend_loop _, ?_⟩
  exact zl_loop (s := s) (h₁ := s.heap) S D1 D2 b1 b2 b3 b4 b5 f1 f2 hn res hR (min n1 n2) 0 _ s.toks _ #[] [] (Nat.sub_zero _) (Nat.zero_le _)
    (hst.keep D1 D2 oth (Nat.ne_of_lt b1) (Nat.ne_of_lt b2) (Nat.ne_of_lt b3) f1 f2) (fun b o q1 _ _ _ _ e => oth b o q1 e) hS₃ rfl rfl ⟨List.Pairwise.nil, (fun _ ha => nomatch ha), (fun j a hj => by simp at hj)⟩
theorem zl_call {Q : Value → Shared → Prop} (S : ZipSep2 z TI TO i1 i2 fp1 fp2) (D1 : ∀ A' : Around, A'.handled = none → Draws prog w A' i1 fp1 n1 P1 St1) (D2 : ∀ A' : Around, A'.handled = none → Draws prog w A' i2 fp2 n2 P2 St2) (hh : A.handled = none) (hn : min n1 n2 ≤ sizeLine)
    (g1 : ∀ b ∈ fp1, b < s.heap.objs.size) (g2 : ∀ b ∈ fp2, b < s.heap.objs.size) (hz : IsZip s.heap z TI TO .none) (hTI : IsTupOf2 s.heap TI (.ref i1) (.ref i2)) (hTO : ∃ a1 a2, IsTupOf2 s.heap TO a1 a2) (st1 : St1 0 s.heap) (st2 : St2 0 s.heap)
    (hQ : ∀ h' tk acc c as, (∀ b o, b ≠ z → b ≠ TO → b ≠ i1 → b ≠ i2 → s.heap.get? b = some o → h'.get? b = some o) → h'.get? s.heap.objs.size = some { cls := .type "list", dict := none, data := .seq acc c, slots := #[] } → as.length = min n1 n2 → ZlG P1 P2 s.heap.objs.size h' as →
      acc.toList = as.map Value.ref → Q (.ref s.heap.objs.size) { s with heap := h', toks := tk }) :
    wpAny (model prog w) A (call (.type "list") [.ref z]) Q E s := by
  refine callType_codes (Q₁ := fun obj s₁ => obj = .ref s.heap.objs.size ∧ s₁ = { s with heap := s.heap.push { cls := .type "list", data := .seq #[] } }) PySem.F.called_list (PySem.F.typeCall_list_1 _) PySem.F.entry_list_init
    (code_list_new _ ⟨rfl, rfl⟩) fun obj s₁ h₁ => ?_
  obtain ⟨rfl, rfl⟩ := h₁
  obtain ⟨a1, a2, hTO⟩ := hTO
  have hS : (s.heap.push { cls := .type "list", data := .seq #[] }).get? s.heap.objs.size = some { cls := .type "list", data := .seq #[] } := Heap.get?_push_size _ rfl
  have lz : z < s.heap.objs.size := Heap.lt_size hz
  have lI : TI < s.heap.objs.size := Heap.lt_size hTI
  have lO : TO < s.heap.objs.size := Heap.lt_size hTO
  have l1 : i1 < s.heap.objs.size := g1 _ S.mem1
  have l2 : i2 < s.heap.objs.size := g2 _ S.mem2
  refine ⟨⟨_, hS, rfl⟩, PySem.F.args_list_init_2 _ _, ?_⟩
  have oth₁ : ∀ b o, s.heap.get? b = some o → (s.heap.push { cls := .type "list", data := .seq #[] }).get? b = some o := fun b o e => Heap.get?_push_of_some _ e
  show wpAny _ _ (do let old ← Builtin.List.listItems (.ref s.heap.objs.size); Builtin.List.listUpdate (.ref s.heap.objs.size) (fun _ => #[]); letGo old.toList.reverse; Builtin.List.listExtendWith (.ref s.heap.objs.size) (.ref z) .none) _ _ _
  refine wpAny_bind ?_
  unfold Builtin.List.listItems
  refine wpAny_bind (wpAny_seqItems hS rfl (wpAny_pure ?_))
  show wpAny _ _ (updateSeq s.heap.objs.size (fun _ => #[]) >>= fun _ => letGo (#[] : Array Value).toList.reverse >>= fun _ => Builtin.List.listExtendWith (.ref s.heap.objs.size) (.ref z) .none) _ _ _
  refine wpAny_bind (wpAny_updateSeq hS rfl ?_)
  have hS₂ := Heap.get?_update_self (Obj.mapSeq (fun _ => (#[] : Array Value))) hS rfl
  have oth : ∀ b o, b ≠ s.heap.objs.size → s.heap.get? b = some o → ((s.heap.push { cls := .type "list", data := .seq #[] }).update s.heap.objs.size (Obj.mapSeq (fun _ => (#[] : Array Value)))).get? b = some o :=
    fun b o hb e => (Heap.get?_update_other _ _ (Ne.symm hb)).trans (oth₁ b o e)
  refine wpAny_bind (wpAny_letGo ?_)
  have f1 : s.heap.objs.size ∉ fp1 := fun q => Nat.lt_irrefl _ (g1 _ q)
  have f2 : s.heap.objs.size ∉ fp2 := fun q => Nat.lt_irrefl _ (g2 _ q)
  have d1 := D1 A.in1.in1.in1 hh
  have d2 := D2 A.in1.in1.in1 hh
  have st : ZlSt z TI TO i1 i2 s.heap.objs.size St1 St2 0 s.heap := ⟨hTI, ⟨a1, a2, hTO⟩, st1, st2, .inl hz⟩
  refine zl_extend (A := A.in1) S d1 d2 lz lI lO l1 l2 f1 f2 hn (oth _ _ (Nat.ne_of_lt lz) hz) (st.keep d1 d2 oth (Nat.ne_of_lt lz) (Nat.ne_of_lt lI) (Nat.ne_of_lt lO) f1 f2) .none _ hS₂ fun h' tk acc c as hk hS' hl hG hacc => ?_
  exact ⟨rfl, hQ h' tk acc c as (fun b o q1 q2 q3 q4 e => hk b o (Nat.ne_of_lt (Heap.lt_size e)) q1 q2 q3 q4 (oth b o (Nat.ne_of_lt (Heap.lt_size e)) e)) hS' hl hG hacc⟩
end
end Lz
set_option maxRecDepth 100000
set_option maxHeartbeats 2000000
namespace L2
open PySem PySem.Spec PyProof.Rows
/-! lists and tuples alike: zip, enumerate of both, list(zip(..)) -/
/-- a tuple (true) or a list (false) -/
def SqB (K : PySem.W.Frag) (t : Bool) (H : Hp) (a : Addr) (xs : List V) : Prop := match t with | true => SqT K H a xs | false => SqL K H a xs
def seqAtB (t : Bool) (h : Heap) (a : Addr) (its : Array Value) : Prop := match t with | true => h.IsTuple a its | false => h.IsList a its
def itB (t : Bool) (h : Heap) (it a : Addr) (i : Nat) : Prop := match t with | true => h.IsTupleIter it a i | false => h.IsListIter it a i
def oB (t : Bool) (a : Addr) : Obj := match t with | true => { cls := .type "tuple_iterator", data := .fields #[.ref a, .int 0 0] } | false => { cls := .type "list_iterator", data := .fields #[.ref a, .int 0 0] }
theorem SqB.tup {K : PySem.W.Frag} {H : Hp} {a : Addr} {xs : List V} (h : H a = some (.tup xs)) : SqB K true H a xs := SqT.of h
theorem SqB.lst {K : PySem.W.Frag} {H : Hp} {a : Addr} {xs : List V} (h : H a = some (.lst xs)) : SqB K false H a xs := SqL.of h
theorem drawsB {prog : Program} {w : World} {A : Around} (t : Bool) (hh : A.handled = none) (it a : Addr) (hne : a ≠ it) (its : Array Value) :
    Draws prog w A it [it, a] its.size (fun i v => its[i]? = some v) (fun i h => itB t h it a i ∧ seqAtB t h a its) := by
  cases t
  · exact Draws.list hh it a hne its
  · exact Draws.tuple hh it a hne its
theorem beginsB (t : Bool) (a : Addr) (its : Array Value) : Begins (.ref a) (oB t a) (fun h => seqAtB t h a its) := by
  cases t
  · exact begins_list a its
  · exact begins_tuple a its
theorem itB_new {t : Bool} {h : Heap} {it a : Addr} (e : h.get? it = some (oB t a)) : itB t h it a 0 := by
  cases t
  · exact ⟨_, e, rfl, rfl⟩
  · exact ⟨_, e, rfl, rfl⟩
theorem itB.live {t : Bool} {h : Heap} {it a : Addr} {i : Nat} (x : itB t h it a i) : ∃ o, h.get? it = some o ∧ ∀ v, o.data ≠ .cell v := by
  cases t
  · obtain ⟨o, e, _, d⟩ := x
    exact ⟨o, e, fun v q => by rw [d] at q; cases q⟩
  · obtain ⟨o, e, _, d⟩ := x
    exact ⟨o, e, fun v q => by rw [d] at q; cases q⟩
theorem itB.at {t : Bool} {h h' : Heap} {it a : Addr} {i : Nat} (x : itB t h it a i) (k : ∀ o, h.get? it = some o → h'.get? it = some o) : itB t h' it a i := by
  cases t
  · exact Heap.IsListIter.at x k
  · exact Heap.IsTupleIter.at x k
section
variable {X : Cx} {pins : List (Addr × Obj)} {σ : St} {H : Hp} {s : Shared}
theorem Inv.sqB {t : Bool} {a : Addr} {xs : List V} (I : Inv X pins σ H s) (h : SqB X.K t H a xs) : ∃ its : List Value, Vals xs its ∧ seqAtB t s.heap a its.toArray ∧ xs.length ≤ sizeLine ∧ a < s.heap.objs.size := by
  cases t
  · obtain ⟨its, rv, p, z⟩ := I.list h
    exact ⟨its, rv, p.isList, z, p.lt⟩
  · obtain ⟨its, rv, p, z⟩ := I.tuple h
    exact ⟨its, rv, p, z, by obtain ⟨o, e, _⟩ := id p; exact Heap.lt_size e⟩
theorem Inv.sqB_inj {t : Bool} {a : Addr} {xs ys : List V} (I : Inv X pins σ H s) (h : SqB X.K t H a xs) (h' : SqB X.K t H a ys) : xs = ys := by
  cases t
  · exact I.list_inj h h'
  · exact I.tuple_inj h h'
end
/-- a and b as they stand at each turn, the items in new pairs -/
def ItzB (K : PySem.W.Frag) (t u : Bool) (a b : Addr) : It :=
  ⟨fun i H => ∃ (xs ys : List V) (x y : V), SqB K t H a xs ∧ SqB K u H b ys ∧ xs[i]? = some x ∧ ys[i]? = some y,
    fun i H v H' => ∃ T x y, v = .ref T ∧ H T = none ∧ H' = upd H T (.tup [x, y]) ∧ (∀ xs, SqB K t H a xs → xs[i]? = some x) ∧ ∀ ys, SqB K u H b ys → ys[i]? = some y,
    fun i H => ∃ xs ys : List V, SqB K t H a xs ∧ SqB K u H b ys ∧ (xs.length = i ∨ ys.length = i) ∧ i ≤ xs.length ∧ i ≤ ys.length⟩
theorem turn_zipB {P : Program} {w : World} {K : PySem.W.Frag} {elts : List Expr} {kk : Nat} {tpos : Pos} {t u : Bool} {a b z TI TO i1 i2 : Addr} (D : ZipSep2 z TI TO i1 i2 [i1, a] [i2, b]) (d1 : a ≠ i1) (d2 : b ≠ i2) :
    Turn P w K (.Tuple elts kk tpos) (ItzB K t u a b) [z, TI, TO, i1, i2] z (fun i h => IsZip h z TI TO .none ∧ IsTupOf2 h TI (.ref i1) (.ref i2) ∧ (∃ x y, IsTupOf2 h TO x y) ∧ itB t h i1 a i ∧ itB u h i2 b i) where
  mem := by simp
  obj := fun i h st c hc => by
    obtain ⟨hz, hTI, ⟨x, y, hTO⟩, l1, l2⟩ := st
    have e' : c = z ∨ c = TI ∨ c = TO ∨ c = i1 ∨ c = i2 := by simpa using hc
    rcases e' with q | q | q | q | q
    · rw [q]; exact ⟨_, hz, fun v q => nomatch q⟩
    · rw [q]; exact ⟨_, hTI, fun v q => nomatch q⟩
    · rw [q]; exact ⟨_, hTO, fun v q => nomatch q⟩
    · rw [q]; exact l1.live
    · rw [q]; exact l2.live
  keep := fun i h h' st k => by
    obtain ⟨hz, hTI, ⟨x, y, hTO⟩, h1, h2⟩ := st
    exact ⟨k z (by simp) _ hz, k TI (by simp) _ hTI, ⟨x, y, k TO (by simp) _ hTO⟩, h1.at fun o q => k i1 (by simp) o q, h2.at fun o q => k i2 (by simp) o q⟩
  item := by
    intro X hP hw hK hc i pins s σ H E I hf st hg
    subst hP hw hK
    obtain ⟨hz, hTI, ⟨x0, y0, hTO⟩, h1, h2⟩ := st
    obtain ⟨xs, ys, x, y, hqx, hqy, hx, hy⟩ := hg
    obtain ⟨its, rv, p, _⟩ := I.sqB hqx
    obtain ⟨its2, rv2, p2, _⟩ := I.sqB hqy
    obtain ⟨v1, hu, ru⟩ := rv.get hx
    obtain ⟨v2, hu2, ru2⟩ := rv2.get hy
    have hzl : z < s.heap.objs.size := Heap.lt_size hz
    have k1 : i < its.toArray.size := by have := (List.getElem?_eq_some_iff.mp hu).1; simpa using this
    have k2 : i < its2.toArray.size := by have := (List.getElem?_eq_some_iff.mp hu2).1; simpa using this
    refine wpAny_pyNext_zipD2_item D (drawsB (prog := X.prog) (w := X.w) (A := X.A.in1) t (I.ok.hd hc) i1 a d1 its.toArray) (drawsB (prog := X.prog) (w := X.w) (A := X.A.in1) u (I.ok.hd hc) i2 b d2 its2.toArray) hz hTI hTO ⟨h1, p⟩ ⟨h2, p2⟩ k1 k2 fun x1 x2 h' tk y1 y2 z' TO' g1 g2 hT hsz hk => ?_
    have ex1 : x1 = v1 := by simpa [hu, eq_comm] using y1
    have ex2 : x2 = v2 := by simpa [hu2, eq_comm] using y2
    subst ex1 ex2
    refine ⟨_, rfl, wpAny_letOwnedTupleGo_zip (s := { s with heap := h', toks := tk }) z' fun h'' z'' sb => ?_⟩
    have hT2 : h''.get? s.heap.objs.size = some { cls := .type "tuple", data := .seq #[x1, x2] } := (sb.2 _ (Nat.ne_of_gt hzl)).trans hT
    have new : ObjOk X.prog X.w (upd H s.heap.objs.size (.tup [x, y])) h'' s.heap.objs.size (.tup [x, y]) :=
      ⟨by show 2 ≤ sizeLine; decide, [x1, x2], .cons ru (.cons ru2 .nil), ⟨_, hT2, rfl, _, rfl⟩⟩
    have I1 : Inv X pins σ (upd H s.heap.objs.size (.tup [x, y])) { s with heap := h'', toks := tk } :=
      I.turnedNew (t' := tk) (ch := [z, TI, TO, i1, i2]) (fun c o hb q => (sb.2 c (fun q' => hb (by simp [q']))).trans (hk c o (fun q' => hb (by simp [q'])) (fun q' => hb (by simp [q'])) (fun q' => hb (by simp [q'])) (fun q' => hb (by simp [q'])) q)) hf (Nat.le_refl _) new
    have n1 : i1 ≠ z := Ne.symm D.zi1
    have n2 : i2 ≠ z := Ne.symm D.zi2
    refine ⟨.ref s.heap.objs.size, _, I1, rfl, ⟨_, x, y, rfl, I.hok.fresh (Nat.le_refl _), rfl, fun l hl => by rw [I.sqB_inj hl hqx]; exact hx, fun l hl => by rw [I.sqB_inj hl hqy]; exact hy⟩, ⟨z'', ?_, ⟨x1, x2, ?_⟩, ?_, ?_⟩, fun c hcm => ?_⟩
    · exact (sb.2 _ D.TIz).trans (hk _ _ D.TIz D.TITO D.TIi1 D.TIi2 hTI)
    · exact (sb.2 _ D.TOz).trans TO'
    · exact g1.1.at fun o q => (sb.2 _ n1).trans q
    · exact g2.1.at fun o q => (sb.2 _ n2).trans q
    · have hlt : c < s.heap.objs.size := by
        have e' : c = z ∨ c = TI ∨ c = TO ∨ c = i1 ∨ c = i2 := by simpa using hcm
        rcases e' with q | q | q | q | q
        · rw [q]; exact hzl
        · rw [q]; exact Heap.lt_size hTI
        · rw [q]; exact Heap.lt_size hTO
        · rw [q]; obtain ⟨_, e1, _⟩ := h1.live; exact Heap.lt_size e1
        · rw [q]; obtain ⟨_, e2, _⟩ := h2.live; exact Heap.lt_size e2
      rw [upd_ne (Nat.ne_of_lt hlt)]
      exact (hf c hcm).1
  done := by
    intro X hP hw hK hc i pins s σ H E I hf st hg
    subst hP hw hK
    obtain ⟨hz, hTI, ⟨x0, y0, hTO⟩, h1, h2⟩ := st
    obtain ⟨xs, ys, hqx, hqy, hend, k1, k2⟩ := hg
    obtain ⟨its, rv, p, _⟩ := I.sqB hqx
    obtain ⟨its2, rv2, p2, _⟩ := I.sqB hqy
    have l1 := rv.length
    have l2 := rv2.length
    have s1 : its.toArray.size = its.length := by simp
    have s2 : its2.toArray.size = its2.length := by simp
    exact wpAny_pyNext_zipD2_end D (drawsB (prog := X.prog) (w := X.w) (A := X.A.in1) t (I.ok.hd hc) i1 a d1 its.toArray) (drawsB (prog := X.prog) (w := X.w) (A := X.A.in1) u (I.ok.hd hc) i2 b d2 its2.toArray) hz hTI hTO ⟨h1, p⟩ ⟨h2, p2⟩ (by omega) (by omega) (by omega) fun h' tk hk => ⟨rfl, I.turnedL (t' := tk) (ch := [z, TI, TO, i1, i2]) (fun c o hb q =>
      hk c o (fun q' => hb (by simp [q'])) (fun q' => hb (by simp [q'])) (fun q' => hb (by simp [q'])) (fun q' => hb (by simp [q'])) q) hf⟩
  self := fun A i s Q E st h => wpAny_pyIter_zip st.1 h
def iZipB (K : PySem.W.Frag) (ta : TA) : TI := fun σ H R => ta σ H fun vs H1 => ∃ (t u : Bool) (a b : Addr) (xs ys : List V), vs = [.ref a, .ref b] ∧ SqB K t H1 a xs ∧ SqB K u H1 b ys ∧ R (ItzB K t u a b) H1
theorem pi_zipB {X : Cx} {e e2 : Expr} {ta : TA} {p pos tpos : Pos} {elts : List Expr} {kk : Nat} (hg : Gl X "zip") (hm : X.mg "zip" = none) (ha : PA X [e, e2] ta)
    (hs : starEach [e, e2] X.env = (false, eval e X.env) :: starEach [e2] X.env := by rfl) (hpl : (backTo pos (starEach [e2] X.env)).any (·.1) = false := by rfl) :
    PI X (.Tuple elts kk tpos) (.Call (.Name "zip" p) [e, e2] [] pos) (iZipB X.K ta) := by
  refine ⟨fun pins s σ H R I h => ?_⟩
  refine Call_ (ld_blt I hg hm PyProof.Rows.boot_zip (PyProof.Rows.callWith_type1 (thn (ha.run pos pins s σ H _ I h) fun us s1 ⟨vs, H1, I1, r1, q1⟩ => ?_) hs hpl))
  obtain ⟨t, u, a, b, xs, ys, ex, hqx, hqy, q⟩ := q1
  subst ex
  cases r1 with
  | cons r rr =>
    cases rr with
    | cons r' rr =>
      cases rr
      cases r
      cases r'
      obtain ⟨its, rv, p1, _, la⟩ := I1.sqB hqx
      obtain ⟨its2, rv2, p2, _, lb⟩ := I1.sqB hqy
      refine zip_begins2 (beginsB t a its.toArray) (beginsB u b its2.toArray) p1 p2 fun h' hz hTI hTO g1 g2 hsz hk => wpAny_pyIter_zip hz ?_
      have I2 : Inv X pins σ H1 { s1 with heap := h' } := I1.kept (t' := s1.toks) hk
      have sep := zip_sep2 (N := s1.heap.objs.size) (fp1 := [a]) (fp2 := [b]) (fun b' hb => by rw [List.mem_singleton.mp hb]; exact la) (fun b' hb => by rw [List.mem_singleton.mp hb]; exact lb)
      refine ⟨s1.heap.objs.size + 4, [s1.heap.objs.size + 4, s1.heap.objs.size + 2, s1.heap.objs.size + 3, s1.heap.objs.size, s1.heap.objs.size + 1], _, _, H1, rfl, I2, turn_zipB (t := t) (u := u) sep (Nat.ne_of_lt la) (Nat.ne_of_lt (Nat.lt_succ_of_lt lb)), ⟨hz, hTI, ⟨_, _, hTO⟩, itB_new g1, itB_new g2⟩, fun c hcm => ?_, q⟩
      have e' : c = s1.heap.objs.size + 4 ∨ c = s1.heap.objs.size + 2 ∨ c = s1.heap.objs.size + 3 ∨ c = s1.heap.objs.size ∨ c = s1.heap.objs.size + 1 := by simpa using hcm
      have hle : s1.heap.objs.size ≤ c := by
        rcases e' with z | z | z | z | z
        · rw [z]; exact Nat.le_add_right _ _
        · rw [z]; exact Nat.le_add_right _ _
        · rw [z]; exact Nat.le_add_right _ _
        · rw [z]; exact Nat.le_refl _
        · rw [z]; exact Nat.le_add_right _ _
      exact I1.fpOk hle (I1.hok.fresh hle)
theorem walk_zipB {K : PySem.W.Frag} {t u : Bool} {a b : Addr} {xs ys : List V} {n : Nat} (hn : n = min xs.length ys.length) : Walk (ItzB K t u a b) n (fun H => SqB K t H a xs ∧ SqB K u H b ys) (YPair (fun i => xs[i]?) (fun i => ys[i]?)) := by
  subst hn
  refine ⟨fun i _ hi q => ?_, fun _ q => ⟨xs, ys, q.1, q.2, by omega, by omega, by omega⟩, fun i H v H' _ q y => ?_⟩
  · have h1 : i < xs.length := by omega
    have h2 : i < ys.length := by omega
    exact ⟨xs, ys, xs[i], ys[i], q.1, q.2, by simp [h1], by simp [h2]⟩
  · obtain ⟨T, x, z, h1, h2, h3, h4, h5⟩ := y
    exact ⟨T, x, z, h1, h2, h3, h4 xs q.1, h5 ys q.2⟩

/-! ### enumerate of both -/
theorem meets_enumB {v : Value} {o : Obj} {H : Heap → Prop} (B : Begins v o H) :
    Meets (Builtin.«enumerate.__new__» ⟨[.type "enumerate", v], []⟩) (fun _ R s => H s.heap ∧
      R (.ok (.ret (.ref (s.heap.push o).objs.size))) { s with heap := (s.heap.push o).push { cls := .type "enumerate", data := .fields #[.none, .bool false, .ref s.heap.objs.size, rawInt 0, .none, .none] } }) :=
  .of_wp fun prog w A R s h => by
    obtain ⟨hp, g, d, tk, os⟩ := s; obtain ⟨h1, h⟩ := h
    have hsub := sub_enumerate
    have q1 : ∀ {A' : Around} {E : Value → Shared → Prop} {Q : Value → Shared → Prop}, Q (.ref hp.objs.size) ⟨hp.push o, g, d, tk, os⟩ → wpAny (model prog w) A' (pyIter v) Q E ⟨hp, g, d, tk, os⟩ :=
      fun q => B.iter prog w _ _ ⟨hp, g, d, tk, os⟩ _ h1 q
    wp_walk using q1
    refine wpAny_stack_any fun st => wpAny_pure ?_
    split
    · rename_i c _ _ _ _ _
      cases (c == Value.type "enumerate")
      · wp_walk using q1
        exact ⟨_, rfl, h⟩
      · wp_walk using q1
        exact ⟨_, rfl, h⟩
    · wp_walk using q1
      exact ⟨_, rfl, h⟩
theorem enum_beginsB {prog : Program} {w : World} {A : Around} {E : Value → Shared → Prop} {s : Shared} {v : Value} {o : Obj} {H : Heap → Prop} {Q : Value → Shared → Prop} (B : Begins v o H) (h1 : H s.heap)
    (h : ∀ h', IsEnum h' (s.heap.objs.size + 1) s.heap.objs.size 0 .none → h'.get? s.heap.objs.size = some o → h'.objs.size = s.heap.objs.size + 2 →
      (∀ b o, s.heap.get? b = some o → h'.get? b = some o) → Q (.ref (s.heap.objs.size + 1)) { s with heap := h' }) :
    wpAny (model prog w) A (call (.type "enumerate") [v]) Q E s := by
  refine callType_new F.called_enumerate (by decide) (F.typeCall_enumerate_1 _) (F.newCall_enumerate_1 _) (fun obj => F.args_object_init_2 obj _) F.entry_enumerate_new
    (meets_enumB B) ⟨h1, ?_⟩
  have hz : (s.heap.push o).objs.size = s.heap.objs.size + 1 := Heap.size_push ..
  show _ ∧ _
  rw [hz]
  have he : IsEnum ((s.heap.push o).push { cls := .type "enumerate", data := .fields #[.none, .bool false, .ref s.heap.objs.size, rawInt 0, .none, .none] }) (s.heap.objs.size + 1) s.heap.objs.size 0 .none := by
    have := Heap.get?_push_size (s.heap.push o) (o := { cls := .type "enumerate", data := .fields #[.none, .bool false, .ref s.heap.objs.size, rawInt 0, .none, .none] }) rfl
    rw [hz] at this; exact this
  exact ⟨⟨_, he, rfl⟩, h _ he (Heap.get?_push_of_some _ (Heap.get?_push_size _ B.free)) (by rw [Heap.size_push, hz]) fun b o x => Heap.get?_push_of_some _ (Heap.get?_push_of_some _ x)⟩
def IteB (K : PySem.W.Frag) (t : Bool) (a : Addr) : It :=
  ⟨fun i H => ∃ (xs : List V) (x : V), SqB K t H a xs ∧ xs[i]? = some x, fun i H v H' => ∃ T x, v = .ref T ∧ H T = none ∧ H' = upd H T (.tup [.int (i : Nat), x]) ∧ ∀ xs, SqB K t H a xs → xs[i]? = some x, fun i H => ∃ xs : List V, SqB K t H a xs ∧ xs.length = i⟩
theorem turn_enumB {P : Program} {w : World} {K : PySem.W.Frag} {elts : List Expr} {kk : Nat} {tpos : Pos} {t : Bool} (a e it : Addr) (d1 : a ≠ it) (d2 : e ≠ a) :
    Turn P w K (.Tuple elts kk tpos) (IteB K t a) [e, it] e (fun i h => (∃ old, IsEnum h e it ((i : Nat) : Int) old) ∧ itB t h it a i ∧ e ≠ it) where
  mem := by simp
  obj := fun i h st b hb => by
    obtain ⟨⟨old, he⟩, hi, _⟩ := st
    have e' : b = e ∨ b = it := by simpa using hb
    rcases e' with z | z
    · rw [z]; exact ⟨_, he, fun v q => nomatch q⟩
    · rw [z]; exact hi.live
  keep := fun i h h' st k => let ⟨⟨old, he⟩, hi, hne⟩ := st; ⟨⟨old, k e (by simp) _ he⟩, hi.at fun o q => k it (by simp) o q, hne⟩
  item := by
    intro X hP hw hK hc i pins s σ H E I hf st hg
    subst hP hw hK
    obtain ⟨⟨old, he⟩, hit, hne⟩ := st
    obtain ⟨xs, x, hq, hx⟩ := hg
    obtain ⟨its, rv, p, hz, la⟩ := I.sqB hq
    obtain ⟨v1, hu, ru⟩ := rv.get hx
    have hel : e < s.heap.objs.size := Heap.lt_size he
    have hil : it < s.heap.objs.size := by obtain ⟨_, q, _⟩ := hit.live; exact Heap.lt_size q
    have k1 : i < its.toArray.size := by have := (List.getElem?_eq_some_iff.mp hu).1; simpa using this
    refine wpAny_pyNext_enum_itemC (drawsB (prog := X.prog) (w := X.w) (A := X.A.in1) t (I.ok.hd hc) it a d1 its.toArray) he ⟨hit, p⟩ k1 hne (by simp; exact ⟨hne, d2⟩) fun x1 h' tk y1 ho hit' hT hsz hk => ?_
    have ex1 : x1 = v1 := by simpa [hu, eq_comm] using y1
    subst ex1
    refine ⟨_, rfl, wpAny_letOwnedTupleGo_enum (s := { s with heap := h', toks := tk + 1 }) ho fun h'' he' sb => ?_⟩
    have hT2 : h''.get? s.heap.objs.size = some { cls := .type "tuple", data := .seq #[.int i tk, x1] } := (sb.2 _ (Nat.ne_of_gt hel)).trans hT
    have new : ObjOk X.prog X.w (upd H s.heap.objs.size (.tup [.int (i : Nat), x])) h'' s.heap.objs.size (.tup [.int (i : Nat), x]) :=
      ⟨by show 2 ≤ sizeLine; decide, [.int i tk, x1], .cons ⟨_, rfl⟩ (.cons ru .nil), ⟨_, hT2, rfl, _, rfl⟩⟩
    have I1 : Inv X pins σ (upd H s.heap.objs.size (.tup [.int (i : Nat), x])) { s with heap := h'', toks := tk + 1 } :=
      I.turnedNew (ch := [e, it]) (fun b ob hb q => (sb.2 b (fun z => hb (by simp [z]))).trans (hk b ob (fun z => hb (by simp [z])) (fun z => hb (by simp [z])) q)) hf (Nat.le_refl _) new
    refine ⟨.ref s.heap.objs.size, _, I1, rfl, ⟨_, x, rfl, I.hok.fresh (Nat.le_refl _), rfl, fun ys hy => by rw [I.sqB_inj hy hq]; exact hx⟩, ⟨⟨x1, ?_⟩, hit'.1.at fun o q => (sb.2 it (Ne.symm hne)).trans q, hne⟩, fun b hb => ?_⟩
    · have e1 : ((i + 1 : Nat) : Int) = (i : Int) + 1 := by omega
      rw [e1]; exact he'
    · have hb' : b < s.heap.objs.size := by
        have e' : b = e ∨ b = it := by simpa using hb
        rcases e' with z | z
        · rw [z]; exact hel
        · rw [z]; exact hil
      rw [upd_ne (Nat.ne_of_lt hb')]
      exact (hf b hb).1
  done := by
    intro X hP hw hK hc i pins s σ H E I hf st hg
    subst hP hw hK
    obtain ⟨⟨old, he⟩, hit, hne⟩ := st
    obtain ⟨xs, hq, hx⟩ := hg
    obtain ⟨its, rv, p, hz, la⟩ := I.sqB hq
    have hl := rv.length
    have e0 : i = its.toArray.size := by simp; omega
    subst e0
    exact wpAny_pyNext_enum_endD (drawsB (prog := X.prog) (w := X.w) (A := X.A.in1) t (I.ok.hd hc) it a d1 its.toArray) he ⟨hit, p⟩ fun h' hx => ⟨rfl, I.turnedL (t' := s.toks) (ch := [e, it]) (fun b o hb q => hx b o (fun z => hb (by simp [z])) q) hf⟩
  self := fun A i s Q E st h => let ⟨⟨_, he⟩, _⟩ := st; wpAny_pyIter_enum he h
def iEnumB (K : PySem.W.Frag) (ta : TA) : TI := fun σ H R => ta σ H fun vs H1 => ∃ (t : Bool) (a : Addr) (xs : List V), vs = [.ref a] ∧ SqB K t H1 a xs ∧ R (IteB K t a) H1
theorem pi_enumB {X : Cx} {e : Expr} {ta : TA} {p pos tpos : Pos} {elts : List Expr} {kk : Nat} (hg : Gl X "enumerate") (hm : X.mg "enumerate" = none) (ha : PA X [e] ta) (hs : starEach [e] X.env = [(false, eval e X.env)] := by rfl) :
    PI X (.Tuple elts kk tpos) (.Call (.Name "enumerate" p) [e] [] pos) (iEnumB X.K ta) := by
  refine ⟨fun pins s σ H R I h => ?_⟩
  refine Call_ (ld_blt I hg hm boot_enumerate (PyProof.Rows.callWith_type1 (thn (ha.run pos pins s σ H _ I h) fun us s1 ⟨vs, H1, I1, r1, q1⟩ => ?_) hs rfl))
  obtain ⟨t, a, xs, ex, hq, q⟩ := q1
  subst ex
  cases r1 with
  | cons r rr =>
    cases rr
    cases r
    obtain ⟨its, rv, p', hz, la⟩ := I1.sqB hq
    refine enum_beginsB (beginsB t a its.toArray) p' fun h' he hit hsz hk => wpAny_pyIter_enum he ?_
    have I2 : Inv X pins σ H1 { s1 with heap := h' } := I1.kept (t' := s1.toks) hk
    refine ⟨s1.heap.objs.size + 1, [s1.heap.objs.size + 1, s1.heap.objs.size], _, _, H1, rfl, I2, turn_enumB (t := t) a (s1.heap.objs.size + 1) s1.heap.objs.size (Nat.ne_of_lt la) (Nat.ne_of_gt (Nat.lt_succ_of_lt la)), ⟨⟨.none, he⟩, itB_new hit, Nat.succ_ne_self _⟩, fun b hb => ?_, q⟩
    have e' : b = s1.heap.objs.size + 1 ∨ b = s1.heap.objs.size := by simpa using hb
    have hle : s1.heap.objs.size ≤ b := by
      rcases e' with z | z
      · rw [z]; exact Nat.le_add_right _ _
      · rw [z]; exact Nat.le_refl _
    exact I1.fpOk hle (I1.hok.fresh hle)
theorem walk_enumB {K : PySem.W.Frag} {t : Bool} {a : Addr} {xs : List V} : Walk (IteB K t a) xs.length (fun H => SqB K t H a xs) (YPair (fun i => some (.int (i : Nat))) (fun i => xs[i]?)) := by
  refine ⟨fun i _ hi q => ⟨xs, xs[i], q, by simp [hi]⟩, fun _ q => ⟨xs, q, rfl⟩, fun i H v H' _ q y => ?_⟩
  obtain ⟨T, x, h1, h2, h3, h4⟩ := y
  exact ⟨T, .int (i : Nat), x, h1, h2, h3, rfl, h4 xs q⟩

/-! ### list(zip(a, b)) -/
/-- the pairs tracked at their addresses -/
def putP : Hp → List Addr → List (V × V) → Hp
  | H, a :: as, p :: ps => putP (upd H a (.tup [p.1, p.2])) as ps
  | H, _, _ => H
theorem putP_off {b : Addr} : ∀ (as : List Addr) (ps : List (V × V)) (H : Hp), b ∉ as → putP H as ps b = H b
  | [], _, _, _ => rfl
  | _ :: _, [], _, _ => rfl
  | a :: as, p :: ps, H, h => by
    show putP (upd H a (.tup [p.1, p.2])) as ps b = H b
    rw [putP_off as ps _ (fun z => h (List.mem_cons_of_mem _ z)), upd_ne (fun z => h (by rw [z]; exact List.mem_cons_self))]
theorem putP_at : ∀ (as : List Addr) (ps : List (V × V)) (H : Hp), as.length = ps.length → as.Nodup → Paired (fun (t : Addr) (p : V × V) => putP H as ps t = some (.tup [p.1, p.2])) as ps
  | [], [], _, _, _ => .nil
  | [], _ :: _, _, h, _ => by cases h
  | _ :: _, [], _, h, _ => by cases h
  | a :: as, p :: ps, H, h, hn => by
    have hn' := List.nodup_cons.mp hn
    have ih := putP_at as ps (upd H a (.tup [p.1, p.2])) (Nat.succ.inj h) hn'.2
    refine .cons ?_ ih
    show putP (upd H a (.tup [p.1, p.2])) as ps a = some (.tup [p.1, p.2])
    rw [putP_off as ps _ hn'.1, upd_same]
theorem pairs_laid {X : Cx} {pins : List (Addr × Obj)} {σ : L2.St} {H : Hp} {s : Shared} {h' : Heap} {tk : Nat} {ps : List (V × V)} {acc : Array Value} {c : Nat} {as : List Addr} {q : Addr} (I : Inv X pins σ H s) (hz : ps.length ≤ sizeLine)
    (hk : ∀ b o, s.heap.get? b = some o → h'.get? b = some o) (hq : s.heap.objs.size ≤ q) (hS : h'.get? q = some { cls := .type "list", dict := none, data := .seq acc c, slots := #[] }) (hl : as.length = ps.length) (rise : as.Pairwise (· < ·)) (above : ∀ a ∈ as, q < a)
    (prs : ∀ (j : Nat) (a : Addr), as[j]? = some a → ∃ (p : V × V) (x1 x2 : Value), ps[j]? = some p ∧ RelV p.1 x1 ∧ RelV p.2 x2 ∧ h'.get? a = some { cls := .type "tuple", data := .seq #[x1, x2] }) (hacc : acc.toList = as.map Value.ref) :
    ∃ H' : Hp, (∀ b o, H b = some o → H' b = some o) ∧ H q = none ∧ (∀ t ∈ as, H t = none) ∧ q ∉ as ∧ H' q = some (.lst (as.map V.ref)) ∧ Paired (fun (t : Addr) (p : V × V) => H' t = some (.tup [p.1, p.2])) as ps ∧ Inv X pins σ H' { s with heap := h', toks := tk } := by
  have hSn : q ∉ as := fun z => Nat.lt_irrefl _ (above _ z)
  have nd : as.Nodup := List.Pairwise.imp (fun {a b} (h : a < b) => Nat.ne_of_lt h) rise
  have lo : ∀ t ∈ as, s.heap.objs.size ≤ t := fun t ht => Nat.le_trans hq (Nat.le_of_lt (above t ht))
  have new : ∀ t ∈ as, H t = none := fun t ht => I.hok.fresh (lo t ht)
  have newS : H q = none := I.hok.fresh hq
  have atP := putP_at as ps (upd H q (.lst (as.map V.ref))) hl nd
  have off : ∀ b, b ∉ as → b ≠ q → putP (upd H q (.lst (as.map V.ref))) as ps b = H b := fun b h1 h2 => by rw [putP_off as ps _ h1, upd_ne h2]
  have low : ∀ b o, s.heap.get? b = some o → b ∉ as ∧ b ≠ q := fun b o e => ⟨fun z => absurd (Heap.lt_size e) (Nat.not_lt.mpr (lo b z)), Nat.ne_of_lt (Nat.lt_of_lt_of_le (Heap.lt_size e) hq)⟩
  have kp : ∀ b u, H b = some u → (putP (upd H q (.lst (as.map V.ref))) as ps) b = some u := fun b u e => by
    rw [off b (fun z => by rw [new b z] at e; cases e) (fun z => by rw [z, newS] at e; cases e)]
    exact e
  have eS : putP (upd H q (.lst (as.map V.ref))) as ps q = some (.lst (as.map V.ref)) := by rw [putP_off as ps _ hSn, upd_same]
  refine ⟨putP (upd H q (.lst (as.map V.ref))) as ps, kp, newS, new, hSn, eS, atP, ?_⟩
  refine I.call' (ch := []) rfl ⟨fun b o q _ _ _ => hk b o q, fun b o q _ _ _ => ⟨o.slots, hk b o q⟩, fun b o q n _ => ?_, fun b o q _ => ⟨o, hk b o q⟩, fun b xs q => kp b _ q, fun b o u q => kp b _ q, fun b ps q => ⟨#[], by rw [kp b _ q]; simp⟩⟩ (fun b u g => ?_) I.bare fun b z => by simp at z
  · obtain ⟨z1, z2⟩ := low b o q
    rw [off b z1 z2]
    exact n
  · by_cases hb : b ∈ as
    · obtain ⟨j, pk, e1, e2, e3⟩ := LiI.paired_ix atP hb
      rw [e3] at g
      cases g
      obtain ⟨p, x1, x2, f1, f2, f3, f4⟩ := prs j b e1
      rw [e2] at f1
      cases f1
      exact ⟨by show 2 ≤ sizeLine; decide, [x1, x2], .cons f2 (.cons f3 .nil), ⟨_, f4, rfl, _, rfl⟩⟩
    · by_cases hb2 : b = q
      · rw [hb2] at g ⊢
        rw [eS] at g
        cases g
        refine ⟨by rw [List.length_map]; omega, acc.toList, c, by rw [hacc]; exact LiI.vals_refs as, ?_⟩
        rw [Array.toArray_toList]
        exact hS
      · rw [off b hb hb2] at g
        exact (I.hok b u g).stay (fun d v _ y => hk d v y) (fun d y => kp d _ y) fun d xs y => kp d _ y
def rLz (K : PySem.W.Frag) : List V → Hp → VK → Prop := fun vs H Q => ∃ (t u : Bool) (a b : Addr) (xs ys : List V), vs = [.ref a, .ref b] ∧ SqB K t H a xs ∧ SqB K u H b ys ∧
  ∀ (H' : Hp) (p : Addr) (ts : List Addr), (∀ c o, H c = some o → H' c = some o) → H p = none → (∀ t ∈ ts, H t = none) → p ∉ ts → H' p = some (.lst (ts.map V.ref)) → Paired (fun (t : Addr) (q : V × V) => H' t = some (.tup [q.1, q.2])) ts (xs.zip ys) → Q (.ref p) H'
def tLz (K : PySem.W.Frag) (ta : TA) : TE := fun σ H Q => ta σ H fun vs H1 => rLz K vs H1 Q
theorem pe_listZip {X : Cx} {e e2 : Expr} {ta : TA} {p p2 pos2 pos : Pos} (hc : X.calm = true) (ha : PA X [e, e2] ta) (hg : Gl X "list") (hm : X.mg "list" = none) (hg2 : Gl X "zip") (hm2 : X.mg "zip" = none) (hv : bootBuiltins "list" = some (.type "list") := by rfl)
    (hs2 : starEach [e, e2] X.env = (false, eval e X.env) :: starEach [e2] X.env := by rfl) (hpl2 : (backTo pos2 (starEach [e2] X.env)).any (·.1) = false := by rfl)
    (hs : starEach [.Call (.Name "zip" p2) [e, e2] [] pos2] X.env = (false, eval (.Call (.Name "zip" p2) [e, e2] [] pos2) X.env) :: starEach [] X.env := by rfl) :
    PE X (.Call (.Name "list" p) [.Call (.Name "zip" p2) [e, e2] [] pos2] [] pos) (tLz X.K ta) := by
  refine ⟨fun pins s σ H Q I hq => ?_⟩
  refine wpAny_Call_Name_kw (ld_blt I hg hm hv ?_)
  refine PyProof.Rows.callWith_type1 ?_ hs rfl
  rw [hs]
  show wpAny _ _ (spliced ((false, eval (.Call (.Name "zip" p2) [e, e2] [] pos2) X.env) :: backTo pos (starEach [] X.env))) _ _ s
  refine Calls.spliced_cons ?_
  refine Call_ (ld_blt I hg2 hm2 PyProof.Rows.boot_zip (PyProof.Rows.callWith_type1 (thn (ha.run pos2 pins s σ H _ I hq) fun us s1 ⟨vs, H1, I1, r1, q1⟩ => ?_) hs2 hpl2))
  obtain ⟨t, u, a, b, xs, ys, ex, hqx, hqy, q⟩ := q1
  subst ex
  cases r1 with
  | cons r rr =>
    cases rr with
    | cons r' rr =>
      cases rr
      cases r
      cases r'
      obtain ⟨its, rv, p1, z1, la⟩ := I1.sqB hqx
      obtain ⟨its2, rv2, p2', z2, lb⟩ := I1.sqB hqy
      refine zip_begins2 (beginsB t a its.toArray) (beginsB u b its2.toArray) p1 p2' fun h' hz hTI hTO g1 g2 hsz hk => ?_
      have sep := zip_sep2 (N := s1.heap.objs.size) (fp1 := [a]) (fp2 := [b]) (fun b' hb => by rw [List.mem_singleton.mp hb]; exact la) (fun b' hb => by rw [List.mem_singleton.mp hb]; exact lb)
      have l1 := rv.length
      have l2 := rv2.length
      have s1' : its.toArray.size = its.length := by simp
      have s2' : its2.toArray.size = its2.length := by simp
      refine Calls.spliced_nil ?_
      have N := hsz
      have lt1 : ∀ b' ∈ [s1.heap.objs.size, a], b' < h'.objs.size := fun b' hb => by
        rcases List.mem_cons.mp hb with e | hb
        · rw [e, hsz]; exact Nat.lt_add_of_pos_right (by decide : 0 < 5)
        · rw [List.mem_singleton.mp hb, hsz]; exact Nat.lt_of_lt_of_le la (Nat.le_add_right _ _)
      have lt2 : ∀ b' ∈ [s1.heap.objs.size + 1, b], b' < h'.objs.size := fun b' hb => by
        rcases List.mem_cons.mp hb with e | hb
        · rw [e, hsz]; exact Nat.add_lt_add_left (by decide : 1 < 5) _
        · rw [List.mem_singleton.mp hb, hsz]; exact Nat.lt_of_lt_of_le lb (Nat.le_add_right _ _)
      have k1 : seqAtB t h' a its.toArray := (beginsB t a its.toArray).keeps _ _ p1 hk
      have k2 : seqAtB u h' b its2.toArray := (beginsB u b its2.toArray).keeps _ _ p2' hk
      refine Lz.zl_call (s := { s1 with heap := h' }) (fp1 := [s1.heap.objs.size, a]) (fp2 := [s1.heap.objs.size + 1, b]) sep (fun A' hh => drawsB t hh _ a (Nat.ne_of_lt la) its.toArray) (fun A' hh => drawsB u hh _ b (Nat.ne_of_lt (Nat.lt_succ_of_lt lb)) its2.toArray) (I1.ok.hd hc) (by omega) lt1 lt2 hz hTI ⟨_, _, hTO⟩ ⟨itB_new g1, k1⟩ ⟨itB_new g2, k2⟩ fun h'' tk acc c as hk' hS hl hG hacc => ?_
      have old : ∀ b' o, s1.heap.get? b' = some o → h''.get? b' = some o := fun b' o e => by
        have lt := Heap.lt_size e
        exact hk' b' o (Nat.ne_of_lt (Nat.lt_of_lt_of_le lt (Nat.le_add_right _ _))) (Nat.ne_of_lt (Nat.lt_of_lt_of_le lt (Nat.le_add_right _ _))) (Nat.ne_of_lt lt) (Nat.ne_of_lt (Nat.lt_of_lt_of_le lt (Nat.le_add_right _ _))) (hk b' o e)
      have lz : (xs.zip ys).length = min xs.length ys.length := List.length_zip
      have prs : ∀ (j : Nat) (a' : Addr), as[j]? = some a' → ∃ (p : V × V) (x1 x2 : Value), (xs.zip ys)[j]? = some p ∧ RelV p.1 x1 ∧ RelV p.2 x2 ∧ h''.get? a' = some { cls := .type "tuple", data := .seq #[x1, x2] } := fun j a' hj => by
        obtain ⟨x1, x2, y1, y2, y3⟩ := hG.pairs j a' hj
        have hx : its[j]? = some x1 := by simpa using y1
        have hy : its2[j]? = some x2 := by simpa using y2
        have j1 : j < xs.length := by have := (List.getElem?_eq_some_iff.mp hx).1; omega
        have j2 : j < ys.length := by have := (List.getElem?_eq_some_iff.mp hy).1; omega
        obtain ⟨w1, e1, r1⟩ := rv.get (List.getElem?_eq_getElem j1)
        obtain ⟨w2, e2, r2⟩ := rv2.get (List.getElem?_eq_getElem j2)
        rw [hx] at e1
        rw [hy] at e2
        cases e1
        cases e2
        exact ⟨(xs[j], ys[j]), x1, x2, by rw [List.getElem?_eq_getElem (by omega)]; simp, r1, r2, y3⟩
      obtain ⟨H', f1, f2, f3, f4, f5, f6, J⟩ := pairs_laid (tk := tk) (ps := xs.zip ys) I1 (by omega) old (by show s1.heap.objs.size ≤ h'.objs.size; omega) hS (by rw [hl]; omega) hG.rise hG.above prs hacc
      exact ⟨.ref _, H', J, rfl, q H' _ as f1 f2 f3 f4 f5 f6⟩
end L2
set_option maxRecDepth 100000
namespace L2
open PySem PySem.Spec PyProof.Rows
/-! defs f(a, *r), their calls -/
theorem cxNew {P : Program} {w : World} : CXNew (L2.CX P w) := fun outer s H h2 p rest E e s' kp hle hn h =>
  StX.cxUp outer s H { s with heap := h2 } _ E e s' (Un.laid kp hle hn) kp rfl h
/-- how f(a, *r) binds -/
def BindV (fd : FuncData) (pa pv : Str) (n : Nat) : Prop := ∀ (u : Value) (rest : List Value), rest.length ≤ n → bindArgs fd ⟨u :: rest, []⟩ = (newTuple rest >>= fun t => pure [(pa, u), (pv, t)])
section
variable {P : Program} {w : World} {K : PySem.W.Frag} {mg : Str → Option Value} {base : Heap}
/-- THE RULE for a def with a star parameter -/
theorem Fun.okV {x qual : Str} {st : Stmt} {f : Addr} {fd : FuncData} {N : List Str} {pa pv : Str} {k n : Nat} {sp : Sp} (F : Fun K x qual st f fd) (S : FnScope N [pa, pv] (defScope st)) (hb : BindV fd pa pv n) (hn : n ≤ 5)
    (hbody : ∀ (cdv : Value) (A : Around) (outer : List Env) (s : Shared) (H : Hp) (vs : List V) (Q : VK) (E : XK), Room k (A.deeper (envOfC qual (defScope st) s.heap.objs.size f cdv)) → sp vs H Q E →
      ∃ t, PSs (cxOf (L2.CX P w) P w K mg base N qual (defScope st) f cdv A outer s H E) (defBody st) t ∧ t { nx := fun _ H' => Q .non H', rt := Q } (start N vs) H) :
    FnR P w K mg base (L2.CX P w) (k + 1) f (fun vs H Q E => ∃ v rest, vs = v :: rest ∧ rest.length ≤ n ∧ ∀ p, H p = none → sp [v, .ref p] (upd H p (.tup rest)) Q E) := by
  obtain ⟨oc, od, kV, doc, pm, an, cdv, ct, osl, rfl, lk, hcd⟩ := F.ex
  exact fn_ofV lk hcd S (Nat.le_trans hn (by decide)) hb cxNew fun A outer s H vs Q E hr hsp => hbody cdv A outer s H vs Q E hr hsp
end
section
variable {X : Cx} {CX : CXT} {k : Nat} {C f : Addr} {m : Str} {sp : Sp} {E : XK} {o : Expr} {ta : TE} {apos pos : Pos} {pl : Sem Bool}
/-- o.m() by a positional promise -/
theorem pe_methR0 (he : PE X o ta) (c : Cls X.K C) (hm : Meth X.K C m f) (F : FnR X.prog X.w X.K X.mg X.base CX k f sp) (hr : Room k X.A) (hx : Passes CX X E)
    (ht : eval (.Call (.Attribute o m apos) [] [] pos) X.env = (do
      let ov ← eval o X.env
      standAt apos.atName
      let (f, first) ← holding [ov] (getMethod ov m pl)
      callWith pos f first (backTo pos (starEach [] X.env)) (backToKw pos (keywordEach [] X.env))) := by rfl) :
    PE X (.Call (.Attribute o m apos) [] [] pos) (tMethR C m sp E ta tNil) := by
  refine ⟨fun pins s σ H Q I h => ?_⟩
  refine PySem.W.methodCall_KW (pl := pl) (thn (he.run pins s σ H _ I h) fun u s1 ⟨x, H1, I1, rx, a, dx, fs, ex, ea, l, q⟩ => ?_) ht
  subst ex
  obtain rfl : u = Value.ref a := rx
  refine getmeth_ok I1 ea c hm l ?_
  exact PySem.W.callWith_K0 (first := [.ref a]) I1.kIn hm.kp (wpAny_call (run_fnR (us := [.ref a]) (vs := [.ref a]) F hr hx I1 (.cons rfl .nil) q))
end
end L2
set_option maxRecDepth 100000
namespace Toy
open PySem L2
/-! banks as rows of parts -/
abbrev s_parts_of : Stmt := top 12
abbrev s_bank_with : Stmt := top 13
abbrev s_bank_sum : Stmt := top 14
def partsI : List Int → Int → List Int
  | [], _ => []
  | n :: ns, b => b % n :: partsI ns (b / n)
def bankI : List Int → List Int → Int
  | n :: ns, p :: ps => bankI ns ps * n + p
  | _, _ => 0
def colI (ns bs ts : List Int) (k : Nat) : Int := ((ts.zip bs).map fun p => p.1 * (partsI ns p.2).getD k 0).sum % ns.getD k 1
def sumsI (ns bs ts : List Int) : List Int := (List.range ns.length).map (colI ns bs ts)
def Mods (ns : List Int) : Prop := ns.length ≤ 5 ∧ ∀ n ∈ ns, 2 ≤ n ∧ n ≤ 32
theorem partsI_len : ∀ (ns : List Int) (b : Int), (partsI ns b).length = ns.length
  | [], _ => rfl
  | _ :: ns, b => congrArg (· + 1) (partsI_len ns _)
theorem partsI_snoc (n : Int) : ∀ (ns : List Int) (b : Int), partsI (ns ++ [n]) b = partsI ns b ++ [(ns.foldl (· / ·) b) % n]
  | [], _ => rfl
  | m :: ns, b => congrArg (b % m :: ·) (partsI_snoc n ns (b / m))
theorem partsI_at : ∀ {ns : List Int} {b : Int} {k : Nat} {y : Int}, (∀ n ∈ ns, 2 ≤ n ∧ n ≤ 32) → (partsI ns b)[k]? = some y → ∃ n, ns[k]? = some n ∧ 0 ≤ y ∧ y < n
  | [], _, _, _, _, h => by cases h
  | n :: ns, b, 0, y, hn, h => by
    obtain rfl := Option.some.inj h
    have := hn n (.head _)
    exact ⟨n, rfl, Int.emod_nonneg _ (by omega), Int.emod_lt_of_pos _ (by omega)⟩
  | n :: ns, b, k + 1, y, hn, h => partsI_at (ns := ns) (b := b / n) (fun m hm => hn m (.tail _ hm)) h
theorem bankI_foldr : ∀ (ns ps : List Int), (ns.zip ps).foldr (fun p b => b * p.1 + p.2) 0 = bankI ns ps
  | [], _ => rfl
  | _ :: _, [] => rfl
  | n :: ns, p :: ps => congrArg (· * n + p) (bankI_foldr ns ps)
theorem paired_rev {α β : Type} {F : α → β → Prop} {xs : List α} {ys : List β} (h : PySem.Paired F xs ys) {i : Nat} {x : α} (e : xs.reverse[i]? = some x) : ∃ y, ys.reverse[i]? = some y ∧ F x y := by
  have l : xs.length = ys.length := h.length
  have hi : i < xs.length := by
    have := (List.getElem?_eq_some_iff.mp e).1
    rwa [List.length_reverse] at this
  rw [List.getElem?_reverse hi] at e
  obtain ⟨y, e2, f⟩ := LiI.paired_get h e
  exact ⟨y, by rw [List.getElem?_reverse (by omega), ← l]; exact e2, f⟩
/-- rows of parts of banks, each a tuple -/
def RowsP (ns : List Int) (G : Hp) : List V → List Int → Prop
  | [], [] => True
  | v :: vs, b :: bs => (∃ q, v = .ref q ∧ G q = some (.tup ((partsI ns b).map V.int))) ∧ RowsP ns G vs bs
  | _, _ => False
theorem RowsP.move {ns : List Int} {G G' : Hp} (st : ∀ q xs, G q = some (.tup xs) → G' q = some (.tup xs)) : ∀ {vs : List V} {bs : List Int}, RowsP ns G vs bs → RowsP ns G' vs bs
  | [], [], _ => trivial
  | _ :: _, _ :: _, ⟨⟨q, e, h⟩, r⟩ => ⟨⟨q, e, st _ _ h⟩, r.move st⟩
theorem RowsP.snoc {ns : List Int} {G : Hp} {q : Addr} {b : Int} (h : G q = some (.tup ((partsI ns b).map V.int))) : ∀ {vs : List V} {bs : List Int}, RowsP ns G vs bs → RowsP ns G (vs ++ [.ref q]) (bs ++ [b])
  | [], [], _ => ⟨⟨q, rfl, h⟩, trivial⟩
  | _ :: _, _ :: _, ⟨x, r⟩ => ⟨x, r.snoc h⟩
theorem RowsP.at {ns : List Int} {G : Hp} : ∀ {vs : List V} {bs : List Int} {i : Nat} {v : V}, RowsP ns G vs bs → vs[i]? = some v → ∃ b q, bs[i]? = some b ∧ v = .ref q ∧ G q = some (.tup ((partsI ns b).map V.int))
  | [], [], _, _, _, h => by cases h
  | _ :: _, _ :: _, 0, _, ⟨⟨q, e, x⟩, _⟩, h => ⟨_, q, rfl, by rw [← Option.some.inj h]; exact e, x⟩
  | _ :: _, _ :: _, i + 1, _, ⟨_, r⟩, h => RowsP.at (i := i) r h
theorem RowsP.len {ns : List Int} {G : Hp} : ∀ {vs : List V} {bs : List Int}, RowsP ns G vs bs → vs.length = bs.length
  | [], [], _ => rfl
  | _ :: _, _ :: _, ⟨_, r⟩ => congrArg (· + 1) r.len
def spPartsOf : Sp := fun vs H Q _ => ∃ (a : Addr) (ns : List Int) (b : Int), vs = [.ref a, .int b] ∧ H a = some (.tup (ns.map V.int)) ∧ Mods ns ∧ ∀ q H', Same H H' → H' q = some (.tup ((partsI ns b).map V.int)) → Q (.ref q) H'
def spBankWith : Sp := fun vs H Q _ => ∃ (a c : Addr) (ns ps : List Int), vs = [.ref a, .ref c] ∧ H a = some (.tup (ns.map V.int)) ∧ SeqAt H c (ps.map V.int) ∧ Mods ns ∧ ∀ H', Same H H' → Q (.int (bankI ns ps)) H'
def spBankSum : Sp := fun vs H Q _ => ∃ (a c t : Addr) (ns bs ts : List Int), vs = [.ref a, .ref c, .ref t] ∧ H a = some (.tup (ns.map V.int)) ∧ H c = some (.tup (bs.map V.int)) ∧ SeqAt H t (ts.map V.int) ∧ Mods ns ∧ bs.length = ts.length ∧ bs.length ≤ 600 ∧
  ∀ H', Same H H' → Q (.int (bankI ns (sumsI ns bs ts))) H'
section
variable {P : Program} {w : World} {K : PySem.W.Frag} {mg : Str → Option Value} {base : Heap}
theorem seqB_of {H : Hp} {a : Addr} {xs : List V} (h : SeqAt H a xs) : ∃ t, SqB K t H a xs := h.elim (fun z => ⟨false, SqB.lst z⟩) fun z => ⟨true, SqB.tup z⟩
theorem seqB_all {H : Hp} {a : Addr} {xs : List V} (h : SeqAt H a xs) : ∃ t, ∀ H', Same H H' → SqB K t H' a xs := h.elim (fun z => ⟨false, fun _ s => SqB.lst (s _ _ z)⟩) fun z => ⟨true, fun _ s => SqB.tup (s _ _ z)⟩
theorem SqB.but {t : Bool} {p : Addr} {H H' : Hp} {a : Addr} {xs : List V} (h : H a = some (.lst xs) ∨ H a = some (.tup xs)) (s : Same H H') : SeqAt H' a xs := h.elim (fun z => .inl (s _ _ z)) fun z => .inr (s _ _ z)
theorem sc_parts_of : FnScope ["moduli", "bank", "parts", "left", "modulus"] ["moduli", "bank"] (defScope s_parts_of) := ⟨rfl, rfl, rfl, by decide +kernel, rfl, by decide +kernel, by decide +kernel⟩
theorem ok_parts_of {f : Addr} {fd : FuncData} (F : Fun K "parts_of" "parts_of" s_parts_of f fd) (T : TR mg) : FnOk P w K mg base CX0 1 f fd ["moduli", "bank"] spPartsOf := by
  refine F.ok sc_parts_of (fun vs H Q E h => ?_) (fun cdv A outer s H vs Q E hr h => ?_)
  · obtain ⟨a, ns, b, rfl, _⟩ := h
    rfl
  · obtain ⟨a, ns, b, rfl, ha, ⟨l5, hm⟩, k⟩ := h
    refine ⟨_, (pss_cons (ps_set (i := 2) sc_parts_of.nd rfl (Or.inl rfl) (pe_lst pa_nil))
 (pss_cons (ps_set (i := 3) sc_parts_of.nd rfl (Or.inl rfl) (pv 1))
 (pss_cons (ps_for PassesOwn.never rfl (pi_seq (pv 0)) (pg_name (i := 4) sc_parts_of.nd rfl (Or.inl rfl))
 (pss_cons (ps_expr (pe_bm PySem.F.plainAttrs_list PySem.F.slot_list_append PySem.F.type_list_append mt_append (pv 2) (pa_cons (pe_op op_mod (pv 3) (pv 4)) pa_nil)))
 (pss_one (ps_set (i := 3) sc_parts_of.nd rfl (Or.inl rfl) (pe_op op_fdiv (pv 3) (pv 4))))))
 (pss_one (ps_ret (pe_callTy call_tupP (by rfl) T.m_tuple (by decide +kernel) (pa_cons (pv 2) pa_nil))))))), ?_⟩
    refine ⟨(by show 0 ≤ PySem.sizeLine; decide), fun D hD => ?_⟩
    have nD : a ≠ D := ne_of_none ha hD
    refine ⟨_, rfl, _, rfl, a, _, rfl, .inr ⟨SqT.of (by rw [upd_ne nD]; exact ha), for_it (walk_tup (xs := ns.map V.int)) (fun i σ G => ∃ u, σ = [some (.ref a), some (.int b), some (.ref D), some (.int ((ns.take i).foldl (· / ·) b)), u] ∧ G = upd H D (.lst ((partsI (ns.take i) b).map V.int))) ⟨none, rfl, rfl⟩ ?_ ?_ ?_⟩⟩
    · rintro i σ G _ ⟨u, rfl, rfl⟩
      exact SqT.of (by rw [upd_ne nD]; exact ha)
    · rintro i x σ G G' hi ⟨u, rfl, rfl⟩ ⟨rfl, hx⟩
      rw [List.getElem?_map] at hx
      obtain ⟨n, hn, rfl⟩ := Option.map_eq_some_iff.mp hx
      obtain ⟨n2, n32⟩ := hm n (List.mem_of_getElem? hn)
      have li : i < ns.length := (List.getElem?_eq_some_iff.mp hn).1
      have e1 : ns.take (i + 1) = ns.take i ++ [n] := by rw [List.take_add_one, hn]; rfl
      refine ⟨_, rfl, .inl ⟨rfl, _, SqL.of upd_same⟩, _, rfl, _, rfl, _, _, rfl, rfl, (by show (0 : Int) < n; omega), D, _, _, rfl, rfl, upd_same, small1000 (by rw [List.length_map, partsI_len, List.length_take]; omega), ?_⟩
      refine ⟨_, rfl, _, rfl, _, _, rfl, rfl, ⟨by omega, by omega⟩, some (.int n), ?_, ?_⟩
      · rw [e1, List.foldl_append]
        rfl
      · rw [upd_upd, e1, partsI_snoc, List.map_append]
        rfl
    · rintro σ G ⟨u, rfl, rfl⟩
      rw [show (ns.map V.int).length = ns.length from List.length_map .., List.take_length]
      refine ⟨_, rfl, D, _, rfl, .inl upd_same, fun q H' s e => ?_⟩
      exact k q H' (fun _ _ z => s _ _ (Same.lay hD _ _ z)) e
theorem zip_map_ints (ns ps : List Int) : (ns.map V.int).zip (ps.map V.int) = (ns.zip ps).map fun p => (V.int p.1, V.int p.2) := by
  induction ns generalizing ps with
  | nil => rfl
  | cons n ns ih =>
    cases ps with
    | nil => rfl
    | cons p ps => exact congrArg ((V.int n, V.int p) :: ·) (ih ps)
theorem sc_bank_with : FnScope ["moduli", "parts", "bank", "modulus", "part"] ["moduli", "parts"] (defScope s_bank_with) := ⟨rfl, rfl, rfl, by decide +kernel, rfl, by decide +kernel, by decide +kernel⟩
theorem ok_bank_with {f : Addr} {fd : FuncData} (F : Fun K "bank_with" "bank_with" s_bank_with f fd) (T : TR mg) : FnOk P w K mg base CX0 1 f fd ["moduli", "parts"] spBankWith := by
  refine F.ok sc_bank_with (fun vs H Q E h => ?_) (fun cdv A outer s H vs Q E hr h => ?_)
  · obtain ⟨a, c, ns, ps, rfl, _⟩ := h
    rfl
  · obtain ⟨a, c, ns, ps, rfl, ha, hc, ⟨l5, hm⟩, k⟩ := h
    obtain ⟨t, hB⟩ := seqB_of (K := K) hc
    refine ⟨_, (pss_cons (ps_set (i := 2) sc_bank_with.nd rfl (Or.inl rfl) pe_int)
 (pss_cons (ps_for PassesOwn.never rfl (pi_list (pe_revL (pe_listZip rfl (pa_cons (pv 0) (pa_cons (pv 1) pa_nil)) (by rfl) T.m_list (by rfl) T.m_zip))) (pg_tup rfl (pgs_cons (pg_name (i := 3) sc_bank_with.nd rfl (Or.inl rfl)) (pgs_cons (pg_name (i := 4) sc_bank_with.nd rfl (Or.inl rfl)) pgs_nil)))
 (pss_one (ps_set (i := 2) sc_bank_with.nd rfl (Or.inl rfl) (pe_op op_add (pe_op op_mul (pv 2) (pv 3)) (pv 4)))))
 (pss_one (ps_ret (pv 2))))), ?_⟩
    refine ⟨_, rfl, _, rfl, true, t, a, c, _, _, rfl, SqB.tup ha, hB, fun G L ts sG nL nT nLT eL eP => ⟨L, _, rfl, SqL.of eL, fun R hR => ⟨R, rfl, ⟨_, SqL.of upd_same⟩, ?_⟩⟩⟩
    rw [zip_map_ints] at eP
    have nTR : ∀ {T : Addr} {o : HO}, G T = some o → (upd G R (.lst (ts.map V.ref).reverse)) T = some o := fun {T o} e => by rw [upd_ne (ne_of_none e hR)]; exact e
    have lT : ts.length = (ns.zip ps).length := by rw [eP.length, List.length_map]
    refine for_it (walk_list (xs := (ts.map V.ref).reverse)) (fun i σ G' => ∃ u v, σ = [some (.ref a), some (.ref c), some (.int (((ns.zip ps).reverse.take i).foldl (fun b p => b * p.1 + p.2) 0)), u, v] ∧ G' = upd G R (.lst (ts.map V.ref).reverse)) ⟨none, none, rfl, rfl⟩ ?_ ?_ ?_
    · rintro i σ G' _ ⟨u, v, rfl, rfl⟩
      exact SqL.of upd_same
    · rintro i x σ G' G'' hi ⟨u, v, rfl, rfl⟩ ⟨rfl, hx⟩
      rw [← List.map_reverse, List.getElem?_map] at hx
      obtain ⟨T', hT', rfl⟩ := Option.map_eq_some_iff.mp hx
      obtain ⟨q, hq, eT⟩ := paired_rev eP hT'
      rw [← List.map_reverse, List.getElem?_map] at hq
      obtain ⟨⟨n, p⟩, hnp, rfl⟩ := Option.map_eq_some_iff.mp hq
      have mem : (n, p) ∈ ns.zip ps := List.mem_reverse.mp (List.mem_of_getElem? hnp)
      obtain ⟨n2, n32⟩ := hm n (List.of_mem_zip mem).1
      have e1 : (ns.zip ps).reverse.take (i + 1) = (ns.zip ps).reverse.take i ++ [(n, p)] := by rw [List.take_add_one, hnp]; rfl
      refine ⟨T', _, rfl, SqT.of (nTR eT), rfl, _, _, rfl, _, _, rfl, rfl, ?_⟩
      refine ⟨_, rfl, _, rfl, _, _, rfl, rfl, .inr ⟨by omega, by omega⟩, _, rfl, _, _, rfl, rfl, some (.int n), some (.int p), ?_, rfl⟩
      rw [e1, List.foldl_append]
      rfl
    · rintro σ G' ⟨u, v, rfl, rfl⟩
      have e2 : (ns.zip ps).reverse.take (ts.map V.ref).reverse.length = (ns.zip ps).reverse := List.take_of_length_le (by rw [List.length_reverse, List.length_reverse, List.length_map, lT]; exact Nat.le_refl _)
      rw [e2, List.foldl_reverse, bankI_foldr]
      exact ⟨_, rfl, k _ (fun _ _ z => Same.lay hR _ _ (sG _ _ z))⟩
abbrev N_bank_sum : List Str := ["moduli", "banks", "times", "rows", "bank", "sums", "at", "modulus", "many", "parts"]
theorem sc_bank_sum : FnScope N_bank_sum ["moduli", "banks", "times"] (defScope s_bank_sum) := ⟨rfl, rfl, rfl, by decide +kernel, rfl, by decide +kernel, by decide +kernel⟩
theorem ok_bank_sum {f fPa fBw : Addr} {fd fdPa fdBw : FuncData} (F : Fun K "bank_sum" "bank_sum" s_bank_sum f fd) (T : TR mg)
    (FPa : Fun K "parts_of" "parts_of" s_parts_of fPa fdPa) (gPa : mg "parts_of" = some (.ref fPa)) (bPa : Binds K fdPa ["moduli", "bank"] [])
    (FBw : Fun K "bank_with" "bank_with" s_bank_with fBw fdBw) (gBw : mg "bank_with" = some (.ref fBw)) (bBw : Binds K fdBw ["moduli", "parts"] []) : FnOk P w K mg base CX0 2 f fd ["moduli", "banks", "times"] spBankSum := by
  have GPa : FnOk P w K mg base CX0 1 fPa fdPa ["moduli", "bank"] spPartsOf := ok_parts_of FPa T
  have GBw : FnOk P w K mg base CX0 1 fBw fdBw ["moduli", "parts"] spBankWith := ok_bank_with FBw T
  have kPa := FPa.kp
  have kBw := FBw.kp
  refine F.ok sc_bank_sum (fun vs H Q E h => ?_) (fun cdv A outer s H vs Q E hrQ h => ?_)
  · obtain ⟨a, c, t, ns, bs, ts, rfl, _⟩ := h
    rfl
  · obtain ⟨a, c, t, ns, bs, ts, rfl, ha, hc, ht, hM, hl, h600, k⟩ := h
    refine ⟨_, (pss_cons (ps_setLc (i := 3) (own := [("bank", 4)]) (g := (gName 4)) (tt := tYes) rfl sc_bank_sum.nd rfl rfl (sw_true rfl rfl rfl (by decide +kernel)) (pi_seq (pv 1)) (blkOk_by (N := N_bank_sum) (sc := defScope s_bank_sum) (by decide +kernel)) (fun _ _ _ _ _ => (pg_name (i := 4) sc_bank_sum.nd rfl (Or.inl rfl))) (fun _ _ _ _ _ => pts_nil) (fun _ _ _ _ _ => (pe_call GPa hrQ rfl gPa kPa bPa .nil pass0 (pa_cons (pv 0) (pa_cons (pv 4) pa_nil)))))
 (pss_cons (ps_set (i := 5) sc_bank_sum.nd rfl (Or.inl rfl) (pe_lst pa_nil))
 (pss_cons (ps_for PassesOwn.never rfl (pi_enumB (by rfl) T.m_enumerate (pa_cons (pv 0) pa_nil)) (pg_tup rfl (pgs_cons (pg_name (i := 6) sc_bank_sum.nd rfl (Or.inr rfl)) (pgs_cons (pg_name (i := 7) sc_bank_sum.nd rfl (Or.inl rfl)) pgs_nil)))
 (pss_one (ps_expr (pe_bm PySem.F.plainAttrs_list PySem.F.slot_list_append PySem.F.type_list_append mt_append (pv 5) (pa_cons (pe_op op_mod (pe_callB (cr_sum rfl) (by rfl) T.m_sum (by decide +kernel) (pa_cons (pe_lc (own := [("many", 8), ("parts", 9)]) (g := (gTup K 2 (gCons (gName 8) (gCons (gName 9) gNil)))) (tt := tYes) rfl sc_bank_sum.nd (pi_zipB (by rfl) T.m_zip (pa_cons (pv 2) (pa_cons (pv 3) pa_nil))) (blkOk_by (N := N_bank_sum) (sc := defScope s_bank_sum) (by decide +kernel)) (fun _ _ _ _ _ => (pg_tup rfl (pgs_cons (pg_name (i := 8) sc_bank_sum.nd rfl (Or.inl rfl)) (pgs_cons (pg_name (i := 9) sc_bank_sum.nd rfl (Or.inl rfl)) pgs_nil)))) (fun _ _ _ _ _ => pts_nil) (fun _ _ _ _ _ => (pe_op op_mul (pv 8) (pe_ix (show IxR _ (rIxT K) from ix_tup) (pv 9) (pv 6) (fun _ _ => rfl))))) pa_nil)) (pv 7)) pa_nil)))))
 (pss_one (ps_ret (pe_call GBw hrQ rfl gBw kBw bBw .nil pass0 (pa_cons (pv 0) (pa_cons (pv 5) pa_nil)))))))), ?_⟩
    obtain ⟨l5, hm⟩ := id hM
    refine ⟨_, rfl, c, _, rfl, .inr ⟨SqT.of hc, fun D hD => ?_⟩⟩
    have nb : ∀ {b : Addr} {o u : HO}, H b = some o → (upd H D u) b = some o := fun {b o u} e => by rw [upd_ne (ne_of_none e hD)]; exact e
    refine lc_it (walk_tup (xs := bs.map V.int)) (fun i G => ∃ rs, But D (upd H D (.lst [])) G ∧ G D = some (.lst rs) ∧ RowsP ns G rs (bs.take i)) ⟨[], But.refl _ _, upd_same, trivial⟩ ?_ ?_ ?_
    · rintro i G _ ⟨rs, bt, _⟩
      exact SqT.of (bt _ _ (ne_of_none hc hD) (nb hc))
    · rintro i x G G' hi ⟨rs, bt, hG, hR⟩ ⟨rfl, hx⟩
      rw [List.getElem?_map] at hx
      obtain ⟨b, hb, rfl⟩ := Option.map_eq_some_iff.mp hx
      have li : i < bs.length := (List.getElem?_eq_some_iff.mp hb).1
      have haG : G' a = some (.tup (ns.map V.int)) := bt _ _ (ne_of_none ha hD) (nb ha)
      refine ⟨rfl, _, rfl, _, rfl, a, ns, b, rfl, haG, hM, fun q G1 s1 e1 => ⟨rs, s1 _ _ hG, small1000 (by rw [hR.len, List.length_take]; omega), rs ++ [.ref q], (bt.trans (But.of s1)).put, upd_same, ?_⟩⟩
      rw [List.take_add_one, hb]
      exact ((hR.move fun _ _ z => s1 _ _ z).snoc e1).move fun p xs z => by
        rw [upd_ne (fun y => by rw [y, s1 _ _ hG] at z; cases z)]
        exact z
    · rintro G ⟨rs, bt, hG, hR⟩
      rw [List.length_map, List.take_length] at hR
      have sG : Same H G := fun b o e => bt b o (ne_of_none e hD) (nb e)
      have haG := sG _ _ ha
      refine ⟨(by show 0 ≤ PySem.sizeLine; decide), fun D2 hD2 => ?_⟩
      have n2 : ∀ {b : Addr} {o u : HO}, G b = some o → (upd G D2 u) b = some o := fun {b o u} e => by rw [upd_ne (ne_of_none e hD2)]; exact e
      refine ⟨_, rfl, true, a, _, rfl, SqB.tup (n2 haG), for_it (walk_enumB (xs := ns.map V.int)) (fun i σ G' => ∃ u v, σ = [some (.ref a), some (.ref c), some (.ref t), some (.ref D), none, some (.ref D2), u, v, none, none] ∧ But D2 (upd G D2 (.lst [])) G' ∧ G' D2 = some (.lst (((List.range i).map (colI ns bs ts)).map V.int))) ⟨none, none, rfl, But.refl _ _, upd_same⟩ ?_ ?_ ?_⟩
      · rintro i σ G' _ ⟨u, v, rfl, b2, _⟩
        exact SqB.tup (b2 _ _ (ne_of_none haG hD2) (n2 haG))
      · rintro i x σ G1 G1' hi ⟨u, v, rfl, b2, hS⟩ ⟨T1, y0, n0, rfl, hT1, rfl, e0, hn0⟩
        obtain rfl := Option.some.inj e0
        replace hn0 : (ns.map V.int)[i]? = some n0 := hn0
        rw [List.getElem?_map] at hn0
        obtain ⟨n, hn, rfl⟩ := Option.map_eq_some_iff.mp hn0
        obtain ⟨g2, g32⟩ := hm n (List.mem_of_getElem? hn)
        have li : i < ns.length := (List.getElem?_eq_some_iff.mp hn).1
        refine ⟨T1, _, rfl, SqT.of upd_same, rfl, _, _, rfl, _, _, rfl, rfl, ?_⟩
        have b2' : But D2 (upd G D2 (.lst [])) (upd G1 T1 (.tup [.int (i : Nat), .int n])) := b2.new hT1
        have hS2 : (upd G1 T1 (.tup [.int (i : Nat), .int n])) D2 = some (.lst (((List.range i).map (colI ns bs ts)).map V.int)) := by rw [upd_ne (ne_of_none hS hT1)]; exact hS
        generalize upd G1 T1 (.tup [.int (i : Nat), .int n]) = G2 at b2' hS2 ⊢
        have inG : ∀ {b : Addr} {o : HO}, G b = some o → G2 b = some o := fun {b o} e => b2' _ _ (ne_of_none e hD2) (n2 e)
        obtain ⟨tT, hT⟩ := seqB_all (K := K) ht
        refine ⟨_, rfl, .inl ⟨rfl, _, SqL.of hS2⟩, _, rfl, _, rfl, tT, false, t, D, _, _, rfl, hT _ (fun _ _ z => inG (sG _ _ z)), SqB.lst (inG hG), fun D3 hD3 => ?_⟩
        have n3 : ∀ {b : Addr} {o u : HO}, G2 b = some o → (upd G2 D3 u) b = some o := fun {b o u} e => by rw [upd_ne (ne_of_none e hD3)]; exact e
        have lr := hR.len
        refine lc_it (walk_zipB (xs := ts.map V.int) (ys := rs) rfl) (fun j G3 => But D3 (upd G2 D3 (.lst [])) G3 ∧ G3 D3 = some (.lst ((((ts.zip bs).take j).map fun p => p.1 * (partsI ns p.2).getD i 0).map V.int))) ⟨But.refl _ _, upd_same⟩ ?_ ?_ ?_
        · rintro j G3 _ ⟨b3, _⟩
          exact ⟨hT _ (fun _ _ z => b3 _ _ (ne_of_none (inG (sG _ _ z)) hD3) (n3 (inG (sG _ _ z)))), SqB.lst (b3 _ _ (ne_of_none (inG hG) hD3) (n3 (inG hG)))⟩
        · rintro j x G3 G3' hj ⟨b3, hL3⟩ ⟨T2, y1, y2, rfl, hT2, rfl, h1, h2⟩
          replace h1 : (ts.map V.int)[j]? = some y1 := h1
          replace h2 : rs[j]? = some y2 := h2
          rw [List.getElem?_map] at h1
          obtain ⟨m, hm1, rfl⟩ := Option.map_eq_some_iff.mp h1
          obtain ⟨b, q, hb, rfl, hq⟩ := hR.at h2
          have lj : j < bs.length := (List.getElem?_eq_some_iff.mp hb).1
          have hq3 : G3 q = some (.tup ((partsI ns b).map V.int)) := b3 _ _ (ne_of_none (inG hq) hD3) (n3 (inG hq))
          have li2 : i < (partsI ns b).length := by rw [partsI_len]; exact li
          obtain ⟨y, hy⟩ : ∃ y, (partsI ns b)[i]? = some y := ⟨_, List.getElem?_eq_getElem li2⟩
          obtain ⟨n', hn', y0, y1⟩ := partsI_at hm hy
          rw [hn] at hn'
          obtain rfl := Option.some.inj hn'
          have hz : (ts.zip bs)[j]? = some (m, b) := List.getElem?_zip_eq_some.mpr ⟨hm1, hb⟩
          refine ⟨T2, _, rfl, SqT.of upd_same, rfl, _, _, rfl, _, _, rfl, rfl, rfl, ?_⟩
          refine ⟨_, rfl, _, rfl, _, rfl, q, _, (i : Int), .int y, rfl, rfl, SqT.of (by rw [upd_ne (ne_of_none hq3 hT2)]; exact hq3), atI_of (by omega) (by rw [Int.toNat_natCast, List.getElem?_map, hy]; rfl), _, _, rfl, rfl, .inr ⟨by omega, by omega⟩, _, (by rw [upd_ne (ne_of_none hL3 hT2)]; exact hL3), small1000 (by rw [List.length_map, List.length_map, List.length_take, List.length_zip]; omega), (b3.new hT2).put, ?_⟩
          rw [upd_same, List.take_add_one, hz, List.map_append, List.map_append]
          have ey : (partsI ns b).getD i 0 = y := by rw [List.getD_eq_getElem?_getD, hy]; rfl
          show some (HO.lst (_ ++ [V.int (m * y)])) = some (HO.lst (_ ++ [V.int (m * (partsI ns b).getD i 0)]))
          rw [ey]
        · rintro G3 ⟨b3, hL3⟩
          have e3 : (ts.zip bs).take (min (ts.map V.int).length rs.length) = ts.zip bs := List.take_of_length_le (by rw [List.length_zip, List.length_map, lr]; exact Nat.le_refl _)
          rw [e3] at hL3
          have hS3 : G3 D2 = some (.lst (((List.range i).map (colI ns bs ts)).map V.int)) := b3 _ _ (ne_of_none hS2 hD3) (n3 hS2)
          refine ⟨D3, _, rfl, SqL.of hL3, _, rfl, _, _, rfl, rfl, (by show (0 : Int) < n; omega), D2, _, _, rfl, rfl, hS3, small1000 (by rw [List.length_map, List.length_map, List.length_range]; omega), some (.int i), some (.int n), rfl, ?_, ?_⟩
          · refine But.put fun b o nbD e => ?_
            have := b2' b o nbD e
            exact b3 _ _ (ne_of_none this hD3) (n3 this)
          · rw [upd_same, List.range_succ, List.map_append, List.map_append]
            have : colI ns bs ts i = ((ts.zip bs).map fun p => p.1 * (partsI ns p.2).getD i 0).sum % n := by
              unfold colI
              rw [List.getD_eq_getElem?_getD, hn]
              rfl
            show some (HO.lst (_ ++ [V.int (((ts.zip bs).map fun p => p.1 * (partsI ns p.2).getD i 0).sum % n)])) = some (HO.lst (_ ++ [V.int (colI ns bs ts i)]))
            rw [this]
      · rintro σ G' ⟨u, v, rfl, b2, hS⟩
        rw [List.length_map] at hS
        have inG : ∀ {b : Addr} {o : HO}, G b = some o → G' b = some o := fun {b o} e => b2 _ _ (ne_of_none e hD2) (n2 e)
        exact ⟨_, rfl, _, rfl, a, D2, ns, _, rfl, inG haG, .inl hS, hM, fun H' s => k H' fun _ _ z => s _ _ (inG (sG _ _ z))⟩
end
end Toy
set_option maxRecDepth 100000
namespace Toy
open PySem L2
/-! the methods of a rule that add banks -/
def badNum (CN : Addr) (H : Hp) (x : V) (E : XK) : Prop := ∀ d H', H d = none → Same H H' → H' d = some (.xd [("value", x)]) → E (.ref CN) (some d) H'
def badPart (CR : Addr) (H : Hp) (w : Str) (E : XK) : Prop := ∀ d H', Same H H' → H' d = some (.xd [("part", .str w)]) → E (.ref CR) (some d) H'
def firstBad (n : Int) (xs : List V) : Option V := xs.find? fun x => !withinV 0 n x
theorem firstBad_at {n : Int} {xs : List V} {i : Nat} {x : V} (h : (xs.take i).all (withinV 0 n) = true) (e : xs[i]? = some x) (b : withinV 0 n x = false) : firstBad n xs = some x := by
  have hi : i < xs.length := (List.getElem?_eq_some_iff.mp e).1
  have e1 : xs = xs.take i ++ x :: xs.drop (i + 1) := by
    have := (List.getElem?_eq_some_iff.mp e).2
    rw [← this, ← List.drop_eq_getElem_cons hi, List.take_append_drop]
  unfold firstBad
  rw [e1, List.find?_append, List.find?_eq_none.mpr fun y hy => by rw [List.all_eq_true.mp h y hy]; simp, List.find?_cons, b]
  rfl
theorem firstBad_none {n : Int} {xs : List V} (h : xs.all (withinV 0 n) = true) : firstBad n xs = none := List.find?_eq_none.mpr fun y hy => by rw [List.all_eq_true.mp h y hy]; simp
theorem take_all {n : Int} {xs : List V} {i : Nat} {x : V} (h : (xs.take i).all (withinV 0 n) = true) (e : xs[i]? = some x) (b : withinV 0 n x = true) : (xs.take (i + 1)).all (withinV 0 n) = true := by
  rw [List.take_add_one, e, List.all_append, h]
  simp [b]
def spCheck (CN C : Addr) (K : PySem.W.Frag) : Sp := fun vs H Q E => ∃ (p q : Addr) (xs ms : List V) (as ts : List Int), vs = [.ref p, .ref q] ∧ RuleAt C H p ms as ts ∧ ms.all (withinV 2 32) = true ∧ H q = some (.tup xs) ∧ (∀ y ∈ xs, ∃ S, Plain K H y S) ∧
  (∀ x, firstBad (prodV ms - 1) xs = some x → badNum CN H x E) ∧ (firstBad (prodV ms - 1) xs = none → Q .non H)
def spCheckR (CN C : Addr) (K : PySem.W.Frag) : Sp := fun vs H Q E => ∃ v rest, vs = v :: rest ∧ rest.length ≤ 5 ∧ ∀ p, H p = none → spCheck CN C K [v, .ref p] (upd H p (.tup rest)) Q E
theorem all_mods {ns : List Int} (h : Mods ns) : (ns.map V.int).all (withinV 2 32) = true := by
  rw [List.all_map]
  exact List.all_eq_true.mpr fun z hz => decide_eq_true (h.2 z hz)
def spAdd (sg : Int) (CN C : Addr) (K : PySem.W.Frag) : Sp := fun vs H Q E => ∃ (p : Addr) (x y : V) (S S2 : String) (ns as ts : List Int), vs = [.ref p, x, y] ∧ RuleAt C H p (ns.map V.int) as ts ∧ Mods ns ∧ Plain K H x S ∧ Plain K H y S2 ∧
  (∀ z, firstBad (prodV (ns.map V.int) - 1) [x, y] = some z → badNum CN H z E) ∧ (∀ i j, x = .int i → y = .int j → firstBad (prodV (ns.map V.int) - 1) [x, y] = none → ∀ H', Same H H' → Q (.int (bankI ns (sumsI ns [i, j] [1, sg]))) H')
def spParts (CN C : Addr) (K : PySem.W.Frag) : Sp := fun vs H Q E => ∃ (p : Addr) (x : V) (S : String) (ns as ts : List Int), vs = [.ref p, x] ∧ RuleAt C H p (ns.map V.int) as ts ∧ Mods ns ∧ Plain K H x S ∧
  (∀ z, firstBad (prodV (ns.map V.int) - 1) [x] = some z → badNum CN H z E) ∧ (∀ i, x = .int i → firstBad (prodV (ns.map V.int) - 1) [x] = none → ∀ q H', Same H H' → H' q = some (.tup ((partsI ns i).map V.int)) → Q (.ref q) H')
def okParts (ns : List Int) (xs : List V) : Bool := decide (xs.length = ns.length) && (xs.zip ns).all fun p => withinV 0 (p.2 - 1) p.1
def spBankOf (CR C : Addr) (K : PySem.W.Frag) : Sp := fun vs H Q E => ∃ (p q : Addr) (xs : List V) (ns as ts : List Int), vs = [.ref p, .ref q] ∧ RuleAt C H p (ns.map V.int) as ts ∧ Mods ns ∧ H q = some (.tup xs) ∧ (∀ y ∈ xs, ∃ S, Plain K H y S) ∧
  (okParts ns xs = false → badPart CR H "parts" E) ∧ (∀ ps : List Int, xs = ps.map V.int → okParts ns xs = true → ∀ H', Same H H' → Q (.int (bankI ns ps)) H')
def spBankOfR (CR C : Addr) (K : PySem.W.Frag) : Sp := fun vs H Q E => ∃ v rest, vs = v :: rest ∧ rest.length ≤ 5 ∧ ∀ p, H p = none → spBankOf CR C K [v, .ref p] (upd H p (.tup rest)) Q E
theorem badNum_lay {CN q : Addr} {H : Hp} {o : HO} {x : V} {E : XK} (hq : H q = none) (h : badNum CN H x E) : badNum CN (upd H q o) x E := fun d H' hd s e => h d H' ((Same.lay hq).free hd) (fun _ _ z => s _ _ (Same.lay hq _ _ z)) e
theorem plains_lay {K : PySem.W.Frag} {H : Hp} {q : Addr} {o : HO} (hq : H q = none) {y : V} {S : String} (h : Plain K H y S) : Plain K (upd H q o) y S := plain_same (Same.lay hq) h
end Toy
namespace Toy
open PySem L2
/-! sums and parts of banks -/
def prodI : List Int → Int
  | [] => 1
  | n :: ns => n * prodI ns
theorem prodV_map (ns : List Int) : prodV (ns.map V.int) = prodI ns := by
  have h : ∀ (ns : List Int) (c : Int), (ns.map V.int).foldl (fun p x => p * intOf x) c = c * prodI ns := by
    intro ns
    induction ns with
    | nil => intro c; show c = c * 1; omega
    | cons n ns ih =>
      intro c
      show (ns.map V.int).foldl (fun p x => p * intOf x) (c * n) = c * (n * prodI ns)
      rw [ih, Int.mul_assoc]
  have := h ns 1
  rw [Int.one_mul] at this
  exact this
def Dig : List Int → List Int → Prop
  | [], [] => True
  | n :: ns, p :: ps => (0 ≤ p ∧ p < n) ∧ Dig ns ps
  | _, _ => False
theorem parts_bank : ∀ {ns ps : List Int}, (∀ n ∈ ns, 2 ≤ n ∧ n ≤ 32) → Dig ns ps → partsI ns (bankI ns ps) = ps
  | [], [], _, _ => rfl
  | n :: ns, p :: ps, hn, ⟨⟨p0, p1⟩, d⟩ => by
    have h2 := hn n (.head _)
    have e1 : (bankI ns ps * n + p) % n = p := by
      rw [Int.add_comm, Int.add_mul_emod_self_right, Int.emod_eq_of_lt p0 p1]
    have e2 : (bankI ns ps * n + p) / n = bankI ns ps := by
      rw [Int.add_comm, Int.add_mul_ediv_right _ _ (by omega), Int.ediv_eq_zero_of_lt p0 p1, Int.zero_add]
    show (bankI ns ps * n + p) % n :: partsI ns ((bankI ns ps * n + p) / n) = p :: ps
    rw [e1, e2, parts_bank (fun m hm => hn m (.tail _ hm)) d]
theorem prodI_pos : ∀ {ns : List Int}, (∀ n ∈ ns, 2 ≤ n ∧ n ≤ 32) → 0 < prodI ns
  | [], _ => by show (0 : Int) < 1; decide
  | n :: ns, h => Int.mul_pos (by have := (h n (.head _)).1; omega) (prodI_pos fun m hm => h m (.tail _ hm))
theorem bank_parts : ∀ {ns : List Int} {b : Int}, (∀ n ∈ ns, 2 ≤ n ∧ n ≤ 32) → 0 ≤ b → b < prodI ns → bankI ns (partsI ns b) = b
  | [], b, _, h0, h1 => by
    have : b < 1 := h1
    show (0 : Int) = b
    omega
  | n :: ns, b, hn, h0, h1 => by
    have h2 := hn n (.head _)
    have h3 : b < n * prodI ns := h1
    show bankI ns (partsI ns (b / n)) * n + b % n = b
    rw [bank_parts (fun m hm => hn m (.tail _ hm)) (Int.ediv_nonneg h0 (by omega)) (Int.ediv_lt_of_lt_mul (by omega) (by rw [Int.mul_comm]; exact h3))]
    exact Int.ediv_mul_add_emod b n
theorem bank_lt : ∀ {ns ps : List Int}, (∀ n ∈ ns, 2 ≤ n ∧ n ≤ 32) → Dig ns ps → 0 ≤ bankI ns ps ∧ bankI ns ps < prodI ns
  | [], [], _, _ => ⟨by decide, by decide⟩
  | n :: ns, p :: ps, hn, ⟨⟨p0, p1⟩, d⟩ => by
    have h2 := hn n (.head _)
    obtain ⟨b0, b1⟩ := bank_lt (fun m hm => hn m (.tail _ hm)) d
    show 0 ≤ bankI ns ps * n + p ∧ bankI ns ps * n + p < n * prodI ns
    have m0 : 0 ≤ bankI ns ps * n := Int.mul_nonneg b0 (by omega)
    have m1 : (bankI ns ps + 1) * n ≤ prodI ns * n := Int.mul_le_mul_of_nonneg_right (by omega) (by omega)
    rw [Int.add_mul, Int.one_mul, Int.mul_comm (prodI ns)] at m1
    omega
theorem dig_of : ∀ {ns ps : List Int}, ps.length = ns.length → (∀ (k : Nat) (n p : Int), ns[k]? = some n → ps[k]? = some p → 0 ≤ p ∧ p < n) → Dig ns ps
  | [], [], _, _ => trivial
  | n :: ns, p :: ps, l, h => ⟨h 0 n p rfl rfl, dig_of (Nat.succ.inj l) fun k n p e1 e2 => h (k + 1) n p e1 e2⟩
  | [], _ :: _, l, _ => by cases l
  | _ :: _, [], l, _ => by cases l
theorem parts_dig : ∀ {ns : List Int} {b : Int}, (∀ n ∈ ns, 2 ≤ n ∧ n ≤ 32) → Dig ns (partsI ns b)
  | [], _, _ => trivial
  | n :: ns, b, h => by
    have h2 := h n (.head _)
    exact ⟨⟨Int.emod_nonneg _ (by omega), Int.emod_lt_of_pos _ (by omega)⟩, parts_dig fun m hm => h m (.tail _ hm)⟩
theorem sums_len (ns bs ts : List Int) : (sumsI ns bs ts).length = ns.length := by
  unfold sumsI
  rw [List.length_map, List.length_range]
theorem sums_at {ns bs ts : List Int} {k : Nat} (h : k < ns.length) : (sumsI ns bs ts)[k]? = some (colI ns bs ts k) := by
  unfold sumsI
  rw [List.getElem?_map, List.getElem?_range h]
  rfl
theorem sums_dig {ns bs ts : List Int} (hn : ∀ n ∈ ns, 2 ≤ n ∧ n ≤ 32) : Dig ns (sumsI ns bs ts) := dig_of (sums_len ..) fun k n p e1 e2 => by
  have hk : k < ns.length := (List.getElem?_eq_some_iff.mp e1).1
  have h2 := hn n (List.mem_of_getElem? e1)
  rw [sums_at hk] at e2
  obtain rfl := Option.some.inj e2
  unfold colI
  rw [show ns.getD k 1 = n by rw [List.getD_eq_getElem?_getD, e1]; rfl]
  exact ⟨Int.emod_nonneg _ (by omega), Int.emod_lt_of_pos _ (by omega)⟩
theorem col2 (ns : List Int) (i j sg : Int) (k : Nat) : colI ns [i, j] [1, sg] k = ((partsI ns i).getD k 0 + sg * (partsI ns j).getD k 0) % ns.getD k 1 := by
  unfold colI
  show ((1 * (partsI ns i).getD k 0) + (sg * (partsI ns j).getD k 0 + 0)) % _ = _
  rw [Int.one_mul, Int.add_zero]
theorem parts_sum {ns : List Int} {i j sg : Int} (hM : Mods ns) : partsI ns (bankI ns (sumsI ns [i, j] [1, sg])) = sumsI ns [i, j] [1, sg] := parts_bank hM.2 (sums_dig hM.2)
theorem less_added {ns : List Int} {i j : Int} (hM : Mods ns) (i0 : 0 ≤ i) (i1 : i < prodI ns) : bankI ns (sumsI ns [bankI ns (sumsI ns [i, j] [1, 1]), j] [1, -1]) = i := by
  have e : sumsI ns [bankI ns (sumsI ns [i, j] [1, 1]), j] [1, -1] = partsI ns i := by
    refine List.ext_getElem? fun k => ?_
    by_cases hk : k < ns.length
    · obtain ⟨n, hn⟩ : ∃ n, ns[k]? = some n := ⟨_, List.getElem?_eq_getElem hk⟩
      have h2 := hM.2 n (List.mem_of_getElem? hn)
      have en : ns.getD k 1 = n := by rw [List.getD_eq_getElem?_getD, hn]; rfl
      obtain ⟨y, hy⟩ : ∃ y, (partsI ns i)[k]? = some y := ⟨_, List.getElem?_eq_getElem (by rw [partsI_len]; exact hk)⟩
      obtain ⟨n', e', y0, y1⟩ := partsI_at hM.2 hy
      rw [hn] at e'
      obtain rfl := Option.some.inj e'
      have ey : (partsI ns i).getD k 0 = y := by rw [List.getD_eq_getElem?_getD, hy]; rfl
      rw [sums_at hk, hy, col2, parts_sum hM, en, show (sumsI ns [i, j] [1, 1]).getD k 0 = colI ns [i, j] [1, 1] k by rw [List.getD_eq_getElem?_getD, sums_at hk]; rfl, col2, en, ey]
      congr 1
      have : (y + 1 * (partsI ns j).getD k 0) % n + -1 * (partsI ns j).getD k 0 = (y + 1 * (partsI ns j).getD k 0) % n - (partsI ns j).getD k 0 := by omega
      rw [this, Int.emod_sub_emod, show y + 1 * (partsI ns j).getD k 0 - (partsI ns j).getD k 0 = y by omega, Int.emod_eq_of_lt y0 y1]
    · rw [List.getElem?_eq_none (by rw [sums_len]; omega), List.getElem?_eq_none (by rw [partsI_len]; omega)]
  rw [e, bank_parts hM.2 i0 i1]
end Toy
set_option maxRecDepth 100000
namespace Toy
open PySem L2
/-! weights ahead and in a round as a row without an end; its normal form is the only one -/
def pAt (t : List Int) (i : Nat) : Int := t.getD (i % t.length) 0
def wAt (a t : List Int) (i : Nat) : Int := if i < a.length then a.getD i 0 else pAt t (i - a.length)
/-- no shorter piece makes up the round -/
def Prim (t : List Int) : Prop := t ≠ [] ∧ ∀ n, 0 < n → n < t.length → t.length % n = 0 → perOk t n = false
theorem rep_snoc (c : Int) (v : List Int) : ∀ k : Nat, (List.replicate k (c :: v)).flatten ++ [c] = c :: (List.replicate k (v ++ [c])).flatten
  | 0 => by simp
  | k + 1 => by
    rw [List.replicate_succ, List.flatten_cons, List.append_assoc, rep_snoc c v k, List.replicate_succ, List.flatten_cons]
    simp
theorem rotr_snoc (Y : List Int) (c : Int) : rotr (Y ++ [c]) = c :: Y := by
  unfold rotr
  rw [List.length_append]
  simp
theorem take_rep {u : List Int} {k : Nat} (h : 0 < k) : ((List.replicate k u).flatten).take u.length = u := by
  cases k with
  | zero => omega
  | succ k =>
    rw [List.replicate_succ, List.flatten_cons, List.take_left']
    rfl
theorem per_rot {t : List Int} {n : Nat} (ne : t ≠ []) (h0 : 0 < n) (hl : n ≤ t.length) (h : perOk (rotr t) n = true) : perOk t n = true := by
  obtain ⟨Y, c, rfl⟩ : ∃ Y c, t = Y ++ [c] := ⟨t.dropLast, t.getLast ne, (List.dropLast_concat_getLast ne).symm⟩
  rw [rotr_snoc] at h
  have h1 : (List.replicate ((c :: Y).length / n) ((c :: Y).take n)).flatten = c :: Y := of_decide_eq_true h
  have lY : (c :: Y).length = (Y ++ [c]).length := by simp
  have ly : (Y ++ [c]).length = Y.length + 1 := by simp
  have kp : 0 < (Y ++ [c]).length / n := Nat.div_pos hl h0
  obtain ⟨m, rfl⟩ : ∃ m, n = m + 1 := ⟨n - 1, by omega⟩
  rw [List.take_succ_cons, lY] at h1
  have h2 := rep_snoc c (Y.take m) ((Y ++ [c]).length / (m + 1))
  rw [h1] at h2
  have h3 : Y ++ [c] = (List.replicate ((Y ++ [c]).length / (m + 1)) (Y.take m ++ [c])).flatten := by
    have z : c :: (Y ++ [c]) = c :: (List.replicate ((Y ++ [c]).length / (m + 1)) (Y.take m ++ [c])).flatten := by
      rw [← h2]
      rfl
    exact (List.cons.inj z).2
  have lu : (Y.take m ++ [c]).length = m + 1 := by
    rw [List.length_append, List.length_take]
    simp
    omega
  have tk : (Y ++ [c]).take (m + 1) = Y.take m ++ [c] := by
    have z := take_rep (u := Y.take m ++ [c]) kp
    rw [← h3, lu] at z
    exact z
  unfold perOk
  rw [tk]
  exact decide_eq_true h3.symm
theorem Prim.rot {t : List Int} (h : Prim t) : Prim (rotr t) := by
  refine ⟨fun z => ?_, fun n h0 hl hd => ?_⟩
  · have y := rotr_len t
    rw [z] at y
    exact h.1 (List.length_eq_zero_iff.mp y.symm)
  · rw [rotr_len] at hl hd
    cases e : perOk (rotr t) n with
    | false => rfl
    | true =>
      have z := h.2 n h0 hl hd
      rw [per_rot h.1 h0 (by omega) e] at z
      cases z
theorem mem_rotr {t : List Int} {z : Int} (h : z ∈ rotr t) : z ∈ t := by
  unfold rotr at h
  exact (List.mem_append.mp h).elim List.mem_of_mem_drop List.mem_of_mem_take
/-- what is in its normal form, the program leaves as it is -/
theorem norm_fix {A T : List Int} (p : Prim T) (s : A = [] ∨ A.getLast? ≠ T.getLast?) : normW A T = (A, T) := by
  have e : per T = T.length := by
    obtain ⟨n, r, e1⟩ : ∃ n r, (divs T).filter (perOk T) = n :: r := by
      cases z : (divs T).filter (perOk T) with
      | nil => exact absurd z (some_per p.1)
      | cons n r => exact ⟨n, r, rfl⟩
    have m : n ∈ (divs T).filter (perOk T) := by
      rw [e1]
      exact List.mem_cons_self ..
    obtain ⟨m1, m2⟩ := List.mem_filter.mp m
    obtain ⟨n1, n2, n3⟩ := mem_divs m1
    have e2 : per T = n := by
      unfold per
      rw [e1]
      rfl
    rw [e2]
    by_cases hl : n < T.length
    · have z := p.2 n (by omega) hl n3
      rw [m2] at z
      cases z
    · omega
  unfold normW
  rw [e, List.take_length]
  exact trim_stop s

theorem flat_at {u : List Int} (hu : 0 < u.length) : ∀ (k j : Nat), j < k * u.length → ((List.replicate k u).flatten)[j]? = u[j % u.length]?
  | 0, j, h => by omega
  | k + 1, j, h => by
    rw [List.replicate_succ, List.flatten_cons]
    by_cases c : j < u.length
    · rw [List.getElem?_append_left c, Nat.mod_eq_of_lt c]
    · rw [List.getElem?_append_right (by omega), flat_at hu k (j - u.length) (by rw [Nat.succ_mul] at h; omega)]
      congr 1
      rw [← Nat.mod_eq_sub_mod (by omega)]
theorem getD_of {t : List Int} {i : Nat} {z : Int} (h : t[i]? = some z) : t.getD i 0 = z := by
  rw [List.getD_eq_getElem?_getD, h]
  rfl
theorem per_pAt {t : List Int} {m : Nat} (h : perOk t m = true) (m0 : 0 < m) (ml : m ≤ t.length) (d : t.length % m = 0) (i : Nat) : pAt (t.take m) i = pAt t i := by
  have e : (List.replicate (t.length / m) (t.take m)).flatten = t := of_decide_eq_true h
  have lu := take_len ml
  unfold pAt
  rw [lu]
  have hi : i % t.length < t.length := Nat.mod_lt _ (by omega)
  have hk : t.length / m * (t.take m).length = t.length := by
    rw [lu]
    exact Nat.div_mul_cancel (Nat.dvd_of_mod_eq_zero d)
  have z := flat_at (u := t.take m) (by omega) (t.length / m) (i % t.length) (by omega)
  rw [e, lu, Nat.mod_mod_of_dvd _ (Nat.dvd_of_mod_eq_zero d)] at z
  rw [List.getD_eq_getElem?_getD, List.getD_eq_getElem?_getD, z]
theorem pAt_per {t : List Int} {m : Nat} (m0 : 0 < m) (ml : m ≤ t.length) (d : t.length % m = 0) (h : ∀ i, pAt (t.take m) i = pAt t i) : perOk t m = true := by
  refine decide_eq_true (List.ext_getElem? fun j => ?_)
  have lu := take_len ml
  have hk : t.length / m * (t.take m).length = t.length := by
    rw [lu]
    exact Nat.div_mul_cancel (Nat.dvd_of_mod_eq_zero d)
  by_cases c : j < t.length
  · rw [flat_at (by omega) _ _ (by omega), lu]
    have z := h j
    unfold pAt at z
    rw [lu, Nat.mod_eq_of_lt c] at z
    have l1 : j % m < (t.take m).length := by rw [lu]; exact Nat.mod_lt _ m0
    rw [List.getElem?_eq_getElem l1, List.getElem?_eq_getElem c]
    rw [getD_of (List.getElem?_eq_getElem l1), getD_of (List.getElem?_eq_getElem c)] at z
    rw [z]
  · have l1 : ((List.replicate (t.length / m) (t.take m)).flatten).length ≤ j := by
      rw [List.length_flatten, List.map_replicate, List.sum_replicate_nat]
      omega
    exact (List.getElem?_eq_none l1).trans (List.getElem?_eq_none (by omega)).symm
theorem rot_at {t : List Int} (ne : t ≠ []) : pAt (rotr t) 0 = (t.getLast?).getD 0 ∧ ∀ i, pAt (rotr t) (i + 1) = pAt t i := by
  obtain ⟨Y, c, rfl⟩ : ∃ Y c, t = Y ++ [c] := ⟨t.dropLast, t.getLast ne, (List.dropLast_concat_getLast ne).symm⟩
  rw [rotr_snoc]
  refine ⟨by simp [pAt], fun i => ?_⟩
  unfold pAt
  rw [show (c :: Y).length = Y.length + 1 from rfl, show (Y ++ [c]).length = Y.length + 1 by simp]
  have h1 := Nat.mod_lt i (show 0 < Y.length + 1 by omega)
  by_cases e : i % (Y.length + 1) = Y.length
  · have e2 : (i + 1) % (Y.length + 1) = 0 := by
      rw [Nat.add_mod, e]
      by_cases y : Y.length = 0
      · rw [y]
      · rw [Nat.mod_eq_of_lt (show 1 < Y.length + 1 by omega), Nat.mod_self]
    rw [e, e2]
    simp [List.getD_eq_getElem?_getD]
  · have e2 : (i + 1) % (Y.length + 1) = i % (Y.length + 1) + 1 := by
      rw [Nat.add_mod]
      by_cases y : Y.length = 0
      · omega
      · rw [Nat.mod_eq_of_lt (show 1 < Y.length + 1 by omega), Nat.mod_eq_of_lt (by omega)]
    rw [e2, List.getD_eq_getElem?_getD, List.getD_eq_getElem?_getD, List.getElem?_cons_succ, List.getElem?_append_left (by omega)]
theorem trim_at {A T : List Int} (ne : A ≠ []) (te : T ≠ []) (e : A.getLast? = T.getLast?) (i : Nat) : wAt A.dropLast (rotr T) i = wAt A T i := by
  obtain ⟨B, c, rfl⟩ : ∃ B c, A = B ++ [c] := ⟨A.dropLast, A.getLast ne, (List.dropLast_concat_getLast ne).symm⟩
  have e2 : T.getLast? = some c := by rw [← e]; simp
  obtain ⟨r0, r1⟩ := rot_at te
  rw [e2] at r0
  rw [List.dropLast_concat]
  unfold wAt
  rw [show (B ++ [c]).length = B.length + 1 by simp]
  by_cases h1 : i < B.length
  · rw [if_pos h1, if_pos (by omega), List.getD_eq_getElem?_getD, List.getD_eq_getElem?_getD, List.getElem?_append_left h1]
  · rw [if_neg h1]
    by_cases h2 : i = B.length
    · subst h2
      rw [if_pos (by omega), Nat.sub_self, r0]
      simp [List.getD_eq_getElem?_getD]
    · rw [if_neg (by omega), show i - B.length = (i - (B.length + 1)) + 1 by omega, r1]
/-- normal: no shorter round, no weight ahead that belongs to it -/
def Normal (A T : List Int) : Prop := Prim T ∧ (A = [] ∨ A.getLast? ≠ T.getLast?)
theorem trimW_ok : ∀ (n : Nat) (A T : List Int), A.length ≤ n → Prim T → Normal (trimW n A T).1 (trimW n A T).2 ∧ (∀ i, wAt (trimW n A T).1 (trimW n A T).2 i = wAt A T i) ∧ (trimW n A T).1.length ≤ A.length ∧ (trimW n A T).2.length = T.length
  | 0, A, T, h, p => by
    have e : A = [] := List.length_eq_zero_iff.mp (by omega)
    exact ⟨⟨p, .inl e⟩, fun _ => rfl, Nat.le_refl _, rfl⟩
  | n + 1, A, T, h, p => by
    unfold trimW
    by_cases c : A ≠ [] ∧ A.getLast? = T.getLast?
    · rw [if_pos c]
      obtain ⟨h1, h2, h3, h4⟩ := trimW_ok n A.dropLast (rotr T) (by rw [List.length_dropLast]; omega) p.rot
      refine ⟨h1, fun i => by rw [h2 i, trim_at c.1 p.1 c.2], ?_, by rw [h4, rotr_len]⟩
      rw [List.length_dropLast] at h3
      omega
    · rw [if_neg c]
      refine ⟨⟨p, ?_⟩, fun _ => rfl, Nat.le_refl _, rfl⟩
      by_cases e : A = []
      · exact .inl e
      · exact .inr fun z => c ⟨e, z⟩
theorem divs_sorted (t : List Int) : (divs t).Pairwise (· < ·) := by
  unfold divs divsTo
  refine List.Pairwise.filter _ ?_
  rw [List.pairwise_map]
  exact List.pairwise_lt_range.imp fun h => by omega
theorem per_prim {t : List Int} (ne : t ≠ []) : Prim (t.take (per t)) ∧ (∀ i, pAt (t.take (per t)) i = pAt t i) ∧ per t ≤ t.length := by
  obtain ⟨n, r, e1⟩ : ∃ n r, (divs t).filter (perOk t) = n :: r := by
    cases z : (divs t).filter (perOk t) with
    | nil => exact absurd z (some_per ne)
    | cons n r => exact ⟨n, r, rfl⟩
  have m : n ∈ (divs t).filter (perOk t) := by
    rw [e1]
    exact List.mem_cons_self ..
  obtain ⟨m1, m2⟩ := List.mem_filter.mp m
  obtain ⟨n1, n2, n3⟩ := mem_divs m1
  have e2 : per t = n := by
    unfold per
    rw [e1]
    rfl
  rw [e2]
  have pw := (divs_sorted t).filter (perOk t)
  rw [e1] at pw
  have hp := per_pAt m2 (by omega) n2 n3
  have lt := take_len n2
  refine ⟨⟨fun z => by rw [z] at lt; simp at lt; omega, fun k k0 kl kd => ?_⟩, hp, n2⟩
  rw [lt] at kl kd
  cases e : perOk (t.take n) k with
  | false => rfl
  | true =>
    exfalso
    have dk : t.length % k = 0 := Nat.mod_eq_zero_of_dvd (Nat.dvd_trans (Nat.dvd_of_mod_eq_zero kd) (Nat.dvd_of_mod_eq_zero n3))
    have h1 := per_pAt e k0 (by omega) (by rw [lt]; exact kd)
    have tk : (t.take n).take k = t.take k := by rw [List.take_take, Nat.min_eq_left (by omega)]
    rw [tk] at h1
    have ok : perOk t k = true := pAt_per k0 (by omega) dk fun i => by rw [h1, hp]
    have mk : k ∈ (divs t).filter (perOk t) := List.mem_filter.mpr ⟨List.mem_filter.mpr ⟨List.mem_map.mpr ⟨k - 1, List.mem_range.mpr (by omega), by omega⟩, by simpa using dk⟩, ok⟩
    rw [e1] at mk
    rcases List.mem_cons.mp mk with z | z
    · omega
    · have := (List.pairwise_cons.mp pw).1 k z
      omega
theorem normW_ok {A T : List Int} (ne : T ≠ []) : Normal (normW A T).1 (normW A T).2 ∧ (∀ i, wAt (normW A T).1 (normW A T).2 i = wAt A T i) ∧ (normW A T).1.length ≤ A.length ∧ (normW A T).2.length ≤ T.length := by
  obtain ⟨h1, h2, h3⟩ := per_prim ne
  obtain ⟨g1, g2, g3, g4⟩ := trimW_ok A.length A (T.take (per T)) (Nat.le_refl _) h1
  refine ⟨g1, fun i => ?_, g3, by show (trimW _ _ _).2.length ≤ _; rw [g4, take_len h3]; exact h3⟩
  show wAt (trimW A.length A (T.take (per T))).1 (trimW A.length A (T.take (per T))).2 i = _
  rw [g2 i]
  unfold wAt
  rw [h2]
/-! a row's periods -/
def HasPer (s : Nat → Int) (p : Nat) : Prop := ∀ i, s (i + p) = s i
theorem HasPer.mul {s : Nat → Int} {p : Nat} (h : HasPer s p) : ∀ k i, s (i + k * p) = s i
  | 0, i => by simp
  | k + 1, i => by rw [Nat.succ_mul, ← Nat.add_assoc, h, h.mul k]
theorem HasPer.gcd {s : Nat → Int} {p q : Nat} (hp : HasPer s p) (hq : HasPer s q) : HasPer s (Nat.gcd p q) := by
  induction p, q using Nat.gcd.induction with
  | H0 n => simpa using hq
  | H1 m n hm ih =>
    rw [Nat.gcd_rec]
    refine ih (fun i => ?_) hp
    have e := Nat.div_add_mod n m
    have z := hp.mul (n / m) (i + n % m)
    rw [← z, show i + n % m + n / m * m = i + n by rw [Nat.mul_comm]; omega]
    exact hq i
theorem pAt_hasPer (t : List Int) : HasPer (pAt t) t.length := fun i => by
  unfold pAt
  rw [Nat.add_mod_right]
theorem prim_per {T : List Int} (p : Prim T) {q : Nat} (q0 : 0 < q) (h : HasPer (pAt T) q) : T.length ∣ q := by
  have tp : 0 < T.length := List.length_pos_iff.mpr p.1
  have g := (pAt_hasPer T).gcd h
  have gd := Nat.gcd_dvd_left T.length q
  have g0 : 0 < Nat.gcd T.length q := Nat.gcd_pos_of_pos_left _ tp
  have gl := Nat.le_of_dvd tp gd
  by_cases c : Nat.gcd T.length q = T.length
  · rw [← c]
    exact Nat.gcd_dvd_right _ _
  · exfalso
    have gm := Nat.mod_eq_zero_of_dvd gd
    have ok : perOk T (Nat.gcd T.length q) = true := pAt_per g0 gl gm fun i => by
      have lu := take_len gl
      have e1 : pAt (T.take (Nat.gcd T.length q)) i = pAt T (i % Nat.gcd T.length q) := by
        unfold pAt
        have l1 := Nat.mod_lt i g0
        rw [lu, Nat.mod_eq_of_lt (show i % Nat.gcd T.length q < T.length by omega), List.getD_eq_getElem?_getD, List.getD_eq_getElem?_getD, List.getElem?_take, if_pos l1]
      rw [e1]
      have z := g.mul (i / Nat.gcd T.length q) (i % Nat.gcd T.length q)
      rw [← z]
      congr 1
      rw [Nat.mul_comm, Nat.add_comm]
      exact Nat.div_add_mod i _
    have := p.2 _ g0 (by omega) gm
    rw [ok] at this
    cases this
theorem pAt_inj {T T' : List Int} (p : Prim T) (p' : Prim T') (h : ∀ i, pAt T i = pAt T' i) : T = T' := by
  have e : pAt T = pAt T' := funext h
  have tp : 0 < T.length := List.length_pos_iff.mpr p.1
  have tp' : 0 < T'.length := List.length_pos_iff.mpr p'.1
  have d1 := prim_per p tp' (by rw [e]; exact pAt_hasPer T')
  have d2 := prim_per p' tp (by rw [← e]; exact pAt_hasPer T)
  have el : T.length = T'.length := Nat.dvd_antisymm d1 d2
  refine List.ext_getElem? fun i => ?_
  by_cases c : i < T.length
  · have z := h i
    unfold pAt at z
    rw [Nat.mod_eq_of_lt c, Nat.mod_eq_of_lt (by omega)] at z
    rw [getD_of (List.getElem?_eq_getElem c), getD_of (List.getElem?_eq_getElem (show i < T'.length by omega))] at z
    rw [List.getElem?_eq_getElem c, List.getElem?_eq_getElem (show i < T'.length by omega), z]
  · rw [List.getElem?_eq_none (by omega), List.getElem?_eq_none (by omega)]
theorem last_at {A : List Int} (ne : A ≠ []) : A.getLast? = some (A.getD (A.length - 1) 0) := by
  have tp : 0 < A.length := List.length_pos_iff.mpr ne
  rw [List.getLast?_eq_getElem?, List.getElem?_eq_getElem (show A.length - 1 < A.length by omega), getD_of (List.getElem?_eq_getElem (show A.length - 1 < A.length by omega))]
theorem ahead_le {A T A' T' : List Int} (n : Normal A' T') (p : Prim T) (h : ∀ i, wAt A T i = wAt A' T' i) : A'.length ≤ A.length := by
  refine Classical.byContradiction fun c => ?_
  have tp : 0 < T.length := List.length_pos_iff.mpr p.1
  have tp' : 0 < T'.length := List.length_pos_iff.mpr n.1.1
  have ne : A' ≠ [] := fun z => by rw [z] at c; simp at c
  have ln : 0 < A'.length := List.length_pos_iff.mpr ne
  rcases n.2 with z | z
  · exact ne z
  refine z ?_
  rw [last_at ne, last_at n.1.1]
  congr 1
  -- the last weight ahead, by both
  have e0 : wAt A' T' (A'.length - 1) = A'.getD (A'.length - 1) 0 := by
    unfold wAt
    rw [if_pos (by omega)]
  have far : wAt A T (A'.length - 1) = wAt A T (A'.length - 1 + T.length * T'.length) := by
    unfold wAt
    rw [if_neg (by omega), if_neg (by omega), show A'.length - 1 + T.length * T'.length - A.length = A'.length - 1 - A.length + T'.length * T.length by rw [Nat.mul_comm]; omega, (pAt_hasPer T).mul]
  have e1 : wAt A' T' (A'.length - 1 + T.length * T'.length) = T'.getD (T'.length - 1) 0 := by
    have tt : T'.length ≤ T.length * T'.length := Nat.le_mul_of_pos_left _ tp
    obtain ⟨k, hk⟩ : ∃ k, T.length = k + 1 := ⟨T.length - 1, by omega⟩
    unfold wAt
    rw [if_neg (by omega), hk, Nat.succ_mul, show A'.length - 1 + (k * T'.length + T'.length) - A'.length = T'.length - 1 + k * T'.length by omega, (pAt_hasPer T').mul]
    unfold pAt
    rw [Nat.mod_eq_of_lt (by omega)]
  rw [← e0, ← h, far, h, e1]
theorem norm_uniq {A T A' T' : List Int} (n : Normal A T) (n' : Normal A' T') (h : ∀ i, wAt A T i = wAt A' T' i) : A = A' ∧ T = T' := by
  have l : A.length = A'.length := Nat.le_antisymm (ahead_le n n'.1 fun i => (h i).symm) (ahead_le n' n.1 h)
  refine ⟨List.ext_getElem? fun i => ?_, pAt_inj n.1 n'.1 fun i => ?_⟩
  · by_cases c : i < A.length
    · have z := h i
      unfold wAt at z
      rw [if_pos c, if_pos (by omega)] at z
      rw [getD_of (List.getElem?_eq_getElem c), getD_of (List.getElem?_eq_getElem (show i < A'.length by omega))] at z
      rw [List.getElem?_eq_getElem c, List.getElem?_eq_getElem (show i < A'.length by omega), z]
    · rw [List.getElem?_eq_none (by omega), List.getElem?_eq_none (by omega)]
  · have z := h (A.length + i)
    unfold wAt at z
    rw [if_neg (by omega), if_neg (by omega), show A.length + i - A.length = i by omega, show A.length + i - A'.length = i by omega] at z
    exact z
/-- equal weights at all places are equal normal forms -/
theorem normW_iff {A T A' T' : List Int} (ne : T ≠ []) (ne' : T' ≠ []) : normW A T = normW A' T' ↔ ∀ i, wAt A T i = wAt A' T' i := by
  obtain ⟨h1, h2, _⟩ := normW_ok (A := A) ne
  obtain ⟨g1, g2, _⟩ := normW_ok (A := A') ne'
  refine ⟨fun e i => by rw [← h2 i, ← g2 i, e], fun h => ?_⟩
  obtain ⟨e1, e2⟩ := norm_uniq h1 g1 fun i => by rw [h2 i, g2 i, h i]
  exact Prod.ext e1 e2
/-- so many first places are enough -/
theorem wAt_upto {A T A' T' : List Int} {n m : Nat} (ha : A.length ≤ n) (ha' : A'.length ≤ n) (hm : n + T.length + T'.length ≤ m) (tp : 0 < T.length) (tp' : 0 < T'.length) (h : ∀ i, i < m → wAt A T i = wAt A' T' i) : ∀ i, wAt A T i = wAt A' T' i := by
  have per : ∀ {A T : List Int} {i : Nat}, A.length ≤ i → wAt A T (i + T.length) = wAt A T i := by
    intro A T i hi
    unfold wAt
    rw [if_neg (by omega), if_neg (by omega), show i + T.length - A.length = i - A.length + T.length by omega, pAt_hasPer]
  intro i
  induction i using Nat.strongRecOn with
  | ind i ih =>
    by_cases c : i < m
    · exact h i c
    · have e1 : wAt A T i = wAt A T (i - T.length) := by
        have z := per (A := A) (T := T) (i := i - T.length) (by omega)
        rw [show i - T.length + T.length = i by omega] at z
        exact z
      have e2 : wAt A' T' (i - T.length) = wAt A' T' (i - T.length - T'.length) := by
        have z := per (A := A') (T := T') (i := i - T.length - T'.length) (by omega)
        rw [show i - T.length - T'.length + T'.length = i - T.length by omega] at z
        exact z
      have e3 : wAt A T (i - T'.length) = wAt A T (i - T.length - T'.length) := by
        have z := per (A := A) (T := T) (i := i - T.length - T'.length) (by omega)
        rw [show i - T.length - T'.length + T.length = i - T'.length by omega] at z
        exact z
      have e4 : wAt A' T' i = wAt A' T' (i - T'.length) := by
        have z := per (A := A') (T := T') (i := i - T'.length) (by omega)
        rw [show i - T'.length + T'.length = i by omega] at z
        exact z
      rw [e1, ih (i - T.length) (by omega), e2, ← ih (i - T.length - T'.length) (by omega), ← e3, ih (i - T'.length) (by omega), ← e4]
end Toy
namespace Dg
open PySem
/-! digits: sums over places -/
def sumN (g : Nat → Int) : Nat → Int
  | 0 => 0
  | n + 1 => sumN g n + g n
theorem sumN_congr {g h : Nat → Int} : ∀ {n : Nat}, (∀ i, i < n → g i = h i) → sumN g n = sumN h n
  | 0, _ => rfl
  | n + 1, e => by rw [sumN, sumN, sumN_congr fun i hi => e i (Nat.lt_succ_of_lt hi), e n (Nat.lt_succ_self n)]
theorem sumN_add (g : Nat → Int) (a : Nat) : ∀ b : Nat, sumN g (a + b) = sumN g a + sumN (fun i => g (a + i)) b
  | 0 => by rw [Nat.add_zero, sumN, Int.add_zero]
  | b + 1 => by rw [← Nat.add_assoc, sumN, sumN_add g a b, sumN, Int.add_assoc]
theorem sumN_zero {g : Nat → Int} : ∀ {n : Nat}, (∀ i, i < n → g i = 0) → sumN g n = 0
  | 0, _ => rfl
  | n + 1, e => by rw [sumN, sumN_zero fun i hi => e i (Nat.lt_succ_of_lt hi), e n (Nat.lt_succ_self n)]; rfl
theorem sumN_tail {g : Nat → Int} {n m : Nat} (h : n ≤ m) (z : ∀ i, n ≤ i → g i = 0) : sumN g m = sumN g n := by
  obtain ⟨k, rfl⟩ := Nat.exists_eq_add_of_le h
  rw [sumN_add, sumN_zero fun i _ => z _ (Nat.le_add_right n i), Int.add_zero]
theorem sumN_plus (g h : Nat → Int) : ∀ n : Nat, sumN (fun i => g i + h i) n = sumN g n + sumN h n
  | 0 => rfl
  | n + 1 => by rw [sumN, sumN, sumN, sumN_plus g h n]; omega
theorem sumN_mul (g : Nat → Int) (c : Int) : ∀ n : Nat, sumN (fun i => g i * c) n = sumN g n * c
  | 0 => by rw [sumN, sumN, Int.zero_mul]
  | n + 1 => by rw [sumN, sumN, sumN_mul g c n, Int.add_mul]
theorem sumN_swap (g : Nat → Nat → Int) (m : Nat) : ∀ n : Nat, sumN (fun i => sumN (fun j => g i j) m) n = sumN (fun j => sumN (fun i => g i j) n) m
  | 0 => (sumN_zero fun _ _ => rfl).symm
  | n + 1 => by
    rw [sumN, sumN_swap g m n]
    exact (sumN_plus _ _ m).symm
theorem sumN_block (g : Nat → Int) (n : Nat) : ∀ m : Nat, sumN g (n * m) = sumN (fun j => sumN (fun p => g (n * j + p)) n) m
  | 0 => rfl
  | m + 1 => by rw [Nat.mul_succ, sumN_add, sumN, sumN_block g n m]
/-! the digits of a number, as its text in base 2 has them -/
def bt (a i : Nat) : Int := ((a / 2 ^ i % 2 : Nat) : Int)
theorem bt_zero (a : Nat) : bt a 0 = ((a % 2 : Nat) : Int) := by
  unfold bt
  rw [Nat.pow_zero, Nat.div_one]
theorem bt_succ (a i : Nat) : bt a (i + 1) = bt (a / 2) i := by
  unfold bt
  rw [Nat.pow_succ, Nat.mul_comm, Nat.div_div_eq_div_mul]
theorem bt_big {a n i : Nat} (h : a < 2 ^ n) (hi : n ≤ i) : bt a i = 0 := by
  have : a / 2 ^ i = 0 := Nat.div_eq_of_lt (Nat.lt_of_lt_of_le h (Nat.pow_le_pow_right (by decide) hi))
  unfold bt
  rw [this]
  rfl
theorem bt_or (a i : Nat) : bt a i = 0 ∨ bt a i = 1 := by
  unfold bt
  have := Nat.mod_lt (a / 2 ^ i) (show 0 < 2 by decide)
  omega
def bitsR (a : Nat) : List Nat := ((Nat.toDigits 2 a).map (·.toNat)).reverse
theorem bitsR_small {a : Nat} (h : a < 2) : bitsR a = [48 + a] := by
  unfold bitsR
  rw [Nat.toDigits_of_lt_base h]
  show [(Nat.digitChar a).toNat] = _
  rw [Nat.toNat_digitChar_of_lt_ten (by omega)]
theorem bitsR_big {a : Nat} (h : 2 ≤ a) : bitsR a = (48 + a % 2) :: bitsR (a / 2) := by
  unfold bitsR
  rw [Nat.toDigits_of_base_le (by decide) h, List.map_append, List.reverse_append]
  show (Nat.digitChar (a % 2)).toNat :: _ = _
  rw [Nat.toNat_digitChar_of_lt_ten (by omega)]
  rfl
theorem bitsR_get : ∀ (a i : Nat) (c : Nat), (bitsR a)[i]? = some c → (c : Int) = 48 + bt a i := by
  intro a
  induction a using Nat.strongRecOn with
  | ind a ih =>
    intro i c h
    by_cases h2 : a < 2
    · rw [bitsR_small h2] at h
      cases i with
      | zero =>
        obtain rfl := Option.some.inj h
        rw [bt_zero]
        omega
      | succ i => cases h
    · rw [bitsR_big (by omega)] at h
      cases i with
      | zero =>
        obtain rfl := Option.some.inj h
        rw [bt_zero]
        omega
      | succ i =>
        rw [bt_succ]
        exact ih (a / 2) (by omega) i c h
theorem bitsR_len : ∀ a : Nat, a < 2 ^ (bitsR a).length := by
  intro a
  induction a using Nat.strongRecOn with
  | ind a ih =>
    by_cases h2 : a < 2
    · rw [bitsR_small h2]
      exact h2
    · rw [bitsR_big (by omega)]
      have := ih (a / 2) (by omega)
      show a < 2 ^ ((bitsR (a / 2)).length + 1)
      rw [Nat.pow_succ]
      omega
theorem bitsR_le {a n : Nat} (h : a < 2 ^ n) (hn : 0 < n) : (bitsR a).length ≤ n := by
  unfold bitsR
  rw [List.length_reverse, List.length_map]
  exact (Nat.length_toDigits_le_iff (by decide) hn).mpr h
/-- how many signs 1 a list of codes has -/
def ones (l : List Nat) : Int := ((l.filter (· == 49)).length : Nat)
theorem ones_nil : ones [] = 0 := rfl
theorem ones_cons (c : Nat) (l : List Nat) : ones (c :: l) = (if c = 49 then 1 else 0) + ones l := by
  unfold ones
  rw [List.filter_cons]
  by_cases h : c = 49
  · rw [if_pos h, if_pos (by rw [h]; rfl), List.length_cons]
    omega
  · rw [if_neg h, if_neg (by simpa using h)]
    omega
theorem ones_append (a b : List Nat) : ones (a ++ b) = ones a + ones b := by
  unfold ones
  rw [List.filter_append, List.length_append]
  omega
/-- a picked row: the codes at f 0, f 1 .. that are there -/
theorem ones_pick (a : Nat) (f : Nat → Nat) : ∀ n : Nat, (∀ j, j < n → f j < (bitsR a).length) → ones (((List.range n).map f).filterMap ((bitsR a)[·]?)) = sumN (fun j => bt a (f j)) n
  | 0, _ => rfl
  | n + 1, h => by
    rw [List.range_succ, List.map_append, List.filterMap_append, ones_append, ones_pick a f n fun j hj => h j (by omega), sumN]
    congr 1
    obtain ⟨c, hc⟩ : ∃ c, (bitsR a)[f n]? = some c := ⟨_, List.getElem?_eq_getElem (h n (by omega))⟩
    have e := bitsR_get a (f n) c hc
    show ones ([f n].filterMap _) = _
    rw [List.filterMap_cons, hc]
    show ones [c] = _
    rw [ones_cons, ones_nil]
    rcases bt_or a (f n) with z | z
    · rw [if_neg (by omega), z]
      rfl
    · rw [if_pos (by omega), z]
      rfl
/-- the weights' row: classes ahead, classes of a round -/
def cls (na nt i : Nat) : Nat := if i < na then i else na + (i - na) % nt
/-- the counts of the classes -/
def cntA (a n p : Nat) : Int := bt a p
theorem count_split (a na nt M : Nat) (f : Nat → Int) (hn : 0 < nt) (hM : a < 2 ^ (na + nt * M)) :
    sumN (fun i => bt a i * f (cls na nt i)) (na + nt * M) = sumN (fun i => bt a i * f i) na + sumN (fun p => sumN (fun j => bt a (na + p + nt * j)) M * f (na + p)) nt := by
  rw [sumN_add]
  congr 1
  · refine sumN_congr fun i hi => ?_
    unfold cls
    rw [if_pos hi]
  · rw [sumN_block, sumN_swap]
    refine sumN_congr fun p hp => ?_
    rw [← sumN_mul]
    refine sumN_congr fun j _ => ?_
    have e1 : na + (nt * j + p) = na + p + nt * j := by omega
    have e2 : cls na nt (na + (nt * j + p)) = na + p := by
      unfold cls
      rw [if_neg (by omega), Nat.add_sub_cancel_left, Nat.mul_add_mod, Nat.mod_eq_of_lt hp]
    rw [e2, e1]
def stN (n lo k : Nat) : Nat := (n - lo + (k - 1)) / k
theorem stN_lt {n lo k j : Nat} (hk : 0 < k) (h : j < stN n lo k) : lo + k * j < n := by
  unfold stN at h
  have h1 : (j + 1) * k ≤ n - lo + (k - 1) := by
    have := (Nat.le_div_iff_mul_le hk).mp (show j + 1 ≤ (n - lo + (k - 1)) / k from h)
    exact this
  rw [Nat.add_mul, Nat.one_mul, Nat.mul_comm] at h1
  omega
theorem stN_ge {n lo k j : Nat} (hk : 0 < k) (h : stN n lo k ≤ j) : n ≤ lo + k * j := by
  unfold stN at h
  have h1 : n - lo + (k - 1) < (j + 1) * k := (Nat.div_lt_iff_lt_mul hk).mp (by omega)
  rw [Nat.add_mul, Nat.one_mul, Nat.mul_comm] at h1
  omega
theorem step_row {n lo k : Nat} (hk : 0 < k) : Builtin.Str.strSliceIndices (some (lo : Int)) none (k : Int) n = (List.range (stN n lo k)).map fun j => lo + k * j := by
  unfold Builtin.Str.strSliceIndices sliceRange
  have k0 : (k : Int) > 0 := by omega
  have l0 : ¬ ((lo : Int) < 0) := by omega
  simp only [k0, l0, if_true, if_false]
  by_cases h : lo < n
  · have e : max (0 : Int) (min (lo : Int) (n : Int)) = (lo : Int) := by omega
    rw [e, if_pos (by omega)]
    have e2 : (((n : Int) - (lo : Int) + (k : Int) - 1) / (k : Int)).toNat = stN n lo k := by
      unfold stN
      have : (n : Int) - (lo : Int) + (k : Int) - 1 = ((n - lo + (k - 1) : Nat) : Int) := by omega
      rw [this, ← Int.natCast_ediv]
      rfl
    rw [e2]
    refine List.map_congr_left fun j _ => ?_
    omega
  · have e : max (0 : Int) (min (lo : Int) (n : Int)) = (n : Int) := by omega
    rw [e, if_neg (by omega)]
    have e2 : stN n lo k = 0 := by
      unfold stN
      rw [show n - lo = 0 by omega, Nat.zero_add, Nat.div_eq_zero_iff]
      exact .inr (by omega)
    rw [e2]
    rfl

theorem cnt_ones : ∀ l : List Nat, PyProof.Rows.cnt 49 l = ones l
  | [] => rfl
  | c :: l => by rw [PyProof.Rows.cnt_cons, ones_cons, cnt_ones l]
theorem count_ones (z : Str) : Txt.count z ⟨#[49]⟩ = ones z.cps.toList := by rw [PyProof.Rows.count_cnt, cnt_ones]
/-- a text whose signs are the digits of a, the lowest first -/
def IsRev (z : Str) (a : Nat) : Prop := z.cps.toList = bitsR a
theorem IsRev.len {z : Str} {a : Nat} (h : IsRev z a) : z.length = (bitsR a).length := by
  show z.cps.size = _
  rw [← h, Array.length_toList]
theorem IsRev.get {z : Str} {a : Nat} (h : IsRev z a) (i : Nat) : z.cps[i]? = (bitsR a)[i]? := by
  rw [← h, Array.getElem?_toList]
theorem ones_one {a i c : Nat} (h : (bitsR a)[i]? = some c) : ones [c] = bt a i := by
  have e := bitsR_get a i c h
  rw [ones_cons, ones_nil]
  rcases bt_or a i with z | z
  · rw [if_neg (by omega), z]
    rfl
  · rw [if_pos (by omega), z]
    rfl
theorem cut_one {z : Str} {a : Nat} (h : IsRev z a) (p : Nat) : Txt.count (L2.cutS z (some (p : Int)) (some ((p : Int) + 1))) ⟨#[49]⟩ = bt a p := by
  rw [count_ones]
  have e : (p : Int) + 1 = ((p + 1 : Nat) : Int) := rfl
  show ones (((z.cps.toList.drop (HT.sIx z.length 0 (some (p : Int)))).take (HT.sIx z.length z.length (some ((p : Int) + 1)) - HT.sIx z.length 0 (some (p : Int)))).toArray).toList = _
  rw [List.toList_toArray, e, HT.sIx_nat, HT.sIx_nat, show z.cps.toList = bitsR a from h, h.len]
  by_cases hp : p < (bitsR a).length
  · rw [Nat.min_eq_left (by omega), Nat.min_eq_left (by omega), show p + 1 - p = 1 by omega, List.drop_eq_getElem_cons hp]
    exact ones_one (List.getElem?_eq_getElem hp)
  · rw [Nat.min_eq_right (by omega), Nat.min_eq_right (by omega), Nat.sub_self, List.take_zero, ones_nil, bt_big (bitsR_len a) (by omega)]
theorem cut_row {z : Str} {a lo k M : Nat} (h : IsRev z a) (hk : 0 < k) (hM : a < 2 ^ (lo + k * M)) : ones ((Builtin.Str.strSliceIndices (some (lo : Int)) none (k : Int) z.length).filterMap (z.cps[·]?)) = sumN (fun j => bt a (lo + k * j)) M := by
  have e : (fun i => z.cps[i]?) = fun i => (bitsR a)[i]? := funext h.get
  rw [step_row hk, e, h.len, ones_pick a (fun j => lo + k * j) _ fun j hj => stN_lt hk hj]
  rcases Nat.le_total (stN (bitsR a).length lo k) M with c | c
  · exact (sumN_tail c fun i hi => bt_big (bitsR_len a) (stN_ge hk hi)).symm
  · exact sumN_tail c fun i hi => bt_big hM (by
      have := Nat.mul_le_mul_left k hi
      omega)
end Dg
set_option maxRecDepth 100000
namespace Toy
open PySem L2 Dg
/-! the bank of a number by the weights of its digits -/
theorem sum_getD : ∀ l : List Int, l.sum = sumN (fun i => l.getD i 0) l.length := by
  intro l
  induction l with
  | nil => rfl
  | cons x l ih =>
    rw [List.sum_cons, ih, List.length_cons, Nat.add_comm l.length 1, sumN_add]
    show x + _ = sumN _ 1 + _
    have e1 : sumN (fun i => (x :: l).getD i 0) 1 = x := by
      show (0 : Int) + x = x
      omega
    rw [e1]
    congr 1
    refine sumN_congr fun i _ => ?_
    rw [Nat.add_comm]
    rfl
def pk (ns : List Int) (b : Int) (k : Nat) : Int := (partsI ns b).getD k 0
def dsum (f : Nat → Int) (a : Nat) : Int := sumN (fun i => bt a i * f i) (a.log2 + 1)
def rowS (ns : List Int) (w : Nat → Int) (a : Nat) : List Int := (List.range ns.length).map fun k => dsum (fun i => pk ns (w i) k) a % ns.getD k 1
def bankW (ns : List Int) (w : Nat → Int) (a : Nat) : Int := bankI ns (rowS ns w a)
theorem dsum_eq {f : Nat → Int} {a L : Nat} (h : a < 2 ^ L) : dsum f a = sumN (fun i => bt a i * f i) L := by
  unfold dsum
  have h2 : a < 2 ^ (a.log2 + 1) := Nat.lt_log2_self
  have z : ∀ n, a < 2 ^ n → ∀ i, n ≤ i → bt a i * f i = 0 := fun n hn i hi => by rw [bt_big hn hi, Int.zero_mul]
  rcases Nat.le_total L (a.log2 + 1) with c | c
  · exact sumN_tail c (z L h)
  · exact (sumN_tail c (z _ h2)).symm
theorem dsum_congr {f g : Nat → Int} {a : Nat} (h : ∀ i, f i = g i) : dsum f a = dsum g a := by rw [show f = g from funext h]
theorem dsum_zero (f : Nat → Int) : dsum f 0 = 0 := by rw [dsum_eq (L := 0) (by decide)]; rfl
theorem dsum_step (f : Nat → Int) (a : Nat) : dsum f a = bt a 0 * f 0 + dsum (fun i => f (i + 1)) (a / 2) := by
  have h2 : a < 2 ^ (a.log2 + 1) := Nat.lt_log2_self
  have h3 : a < 2 ^ (1 + (a.log2 + 1)) := Nat.lt_of_lt_of_le h2 (Nat.pow_le_pow_right (by decide) (by omega))
  have h4 : a / 2 < 2 ^ (a.log2 + 1) := Nat.lt_of_le_of_lt (Nat.div_le_self ..) h2
  rw [dsum_eq h3, dsum_eq h4, sumN_add]
  congr 1
  · show (0 : Int) + bt a 0 * f 0 = _
    omega
  · refine sumN_congr fun i _ => ?_
    rw [Nat.add_comm 1 i, bt_succ]
theorem dsum_plus (f g : Nat → Int) (a : Nat) : dsum (fun i => f i + g i) a = dsum f a + dsum g a := by
  unfold dsum
  rw [← sumN_plus]
  exact sumN_congr fun i _ => Int.mul_add _ _ _
theorem dsum_times (f : Nat → Int) (c : Int) (a : Nat) : dsum (fun i => c * f i) a = c * dsum f a := by
  unfold dsum
  rw [Int.mul_comm c, ← sumN_mul]
  refine sumN_congr fun i _ => ?_
  show bt a i * (c * f i) = bt a i * f i * c
  rw [Int.mul_comm c, Int.mul_assoc]
theorem dsum_mod {f g : Nat → Int} {m : Int} (h : ∀ i, f i % m = g i % m) (a : Nat) : dsum f a % m = dsum g a % m := by
  unfold dsum
  generalize a.log2 + 1 = L
  induction L with
  | zero => rfl
  | succ L ih =>
    rw [sumN, sumN, Int.add_emod, ih, Int.mul_emod, h, ← Int.mul_emod, ← Int.add_emod]
theorem bt_apart {a b n i : Nat} (h : b < 2 ^ n) : bt (a * 2 ^ n + b) i = bt (a * 2 ^ n) i + bt b i := by
  rcases Nat.lt_or_ge i n with c | c
  · have e : bt (a * 2 ^ n) i = 0 := by
      unfold bt
      rw [show n = i + (n - i - 1 + 1) by omega, Nat.pow_add, Nat.pow_succ, ← Nat.mul_assoc, Nat.mul_comm a, Nat.mul_assoc, Nat.mul_div_cancel_left _ (Nat.two_pow_pos i), ← Nat.mul_assoc, Nat.mul_mod_left]
      rfl
    rw [e, Int.zero_add]
    unfold bt
    have e2 : (a * 2 ^ n + b) / 2 ^ i % 2 = b / 2 ^ i % 2 := by
      rw [show a * 2 ^ n = 2 ^ i * (a * 2 ^ (n - i - 1) * 2) by
        rw [show n = i + (n - i - 1 + 1) by omega, Nat.pow_add, Nat.pow_succ, show i + (n - i - 1 + 1) - i - 1 = n - i - 1 by omega]
        rw [← Nat.mul_assoc, ← Nat.mul_assoc, ← Nat.mul_assoc, Nat.mul_comm a, ← Nat.mul_assoc]]
      rw [Nat.mul_add_div (Nat.two_pow_pos i), Nat.mul_comm _ 2, Nat.mul_add_mod]
    rw [e2]
  · rw [bt_big h c, Int.add_zero]
    unfold bt
    have e2 : (a * 2 ^ n + b) / 2 ^ i = a * 2 ^ n / 2 ^ i := by
      rw [show (2 : Nat) ^ i = 2 ^ n * 2 ^ (i - n) by rw [← Nat.pow_add]; congr 1; omega, ← Nat.div_div_eq_div_mul, ← Nat.div_div_eq_div_mul, Nat.mul_comm a, Nat.mul_add_div (Nat.two_pow_pos n), Nat.div_eq_of_lt h, Nat.add_zero, Nat.mul_div_cancel_left _ (Nat.two_pow_pos n)]
    rw [e2]
theorem dsum_apart (f : Nat → Int) {a b n : Nat} (h : b < 2 ^ n) : dsum f (a * 2 ^ n + b) = dsum f (a * 2 ^ n) + dsum f b := by
  have l1 : a * 2 ^ n + b < 2 ^ ((a * 2 ^ n + b).log2 + 1) := Nat.lt_log2_self
  rw [dsum_eq l1, dsum_eq (Nat.lt_of_le_of_lt (Nat.le_add_right _ b) l1), dsum_eq (Nat.lt_of_le_of_lt (Nat.le_add_left _ _) l1), ← sumN_plus]
  exact sumN_congr fun i _ => by rw [bt_apart h, Int.add_mul]
theorem bt_div (a k i : Nat) : bt (a / 2 ^ k) i = bt a (k + i) := by
  unfold bt
  rw [Nat.pow_add, Nat.div_div_eq_div_mul]
theorem bt_mod (a k i : Nat) : bt (a % 2 ^ k) i = if i < k then bt a i else 0 := by
  by_cases c : i < k
  · rw [if_pos c]
    have h := bt_apart (a := a / 2 ^ k) (b := a % 2 ^ k) (n := k) (i := i) (Nat.mod_lt _ (Nat.two_pow_pos k))
    rw [Nat.mul_comm, Nat.div_add_mod] at h
    have h0 := bt_apart (a := a / 2 ^ k) (b := 0) (n := k) (i := i) (Nat.two_pow_pos k)
    have e : bt (2 ^ k * (a / 2 ^ k)) i = 0 := by
      unfold bt
      rw [show k = i + (k - i - 1 + 1) by omega, Nat.pow_add, Nat.pow_succ, Nat.mul_assoc, Nat.mul_div_cancel_left _ (Nat.two_pow_pos i), Nat.mul_comm _ 2, Nat.mul_assoc, Nat.mul_mod_right]
      rfl
    rw [h, e, Int.zero_add]
  · rw [if_neg c, bt_big (Nat.mod_lt a (Nat.two_pow_pos k)) (by omega)]
theorem dsum_shift (f : Nat → Int) (a k : Nat) : dsum (fun i => if i < k then 0 else f (i - k)) a = dsum f (a / 2 ^ k) := by
  have l1 : a < 2 ^ (k + (a.log2 + 1)) := Nat.lt_of_lt_of_le Nat.lt_log2_self (Nat.pow_le_pow_right (by decide) (by omega))
  have l2 : a / 2 ^ k < 2 ^ (a.log2 + 1) := Nat.lt_of_le_of_lt (Nat.div_le_self ..) Nat.lt_log2_self
  rw [dsum_eq l1, dsum_eq l2, sumN_add, sumN_zero fun i hi => by rw [if_pos hi, Int.mul_zero], Int.zero_add]
  exact sumN_congr fun i _ => by rw [if_neg (by omega), Nat.add_sub_cancel_left, bt_div]
theorem dsum_cut (f : Nat → Int) (a k : Nat) : dsum (fun i => if i < k then f i else 0) a = dsum f (a % 2 ^ k) := by
  have l1 : a < 2 ^ (a.log2 + 1) := Nat.lt_log2_self
  rw [dsum_eq l1, dsum_eq (Nat.lt_of_le_of_lt (Nat.mod_le ..) l1)]
  refine sumN_congr fun i _ => ?_
  rw [bt_mod]
  by_cases c : i < k
  · rw [if_pos c, if_pos c]
  · rw [if_neg c, if_neg c, Int.mul_zero, Int.zero_mul]
theorem dsum_pow (a : Nat) : dsum (fun i => 2 ^ i) a = a := by
  have key : ∀ L : Nat, ∀ a : Nat, a < 2 ^ L → sumN (fun i => bt a i * 2 ^ i) L = a := by
    intro L
    induction L with
    | zero =>
      intro a h
      have : a = 0 := by
        rw [Nat.pow_zero] at h
        omega
      rw [this]
      rfl
    | succ L ih =>
      intro a h
      rw [Nat.add_comm, sumN_add]
      have e0 : sumN (fun i => bt a i * 2 ^ i) 1 = ((a % 2 : Nat) : Int) := by
        show (0 : Int) + bt a 0 * 1 = _
        rw [bt_zero]
        omega
      have e1 : sumN (fun i => bt a (1 + i) * (2 : Int) ^ (1 + i)) L = 2 * sumN (fun i => bt (a / 2) i * 2 ^ i) L := by
        rw [Int.mul_comm 2, ← sumN_mul]
        refine sumN_congr fun i _ => ?_
        rw [Nat.add_comm 1 i, bt_succ, Int.pow_succ, Int.mul_assoc]
      rw [e0, e1, ih (a / 2) (by rw [Nat.pow_succ] at h; omega)]
      omega
  exact key _ a Nat.lt_log2_self
/-! rows of sums -/
theorem rowS_len (ns : List Int) (w : Nat → Int) (a : Nat) : (rowS ns w a).length = ns.length := by
  unfold rowS
  rw [List.length_map, List.length_range]
theorem rowS_at {ns : List Int} {w : Nat → Int} {a k : Nat} (h : k < ns.length) : (rowS ns w a)[k]? = some (dsum (fun i => pk ns (w i) k) a % ns.getD k 1) := by
  unfold rowS
  rw [List.getElem?_map, List.getElem?_range h]
  rfl
theorem rowS_dig {ns : List Int} {w : Nat → Int} {a : Nat} (hn : ∀ n ∈ ns, 2 ≤ n ∧ n ≤ 32) : Dig ns (rowS ns w a) := dig_of (rowS_len ..) fun k n p e1 e2 => by
  have hk : k < ns.length := (List.getElem?_eq_some_iff.mp e1).1
  have h2 := hn n (List.mem_of_getElem? e1)
  rw [rowS_at hk] at e2
  obtain rfl := Option.some.inj e2
  rw [show ns.getD k 1 = n by rw [List.getD_eq_getElem?_getD, e1]; rfl]
  exact ⟨Int.emod_nonneg _ (by omega), Int.emod_lt_of_pos _ (by omega)⟩
theorem bankW_lt {ns : List Int} {w : Nat → Int} {a : Nat} (hM : Mods ns) : 0 ≤ bankW ns w a ∧ bankW ns w a < prodI ns := bank_lt hM.2 (rowS_dig hM.2)
theorem parts_bankW {ns : List Int} {w : Nat → Int} {a : Nat} (hM : Mods ns) : partsI ns (bankW ns w a) = rowS ns w a := parts_bank hM.2 (rowS_dig hM.2)
theorem bankW_congr {ns : List Int} {w w' : Nat → Int} {a : Nat} (h : ∀ i, w i = w' i) : bankW ns w a = bankW ns w' a := by rw [show w = w' from funext h]
/-- two rows of parts are one where each part is -/
theorem row_ext {ns x y : List Int} (lx : x.length = ns.length) (ly : y.length = ns.length) (h : ∀ (k : Nat) (n : Int), k < ns.length → ns[k]? = some n → x.getD k 0 = y.getD k 0) : x = y := by
  refine List.ext_getElem? fun k => ?_
  by_cases hk : k < ns.length
  · have e := h k _ hk (List.getElem?_eq_getElem hk)
    rw [List.getD_eq_getElem?_getD, List.getD_eq_getElem?_getD, List.getElem?_eq_getElem (by omega), List.getElem?_eq_getElem (by omega)] at e
    rw [List.getElem?_eq_getElem (by omega), List.getElem?_eq_getElem (by omega)]
    exact congrArg some e
  · rw [List.getElem?_eq_none (by omega), List.getElem?_eq_none (by omega)]
theorem rowS_get {ns : List Int} {w : Nat → Int} {a k : Nat} {n : Int} (hk : k < ns.length) (e : ns[k]? = some n) : (rowS ns w a).getD k 0 = dsum (fun i => pk ns (w i) k) a % n := by
  rw [List.getD_eq_getElem?_getD, rowS_at hk, show ns.getD k 1 = n by rw [List.getD_eq_getElem?_getD, e]; rfl]
  rfl
theorem sumsI_get {ns bs ts : List Int} {k : Nat} {n : Int} (hk : k < ns.length) (e : ns[k]? = some n) : (sumsI ns bs ts).getD k 0 = ((ts.zip bs).map fun p => p.1 * pk ns p.2 k).sum % n := by
  rw [List.getD_eq_getElem?_getD, sums_at hk]
  show colI ns bs ts k = _
  unfold colI
  rw [show ns.getD k 1 = n by rw [List.getD_eq_getElem?_getD, e]; rfl]
  rfl
/-- a part of a bank is below its modulus -/
theorem pk_at {ns : List Int} {b : Int} {k : Nat} {n : Int} (hM : Mods ns) (hk : k < ns.length) (e : ns[k]? = some n) : 0 ≤ pk ns b k ∧ pk ns b k < n := by
  obtain ⟨y, hy⟩ : ∃ y, (partsI ns b)[k]? = some y := ⟨_, List.getElem?_eq_getElem (by rw [partsI_len]; exact hk)⟩
  obtain ⟨n', e', y0, y1⟩ := partsI_at hM.2 hy
  rw [e] at e'
  obtain rfl := Option.some.inj e'
  unfold pk
  rw [List.getD_eq_getElem?_getD, hy]
  exact ⟨y0, y1⟩
theorem pk_mod {ns : List Int} {b : Int} {k : Nat} {n : Int} (hM : Mods ns) (hk : k < ns.length) (e : ns[k]? = some n) : pk ns b k % n = pk ns b k := Int.emod_eq_of_lt (pk_at hM hk e).1 (pk_at hM hk e).2
/-- the sum of two banks -/
def addB (ns : List Int) (i j : Int) : Int := bankI ns (sumsI ns [i, j] [1, 1])
theorem addB_pk {ns : List Int} {i j : Int} {k : Nat} {n : Int} (hM : Mods ns) (hk : k < ns.length) (e : ns[k]? = some n) : pk ns (addB ns i j) k = (pk ns i k + pk ns j k) % n := by
  unfold addB pk
  rw [parts_sum hM, sumsI_get hk e]
  show (1 * pk ns i k + (1 * pk ns j k + 0)) % n = _
  rw [Int.one_mul, Int.one_mul, Int.add_zero]
  rfl
theorem addB_lt {ns : List Int} {i j : Int} (hM : Mods ns) : 0 ≤ addB ns i j ∧ addB ns i j < prodI ns := bank_lt hM.2 (sums_dig hM.2)
theorem bankW_pk {ns : List Int} {w : Nat → Int} {a k : Nat} {n : Int} (hM : Mods ns) (hk : k < ns.length) (e : ns[k]? = some n) : pk ns (bankW ns w a) k = dsum (fun i => pk ns (w i) k) a % n := by
  unfold pk
  rw [parts_bankW hM]
  exact rowS_get hk e
/-- banks with the same parts are one -/
theorem bank_ext {ns : List Int} {i j : Int} (hM : Mods ns) (i0 : 0 ≤ i) (i1 : i < prodI ns) (j0 : 0 ≤ j) (j1 : j < prodI ns) (h : ∀ (k : Nat) (n : Int), k < ns.length → ns[k]? = some n → pk ns i k = pk ns j k) : i = j := by
  rw [← bank_parts hM.2 i0 i1, ← bank_parts hM.2 j0 j1]
  congr 1
  exact row_ext (partsI_len ..) (partsI_len ..) h
/-- numbers with digits apart add their banks -/
theorem bankW_apart {ns : List Int} {w : Nat → Int} {a b n : Nat} (hM : Mods ns) (h : b < 2 ^ n) : bankW ns w (a * 2 ^ n + b) = addB ns (bankW ns w (a * 2 ^ n)) (bankW ns w b) := by
  refine bank_ext hM (bankW_lt hM).1 (bankW_lt hM).2 (addB_lt hM).1 (addB_lt hM).2 fun k m hk e => ?_
  rw [addB_pk hM hk e, bankW_pk hM hk e, bankW_pk hM hk e, bankW_pk hM hk e, ← Int.add_emod, dsum_apart _ h]
theorem bankW_zero {ns : List Int} {w : Nat → Int} (hM : Mods ns) : bankW ns w 0 = 0 := by
  refine bank_ext hM (bankW_lt hM).1 (bankW_lt hM).2 (Int.le_refl 0) (prodI_pos hM.2) fun k m hk e => ?_
  rw [bankW_pk hM hk e, dsum_zero, Int.zero_emod]
  have z : ∀ (ns : List Int) (k : Nat), (partsI ns 0).getD k 0 = 0 := by
    intro ns
    induction ns with
    | nil => intro k; rfl
    | cons n ns ih =>
      intro k
      cases k with
      | zero => exact Int.zero_emod n
      | succ k =>
        show (partsI ns (0 / n)).getD k 0 = 0
        rw [Int.zero_ediv]
        exact ih k
  exact (z ns k).symm
/-- the sum over classes is that over places -/
def onesL (a na nt : Nat) : List Int := (List.range na).map (bt a) ++ (List.range nt).map fun p => sumN (fun j => bt a (na + p + nt * j)) (a.log2 + 1)
theorem onesL_len (a na nt : Nat) : (onesL a na nt).length = na + nt := by
  unfold onesL
  rw [List.length_append, List.length_map, List.length_map, List.length_range, List.length_range]
theorem onesL_at (a na nt i : Nat) (h : i < na + nt) : (onesL a na nt).getD i 0 = if i < na then bt a i else sumN (fun j => bt a (i + nt * j)) (a.log2 + 1) := by
  unfold onesL
  rw [List.getD_eq_getElem?_getD]
  by_cases c : i < na
  · rw [if_pos c, List.getElem?_append_left (by rw [List.length_map, List.length_range]; exact c), List.getElem?_map, List.getElem?_range c]
    rfl
  · rw [if_neg c, List.getElem?_append_right (by rw [List.length_map, List.length_range]; omega), List.length_map, List.length_range, List.getElem?_map, List.getElem?_range (by omega)]
    show sumN (fun j => bt a (na + (i - na) + nt * j)) _ = _
    rw [show na + (i - na) = i by omega]
theorem wAt_cls {A T : List Int} {i : Nat} (h : i < A.length + T.length) : (A ++ T).getD i 0 = wAt A T i := by
  unfold wAt pAt
  by_cases c : i < A.length
  · rw [if_pos c, List.getD_eq_getElem?_getD, List.getElem?_append_left c, List.getD_eq_getElem?_getD]
  · rw [if_neg c, List.getD_eq_getElem?_getD, List.getElem?_append_right (by omega), List.getD_eq_getElem?_getD, Nat.mod_eq_of_lt (by omega)]
theorem wAt_per {A T : List Int} (i : Nat) : wAt A T (cls A.length T.length i) = wAt A T i := by
  unfold cls
  by_cases c : i < A.length
  · rw [if_pos c]
  · rw [if_neg c]
    unfold wAt pAt
    rw [if_neg (by omega), if_neg c, Nat.add_sub_cancel_left, Nat.mod_mod]
theorem sum_zip (f : Int → Int) (ts bs : List Int) (h : bs.length = ts.length) : ((ts.zip bs).map fun p => p.1 * f p.2).sum = sumN (fun i => ts.getD i 0 * f (bs.getD i 0)) bs.length := by
  rw [sum_getD, List.length_map, List.length_zip, ← h, Nat.min_self]
  refine sumN_congr fun i hi => ?_
  have h1 : i < ts.length := by omega
  have hz : (ts.zip bs)[i]? = some (ts[i], bs[i]) := List.getElem?_zip_eq_some.mpr ⟨List.getElem?_eq_getElem h1, List.getElem?_eq_getElem hi⟩
  rw [List.getD_eq_getElem?_getD, List.getElem?_map, hz, List.getD_eq_getElem?_getD, List.getD_eq_getElem?_getD, List.getElem?_eq_getElem h1, List.getElem?_eq_getElem hi]
  rfl
theorem bank_ones {ns A T : List Int} {a : Nat} (hM : Mods ns) (ne : T ≠ []) : bankI ns (sumsI ns (A ++ T) (onesL a A.length T.length)) = bankW ns (wAt A T) a := by
  unfold bankW
  congr 1
  refine row_ext (sums_len ..) (rowS_len ..) fun k n hk e => ?_
  rw [sumsI_get hk e, rowS_get hk e, sum_zip (fun b => pk ns b k) _ _ (by rw [onesL_len, List.length_append])]
  congr 1
  have tp : 0 < T.length := List.length_pos_iff.mpr ne
  have hL : a < 2 ^ (A.length + T.length * (a.log2 + 1)) := Nat.lt_of_lt_of_le Nat.lt_log2_self (Nat.pow_le_pow_right (by decide) (by
    have := Nat.mul_le_mul_right (a.log2 + 1) tp
    omega))
  have c1 := count_split a A.length T.length (a.log2 + 1) (fun i => pk ns (wAt A T i) k) tp hL
  rw [dsum_eq hL]
  have c2 : sumN (fun i => bt a i * pk ns (wAt A T (cls A.length T.length i)) k) (A.length + T.length * (a.log2 + 1)) = sumN (fun i => bt a i * pk ns (wAt A T i) k) (A.length + T.length * (a.log2 + 1)) := sumN_congr fun i _ => by rw [wAt_per]
  rw [← c2, c1, List.length_append, sumN_add]
  congr 1
  · refine sumN_congr fun i hi => ?_
    rw [onesL_at _ _ _ _ (by omega), if_pos hi, wAt_cls (by omega)]
  · refine sumN_congr fun p hp => ?_
    rw [onesL_at _ _ _ _ (by omega), if_neg (by omega), wAt_cls (by omega)]
end Toy
set_option maxRecDepth 100000
namespace Fb
open PySem Builtin PyProof.Rows Float
/-! f"{n:b}" -/
def binT (a : Nat) : Str := ⟨((Nat.toDigits 2 a).map (·.toNat)).toArray⟩
section
variable {prog : Program} {w : World} {A : Around} {E : Value → Shared → Prop} {s : Shared}
set_option maxHeartbeats 2000000 in
theorem formatField_b {a : Nat} {t : Tok} {Q : Value → Shared → Prop} (hlen : (binT a).length ≤ sizeLine) (h : Q (.str (binT a) (s.toks + 1)) { s with toks := s.toks + 1 + 1 }) :
    wpAny (model prog w) A (formatField (.int (a : Int) t) "b") Q E s := by
  obtain ⟨f, hp, hty, hpr, hz, hal, hw, hgr, hsg, hfi, hag⟩ : ∃ f : FormatSpec, parseFormatSpec (Str.ofString "b").cps.toList "int" 62 = .ok f ∧ f.type = some 98 ∧ f.precision = none ∧ f.noNeg0 = false ∧ f.alt = false ∧ f.width = none ∧ f.grouping = none ∧ f.sign = none ∧ f.fill = 32 ∧ f.align = 62 := ⟨_, rfl, rfl, rfl, rfl, rfl, rfl, rfl, rfl, rfl, rfl⟩
  have hne : ((Str.ofString "b").length == 0) = false := by rfl
  have hasc : (((Str.ofString "b").cps.toList.drop 1).any (· ≥ 128) || ((Str.ofString "b").cps.getD 0 0 ≥ 128 && !([60, 62, 61, 94] : List Nat).contains ((Str.ofString "b").cps.getD 1 0))) = false := by decide +kernel
  show wpAny _ _ (holding [.int (a : Int) t] (pyFormat (.int (a : Int) t) "b")) Q E s
  refine wpAny_holding ?_
  unfold pyFormat
  refine wpAny_bind (wpAny_mkStr ?_ (by decide))
  refine wpAny_bind (m := callSpecial? (.int (a : Int) t) (Str.ofString "__format__") [.str "b" s.toks]) (wpAny_callSpecial?_slot (name := Str.ofString "__format__") (typeIs_int _ (a : Int) t) PySem.F.slot_int_format ?_)
  refine wpAny_call (codeAny_call_builtin PySem.F.slot_int_format.plain PySem.F.entry_int_format (PySem.F.slot_int_format.check _ _ _ _ _ _ _ _ (typeIs_int _ (a : Int) t) (PySem.F.args_int_format_2 _ _) ?_))
  unfold Builtin.«int.__format__»
  simp only [selfAndOne, noKeywords, Int.intOfSelf, asInt?, asStr?, List.isEmpty_nil, if_true, pure_bind, bind_pure, bind_assoc, hne, hasc, Bool.false_eq_true, if_false,
    show (Value.str (Str.ofString "b") s.toks == Value.none) = false from rfl]
  refine wpAny_bind (wpAny_typeNameOf (T := "str") (typeIs_str _ _ _) (by decide) fun _ => ?_)
  first | refine wpAny_bind (wpAny_typeNameOfCut_int ?_) | refine wpAny_bind (wpAny_typeNameOf_int ?_)
  simp only [hp, hty, Option.getD_some]
  rw [if_pos (by decide)]
  show wpAny _ _ (if _ then _ else _) _ _ _
  rw [if_neg (by simp [hpr])]
  show wpAny _ _ (if _ then _ else _) _ _ _
  rw [if_neg (by simp [hz])]
  show wpAny _ _ (if _ then _ else _) _ _ _
  rw [if_neg (by decide)]
  show wpAny _ _ (if _ then _ else _) _ _ _
  rw [if_neg (by decide)]
  show wpAny _ _ (if _ then _ else _) _ _ _
  rw [if_neg (by simp [hw])]
  show wpAny _ _ (retStr _) _ _ _
  unfold retStr
  have z0 : decide ((a : Int) < 0) = false := decide_eq_false (by omega)
  have z1 : ((a : Int)).natAbs = a := Int.natAbs_natCast a
  simp only [z0, z1, hal, Bool.false_eq_true, if_false, show ((2 : Nat) == 10) = false from rfl, show ((98 : Nat) == 88) = false from rfl]
  clear hp
  cases f
  dsimp only at hty hpr hz hal hw hgr hsg hfi hag
  subst hty hpr hz hal hw hgr hsg hfi hag
  refine wpAny_bind (wpAny_mkStr (wpAny_pure ?_) ?hs2)
  case hs2 =>
    conv => lhs; arg 1; whnf
    simpa [binT] using hlen
  dsimp only
  refine wpAny_bind (wpAny_isInstance (typeIs_str _ _ _) isSubtype_str_str (wpAny_pure ?_))
  conv => arg 1; arg 1; whnf
  simpa [binT] using h
end
end Fb
namespace L2
open PySem PySem.Spec PyProof.Rows
/-- {n:b} of a number that is not below 0 -/
def tFmtB (te : TE) : TE := fun σ H Q => te σ H fun x H1 => ∃ a : Nat, x = .int (a : Int) ∧ (Fb.binT a).length ≤ sizeLine ∧ Q (.str (Fb.binT a)) H1
theorem pe_fmtB {X : Cx} {e : Expr} {te : TE} {k : Nat} {p p2 pos : Pos} (he : PE X e te) : PE X (.FormattedValue e (-1) (some (.JoinedStr [.Constant (.str "b") k p] p2)) pos) (tFmtB te) := by
  refine ⟨fun pins s σ H Q I h => ?_⟩
  refine wpAny_FormattedValue_spec (thn (he.run pins s σ H _ I h) fun v s1 hv => ?_)
  obtain ⟨x, H1, I1, r1, a, rfl, hz, q⟩ := hv
  obtain ⟨t, rfl⟩ := r1
  have hb : PE X (.JoinedStr [.Constant (.str "b") k p] p2) (tC (.str "b")) := pe_fs1 pe_str
  refine thn (hb.run pins s1 σ H1 (fun y H2 => y = .str "b" ∧ H2 = H1) I1 ⟨rfl, rfl⟩) fun w s2 hw => ?_
  obtain ⟨y, H2, I2, r2, ey, eH⟩ := hw
  subst ey eH
  obtain ⟨t2, rfl⟩ := r2
  exact ⟨_, t2, rfl, Fb.formatField_b hz ⟨.str (Fb.binT a), _, I2.tok _, ⟨_, rfl⟩, q⟩⟩
end L2
set_option maxRecDepth 100000
namespace L2
open PySem PySem.Spec PyProof.Rows
/-! z[lo:hi:k] of a text -/
def cutX (z : Str) (lo hi : Option Int) (k : Int) : Str := ⟨((Builtin.Str.strSliceIndices lo hi k z.length).filterMap (z.cps[·]?)).toArray⟩
theorem cutX_len (z : Str) (lo hi : Option Int) (k : Int) (h0 : k ≠ 0) : (cutX z lo hi k).length ≤ z.length := by
  have h1 := PySem.sliceIndicesBy_le lo hi k h0 z.length
  have h2 := List.length_filterMap_le (z.cps[·]?) (Builtin.Str.strSliceIndices lo hi k z.length)
  show (((Builtin.Str.strSliceIndices lo hi k z.length).filterMap (z.cps[·]?)).toArray).size ≤ _
  rw [List.size_toArray]
  exact Nat.le_trans h2 h1
def tSlX (te : TE) (tl th ts : St → Hp → (Option Int → Hp → Prop) → Prop) : TE := fun σ H Q => te σ H fun x H1 => tl σ H1 fun lo H2 => th σ H2 fun hi H3 => ts σ H3 fun o H4 => ∃ (z : Str) (k : Int), x = .str z ∧ o = some k ∧ k ≠ 0 ∧ z.length ≤ sizeLine ∧
  (k = 1 → (Builtin.Str.strSliceIndices lo hi k z.length).length = z.length → cutX z lo hi k = z) ∧ Q (.str (cutX z lo hi k)) H4
theorem pe_slX {X : Cx} {e st : Expr} {lo hi : Option Expr} {te : TE} {tl th ts : St → Hp → (Option Int → Hp → Prop) → Prop} {p3 pos : Pos} (he : PE X e te) (hl : PO X lo tl) (hh : PO X hi th) (hst : PO X (some st) ts)
    (htl : ∀ (v : Value) (a : Addr) (s : Shared), True := by intros; trivial) :
    PE X (.Subscript e (.Slice lo hi (some st) p3) pos) (tSlX te tl th ts) := by
  refine ⟨fun pins s σ H Q I h => ?_⟩
  refine Subscript_ (thn (he.run pins s σ H _ I h) fun v s1 ⟨x, H1, I1, r1, q1⟩ => ?_)
  refine wpAny_Slice (thn (hl.run pins s1 σ H1 _ I1 q1) fun vl s2 ⟨l, H2, I2, pl, q2⟩ => ?_)
  refine thn (hh.run pins s2 σ H2 _ I2 q2) fun vu s3 ⟨u, H3, I3, pu, q3⟩ => ?_
  refine thn (hst.run pins s3 σ H3 _ I3 q3) fun vs s4 ⟨o, H4, I4, ps, q4⟩ => ?_
  obtain ⟨z, k, ex, eo, k0, hz, hw, q⟩ := q4
  subst ex eo
  obtain ⟨t, rfl⟩ := r1
  have I5 : Inv X pins σ H4 { s4 with heap := s4.heap.push { cls := .type "slice", data := .fields #[vl, vu, vs] } } := I4.kept (t' := s4.toks) fun b ob q => Heap.get?_push_of_some _ q
  show wpAny (model X.prog X.w) X.A (subscriptTail e (.Slice lo hi (some st) p3) (.str z t) (.ref s4.heap.objs.size)) (EP X pins σ Q) X.xe { s4 with heap := s4.heap.push { cls := .type "slice", data := .fields #[vl, vu, vs] } }
  refine tail_any (ops := [.str z t, .ref s4.heap.objs.size]) (typeIs_str _ _ _) (PySem.F.slot_str_getitem.lookup) ?_ (by with_unfolding_all rfl)
  obtain ⟨l', rfl, rfl⟩ := IsPart.raw pl
  obtain ⟨u', rfl, rfl⟩ := IsPart.raw pu
  obtain ⟨k', rfl, hk⟩ := IsPart.raw ps
  refine wpAny_getItem_str_slice (l := l') (u := u') (st := k') ⟨_, Heap.get?_push_size _ rfl, rfl, rfl⟩ (by rw [hk]; simpa using k0) ?_
  have hlen : (cutX z (l'.map (·.1)) (u'.map (·.1)) k).length ≤ sizeLine := Nat.le_trans (cutX_len z _ _ k k0) hz
  unfold sliceMade slicePicked
  rw [hk]
  show Made.post (if (k == 1 && (Builtin.Str.strSliceIndices (l'.map (·.1)) (u'.map (·.1)) k z.length).length == z.length) = true then Made.val (.str z t)
    else Made.str (cutX z (l'.map (·.1)) (u'.map (·.1)) k)) (EP X pins σ Q) _
  by_cases c : (k == 1 && (Builtin.Str.strSliceIndices (l'.map (·.1)) (u'.map (·.1)) k z.length).length == z.length) = true
  · rw [if_pos c]
    obtain ⟨c1, c2⟩ := Bool.and_eq_true_iff.mp c
    rw [hw (beq_iff_eq.mp c1) (beq_iff_eq.mp c2)] at q
    exact ⟨.str z, H4, I5, ⟨t, rfl⟩, q⟩
  · rw [if_neg c]
    exact ⟨hlen, .str _, H4, I5.tok _, ⟨_, rfl⟩, q⟩
end L2
set_option maxRecDepth 100000
namespace L2
open PySem PySem.Spec PyProof.Rows
/-! an instance called, by place and by keywords; readings that don't know the context -/
def tCallI (C : Addr) (sp : Sp) (E : XK) (tf : TE) (t : TA) : TE := fun σ H Q => tf σ H fun y H1 => ∃ a, y = V.ref a ∧ t σ H1 fun vs H2 => (∃ dx fs, H2 a = some (.ins C dx fs)) ∧ sp (V.ref a :: vs) H2 Q E
def tCallIK (m : Nat) (C : Addr) (sp : Sp) (gV : List V → List V → List V) (E : XK) (tf : TE) (tk : TA) : TE := fun σ H Q => tf σ H fun y H1 => ∃ a, y = V.ref a ∧ tk σ H1 fun zs H2 => zs.length = m ∧ (∃ dx fs, H2 a = some (.ins C dx fs)) ∧ sp (gV [V.ref a] zs) H2 Q E
section
variable {X : Cx} {CX : CXT} {k n : Nat} {g C : Addr} {fd : FuncData} {ps ks : List Str} {sp : Sp} {E : XK} {e fe : Expr} {es : List Expr} {te tf : TE} {t tk : TA} {pos : Pos} {kws : List Keyword} {gg : List Value → List Value → List Value} {gV : List V → List V → List V}
theorem pe_callI (hf : PE X fe tf) (c : StX.CallO X.K C g) (F : FnR X.prog X.w X.K X.mg X.base CX k g sp) (hr : Room k X.A) (hx : Passes CX X E) (ha : PA X (e :: es) t)
    (ht : eval (.Call fe (e :: es) [] pos) X.env = (do callWith pos (← eval fe X.env) [] (backTo pos (starEach (e :: es) X.env)) (backToKw pos (keywordEach [] X.env))) := by rfl)
    (he : starEach (e :: es) X.env = (false, eval e X.env) :: starEach es X.env := by rfl) (hpl : (backTo pos (starEach es X.env)).any (·.1) = false := by rfl) : PE X (.Call fe (e :: es) [] pos) (tCallI C sp E tf t) := by
  refine ⟨fun pins s σ H Q I h => ?_⟩
  refine Call_ (thn (hf.run pins s σ H _ I h) fun u s1 ⟨y, H1, I1, ry, a, ey, q⟩ => ?_) ht
  subst ey
  obtain rfl : u = Value.ref a := ry
  refine StX.callO_with (thn (ha.run pos pins s1 σ H1 _ I1 q) fun us s2 ⟨vs, H2, I2, r, hi, q2⟩ => ?_) he hpl
  obtain ⟨ox, od, J, hd⟩ := StX.insC_at I2 (.inr hi)
  exact ⟨⟨C, ox, od, J, hd⟩, StX.run_callO c F hr hx I2 (.inr hi) r q2⟩
theorem callOK_of {M : Model} {A : Around} {E : Value → Shared → Prop} {s : Shared} {a : Addr} {pos : Pos} {Q : Value → Shared → Prop} {args : List (Bool × Sem Value)} {keywords : List (Option Str × Sem Value)} (hplain : (args.any (·.1) || keywords.any (·.1.isNone)) = false)
    (h : wpAny M A (evalArgs (.ref a) true args keywords) (fun z s₁ => (∃ C ox od, PySem.W.InstAt s₁.heap a ox C od ∧ ox.data = .plain) ∧ wpAny M A (call (.ref a) ([] ++ z.pos) z.kw) Q E s₁) E s) : wpAny M A (callWith pos (.ref a) [] args keywords) Q E s := by
  unfold callWith
  refine wpAny_bind (wpAny_holding (wpAny_mono h (fun z s₁ h₁ => wpAny_bind (wpAny_standAt ?_)) fun _ _ y => y))
  obtain ⟨⟨C, ox, od, J, hd⟩, h₁⟩ := h₁
  have L := PySem.W.kco_keeper (M := M) J hd
  simp only [hplain]
  refine wpAny_bind (L.here ?_)
  have tail : ∀ {t : Sem Value}, wpAny M A t Q E s₁ → wpAny M A (t >>= fun r => holding [r] point >>= fun _ => pure r) Q E s₁ :=
    fun ht => wpAny_bind (wpAny_mono ht (fun r s₂ hr => wpAny_bind (wpAny_holding (wpAny_point (wpAny_pure hr)))) fun _ _ y => y)
  exact tail (wpAny_operateT h₁)
theorem pe_callIK0 (hf : PE X fe tf) (c : StX.CallO X.K C g) (F : FnOk X.prog X.w X.K X.mg X.base CX k g fd ps sp) (hr : Room k X.A) (hb : KBn X.K fd ps 1 ks gg gV) (hx : Passes CX X E) (hkw : PK X kws tk)
    (ht : eval (.Call fe [] kws pos) X.env = (do callWith pos (← eval fe X.env) [] (backTo pos (starEach [] X.env)) (backToKw pos (keywordEach kws X.env))) := by rfl)
    (hall : (backToKw pos (keywordEach kws X.env)).all (·.1.isSome) = true := by rfl) (hks : (backToKw pos (keywordEach kws X.env)).filterMap (·.1) = ks := by rfl)
    (hpl : ((backTo pos (starEach [] X.env)).any (·.1) || (backToKw pos (keywordEach kws X.env)).any (·.1.isNone)) = false := by rfl) : PE X (.Call fe [] kws pos) (tCallIK ks.length C sp gV E tf tk) := by
  refine ⟨fun pins s σ H Q I h => ?_⟩
  rw [ht]
  refine wpAny_bind (thn (hf.run pins s σ H _ I h) fun u s1 ⟨y, H1, I1, ry, a, ey, q⟩ => ?_)
  subst ey
  obtain rfl : u = Value.ref a := ry
  refine callOK_of hpl (evalArgs_kw2_nil hall (thn (hkw.run pos pins s1 σ H1 _ I1 q) fun ws s2 hh => ?_))
  obtain ⟨zs, H2, I2, rz, l2, hi, q2⟩ := hh
  obtain ⟨ox, od, J, hd⟩ := StX.insC_at I2 (.inr hi)
  refine ⟨⟨C, ox, od, J, hd⟩, ?_⟩
  rw [hks]
  have r : Vals [V.ref a] [Value.ref a] := .cons rfl .nil
  have r2 := hb.rel r rz
  refine wpAny_call (PySem.W.kco_code I2.kIn J hd c.at_ c.fn c.fi (codeAny_mono (F.run X.A X.stack s2 H2 ⟨[.ref a], ks.zip ws⟩ (gg [.ref a] ws) (gV [.ref a] zs) Q E hr I2.env0 (hb.to s2 [.ref a] ws I2.kIn rfl (rz.length.symm.trans l2)) r2 q2) fun r s' hq => ?_))
  cases r with
  | error e => exact hx pins σ H2 s2 e s' I2 hq
  | ok fl =>
    cases fl with
    | ret u => exact I2.after hq
    | next => exact False.elim hq
    | brk => exact False.elim hq
    | cont => exact False.elim hq
end
/-- what the top has written of a class whose instances are called -/
def callOB (K : PySem.W.Frag) (C : Addr) : Bool := decide (PySem.W.findIn K (.ref C) "__call__" = some (some (.ref (He.ma K C "__call__")))) && (PySem.W.isFn K (.ref (He.ma K C "__call__")) && PySem.W.fnIn K (He.ma K C "__call__"))
theorem callO_of {K : PySem.W.Frag} {C : Addr} (h : callOB K C = true) : StX.CallO K C (He.ma K C "__call__") := by
  obtain ⟨h1, h2⟩ := He.ba h
  obtain ⟨h3, h4⟩ := He.ba h2
  exact ⟨of_decide_eq_true h1, h3, h4⟩
end L2
set_option maxRecDepth 100000
namespace Toy
open PySem L2 Dg
abbrev s_ones_of : Stmt := top 15
abbrev s_Rule_call : Stmt := (inClass (top 36) 7)
theorem rev_row (l : List Nat) : ((List.range l.length).map fun k => l.length - 1 - k).filterMap (l[·]?) = l.reverse := by
  have h : ∀ n, n ≤ l.length → ((List.range n).map fun k => l.length - 1 - k).filterMap (l[·]?) = (l.drop (l.length - n)).reverse := by
    intro n
    induction n with
    | zero => intro _; rw [Nat.sub_zero, List.drop_length]; rfl
    | succ n ih =>
      intro hn
      have hi : l.length - 1 - n < l.length := by omega
      rw [List.range_succ, List.map_append, List.filterMap_append, ih (by omega), show l.length - n = l.length - (n + 1) + 1 by omega]
      have e : l.drop (l.length - (n + 1)) = l[l.length - 1 - n] :: l.drop (l.length - (n + 1) + 1) := by
        have := List.drop_eq_getElem_cons (l := l) (i := l.length - (n + 1)) (by omega)
        rw [this]
        congr 2
        omega
      rw [e, List.reverse_cons]
      congr 1
      show List.filterMap (l[·]?) [l.length - 1 - n] = _
      rw [List.filterMap_cons, List.getElem?_eq_getElem hi]
      rfl
  have := h l.length (Nat.le_refl _)
  rw [this, Nat.sub_self, List.drop_zero]
theorem rev_ok (a : Nat) : IsRev (cutX (Fb.binT a) none none (-1)) a := by
  show ((Builtin.Str.strSliceIndices none none (-1) (Fb.binT a).length).filterMap ((Fb.binT a).cps[·]?)).toArray.toList = bitsR a
  rw [PyProof.Rows.picked_rev, List.toList_toArray]
  have l1 : (Fb.binT a).length = ((Nat.toDigits 2 a).map (·.toNat)).length := List.size_toArray ..
  have f1 : (fun (i : Nat) => (Fb.binT a).cps[i]?) = fun (i : Nat) => ((Nat.toDigits 2 a).map (·.toNat))[i]? := funext fun i => by
    show (((Nat.toDigits 2 a).map (·.toNat)).toArray)[i]? = _
    rw [List.getElem?_toArray]
  rw [f1, l1, rev_row]
  rfl
theorem bin_len (a : Nat) : (Fb.binT a).length ≤ a.log2 + 1 := by
  have l1 : (Fb.binT a).length = (bitsR a).length := by
    unfold bitsR
    rw [List.length_reverse]
    exact List.size_toArray ..
  rw [l1]
  exact bitsR_le Nat.lt_log2_self (Nat.succ_pos _)
theorem get_row (l : List Nat) : (List.range l.length).filterMap (l[·]?) = l := by
  have h : ∀ n, n ≤ l.length → (List.range n).filterMap (l[·]?) = l.take n := by
    intro n
    induction n with
    | zero => intro _; rfl
    | succ n ih =>
      intro hn
      rw [List.range_succ, List.filterMap_append, ih (by omega), List.take_add_one, List.getElem?_eq_getElem (by omega)]
      congr 1
      show List.filterMap (l[·]?) [n] = _
      rw [List.filterMap_cons, List.getElem?_eq_getElem (by omega)]
      rfl
  have := h l.length (Nat.le_refl _)
  rw [this, List.take_length]
theorem cutX_whole {z : Str} {lo : Nat} (h : (Builtin.Str.strSliceIndices (some (lo : Int)) none 1 z.length).length = z.length) : cutX z (some (lo : Int)) none 1 = z := by
  have e := step_row (n := z.length) (lo := lo) (k := 1) (by decide)
  have e1 : ((1 : Nat) : Int) = 1 := rfl
  rw [e1] at e
  rw [e, List.length_map, List.length_range] at h
  have h2 : z.length - lo = z.length := by
    unfold stN at h
    omega
  show Str.mk (((Builtin.Str.strSliceIndices (some (lo : Int)) none 1 z.length).filterMap (z.cps[·]?)).toArray) = z
  rw [e, h]
  have f1 : (fun (i : Nat) => z.cps[i]?) = fun (i : Nat) => z.cps.toList[i]? := funext fun i => (Array.getElem?_toList ..).symm
  have f2 : ((List.range z.length).map fun j => lo + 1 * j).filterMap (fun (i : Nat) => z.cps.toList[i]?) = z.cps.toList := by
    by_cases c : lo = 0
    · subst c
      have e2 : (fun j : Nat => 0 + 1 * j) = fun j => j := funext fun j => by omega
      rw [e2, List.map_id', show z.length = z.cps.toList.length from Array.length_toList.symm]
      exact get_row _
    · have z0 : z.length = 0 := by omega
      rw [z0]
      have : z.cps.toList.length = 0 := by rw [Array.length_toList]; exact z0
      exact (List.length_eq_zero_iff.mp this).symm
  rw [f1, f2]
theorem onesL_snoc {a na nt i : Nat} : (List.range na).map (bt a) ++ (List.range (i + 1)).map (fun p => sumN (fun j => bt a (na + p + nt * j)) (a.log2 + 1)) = ((List.range na).map (bt a) ++ (List.range i).map (fun p => sumN (fun j => bt a (na + p + nt * j)) (a.log2 + 1))) ++ [sumN (fun j => bt a (na + i + nt * j)) (a.log2 + 1)] := by
  rw [List.range_succ, List.map_append, ← List.append_assoc]
  rfl
theorem row_len {f : Nat → Int} {n i : Nat} (h : i < n) (l : n ≤ 300) : (((List.range i).map f).map V.int).length < PySem.sizeLine := small1000 (by rw [List.length_map, List.length_map, List.length_range]; omega)
theorem line9 {n : Nat} (h : n ≤ 9001) : n ≤ PySem.sizeLine := Nat.le_trans h (by show 9001 ≤ PySem.sizeLine; decide)
/-- ones_of(address, ahead, turn) -/
def spOnes : Sp := fun vs H Q _ => ∃ (a na nt : Nat), vs = [.int (a : Int), .int (na : Int), .int (nt : Int)] ∧ a.log2 < 9000 ∧ na ≤ 300 ∧ nt ≤ 300 ∧ ∀ q H', Same H H' → H' q = some (.lst ((onesL a na nt).map V.int)) → Q (.ref q) H'
/-- rule(address) -/
def spCall (CN C : Addr) (K : PySem.W.Frag) : Sp := fun vs H Q E => ∃ (p : Addr) (x : V) (S : String) (ns as ts : List Int), vs = [.ref p, x] ∧ RuleAt C H p (ns.map V.int) as ts ∧ Mods ns ∧ ts ≠ [] ∧ as.length + ts.length ≤ 24 ∧ Plain K H x S ∧
  (numV x = false → badNum CN H x E) ∧ (∀ a : Nat, x = .int (a : Int) → a.log2 < 9000 ∧ ∀ H', Same H H' → Q (.int (bankW ns (wAt as ts) a)) H')
theorem num_int {x : V} (h : numV x = true) : ∃ a : Nat, x = .int (a : Int) := by
  cases x with
  | int i =>
    have h0 : 0 ≤ i := of_decide_eq_true h
    exact ⟨i.toNat, by rw [Int.toNat_of_nonneg h0]⟩
  | _ => cases h
section
variable {P : Program} {w : World} {K : PySem.W.Frag} {mg : Str → Option Value} {base : Heap} {CR CN CT uR uN uT : Addr} {fdR fdN fdT : FuncData} {C pc pb gc gb : Addr}
abbrev N_ones_of : List Str := ["address", "ahead", "turn", "digits", "many", "place"]
theorem sc_ones_of : FnScope N_ones_of ["address", "ahead", "turn"] (defScope s_ones_of) := ⟨rfl, rfl, rfl, by decide +kernel, rfl, by decide +kernel, by decide +kernel⟩
theorem ok_ones_of {f : Addr} {fd : FuncData} (F : Fun K "ones_of" "ones_of" s_ones_of f fd) (T : TR mg) : FnOk P w K mg base CX0 1 f fd ["address", "ahead", "turn"] spOnes := by
  refine F.ok sc_ones_of (fun vs H Q E h => ?_) (fun cdv A outer s H vs Q E hr h => ?_)
  · obtain ⟨a, na, nt, rfl, _⟩ := h
    rfl
  · obtain ⟨a, na, nt, rfl, ha, h1, h2, k⟩ := h
    have lz := Nat.le_trans (bin_len a) (show a.log2 + 1 ≤ 9001 by omega)
    have hz := rev_ok a
    have lz2 : (cutX (Fb.binT a) none none (-1)).length ≤ 9001 := Nat.le_trans (cutX_len _ _ _ _ (by decide)) lz
    have e49 : ("1" : Str) = ⟨#[49]⟩ := by decide
    refine ⟨_, (pss_cons (ps_set (i := 3) sc_ones_of.nd rfl (Or.inr rfl) (pe_slX (pe_fs1 (pe_fmtB (pv 0))) po_none po_none (po_some (pe_un un_neg pe_int))))
 (pss_cons (ps_setLc (i := 4) (own := [("place", 5)]) (g := (gName 5)) (tt := tYes) rfl sc_ones_of.nd rfl rfl (sw_true rfl rfl rfl (by decide +kernel)) (pi_range1 rfl T.m_range (pa_cons (pv 1) pa_nil)) (blkOk_by (N := N_ones_of) (sc := defScope s_ones_of) (by decide +kernel)) (fun _ _ _ _ _ => (pg_name (i := 5) sc_ones_of.nd rfl (Or.inl rfl))) (fun _ _ _ _ _ => pts_nil) (fun _ _ _ _ _ => (pe_m1 PySem.F.slot_str_count PySem.F.type_str_count mt_count (pe_slice sl_str (pv 3) (po_some (pv 5)) (po_some (pe_op op_add (pv 5) pe_int))) pe_str)))
 (pss_cons (ps_for PassesOwn.never rfl (pi_range1 rfl T.m_range (pa_cons (pv 2) pa_nil)) (pg_name (i := 5) sc_ones_of.nd rfl (Or.inl rfl))
 (pss_one (ps_expr (pe_bm PySem.F.plainAttrs_list PySem.F.slot_list_append PySem.F.type_list_append mt_append (pv 4) (pa_cons (pe_m1 PySem.F.slot_str_count PySem.F.type_str_count mt_count (pe_slX (pv 3) (po_some (pe_op op_add (pv 1) (pv 5))) po_none (po_some (pv 2))) pe_str) pa_nil)))))
 (pss_one (ps_ret (pv 4)))))), ?_⟩
    refine ⟨_, rfl, a, rfl, line9 lz, 1, rfl, _, rfl, _, _, rfl, rfl, by decide, line9 lz, (fun z _ => absurd z (by decide)), ?_⟩
    generalize cutX (Fb.binT a) none none (-1) = z at hz lz2 ⊢
    refine ⟨_, rfl, _, rfl, by omega, by omega, fun D hD => ?_⟩
    refine lc_it walk_range (fun i G => G = upd H D (.lst (((List.range i).map (bt a)).map V.int))) rfl (fun _ _ _ _ => trivial) ?_ ?_
    · rintro i v G G' hi rfl ⟨rfl, rfl⟩
      have hi2 : i < na := by omega
      refine ⟨rfl, _, rfl, _, rfl, _, rfl, _, rfl, _, _, rfl, rfl, _, rfl, z, rfl, line9 lz2, ⟨_, rfl⟩, _, _, rfl, rfl, _, upd_same, row_len hi2 (by omega), ?_⟩
      rw [upd_upd, e49, show (0 : Int) + (i : Int) = (i : Int) by omega, cut_one hz, List.range_succ, List.map_append, List.map_append]
      rfl
    · rintro G rfl
      rw [show (na : Int).toNat = na from Int.toNat_natCast na]
      refine ⟨_, rfl, _, rfl, by omega, by omega, ?_⟩
      refine for_it walk_range (fun i σ G => ∃ u, σ = [some (.int (a : Int)), some (.int (na : Int)), some (.int (nt : Int)), some (.str z), some (.ref D), u] ∧ G = upd H D (.lst (((List.range na).map (bt a) ++ (List.range i).map fun p => sumN (fun j => bt a (na + p + nt * j)) (a.log2 + 1)).map V.int))) ⟨none, rfl, ?_⟩ (fun _ _ _ _ _ => trivial) ?_ ?_
      · rw [List.range_zero, List.map_nil, List.append_nil]
      · rintro i v σ G G' hi ⟨u, rfl, rfl⟩ ⟨rfl, rfl⟩
        have hi2 : i < nt := by omega
        have n0 : 0 < nt := by omega
        have ei : (na : Int) + ((0 : Int) + (i : Int)) = ((na + i : Nat) : Int) := by omega
        refine ⟨_, rfl, .inl ⟨rfl, _, SqL.of upd_same⟩, _, rfl, _, rfl, _, rfl, _, _, rfl, rfl, _, rfl, _, rfl, _, rfl, z, _, rfl, rfl, by omega, line9 lz2, (fun e1 e2 => ?_), ⟨_, rfl⟩, _, _, rfl, rfl, D, _, _, rfl, rfl, upd_same, small1000 (by rw [List.length_map, List.length_append, List.length_map, List.length_map, List.length_range, List.length_range]; omega), ?_⟩
        · rw [ei, e1] at e2 ⊢
          exact cutX_whole e2
        · refine ⟨_, rfl, ?_⟩
          have c1 : Txt.count (cutX z (some ((na : Int) + (0 + (i : Int)))) none (nt : Int)) "1" = sumN (fun j => bt a (na + i + nt * j)) (a.log2 + 1) := by
            rw [e49, ei, count_ones]
            show ones (((Builtin.Str.strSliceIndices (some ((na + i : Nat) : Int)) none (nt : Int) z.length).filterMap (z.cps[·]?)).toArray).toList = _
            rw [List.toList_toArray]
            refine cut_row hz n0 (Nat.lt_of_lt_of_le Nat.lt_log2_self (Nat.pow_le_pow_right (by decide) ?_))
            have := Nat.mul_le_mul_right (a.log2 + 1) n0
            omega
          rw [upd_upd, c1, onesL_snoc, List.map_append (l₂ := [_])]
          rfl
      · rintro σ G ⟨u, rfl, rfl⟩
        rw [show (nt : Int).toNat = nt from Int.toNat_natCast nt]
        exact ⟨_, rfl, k D _ (Same.lay hD) upd_same⟩
theorem sc_Rule_call : FnScope ["self", "address"] ["self", "address"] (defScope s_Rule_call) := ⟨rfl, rfl, rfl, by decide +kernel, rfl, by decide +kernel, by decide +kernel⟩
theorem ok_Rule_call {f fI fN fBs fOn : Addr} {fd fdI fdNu fdBs fdOn : FuncData} (F : Fun K "__call__" "Rule.__call__" s_Rule_call f fd) (T : TR mg) (TE : TErr K mg CR CN CT uR uN uT fdR fdN fdT) (TU : TRule K mg C pc pb gc gb)
    (FI : Fun K "is_integer" "is_integer" s_is_integer fI fdI) (gI : mg "is_integer" = some (.ref fI)) (bI : Binds K fdI ["value"] [])
    (FN : Fun K "is_number" "is_number" s_is_number fN fdNu) (gN : mg "is_number" = some (.ref fN)) (bN : Binds K fdNu ["value"] [])
    (GBs : FnOk P w K mg base CX0 2 fBs fdBs ["moduli", "banks", "times"] spBankSum) (gBs : mg "bank_sum" = some (.ref fBs)) (kBs : PySem.W.keepIn K (.ref fBs) = true) (bBs : Binds K fdBs ["moduli", "banks", "times"] [])
    (GOn : FnOk P w K mg base CX0 1 fOn fdOn ["address", "ahead", "turn"] spOnes) (gOn : mg "ones_of" = some (.ref fOn)) (kOn : PySem.W.keepIn K (.ref fOn) = true) (bOn : Binds K fdOn ["address", "ahead", "turn"] []) :
    FnOk P w K mg base (L2.CX P w) 3 f fd ["self", "address"] (spCall CN C K) := by
  have GN : FnOk P w K mg base CX0 2 fN fdNu ["value"] (spNumber K) := ok_is_number FN T FI gI bI
  have kN := FN.kp
  refine F.okX sc_Rule_call (fun vs H Q E h => ?_) (fun cdv A outer s H vs Q E hr h => ?_)
  · obtain ⟨p, x, S, ns, as, ts, rfl, _⟩ := h
    rfl
  · obtain ⟨p, x, S, ns, as, ts, rfl, hR, hM, tne, hl, hx, kE, kQ⟩ := h
    have hrE : Room 2 _ := hr
    have hrS : Room 2 _ := hr
    have hrOn : Room 1 _ := hr.mono (by decide)
    obtain ⟨dx, pm, pa, pt, h1, h2, h3, h4⟩ := id hR
    refine ⟨_, (pss_cons (ps_if (pt_not (pt_val (pe_call GN hrE rfl gN kN bN .nil pass0 (pa_cons (pv 1) pa_nil)))) (pss_one (ps_raise rfl (takes_of rfl rfl rfl rfl) (pmk_x TE.iBadNumber (ok_BadNumber TE) hrE TE.bBadNumber (by decide) rfl TE.gBadNumber (mono_var mono_nil) (pa_cons (pv 1) pa_nil)))) pss_nil)
 (pss_one (ps_ret (pe_call GBs hrS rfl gBs kBs bBs .nil pass0 (pa_cons (pe_fld (pv 0) rfl) (pa_cons (pe_op op_catP (pe_fld (pv 0) rfl) (pe_fld (pv 0) rfl)) (pa_cons (pe_call GOn hrOn rfl gOn kOn bOn .nil pass0 (pa_cons (pv 1) (pa_cons (pe_callB call_len_seq (by rfl) T.m_len (by decide +kernel) (pa_cons (pe_fld (pv 0) rfl) pa_nil)) (pa_cons (pe_callB call_len_seq (by rfl) T.m_len (by decide +kernel) (pa_cons (pe_fld (pv 0) rfl) pa_nil)) pa_nil)))) pa_nil))))))), ?_⟩
    refine ⟨_, rfl, x, S, rfl, hx, _, rfl, ?_⟩
    cases hn : numV x with
    | false => exact iteT ⟨_, rfl, rfl, fun d H' hd s2 e => kE hn d H' hd s2 e⟩
    | true =>
      obtain ⟨a, rfl⟩ := num_int hn
      obtain ⟨al, kq⟩ := kQ a rfl
      have la : (as.map V.int).length = as.length := List.length_map ..
      have lt : (ts.map V.int).length = ts.length := List.length_map ..
      refine iteF ?_
      refine ⟨_, rfl, p, C, dx, _, _, rfl, h1, TU.cl, TU.nM, flds_m _ _ _, _, rfl, p, C, dx, _, _, rfl, h1, TU.cl, TU.nA, flds_a _ _ _, _, rfl, p, C, dx, _, _, rfl, h1, TU.cl, TU.nT, flds_t _ _ _, pa, pt, _, _, rfl, rfl, h3, h4, by rw [la, lt]; omega, fun q G s1 hq => ?_⟩
      refine ⟨_, rfl, _, rfl, p, C, dx, _, _, rfl, s1 _ _ h1, TU.cl, TU.nA, flds_a _ _ _, pa, _, rfl, .inr (SqT.of (s1 _ _ h3)), _, rfl, p, C, dx, _, _, rfl, s1 _ _ h1, TU.cl, TU.nT, flds_t _ _ _, pt, _, rfl, .inr (SqT.of (s1 _ _ h4)), a, as.length, ts.length, (by rw [la, lt]; rfl), al, by omega, by omega, fun q2 H2 s2 e2 => ?_⟩
      rw [← List.map_append] at hq
      exact ⟨pm, q, q2, ns, as ++ ts, onesL a as.length ts.length, rfl, s2 _ _ (s1 _ _ h2), s2 _ _ hq, .inl e2, hM, by rw [onesL_len, List.length_append], by rw [List.length_append]; omega, fun H3 s3 => by
        rw [bank_ones hM tne]
        exact kq H3 fun _ _ z => s3 _ _ (s2 _ _ (s1 _ _ z))⟩
end
end Toy
set_option maxRecDepth 100000
namespace Toy
open PySem L2
/-- tuples of moduli laid one after another -/
def Grown (H0 H : Hp) (xs : List V) : Prop := Same H0 H ∧ ∀ v ∈ xs, ∃ t ms, v = .ref t ∧ H t = some (.tup ms) ∧ okMod (some ms) = true
theorem Grown.grow {H0 H : Hp} {xs ms : List V} {t : Addr} (A : Grown H0 H xs) (ht : H t = none) (ok : okMod (some ms) = true) : Grown H0 (upd H t (.tup ms)) (xs ++ [.ref t]) := by
  have s := Same.lay (o := .tup ms) ht
  refine ⟨fun _ _ z => s _ _ (A.1 _ _ z), fun v hv => ?_⟩
  rcases List.mem_append.mp hv with h | h
  · obtain ⟨t', ms', e1, e2, e3⟩ := A.2 v h
    exact ⟨t', ms', e1, s _ _ e2, e3⟩
  · rw [List.mem_singleton.mp h]
    exact ⟨t, ms, rfl, upd_same, ok⟩
theorem okMod_all {ms : List V} (h : okMod (some ms) = true) : ms.all (withinV 2 32) = true ∧ prodV ms ≤ 32 := by
  have z : (decide (1 ≤ ms.length ∧ ms.length ≤ 5) && (ms.all (withinV 2 32) && decide (prodV ms ≤ 32))) = true := h
  have y := Bool.and_eq_true_iff.mp (Bool.and_eq_true_iff.mp z).2
  exact ⟨y.1, of_decide_eq_true y.2⟩
theorem prod_pos : ∀ {ms : List V}, ms.all (withinV 2 32) = true → ∀ p : Int, 0 < p → 0 < ms.foldl (fun p x => p * intOf x) p
  | [], _, p, hp => hp
  | x :: r, h, p, hp => by
    have h2 : (withinV 2 32 x && r.all (withinV 2 32)) = true := h
    obtain ⟨i, rfl, h3, _⟩ := within_int (Bool.and_eq_true_iff.mp h2).1
    exact prod_pos (Bool.and_eq_true_iff.mp h2).2 (p * i) (Int.mul_pos hp (by omega))
/-- a row, or it twice, of at most four -/
def Per4 (t : List Int) : Prop := ∃ u : List Int, u.length ≤ 4 ∧ (t = u ∨ t = u ++ u)
/-- drawn weights -/
def spPlain : Sp := fun vs H Q _ => ∃ (p l : Addr) (ns : List Int) (a b : Int), vs = [.ref p] ∧ PenAt H p l ns a b ∧ a ≤ 999000 ∧
  ∀ (H' : Hp) (q pm pa pt : Addr) (ms : List V) (as ts : List Int) (a' b' : Int), But p H H' → PenAt H' p l ns a' b' → a' ≤ a + 20 → H' q = some (.tup [.ref pm, .ref pa, .ref pt]) → H' pm = some (.tup ms) → H' pa = some (.tup (as.map V.int)) → H' pt = some (.tup (ts.map V.int)) →
    okMod (some ms) = true → (∀ z ∈ as, 0 ≤ z ∧ z ≤ prodV ms - 1) → (∀ z ∈ ts, 0 ≤ z ∧ z ≤ prodV ms - 1) → as.length ≤ 5 → ts ≠ [] → ts.length ≤ 8 → Per4 ts → Q (.ref q) H'
theorem pen_lay {H : Hp} {p l D : Addr} {ns : List Int} {a b : Int} {o : HO} (P : PenAt H p l ns a b) (h1 : D ≠ p) (h2 : D ≠ l) : PenAt (upd H D o) p l ns a b :=
  ⟨by rw [upd_ne h1.symm]; exact P.pen, by rw [upd_ne h2.symm]; exact P.cells, P.few, P.bits, P.low⟩
theorem pen_same {H H' : Hp} {p l : Addr} {ns : List Int} {a b : Int} (s : Same H H') (P : PenAt H p l ns a b) : PenAt H' p l ns a b := ⟨s _ _ P.pen, s _ _ P.cells, P.few, P.bits, P.low⟩
theorem pen_ne {H : Hp} {p l t : Addr} {ns : List Int} {a b : Int} {ms : List V} (P : PenAt H p l ns a b) (h : H t = some (.tup ms)) : t ≠ p := fun z => by
  have e := P.pen
  rw [← z, h] at e
  cases e
/-- the drawing of a row of weights: what is known at its turn i -/
structure RowOf (H0 : Hp) (p l D : Addr) (ns : List Int) (a1 n : Int) (i : Nat) (G : Hp) (ds : List Int) : Prop where
  but : ∀ c o, c ≠ p → H0 c = some o → G c = some o
  pen : ∃ a' b', PenAt G p l ns a' b' ∧ a' ≤ a1 + i
  row : G D = some (.lst (ds.map V.int))
  len : ds.length = i
  rng : ∀ z ∈ ds, 0 ≤ z ∧ z ≤ n - 1
theorem row_start {H0 : Hp} {p l D : Addr} {ns : List Int} {a1 b1 n : Int} (P : PenAt H0 p l ns a1 b1) (hD : H0 D = none) : RowOf H0 p l D ns a1 n 0 (upd H0 D (.lst [])) [] :=
  ⟨fun c o _ e => Same.lay hD c o e, ⟨a1, b1, pen_same (Same.lay hD) P, by omega⟩, upd_same, rfl, fun _ z => nomatch z⟩
theorem row_turn {H0 G G' : Hp} {p l D : Addr} {ns ds : List Int} {a1 n d a' b' a2 b2 : Int} {i : Nat} (R : RowOf H0 p l D ns a1 n i G ds) (hD : H0 D = none) (P0 : PenAt H0 p l ns a2 b2) (bt : But p G G') (P : PenAt G' p l ns a' b') (ha : a' ≤ a1 + i + 1) (d0 : 0 ≤ d) (d1 : d < n) :
    G' D = some (.lst (ds.map V.int)) ∧ RowOf H0 p l D ns a1 n (i + 1) (upd G' D (.lst (ds.map V.int ++ [.int d]))) (ds ++ [d]) := by
  have np : D ≠ p := (ne_of_none P0.pen hD).symm
  have nl : D ≠ l := (ne_of_none P0.cells hD).symm
  refine ⟨bt _ _ np R.row, ⟨fun c o nc e => ?_, ⟨a', b', pen_lay P np nl, by omega⟩, ?_, ?_, fun z hz => ?_⟩⟩
  · rw [upd_ne (ne_of_none e hD)]
    exact bt _ _ nc (R.but c o nc e)
  · rw [upd_same, List.map_append]
    rfl
  · rw [List.length_append, R.len]
    rfl
  · rcases List.mem_append.mp hz with h | h
    · exact R.rng z h
    · rw [List.mem_singleton.mp h]
      exact ⟨d0, by omega⟩
theorem log_ok {n : Int} (h0 : 0 < n) (h : n ≤ 32) : n.natAbs.log2 < 9000 := Nat.lt_of_le_of_lt (Nat.log2_le_self _) (by omega)
section
variable {P : Program} {w : World} {K : PySem.W.Frag} {mg : Str → Option Value} {base : Heap}
end
end Toy
set_option maxRecDepth 100000
namespace L2
open PySem PySem.Spec PyProof.Rows
/-- plain data that a law shows: ints, texts, lists and tuples of ints, one small dict -/
inductive Dat0 (H : Hp) : V → PyData → Prop where
  | non : Dat0 H .non .none
  | bl (b : Bool) : Dat0 H (.bl b) (.bool b)
  | int (i : Int) : Dat0 H (.int i) (.int i)
  | str (z : Str) : Dat0 H (.str z) (.str z)
  | tup {a : Addr} {ns : List Int} (e : H a = some (.tup (ns.map V.int))) : Dat0 H (.ref a) (.tuple (ns.map .int))
  | lst {a : Addr} {ns : List Int} (e : H a = some (.lst (ns.map V.int))) (n : a ≠ sysModules) : Dat0 H (.ref a) (.list (ns.map .int))
  | dct {a : Addr} {z : Str} {i : Int} (e : H a = some (.dK [(.inr z, .int i)])) : Dat0 H (.ref a) (.dict [(.str z, .int i)])
/-- x reads as d, in every state over H, and the modules' own dict is no part of it -/
def RdS (X : Cx) (H : Hp) (x : V) (d : PyData) : Prop := ∀ (pins : List (Addr × Obj)) (σ : St) (s : Shared) (u : Value), Inv X pins σ H s → RelV x u → ∃ as, Reads s.heap u d as ∧ sysModules ∉ as
theorem RdS.v {X : Cx} {H : Hp} {x : V} {d : PyData} (h : RdS X H x d) : RdV X H x d := fun pins σ s u I r =>
  let ⟨as, q, m⟩ := h pins σ s u I r
  ⟨as, q, fun _ => m⟩
theorem reads_ints {h : Heap} : ∀ {ns : List Int} {us : List Value}, Vals (ns.map V.int) us → ReadsAll h us (ns.map PyData.int) []
  | [], _, r => by
    cases r
    exact .nil
  | z :: ns, _, r => by
    cases r with
    | cons a b =>
      obtain ⟨t, rfl⟩ := a
      exact ReadsAll.cons (as := []) (.int z t) (reads_ints b)
theorem Dat0.rd {X : Cx} {H : Hp} {v : V} {d : PyData} (h : Dat0 H v d) : RdS X H v d := by
  cases h with
  | non =>
    intro pins σ s u I r
    obtain rfl : u = Value.none := r
    exact ⟨_, .none, fun m => nomatch m⟩
  | bl b =>
    intro pins σ s u I r
    obtain rfl : u = Value.bool b := r
    exact ⟨_, .bool b, fun m => nomatch m⟩
  | int i =>
    intro pins σ s u I r
    obtain ⟨t, rfl⟩ : ∃ t, u = Value.int i t := r
    exact ⟨_, .int i t, fun m => nomatch m⟩
  | str z =>
    intro pins σ s u I r
    obtain ⟨t, rfl⟩ : ∃ t, u = Value.str z t := r
    exact ⟨_, .str z t, fun m => nomatch m⟩
  | @tup a ns e =>
    intro pins σ s u I r
    obtain rfl : u = Value.ref a := r
    obtain ⟨its, rv, ⟨o, ho, hc, n, hd⟩, _⟩ := I.tuple (SqT.of e)
    exact ⟨_, .tuple ho hc hd (reads_ints rv), fun m => nomatch m⟩
  | @lst a ns e n =>
    intro pins σ s u I r
    obtain rfl : u = Value.ref a := r
    obtain ⟨its, rv, ⟨o, n', ho, hc, _, hd⟩, _⟩ := I.list (SqL.of e)
    refine ⟨_, .list ho hc hd (reads_ints rv), fun m => ?_⟩
    exact n (by simpa using m : sysModules = a).symm
  | @dct a z i e =>
    intro pins σ s u I r
    obtain rfl : u = Value.ref a := r
    obtain ⟨_, sm, vs, kv, o, es, ep, ho, ex, hd, kk, pr, _⟩ := dk_of I.hok e
    cases kv with
    | @cons p q _ r2 e1 e2 =>
      cases e2
      obtain ⟨k1, w1⟩ := q
      obtain ⟨f1, f2⟩ := e1
      obtain ⟨t2, rfl⟩ : ∃ t, w1 = Value.int i t := f2
      obtain rfl : Sum.inr z = k1 := f1
      obtain ⟨d0, rest, er, k0, v0, pr2⟩ : ∃ d0 rest, es.toList = d0 :: rest ∧ keyIs (.inr z) d0.key = true ∧ d0.val = Value.int i t2 ∧ Pairs (mixKind X.prog X.w) rest [] := by
        generalize es.toList = l at pr
        cases pr with
        | cons a b c => exact ⟨_, _, rfl, a, b, c⟩
      cases pr2
      rcases keyIs_shape k0 with ⟨_, _, q, _⟩ | ⟨z', t, q, ek⟩
      · cases q
      · cases q
        have h1 : ReadsAll s.heap (es.toList.map (·.key)) [PyData.str z] ([] ++ []) := by
          rw [er]
          show ReadsAll s.heap [d0.key] _ _
          rw [ek]
          exact .cons (.str z t) .nil
        have h2 : ReadsAll s.heap (es.toList.map (·.val)) [PyData.int i] ([] ++ []) := by
          rw [er]
          show ReadsAll s.heap [d0.val] _ _
          rw [v0]
          exact .cons (.int i t2) .nil
        refine ⟨_, Reads.dict (kvs := [(PyData.str z, PyData.int i)]) ho ex.1 hd h1 h2, fun m => ?_⟩
        have e1 : sysModules = a := by simpa using m
        rw [← e1] at sm
        exact absurd sm (by decide)
/-- a list of such, at an address that is not the modules' own -/
theorem rd_list {X : Cx} {H : Hp} {q : Addr} {vs : List V} {ds : List PyData} (hq : H q = some (.lst vs)) (nq : q ≠ sysModules) (h : Paired (fun v d => RdS X H v d) vs ds) : RdS X H (.ref q) (.list ds) := by
  intro pins σ s u I r
  obtain rfl : u = Value.ref q := r
  obtain ⟨its, rv, ⟨o, n, ho, hc, _, hd⟩, _⟩ := I.list (SqL.of hq)
  have all : ∀ {vs : List V} {ds : List PyData} {us : List Value}, Paired (fun v d => RdS X H v d) vs ds → Vals vs us → ∃ as, ReadsAll s.heap us ds as ∧ sysModules ∉ as := by
    intro vs ds us h
    induction h generalizing us with
    | nil =>
      intro r
      cases r
      exact ⟨_, .nil, fun m => nomatch m⟩
    | @cons v d vs ds a b ih =>
      intro r
      cases r with
      | cons r1 r2 =>
        obtain ⟨as, q1, m1⟩ := a pins σ s _ I r1
        obtain ⟨bs, q2, m2⟩ := ih r2
        exact ⟨_, .cons q1 q2, fun m => (List.mem_append.mp m).elim m1 m2⟩
  obtain ⟨as, q1, m1⟩ := all h rv
  refine ⟨_, Reads.list ho hc hd q1, fun m => ?_⟩
  rcases List.mem_cons.mp m with e | e
  · exact nq e.symm
  · exact m1 e
/-- a list display, with where it does not stand -/
def tLstS (t : TA) : TE := fun σ H Q => t σ H fun xs H1 => xs.length ≤ sizeLine ∧ ∀ p, H1 p = none → p ≠ sysModules → Q (.ref p) (upd H1 p (.lst xs))
theorem pe_lstS {X : Cx} {es : List Expr} {t : TA} {pos : Pos} (h : PA X es t) : PE X (.List es pos) (tLstS t) := by
  refine ⟨fun pins s σ H Q I hq => ?_⟩
  refine wpAny_List_spliced (thn (h.run pos pins s σ H _ I hq) fun us s1 hh => ?_)
  obtain ⟨xs, H1, I1, r, z, q⟩ := hh
  have z' : us.length ≤ sizeLine := by rw [← r.length]; exact z
  refine ⟨z', V.ref s1.heap.objs.size, upd H1 s1.heap.objs.size (.lst xs), ?_, rfl, q _ (I1.hok.fresh (Nat.le_refl _)) (Nat.ne_of_gt I1.big)⟩
  exact I1.laid (t' := s1.toks) (fun _ _ e => Heap.get?_push_of_some _ e) (Nat.le_refl _) ⟨z, us, 0, r, Heap.get?_push_size _ rfl⟩
end L2
set_option maxRecDepth 100000
namespace Toy
open PySem L2 LamX
abbrev s__law_heard : Stmt := top 41
theorem dat_same {H H' : Hp} {v : V} {d : PyData} (s : Same H H') (h : Dat0 H v d) : Dat0 H' v d := by
  cases h with
  | non => exact .non
  | bl b => exact .bl b
  | int i => exact .int i
  | str z => exact .str z
  | tup e => exact .tup (s _ _ e)
  | lst e n => exact .lst (s _ _ e) n
  | dct e => exact .dct (s _ _ e)
/-- plain data, the empty dict too -/
inductive Dat1 (H : Hp) : V → PyData → Prop where
  | d0 {v : V} {d : PyData} (h : Dat0 H v d) : Dat1 H v d
  | emp {a : Addr} (e : H a = some (.dK [])) : Dat1 H (.ref a) (.dict [])
theorem dat_same1 {H H' : Hp} {v : V} {d : PyData} (s : Same H H') (h : Dat1 H v d) : Dat1 H' v d := by
  cases h with
  | d0 h => exact .d0 (dat_same s h)
  | emp e => exact .emp (s _ _ e)
theorem Dat1.rd {X : Cx} {H : Hp} {v : V} {d : PyData} (h : Dat1 H v d) : RdS X H v d := by
  cases h with
  | d0 h => exact h.rd
  | @emp a e =>
    intro pins σ s u I r
    obtain rfl : u = Value.ref a := r
    obtain ⟨_, sm, vs, kv, o, es, ep, ho, ex, hd, kk, pr, _⟩ := dk_of I.hok e
    cases kv
    have e0 : es.toList = [] := by
      generalize es.toList = l at pr
      cases pr
      rfl
    have h1 : ReadsAll s.heap (es.toList.map (·.key)) [] [] := by
      rw [e0]
      exact .nil
    have h2 : ReadsAll s.heap (es.toList.map (·.val)) [] [] := by
      rw [e0]
      exact .nil
    refine ⟨_, Reads.dict (kvs := []) ho ex.1 hd h1 h2, fun m => ?_⟩
    have e1 : sysModules = a := by simpa using m
    rw [← e1] at sm
    exact absurd sm (by decide)
/-- how the law tells what it caught: by the error's class -/
structure THeard (K : PySem.W.Frag) (mg : Str → Option Value) (CR CN CT B : Addr) : Prop where
  gB : mg "BankError" = some (.ref B)
  gR : mg "BadRule" = some (.ref CR)
  gN : mg "BadNumber" = some (.ref CN)
  gT : mg "TooMany" = some (.ref CT)
  xR : XvC K CR
  xN : XvC K CN
  xT : XvC K CT
  nR : PySem.W.findIn K (.ref CR) "part" = some none
  nN : PySem.W.findIn K (.ref CN) "value" = some none
  nW : PySem.W.findIn K (.ref CT) "what" = some none
  nM : PySem.W.findIn K (.ref CT) "most" = some none
  eR : PySem.W.exmOne K (.ref CR) (.ref B) = some true
  eN : PySem.W.exmOne K (.ref CN) (.ref B) = some true
  eT : PySem.W.exmOne K (.ref CT) (.ref B) = some true
  RR : PySem.W.kitOne K (.ref CR) (.ref CR) = some true
  RN : PySem.W.kitOne K (.ref CR) (.ref CN) = some false
  RT : PySem.W.kitOne K (.ref CR) (.ref CT) = some false
  NR : PySem.W.kitOne K (.ref CN) (.ref CR) = some false
  NN : PySem.W.kitOne K (.ref CN) (.ref CN) = some true
  NT : PySem.W.kitOne K (.ref CN) (.ref CT) = some false
  T_R : PySem.W.kitOne K (.ref CT) (.ref CR) = some false
  T_N : PySem.W.kitOne K (.ref CT) (.ref CN) = some false
  TT : PySem.W.kitOne K (.ref CT) (.ref CT) = some true
  m_isinstance : mg "isinstance" = none
  m_repr : mg "repr" = none
  m_len : mg "len" = none
/-- a value that repr shows, as the text z -/
def Shows (H : Hp) (v : V) (z : Str) : Prop := ∃ d, Dat1 H v d ∧ d.showable = true ∧ d.depth ≤ 20 ∧ d.shown.length ≤ PySem.sizeLine ∧ d.shown = z
theorem Shows.same {H H' : Hp} {v : V} {z : Str} (s : Same H H') (h : Shows H v z) : Shows H' v z :=
  let ⟨d, h1, h2⟩ := h
  ⟨d, dat_same1 s h1, h2⟩
/-- what the law makes of an error: a pair -/
def Told (CR CN CT : Addr) (H : Hp) (cls : Value) (d : Option Addr) (x y : V) : Prop := ∃ dd, d = some dd ∧
  ((cls = .ref CR ∧ ∃ v z, H dd = some (.xd [("part", v)]) ∧ Shows H v z ∧ x = .str "rule" ∧ y = .str z) ∨
   (cls = .ref CN ∧ ∃ v z, H dd = some (.xd [("value", v)]) ∧ Shows H v z ∧ x = .str "number" ∧ y = .str z) ∨
   (cls = .ref CT ∧ H dd = some (.xd [("most", y), ("what", x)])))
/-- heard: the list of the answer, or the pair -/
def TTH (CR CN CT : Addr) : (XK → Hp → VK → Prop) → Hp → VK → Prop := fun tl H Q =>
  tl (fun cls d H' => ∃ x y, Told CR CN CT H' cls d x y ∧ ∀ H'' p, Same H' H'' → H'' p = some (.tup [x, y]) → Q (.ref p) H'') H (fun v H' => [v].length ≤ PySem.sizeLine ∧ ∀ p, H' p = none → Q (.ref p) (upd H' p (.lst [v])))
abbrev N__law_heard : List Str := ["_law_ask", "_law_caught", "error", "_law_found"]
theorem sc__law_heard : FnScope N__law_heard ["_law_ask"] (defScope s__law_heard) := ⟨rfl, rfl, rfl, by decide +kernel, rfl, by decide +kernel, by decide +kernel⟩
theorem heard_gives {X : Cx} {k : Nat} {g : Addr} {cdg : Value} {q : Str} {CR CN CT B : Addr} (T : THeard X.K X.mg CR CN CT B) (hr : Room (k + 2) X.A) (hgd : X.A.guards = some []) :
    GivesTo X N__law_heard "_law_heard" (defScope s__law_heard) g cdg (defBody s__law_heard) "_law_ask" q (TTH CR CN CT) := by
  intro f c' s H Q tl act hc h
  have gd : (cxOf C8.CX0 X.prog X.w X.K X.mg X.base N__law_heard "_law_heard" (defScope s__law_heard) g cdg X.A X.stack s H C8.E0).nox.A.guards = some [] := hgd
  have hr' : Room (k + 1) (cxOf C8.CX0 X.prog X.w X.K X.mg X.base N__law_heard "_law_heard" (defScope s__law_heard) g cdg X.A X.stack s H C8.E0).nox.A := hr.deeper _
  refine ⟨_, (pss_cons (ps_set (i := 1) sc__law_heard.nd rfl (Or.inl rfl) pe_non)
 (pss_cons (ps_try_keep (i := 2) (c := .ref B) (tb := fun W D σ H => ∃ Ech : XK, (∀ cls d σ' H', Ech cls d H' → W cls d σ' H') ∧ σ[0]? = some (some (.ref f)) ∧ H c' = some (CodeO c' q) ∧ tl Ech H (fun v H' => [v].length ≤ PySem.sizeLine ∧ ∀ p, H' p = none → D.rt (.ref p) (upd H' p (.lst [v])))) rfl rfl sc__law_heard.nd rfl rfl ⟨rfl, by decide, .inl T.gB⟩ L2.takes0 rfl (fun W pn xe tk _ => ?_) (fun a oe cls d pn _ _ => pss_one (ps_set (i := 1) sc__law_heard.nd rfl (Or.inl rfl) (pv 2))))
 (pss_cons (ps_set (i := 3) sc__law_heard.nd rfl (Or.inl rfl) (pe_lst pa_nil))
 (pss_cons (ps_if (pt_val (pe_callB call_isz (by rfl) T.m_isinstance (by decide +kernel) (pa_cons (pv 1) (pa_cons (pe_glob (v := .ref CR) rfl T.gR rfl) pa_nil)))) (pss_one (ps_expr (pe_bm PySem.F.plainAttrs_list PySem.F.slot_list_append PySem.F.type_list_append mt_append (pv 3) (pa_cons (pe_tup (pa_cons pe_str (pa_cons (pe_callB (call_reprG gd hr'.units) (by rfl) T.m_repr (by decide +kernel) (pa_cons (pe_zat (pv 1)) pa_nil)) pa_nil))) pa_nil)))) pss_nil)
 (pss_cons (ps_if (pt_val (pe_callB call_isz (by rfl) T.m_isinstance (by decide +kernel) (pa_cons (pv 1) (pa_cons (pe_glob (v := .ref CN) rfl T.gN rfl) pa_nil)))) (pss_one (ps_expr (pe_bm PySem.F.plainAttrs_list PySem.F.slot_list_append PySem.F.type_list_append mt_append (pv 3) (pa_cons (pe_tup (pa_cons pe_str (pa_cons (pe_callB (call_reprG gd hr'.units) (by rfl) T.m_repr (by decide +kernel) (pa_cons (pe_zat (pv 1)) pa_nil)) pa_nil))) pa_nil)))) pss_nil)
 (pss_cons (ps_if (pt_val (pe_callB call_isz (by rfl) T.m_isinstance (by decide +kernel) (pa_cons (pv 1) (pa_cons (pe_glob (v := .ref CT) rfl T.gT rfl) pa_nil)))) (pss_one (ps_expr (pe_bm PySem.F.plainAttrs_list PySem.F.slot_list_append PySem.F.type_list_append mt_append (pv 3) (pa_cons (pe_tup (pa_cons (pe_zat (pv 1)) (pa_cons (pe_zat (pv 1)) pa_nil))) pa_nil)))) pss_nil)
 (pss_one (ps_ret (pe_ifExp (pt_cmpR op_eq (pe_callB call_len_seq (by rfl) T.m_len (by decide +kernel) (pa_cons (pv 3) pa_nil)) pe_int (nomark _)) (pe_ix ix_list (pv 3) pe_int (fun _ _ => rfl)) (pe_tup (pa_cons pe_str pa_nil))))))))))), ?_⟩
  · refine ⟨fun pins s' σ G D I h' => ?_⟩
    obtain ⟨Ech, hW, h1, h2, h3⟩ := h'
    exact (pss_one (ps_ret (pe_lst (pa_cons (act W pn xe Ech _ _ tk hW) pa_nil)))).run pins s' σ G D I ⟨h1, h2, h3⟩
  · refine ⟨_, fun cls d σ' G e => ?_, rfl, hc, h⟩
    obtain ⟨x, y, ⟨dd, rfl, hT⟩, hq⟩ := e
    have shape : σ'.length = 4 → ∃ w0 w1 w2 w3, σ' = [w0, w1, w2, w3] := fun hl => by
      match σ', hl with
      | [w0, w1, w2, w3], _ => exact ⟨w0, w1, w2, w3, rfl⟩
    rcases hT with ⟨rfl, v, z, hd, hs, rfl, rfl⟩ | ⟨rfl, v, z, hd, hs, rfl, rfl⟩ | ⟨rfl, hd⟩
    · refine ⟨true, T.eR, fun _ hl a na => ?_, fun z => nomatch z⟩
      obtain ⟨w0, w1, w2, w3, rfl⟩ := shape hl
      have nda : dd ≠ a := ne_of_none hd na
      have s1 : Same G (upd G a (exz a (.ref CR) (some dd))) := Same.lay na
      have c1 : Caught (upd G a (exz a (.ref CR) (some dd))) a CR [("part", v)] := ⟨dd, upd_same, s1 _ _ hd⟩
      refine ⟨_, rfl, (by show 0 ≤ PySem.sizeLine; decide), fun l hl => ?_⟩
      have nl : G l = none := s1.free hl
      have c2 : Caught (upd (upd G a (exz a (.ref CR) (some dd))) l (.lst [])) a CR [("part", v)] := c1.same (Same.lay hl)
      have s2 : Same G (upd (upd G a (exz a (.ref CR) (some dd))) l (.lst [])) := fun _ _ z => Same.lay hl _ _ (s1 _ _ z)
      refine ⟨_, rfl, a, CR, _, _, _, true, rfl, c2, T.xR, .own _, T.RR, _, rfl, ?_⟩
      refine iteT ?_
      obtain ⟨dv, w4, w5, w6, w7, rfl⟩ := hs
      refine ⟨_, rfl, .inl ⟨rfl, _, SqL.of upd_same⟩, _, rfl, a, CR, _, v, rfl, c2, T.xR, T.nR, rfl, v, dv, rfl, (dat_same1 s2 w4).rd.v, w5, w6, w7, (by show 2 ≤ PySem.sizeLine; decide), fun t ht => ?_⟩
      have nlt : l ≠ t := fun z => by
        rw [← z, upd_same] at ht
        cases ht
      refine ⟨l, [], .ref t, rfl, rfl, (by rw [upd_ne nlt]; exact upd_same), (by show 0 < PySem.sizeLine; decide), ?_⟩
      have s3 : Same G (upd (upd (upd (upd G a (exz a (.ref CR) (some dd))) l (.lst [])) t (.tup [.str "rule", .str dv.shown])) l (.lst ([] ++ [.ref t]))) := fun b o z => by
        rw [upd_ne (ne_of_none z nl)]
        exact Same.lay ht _ _ (s2 _ _ z)
      have nal : a ≠ l := fun z => by
        rw [← z, upd_same] at hl
        cases hl
      have c3 : Caught (upd (upd (upd (upd G a (exz a (.ref CR) (some dd))) l (.lst [])) t (.tup [.str "rule", .str dv.shown])) l (.lst ([] ++ [.ref t]))) a CR [("part", v)] := by
        obtain ⟨d', e1, e2⟩ := c2
        have nd' : d' ≠ l := fun z => by
          rw [z, upd_same] at e2
          cases e2
        exact ⟨d', by rw [upd_ne nal]; exact Same.lay ht _ _ e1, by rw [upd_ne nd']; exact Same.lay ht _ _ e2⟩
      have tup3 : (upd (upd (upd (upd G a (exz a (.ref CR) (some dd))) l (.lst [])) t (.tup [.str "rule", .str dv.shown])) l (.lst ([] ++ [.ref t]))) t = some (.tup [.str "rule", .str dv.shown]) := by
        rw [upd_ne nlt.symm]
        exact upd_same
      refine ⟨_, rfl, a, CR, _, _, _, false, rfl, c3, T.xR, .own _, T.RN, _, rfl, ?_⟩
      refine iteF ?_
      refine ⟨_, rfl, a, CR, _, _, _, false, rfl, c3, T.xR, .own _, T.RT, _, rfl, ?_⟩
      refine iteF ?_
      refine ⟨_, rfl, l, _, rfl, .inl (SqL.of upd_same), rfl, _, rfl, ?_⟩
      refine iteT ⟨_, rfl, l, _, 0, .ref t, rfl, rfl, SqL.of upd_same, atI_nat (j := 0) rfl, ?_⟩
      exact hq _ t s3 tup3
    · refine ⟨true, T.eN, fun _ hl a na => ?_, fun z => nomatch z⟩
      obtain ⟨w0, w1, w2, w3, rfl⟩ := shape hl
      have nda : dd ≠ a := ne_of_none hd na
      have s1 : Same G (upd G a (exz a (.ref CN) (some dd))) := Same.lay na
      have c1 : Caught (upd G a (exz a (.ref CN) (some dd))) a CN [("value", v)] := ⟨dd, upd_same, s1 _ _ hd⟩
      refine ⟨_, rfl, (by show 0 ≤ PySem.sizeLine; decide), fun l hl => ?_⟩
      have nl : G l = none := s1.free hl
      have c2 : Caught (upd (upd G a (exz a (.ref CN) (some dd))) l (.lst [])) a CN [("value", v)] := c1.same (Same.lay hl)
      have s2 : Same G (upd (upd G a (exz a (.ref CN) (some dd))) l (.lst [])) := fun _ _ z => Same.lay hl _ _ (s1 _ _ z)
      refine ⟨_, rfl, a, CN, _, _, _, false, rfl, c2, T.xN, .own _, T.NR, _, rfl, ?_⟩
      refine iteF ?_
      refine ⟨_, rfl, a, CN, _, _, _, true, rfl, c2, T.xN, .own _, T.NN, _, rfl, ?_⟩
      refine iteT ?_
      obtain ⟨dv, w4, w5, w6, w7, rfl⟩ := hs
      refine ⟨_, rfl, .inl ⟨rfl, _, SqL.of upd_same⟩, _, rfl, a, CN, _, v, rfl, c2, T.xN, T.nN, rfl, v, dv, rfl, (dat_same1 s2 w4).rd.v, w5, w6, w7, (by show 2 ≤ PySem.sizeLine; decide), fun t ht => ?_⟩
      have nlt : l ≠ t := fun z => by
        rw [← z, upd_same] at ht
        cases ht
      refine ⟨l, [], .ref t, rfl, rfl, (by rw [upd_ne nlt]; exact upd_same), (by show 0 < PySem.sizeLine; decide), ?_⟩
      have s3 : Same G (upd (upd (upd (upd G a (exz a (.ref CN) (some dd))) l (.lst [])) t (.tup [.str "number", .str dv.shown])) l (.lst ([] ++ [.ref t]))) := fun b o z => by
        rw [upd_ne (ne_of_none z nl)]
        exact Same.lay ht _ _ (s2 _ _ z)
      have nal : a ≠ l := fun z => by
        rw [← z, upd_same] at hl
        cases hl
      have c3 : Caught (upd (upd (upd (upd G a (exz a (.ref CN) (some dd))) l (.lst [])) t (.tup [.str "number", .str dv.shown])) l (.lst ([] ++ [.ref t]))) a CN [("value", v)] := by
        obtain ⟨d', e1, e2⟩ := c2
        have nd' : d' ≠ l := fun z => by
          rw [z, upd_same] at e2
          cases e2
        exact ⟨d', by rw [upd_ne nal]; exact Same.lay ht _ _ e1, by rw [upd_ne nd']; exact Same.lay ht _ _ e2⟩
      have tup3 : (upd (upd (upd (upd G a (exz a (.ref CN) (some dd))) l (.lst [])) t (.tup [.str "number", .str dv.shown])) l (.lst ([] ++ [.ref t]))) t = some (.tup [.str "number", .str dv.shown]) := by
        rw [upd_ne nlt.symm]
        exact upd_same
      refine ⟨_, rfl, a, CN, _, _, _, false, rfl, c3, T.xN, .own _, T.NT, _, rfl, ?_⟩
      refine iteF ?_
      refine ⟨_, rfl, l, _, rfl, .inl (SqL.of upd_same), rfl, _, rfl, ?_⟩
      refine iteT ⟨_, rfl, l, _, 0, .ref t, rfl, rfl, SqL.of upd_same, atI_nat (j := 0) rfl, ?_⟩
      exact hq _ t s3 tup3
    · refine ⟨true, T.eT, fun _ hl a na => ?_, fun z => nomatch z⟩
      obtain ⟨w0, w1, w2, w3, rfl⟩ := shape hl
      have nda : dd ≠ a := ne_of_none hd na
      have s1 : Same G (upd G a (exz a (.ref CT) (some dd))) := Same.lay na
      have c1 : Caught (upd G a (exz a (.ref CT) (some dd))) a CT [("most", y), ("what", x)] := ⟨dd, upd_same, s1 _ _ hd⟩
      refine ⟨_, rfl, (by show 0 ≤ PySem.sizeLine; decide), fun l hl => ?_⟩
      have nl : G l = none := s1.free hl
      have c2 : Caught (upd (upd G a (exz a (.ref CT) (some dd))) l (.lst [])) a CT [("most", y), ("what", x)] := c1.same (Same.lay hl)
      have s2 : Same G (upd (upd G a (exz a (.ref CT) (some dd))) l (.lst [])) := fun _ _ z => Same.lay hl _ _ (s1 _ _ z)
      refine ⟨_, rfl, a, CT, _, _, _, false, rfl, c2, T.xT, .own _, T.T_R, _, rfl, ?_⟩
      refine iteF ?_
      refine ⟨_, rfl, a, CT, _, _, _, false, rfl, c2, T.xT, .own _, T.T_N, _, rfl, ?_⟩
      refine iteF ?_
      refine ⟨_, rfl, a, CT, _, _, _, true, rfl, c2, T.xT, .own _, T.TT, _, rfl, ?_⟩
      refine iteT ?_
      refine ⟨_, rfl, .inl ⟨rfl, _, SqL.of upd_same⟩, _, rfl, a, CT, _, x, rfl, c2, T.xT, T.nW, rfl, _, rfl, a, CT, _, y, rfl, c2, T.xT, T.nM, rfl, (by show 2 ≤ PySem.sizeLine; decide), fun t ht => ?_⟩
      have nlt : l ≠ t := fun z => by
        rw [← z, upd_same] at ht
        cases ht
      refine ⟨l, [], .ref t, rfl, rfl, (by rw [upd_ne nlt]; exact upd_same), (by show 0 < PySem.sizeLine; decide), ?_⟩
      have s3 : Same G (upd (upd (upd (upd G a (exz a (.ref CT) (some dd))) l (.lst [])) t (.tup [x, y])) l (.lst ([] ++ [.ref t]))) := fun b o z => by
        rw [upd_ne (ne_of_none z nl)]
        exact Same.lay ht _ _ (s2 _ _ z)
      have nal : a ≠ l := fun z => by
        rw [← z, upd_same] at hl
        cases hl
      have c3 : Caught (upd (upd (upd (upd G a (exz a (.ref CT) (some dd))) l (.lst [])) t (.tup [x, y])) l (.lst ([] ++ [.ref t]))) a CT [("most", y), ("what", x)] := by
        obtain ⟨d', e1, e2⟩ := c2
        have nd' : d' ≠ l := fun z => by
          rw [z, upd_same] at e2
          cases e2
        exact ⟨d', by rw [upd_ne nal]; exact Same.lay ht _ _ e1, by rw [upd_ne nd']; exact Same.lay ht _ _ e2⟩
      have tup3 : (upd (upd (upd (upd G a (exz a (.ref CT) (some dd))) l (.lst [])) t (.tup [x, y])) l (.lst ([] ++ [.ref t]))) t = some (.tup [x, y]) := by
        rw [upd_ne nlt.symm]
        exact upd_same
      refine ⟨_, rfl, l, _, rfl, .inl (SqL.of upd_same), rfl, _, rfl, ?_⟩
      refine iteT ⟨_, rfl, l, _, 0, .ref t, rfl, rfl, SqL.of upd_same, atI_nat (j := 0) rfl, ?_⟩
      exact hq _ t s3 tup3
end Toy
set_option maxRecDepth 100000
namespace L2
open PySem PySem.Spec PyProof.Rows
/-- a def whose code object is known, by its body -/
theorem fnG_of {P : Program} {w : World} {K : PySem.W.Frag} {mg : Str → Option Value} {base : Heap} {x qual : Str} {st : Stmt} {f : Addr} {N ps : List Str} {k : Nat} {sp : Sp} {oc kV doc pm cdv ct : Value} {od an : Option Addr} {osl : Array (Option Value)}
    (lk : K.lookup f = some ⟨oc, od, .func (PySem.W.fnOf x qual (defArgs st) (defBody st) (defScope st) .none kV doc pm an cdv ct), osl⟩) (hcd : PySem.W.codeIn K cdv qual = true) (S : FnScope N ps (defScope st)) (len : ∀ vs H Q E, sp vs H Q E → vs.length = ps.length)
    (body : ∀ (A : Around) (outer : List Env) (s : Shared) (H : Hp) (vs : List V) (Q : VK) (E : XK), A.guards = some [] →
      Room k (A.deeper (envOfC qual (defScope st) s.heap.objs.size f cdv)) → sp vs H Q E →
      ∃ t, PSs (cxOf CX0 P w K mg base N qual (defScope st) f cdv A outer s H E).nox (defBody st) t ∧
        t { nx := fun _ H' => Q .non H', rt := Q } (start N vs) H) :
    FnG P w K mg base CX0 (k + 1) f (PySem.W.fnOf x qual (defArgs st) (defBody st) (defScope st) .none kV doc pm an cdv ct) ps sp := by
  refine ⟨len, fun A outer s H args us vs Q E gd hr e0 bi r h => ?_⟩
  have hn := len _ _ _ _ h
  have up : ∀ b o, base.get? b = some o → s.heap.get? b = some o := fun b o e => (e0.bs b o e).1
  have kin := e0.mod.kin.keeps up
  refine codeAny_call_function hr.depth (kin _ _ lk) rfl S.co S.gen rfl (PySem.W.codeRec_of kin hcd) (bi _ _ _ _ (wpAny_newFunctionEnv_cells S.kind ?_ ?_))
  · intro y hy
    have hm : y.1 ∈ ps := by
      obtain ⟨n, v⟩ := y
      exact (List.of_mem_zip hy).1
    exact (S.par _ hm).elim Or.inl fun q => Or.inr ⟨q, PySem.W.cellsFrom_some _ _ _ (.inl q)⟩
  · rintro env rfl s1 x
    refine ⟨(e0.mod.nolimit.keeps up).keeps x.toInCall.keep, codeAny_func ?_⟩
    obtain ⟨t, ht, hq⟩ := body A outer s H vs Q E gd (hr.deeper _) h
    have I := inv_start (CX := CX0) (P := P) (w := w) (K := K) (mg := mg) (base := base) (E := E) S hr.hd e0 hn r x
    refine wpAny_mono (ht.nox.run [] s1 (start N vs) H _ I hq) (fun fl s' hs => ?_) fun _ _ hs => hs
    cases fl with
    | next =>
      obtain ⟨_, H', J, q⟩ := hs
      exact ⟨V.non, H', J.os, J.bare, J.base, J.hok, rfl, q⟩
    | ret u =>
      obtain ⟨v, _, H', J, rv, q⟩ := hs
      exact ⟨v, H', J.os, J.bare, J.base, J.hok, rv, q⟩
    | brk =>
      obtain ⟨_, _, _, q⟩ := hs
      exact q.elim
    | cont =>
      obtain ⟨_, _, _, q⟩ := hs
      exact q.elim
end L2
set_option maxRecDepth 100000
namespace L2
open PySem PySem.Spec PyProof.Rows LamX
/-! C(k = v, ..) without positional arguments -/
def tMakeN0 (C : Addr) (m : Nat) (sp : Sp) (gV : List V → List V → List V) (E : XK) (tk : TA) : TE := fun σ H Q => tk σ H fun zs H2 => zs.length = m ∧
  ∀ x dx, H2 x = none → H2 dx = none → dx ≠ x → sp (gV [.ref x] zs) (upd (upd H2 dx (.own x)) x (.ins C dx [])) (fun v H3 => v = .non ∧ Q (.ref x) H3) E
section
variable {X : Cx} {CX : CXT} {k n : Nat} {f C : Addr} {fd : FuncData} {ps ks : List Str} {sp : Sp} {E : XK} {x : Str} {p pos : Pos} {kws : List Keyword} {tk : TA} {g : List Value → List Value → List Value} {gV : List V → List V → List V}
theorem pe_makeN0 (M : Mk X.K C f) (F : FnOk X.prog X.w X.K X.mg X.base CX k f fd ps sp) (hr : Room (k + 1) X.A) (hg : Gl X x) (hm : X.mg x = some (.ref C)) (hb : KBn X.K fd ps 1 ks g gV) (hx : Passes CX X E) (hkw : PK X kws tk)
    (hall : (backToKw pos (keywordEach kws X.env)).all (·.1.isSome) = true := by rfl) (hks : (backToKw pos (keywordEach kws X.env)).filterMap (·.1) = ks := by rfl) (hdb : (x == ("__debug__" : Str)) = false := by decide)
    (hpl : ((backTo pos (starEach [] X.env)).any (·.1) || (backToKw pos (keywordEach kws X.env)).any (·.1.isNone)) = false := by rfl) :
    PE X (.Call (.Name x p) [] kws pos) (tMakeN0 C ks.length sp gV E tk) := by
  refine ⟨fun pins s σ H Q I h => wpAny_Call_Name_kw (ld_glob I hg hm ?_ hdb)⟩
  refine PySem.W.callWith_KW0 (h₀ := X.base) I.ok.mod.kin M.kp hall ?_ hpl
  refine thn (hkw.run pos pins s σ H _ I h) fun ws s2 hh => ?_
  obtain ⟨zs, H2, I2, rz, l2, q2⟩ := hh
  refine ⟨I2.kIn, ?_⟩
  rw [hks]
  exact run_makeN (n := 0) (us := []) (vs := []) M F hr hb hx I2 .nil rz rfl l2 q2
end
/-! repr, its reading the same in each context -/
def rReprA : List V → Hp → VK → Prop := fun xs H Q => ∃ (x : V) (d : PyData), xs = [x] ∧ (∀ X : Cx, RdV X H x d) ∧ d.showable = true ∧ d.depth ≤ 20 ∧ d.shown.length ≤ sizeLine ∧ Q (.str d.shown) H
theorem call_reprA {X : Cx} (gd : X.A.guards = some []) (hu : X.A.units + 64 < cLine) : CallR X (.builtin "repr") rReprA := fun pins s σ H xs us Q I r h => by
  obtain ⟨x, d, e, rd, q⟩ := h
  exact call_reprG gd hu pins s σ H xs us Q I r ⟨x, d, e, rd X, q⟩
/-! what stays: all but the addresses in A, which hold lists, and tables -/
structure Ev (A : Addr → Prop) (H H' : Hp) : Prop where
  st : ∀ b o, ¬ A b → H b = some o → (∀ ps, o ≠ .tbl ps) → H' b = some o
  mu : ∀ b, A b → H b = none ∨ ∃ xs, H b = some (.lst xs)
theorem Ev.refl {A : Addr → Prop} {H : Hp} (mu : ∀ b, A b → H b = none ∨ ∃ xs, H b = some (.lst xs)) : Ev A H H := ⟨fun _ _ _ h _ => h, mu⟩
theorem Ev.same {A : Addr → Prop} {H G G' : Hp} (E : Ev A H G) (s : Same G G') : Ev A H G' := ⟨fun b o n h t => s _ _ (E.st b o n h t), E.mu⟩
theorem Ev.lay {A : Addr → Prop} {H G : Hp} {q : Addr} {o : HO} (E : Ev A H G) (h : G q = none) : Ev A H (upd G q o) := E.same ((Same.refl G).new h)
theorem Ev.ext {A : Addr → Prop} {H G G' : Hp} (E : Ev A H G) (e : ExtN G G') : Ev A H G' := ⟨fun b o n h t => e _ _ (E.st b o n h t) t, E.mu⟩
theorem Ev.put {A : Addr → Prop} {H G : Hp} {q : Addr} {o : HO} (E : Ev A H G) (h : A q) : Ev A H (upd G q o) := ⟨fun b u n e t => by
  rw [upd_ne (fun z => n (by rw [z]; exact h))]
  exact E.st b u n e t, E.mu⟩
theorem Ev.get {A : Addr → Prop} {H H' : Hp} {b : Addr} {o : HO} (E : Ev A H H') (h : H b = some o) (n1 : ∀ xs, o ≠ .lst xs) (n2 : ∀ ps, o ≠ .tbl ps) : H' b = some o :=
  E.st b o (fun z => by
    rcases E.mu b z with e | ⟨xs, e⟩
    · rw [e] at h
      cases h
    · rw [e] at h
      exact n1 xs (Option.some.inj h).symm) h n2
theorem Ev.tup {A : Addr → Prop} {H H' : Hp} {b : Addr} {xs : List V} (E : Ev A H H') (h : H b = some (.tup xs)) : H' b = some (.tup xs) := E.get h (fun _ z => by cases z) fun _ z => by cases z
theorem Ev.ins {A : Addr → Prop} {H H' : Hp} {b C dx : Addr} {fs : List (Str × V)} (E : Ev A H H') (h : H b = some (.ins C dx fs)) : H' b = some (.ins C dx fs) := E.get h (fun _ z => by cases z) fun _ z => by cases z
theorem Ev.dK {A : Addr → Prop} {H H' : Hp} {b : Addr} {xs : List (Key × V)} (E : Ev A H H') (h : H b = some (.dK xs)) : H' b = some (.dK xs) := E.get h (fun _ z => by cases z) fun _ z => by cases z
theorem Ev.xd {A : Addr → Prop} {H H' : Hp} {b : Addr} {fs : List (Str × V)} (E : Ev A H H') (h : H b = some (.xd fs)) : H' b = some (.xd fs) := E.get h (fun _ z => by cases z) fun _ z => by cases z
theorem Ev.lst {A : Addr → Prop} {H H' : Hp} {b : Addr} {xs : List V} (E : Ev A H H') (n : ¬ A b) (h : H b = some (.lst xs)) : H' b = some (.lst xs) := E.st b _ n h fun _ z => by cases z
theorem Ev.mono {A B : Addr → Prop} {H H' : Hp} (E : Ev A H H') (i : ∀ b, A b → B b) (mu : ∀ b, B b → H b = none ∨ ∃ xs, H b = some (.lst xs)) : Ev B H H' := ⟨fun b o n h t => E.st b o (fun z => n (i b z)) h t, mu⟩
theorem Ev.trans {A : Addr → Prop} {H G G' : Hp} (E : Ev A H G) (F : Ev A G G') : Ev A H G' := ⟨fun b o n h t => F.st b o n (E.st b o n h t) t, E.mu⟩
/-! rows of heard errors -/
inductive HE (H : Hp) : V → PyData → Prop where
  | ss {t : Addr} {a b : Str} (h : H t = some (.tup [.str a, .str b])) : HE H (.ref t) (.tuple [.str a, .str b])
  | si {t : Addr} {a : Str} {n : Int} (h : H t = some (.tup [.str a, .int n])) : HE H (.ref t) (.tuple [.str a, .int n])
inductive HRows (H : Hp) : List V → List PyData → Prop where
  | nil : HRows H [] []
  | cons {v : V} {d : PyData} {vs : List V} {ds : List PyData} (h : HE H v d) (r : HRows H vs ds) : HRows H (v :: vs) (d :: ds)
theorem HE.move {H H' : Hp} {v : V} {d : PyData} (st : ∀ b xs, H b = some (.tup xs) → H' b = some (.tup xs)) (h : HE H v d) : HE H' v d := by
  cases h with
  | ss h => exact .ss (st _ _ h)
  | si h => exact .si (st _ _ h)
theorem HRows.move {H H' : Hp} (st : ∀ b xs, H b = some (.tup xs) → H' b = some (.tup xs)) : ∀ {vs : List V} {ds : List PyData}, HRows H vs ds → HRows H' vs ds
  | _, _, .nil => .nil
  | _, _, .cons h r => .cons (h.move st) (HRows.move st r)
theorem HRows.app {H : Hp} : ∀ {vs us : List V} {ds es : List PyData}, HRows H vs ds → HRows H us es → HRows H (vs ++ us) (ds ++ es)
  | _, _, _, _, .nil, r => r
  | _, _, _, _, .cons h q, r => .cons h (HRows.app q r)
theorem HE.dp {K : PySem.W.Frag} {H : Hp} {v : V} {d : PyData} (h : HE H v d) : Dp K H v d := by
  cases h with
  | ss h => exact .tup (SqT.of h) (.cons (.str _) (.cons (.str _) .nil))
  | si h => exact .tup (SqT.of h) (.cons (.str _) (.cons (.int _) .nil))
theorem HRows.dp {K : PySem.W.Frag} {H : Hp} : ∀ {vs : List V} {ds : List PyData}, HRows H vs ds → DpAll K H vs ds
  | _, _, .nil => .nil
  | _, _, .cons h r => .cons h.dp r.dp
theorem HRows.len {H : Hp} : ∀ {vs : List V} {ds : List PyData}, HRows H vs ds → vs.length = ds.length
  | _, _, .nil => rfl
  | _, _, .cons h r => congrArg Nat.succ r.len
/-- a row that may be compared -/
def rowOk : PyData → Bool
  | .tuple [.str a, .str b] => PyData.strOk a && PyData.strOk b
  | .tuple [.str a, .int _] => PyData.strOk a
  | _ => false
theorem rowOk_lay {d : PyData} (h : rowOk d = true) : PyData.canLay0 d = true ∧ d.depth ≤ 1 ∧ PyData.eqv d d = true := by
  unfold rowOk at h
  split at h
  · rename_i a b
    obtain ⟨h1, h2⟩ := Bool.and_eq_true_iff.mp h
    simp [PyData.canLay0, PyData.canLayAll0, PyData.depth, PyData.depthAll, PyData.eqv, PyData.eqvAll, h1, h2]
  · rename_i a n
    simp [PyData.canLay0, PyData.canLayAll0, PyData.depth, PyData.depthAll, PyData.eqv, PyData.eqvAll, h]
  · cases h
theorem rows_lay : ∀ {ds : List PyData}, ds.all rowOk = true → PyData.canLayAll0 ds = true ∧ PyData.depthAll ds ≤ 1 ∧ PyData.eqvAll ds ds = true
  | [], _ => ⟨rfl, by simp [PyData.depthAll], rfl⟩
  | d :: r, h => by
    obtain ⟨h1, h2⟩ := Bool.and_eq_true_iff.mp (show (rowOk d && r.all rowOk) = true from h)
    obtain ⟨a1, a2, a3⟩ := rowOk_lay h1
    obtain ⟨b1, b2, b3⟩ := rows_lay h2
    refine ⟨by simp [PyData.canLayAll0, a1, b1], ?_, by simp [PyData.eqvAll, a3, b3]⟩
    simp only [PyData.depthAll]
    omega
theorem shaped_rows {ds : List PyData} (h : ds.all rowOk = true) : PySem.SeqAt.shaped (.list ds) = true := by
  obtain ⟨h1, h2, _⟩ := rows_lay h
  simp only [PySem.SeqAt.shaped, PyData.canLay0, PyData.depth, h1, Bool.true_and, Bool.and_true, decide_eq_true_eq]
  first | omega | exact decide_eq_true (by omega) | simp; omega
theorem eqv_rows {ds : List PyData} (h : ds.all rowOk = true) : PyData.eqv (.list ds) (.list ds) = true := (rows_lay h).2.2
end L2
set_option maxRecDepth 100000
namespace Toy
open PySem L2 LamX
theorem map_int_inj {a b : List Int} (h : a.map V.int = b.map V.int) : a = b := by
  induction a generalizing b with
  | nil =>
    cases b with
    | nil => rfl
    | cons y r => cases h
  | cons x r ih =>
    cases b with
    | nil => cases h
    | cons y r' =>
      have h1 := List.cons.inj h
      rw [V.int.inj h1.1, ih h1.2]
/-! arguments that stay while the addresses in A change -/
def PlainA (K : PySem.W.Frag) (A : Addr → Prop) (H : Hp) (y : V) : Prop := ∃ S, Plain K H y S ∧ ∀ b, y = .ref b → ¬ A b
inductive ArgA (K : PySem.W.Frag) (A : Addr → Prop) (H : Hp) : V → Option (List V) → Prop where
  | seq {a : Addr} {xs : List V} (e : SeqAt H a xs) (n : ¬ A a) (q : ∀ y ∈ xs, PlainA K A H y) (l : xs.length ≤ 300) : ArgA K A H (.ref a) (some xs)
  | other {x : V} {S : String} (h : Plain K H x S) (n : ∀ b, x = .ref b → ¬ A b) (k : PySem.W.kitAny K (.type S) [.type "list", .type "tuple"] = some false) : ArgA K A H x none
theorem plain_move {K : PySem.W.Frag} {A : Addr → Prop} {H H' : Hp} {y : V} {S : String} (st : ∀ b o, ¬ A b → H b = some o → (∀ ps, o ≠ .tbl ps) → H' b = some o) (n : ∀ b, y = .ref b → ¬ A b) (h : Plain K H y S) : Plain K H' y S := by
  cases h with
  | non => exact .non
  | bl b => exact .bl b
  | int i => exact .int i
  | str z => exact .str z
  | lst e => exact .lst (st _ _ (n _ rfl) e fun _ z => by cases z)
  | tup e => exact .tup (st _ _ (n _ rfl) e fun _ z => by cases z)
  | dK e => exact .dK (st _ _ (n _ rfl) e fun _ z => by cases z)
theorem ArgA.move {K : PySem.W.Frag} {A : Addr → Prop} {H H' : Hp} {v : V} {o : Option (List V)} (h : ArgA K A H v o) (st : ∀ b o, ¬ A b → H b = some o → (∀ ps, o ≠ .tbl ps) → H' b = some o) : ArgA K A H' v o := by
  cases h with
  | seq e n q l => exact .seq (e.elim (fun z => .inl (st _ _ n z fun _ y => by cases y)) fun z => .inr (st _ _ n z fun _ y => by cases y)) n (fun y hy => let ⟨S, h1, h2⟩ := q y hy; ⟨S, plain_move st h2 h1, h2⟩) l
  | other h n k => exact .other (plain_move st n h) n k
theorem ArgA.same {K : PySem.W.Frag} {A : Addr → Prop} {H H' : Hp} {v : V} {o : Option (List V)} (h : ArgA K A H v o) (s : Same H H') : ArgA K A H' v o := h.move fun b o _ e _ => s b o e
theorem ArgA.ext {K : PySem.W.Frag} {A : Addr → Prop} {H H' : Hp} {v : V} {o : Option (List V)} (h : ArgA K A H v o) (s : ExtN H H') : ArgA K A H' v o := h.move fun b o _ e n => s b o e n
theorem ArgA.but {K : PySem.W.Frag} {A : Addr → Prop} {p : Addr} {H H' : Hp} {v : V} {o : Option (List V)} (h : ArgA K A H v o) (hp : A p) (s : But p H H') : ArgA K A H' v o := h.move fun b o n e _ => s b o (fun z => n (by rw [z]; exact hp)) e
theorem ArgA.put {K : PySem.W.Frag} {A : Addr → Prop} {p : Addr} {H : Hp} {v : V} {o : Option (List V)} {u : HO} (h : ArgA K A H v o) (hp : A p) : ArgA K A (upd H p u) v o := h.move fun b o n e _ => by
  rw [upd_ne (fun z => n (by rw [z]; exact hp))]
  exact e
theorem plain_there {K : PySem.W.Frag} {H : Hp} {y : V} {S : String} (h : Plain K H y S) {b : Addr} (e : y = .ref b) : ∃ o, H b = some o := by
  subst e
  cases h with
  | lst e => exact ⟨_, e⟩
  | tup e => exact ⟨_, e⟩
  | dK e => exact ⟨_, e⟩
theorem plain_avoid {K : PySem.W.Frag} {A : Addr → Prop} {H : Hp} {q : Addr} (hq : H q = none) {y : V} {S : String} (h : Plain K H y S) (n : ∀ b, y = .ref b → ¬ A b) : ∀ b, y = .ref b → ¬ (A b ∨ b = q) := fun b e z => by
  rcases z with z | z
  · exact n b e z
  · obtain ⟨o, h2⟩ := plain_there h e
    rw [z, hq] at h2
    cases h2
theorem ArgA.avoid {K : PySem.W.Frag} {A : Addr → Prop} {H : Hp} {q : Addr} {v : V} {o : Option (List V)} (h : ArgA K A H v o) (hq : H q = none) : ArgA K (fun b => A b ∨ b = q) H v o := by
  cases h with
  | seq e n q' l =>
    refine .seq e (fun z => ?_) (fun y hy => let ⟨S, h1, h2⟩ := q' y hy; ⟨S, h1, plain_avoid hq h1 h2⟩) l
    rcases z with z | z
    · exact n z
    · rcases e with e | e <;> (rw [z, hq] at e; cases e)
  | other h n k => exact .other h (plain_avoid hq h n) k
theorem ArgA.arg {K : PySem.W.Frag} {A : Addr → Prop} {H : Hp} {v : V} {o : Option (List V)} (h : ArgA K A H v o) : Arg K H v o ∧ ∀ ys, o = some ys → ys.length ≤ 300 := by
  cases h with
  | seq e n q l => exact ⟨.seq e (fun y hy => let ⟨S, h1, _⟩ := q y hy; ⟨S, h1⟩) (by omega), fun ys e => by rw [← Option.some.inj e]; exact l⟩
  | other h n k => exact ⟨.other h k, fun _ e => nomatch e⟩
theorem argA_ints {K : PySem.W.Frag} {A : Addr → Prop} {H : Hp} {a : Addr} {ns : List Int} (e : SeqAt H a (ns.map V.int)) (n : ¬ A a) (l : ns.length ≤ 300) : ArgA K A H (.ref a) (some (ns.map V.int)) :=
  .seq e n (fun y hy => by obtain ⟨i, _, rfl⟩ := List.mem_map.mp hy; exact ⟨_, .int i, fun _ z => nomatch z⟩) (by rw [List.length_map]; exact l)
theorem argA_mods {K : PySem.W.Frag} {A : Addr → Prop} {H : Hp} {a : Addr} {ms : List V} (e : SeqAt H a ms) (n : ¬ A a) (ok : okMod (some ms) = true) : ArgA K A H (.ref a) (some ms) := by
  obtain ⟨wm, _⟩ := okMod_all ok
  have z : (decide (1 ≤ ms.length ∧ ms.length ≤ 5) && (ms.all (withinV 2 32) && decide (prodV ms ≤ 32))) = true := ok
  have l := of_decide_eq_true (Bool.and_eq_true_iff.mp z).1
  refine .seq e n (fun y hy => ?_) (by omega)
  obtain ⟨i, rfl, _⟩ := within_int (List.all_eq_true.mp wm y hy)
  exact ⟨_, .int i, fun _ z => nomatch z⟩
/-! Rule(..) with such arguments -/
theorem made_same {G : Hp} {x dx C : Addr} (nx : G x = none) (ndx : G dx = none) : Same G (upd (upd G dx (.own x)) x (.ins C dx [])) := fun b o e => by
  rw [upd_ne (ne_of_none e nx), upd_ne (ne_of_none e ndx)]
  exact e
theorem init_bad {CR CT C x dx : Addr} {K : PySem.W.Frag} {A : Addr → Prop} {G : Hp} {m a t : V} {om oa ot : Option (List V)} {w : Str} {Q : VK} {E : XK} (nx : G x = none) (ndx : G dx = none) (hm : ArgA K A G m om) (ha : ArgA K A G a oa) (ht : ArgA K A G t ot)
    (he : ruleErr om oa ot = some w) (k : ∀ d H', Same G H' → H' d = some (.xd [("part", .str w)]) → E (.ref CR) (some d) H') : spInit CR CT C K [.ref x, m, a, t] (upd (upd G dx (.own x)) x (.ins C dx [])) Q E := by
  have s := made_same (C := C) nx ndx
  refine ⟨x, dx, m, a, t, om, oa, ot, rfl, upd_same, hm.arg.1.same s, ha.arg.1.same s, ht.arg.1.same s, ha.arg.2, ht.arg.2, fun w' hw d H' hd bt e => ?_, fun ms ns ts _ _ _ hn => ?_⟩
  · rw [he] at hw
    obtain rfl := Option.some.inj hw
    exact k d H' (fun b o z => bt b o (ne_of_none z nx) (s _ _ z)) e
  · rw [he] at hn
    cases hn
theorem init_ok {CR CT C x dx : Addr} {K : PySem.W.Frag} {A : Addr → Prop} {G : Hp} {m a t : V} {ms : List V} {ns ts : List Int} {Q : VK} {E : XK} (nx : G x = none) (ndx : G dx = none) (hm : ArgA K A G m (some ms)) (ha : ArgA K A G a (some (ns.map V.int))) (ht : ArgA K A G t (some (ts.map V.int)))
    (he : ruleErr (some ms) (some (ns.map V.int)) (some (ts.map V.int)) = none)
    (k1 : 24 < (normW ns ts).1.length + (normW ns ts).2.length → ∀ d H', Same G H' → H' d = some (.xd [("most", .int 24), ("what", .str "places")]) → E (.ref CT) (some d) H')
    (k2 : (normW ns ts).1.length + (normW ns ts).2.length ≤ 24 → ∀ H', Same G H' → RuleAt C H' x ms (normW ns ts).1 (normW ns ts).2 → Q .non H') : spInit CR CT C K [.ref x, m, a, t] (upd (upd G dx (.own x)) x (.ins C dx [])) Q E := by
  have s := made_same (C := C) nx ndx
  refine ⟨x, dx, m, a, t, _, _, _, rfl, upd_same, hm.arg.1.same s, ha.arg.1.same s, ht.arg.1.same s, ha.arg.2, ht.arg.2, fun w' hw => ?_, fun ms' ns' ts' e1 e2 e3 _ => ?_⟩
  · rw [he] at hw
    cases hw
  · obtain rfl := map_int_inj (Option.some.inj e2)
    obtain rfl := map_int_inj (Option.some.inj e3)
    obtain rfl := Option.some.inj e1
    exact ⟨fun big d H' hd bt e => k1 big d H' (fun b o z => bt b o (ne_of_none z nx) (s _ _ z)) e, fun le H' bt R => k2 le H' (fun b o z => bt b o (ne_of_none z nx) (s _ _ z)) R⟩

theorem tabs_but {p : Addr} {T : List (Addr × Str)} {G G' : Hp} {xs : List V} (hp : G p = some (.lst xs)) (bt : But p G G') (t : Tabs T G) : Tabs T G' := fun y hy => by
  obtain ⟨ps, h1, h2, h3⟩ := t y hy
  refine ⟨ps, bt _ _ (fun z => ?_) h1, h2, fun pos cv hc => ?_⟩
  · rw [z, hp] at h1
    cases h1
  · obtain ⟨c, e1, e2⟩ := h3 pos cv hc
    refine ⟨c, e1, bt _ _ (fun z => ?_) e2⟩
    rw [z, hp] at e2
    have e3 : HO.lst xs = HO.ext _ := Option.some.inj e2
    cases e3
/-- a value that is no place, and what repr shows of it -/
structure OddAt (K : PySem.W.Frag) (p : Addr) (G : Hp) (v : V) (z : Str) : Prop where
  pl : ∃ S, Plain K G v S
  sh : Shows G v z
  ne : ∀ b, v = .ref b → b ≠ p
  ok : PyData.strOk z = true
theorem OddAt.move {K : PySem.W.Frag} {p : Addr} {G G' : Hp} {v : V} {z : Str} (h : OddAt K p G v z) (st : ∀ b o, v = .ref b → G b = some o → (∀ ps, o ≠ .tbl ps) → G' b = some o) : OddAt K p G' v z := by
  refine ⟨?_, ?_, h.ne, h.ok⟩
  · obtain ⟨S, q⟩ := h.pl
    refine ⟨S, ?_⟩
    cases q with
    | non => exact .non
    | bl b => exact .bl b
    | int i => exact .int i
    | str z => exact .str z
    | lst e => exact .lst (st _ _ rfl e fun _ z => by cases z)
    | tup e => exact .tup (st _ _ rfl e fun _ z => by cases z)
    | dK e => exact .dK (st _ _ rfl e fun _ z => by cases z)
  · obtain ⟨d, q, w⟩ := h.sh
    refine ⟨d, ?_, w⟩
    cases q with
    | emp e => exact .emp (st _ _ rfl e fun _ z => by cases z)
    | d0 q =>
      refine .d0 ?_
      cases q with
      | non => exact .non
      | bl b => exact .bl b
      | int i => exact .int i
      | str z => exact .str z
      | tup e => exact .tup (st _ _ rfl e fun _ z => by cases z)
      | lst e n => exact .lst (st _ _ rfl e fun _ z => by cases z) n
      | dct e => exact .dct (st _ _ rfl e fun _ z => by cases z)
theorem OddAt.same {K : PySem.W.Frag} {p : Addr} {G G' : Hp} {v : V} {z : Str} (h : OddAt K p G v z) (s : Same G G') : OddAt K p G' v z := h.move fun b o _ e _ => s b o e
theorem OddAt.but {K : PySem.W.Frag} {p : Addr} {G G' : Hp} {v : V} {z : Str} (h : OddAt K p G v z) (s : But p G G') : OddAt K p G' v z := h.move fun b o e1 e _ => s b o (h.ne b e1) e
theorem OddAt.ext {K : PySem.W.Frag} {p : Addr} {G G' : Hp} {v : V} {z : Str} (h : OddAt K p G v z) (s : ExtN G G') : OddAt K p G' v z := h.move fun b o _ e n => s b o e n
theorem OddAt.there {K : PySem.W.Frag} {p b : Addr} {G : Hp} {v : V} {z : Str} (h : OddAt K p G v z) (e : v = .ref b) : ∃ o, G b = some o := by
  obtain ⟨S, q⟩ := h.pl
  subst e
  cases q with
  | lst e => exact ⟨_, e⟩
  | tup e => exact ⟨_, e⟩
  | dK e => exact ⟨_, e⟩
theorem OddAt.butq {K : PySem.W.Frag} {p q : Addr} {G G' : Hp} {v : V} {z : Str} (h : OddAt K p G v z) (n : ∀ b, v = .ref b → b ≠ q) (s : But q G G') : OddAt K p G' v z := h.move fun b o e1 e _ => s b o (n b e1) e
theorem OddAt.apart {K : PySem.W.Frag} {p q : Addr} {G : Hp} {v : V} {z : Str} (h : OddAt K p G v z) (hq : G q = none) : ∀ b, v = .ref b → b ≠ q := fun b e z => by
  obtain ⟨o, h2⟩ := h.there e
  rw [z, hq] at h2
  cases h2
theorem odd_int {K : PySem.W.Frag} {p : Addr} {G : Hp} {i : Int} (h : (PyData.int i).showable = true ∧ (PyData.int i).depth ≤ 20 ∧ (PyData.int i).shown.length ≤ PySem.sizeLine ∧ PyData.strOk (PyData.int i).shown = true) : ∃ z, OddAt K p G (.int i) z := ⟨_, ⟨_, .int i⟩, ⟨_, .d0 (.int i), h.1, h.2.1, h.2.2.1, rfl⟩, fun _ e => (nomatch e), h.2.2.2⟩
theorem odd_non {K : PySem.W.Frag} {p : Addr} {G : Hp} : ∃ z, OddAt K p G .non z := ⟨_, ⟨_, .non⟩, ⟨_, .d0 .non, by decide +kernel, by decide +kernel, by decide +kernel, rfl⟩, fun _ e => (nomatch e), by decide +kernel⟩
theorem odd_bl {K : PySem.W.Frag} {p : Addr} {G : Hp} (b : Bool) : ∃ z, OddAt K p G (.bl b) z := ⟨_, ⟨_, .bl b⟩, ⟨_, .d0 (.bl b), by cases b <;> decide +kernel, by cases b <;> decide +kernel, by cases b <;> decide +kernel, rfl⟩, fun _ e => (nomatch e), by cases b <;> decide +kernel⟩
theorem odd_str0 {K : PySem.W.Frag} {p : Addr} {G : Hp} : ∃ z, OddAt K p G (.str "0") z := ⟨_, ⟨_, .str _⟩, ⟨_, .d0 (.str _), by decide +kernel, by decide +kernel, by decide +kernel, rfl⟩, fun _ e => (nomatch e), by decide +kernel⟩
theorem odd_tup0 {K : PySem.W.Frag} {p t : Addr} {G : Hp} (e : G t = some (.tup [.int 0])) (n : t ≠ p) : ∃ z, OddAt K p G (.ref t) z := ⟨_, ⟨_, .tup e⟩, ⟨_, .d0 (.tup (ns := [0]) e), by decide +kernel, by decide +kernel, by decide +kernel, rfl⟩, (fun b h => by cases h; exact n), by decide +kernel⟩
theorem odd_lst0 {K : PySem.W.Frag} {p t : Addr} {G : Hp} (e : G t = some (.lst [])) (n : t ≠ p) (m : t ≠ sysModules) : ∃ z, OddAt K p G (.ref t) z := ⟨_, ⟨_, .lst e⟩, ⟨_, .d0 (.lst (ns := []) e m), by decide +kernel, by decide +kernel, by decide +kernel, rfl⟩, (fun b h => by cases h; exact n), by decide +kernel⟩
theorem odd_dct0 {K : PySem.W.Frag} {p t : Addr} {G : Hp} (e : G t = some (.dK [])) (n : t ≠ p) : ∃ z, OddAt K p G (.ref t) z := ⟨_, ⟨_, .dK e⟩, ⟨_, .emp e, by decide +kernel, by decide +kernel, by decide +kernel, rfl⟩, (fun b h => by cases h; exact n), by decide +kernel⟩

theorem all_of {n : Int} {A : List Int} (h : ∀ z ∈ A, 0 ≤ z ∧ z ≤ n - 1) : (A.map V.int).all (withinV 0 (n - 1)) = true := by
  rw [List.all_map]
  exact List.all_eq_true.mpr fun z hz => decide_eq_true (h z hz)
theorem mods_of {ms : List V} (h : okMod (some ms) = true) : ∃ ns : List Int, ms = ns.map V.int ∧ Mods ns ∧ ns ≠ [] ∧ prodI ns ≤ 32 ∧ 2 ≤ prodI ns := by
  have z : (decide (1 ≤ ms.length ∧ ms.length ≤ 5) && (ms.all (withinV 2 32) && decide (prodV ms ≤ 32))) = true := h
  obtain ⟨l1, l5⟩ := of_decide_eq_true (Bool.and_eq_true_iff.mp z).1
  obtain ⟨wm, p32⟩ := okMod_all h
  obtain ⟨ns, rfl⟩ := all_ints wm
  rw [prodV_map] at p32
  rw [List.length_map] at l1 l5
  have hn : ∀ n ∈ ns, 2 ≤ n ∧ n ≤ 32 := fun n hn => by
    have := List.all_eq_true.mp wm (.int n) (List.mem_map.mpr ⟨n, hn, rfl⟩)
    exact of_decide_eq_true this
  refine ⟨ns, rfl, ⟨l5, hn⟩, fun e => by rw [e] at l1; simp at l1, p32, ?_⟩
  cases ns with
  | nil => simp at l1
  | cons n ns =>
    have h2 := (hn n (.head _)).1
    have h3 := prodI_pos (ns := ns) fun m hm => hn m (.tail _ hm)
    show 2 ≤ n * prodI ns
    have : 2 * 1 ≤ n * prodI ns := Int.mul_le_mul h2 (by omega) (by decide) (by omega)
    omega
/-- a rule without weights ahead, with a 0 in the round -/
theorem zero_ok {CR CT C x dx : Addr} {K : PySem.W.Frag} {G : Hp} {am aa at_ : Addr} {ms : List V} {Q : VK} {E : XK} (nx : G x = none) (ndx : G dx = none) (em : SeqAt G am ms) (ea : SeqAt G aa []) (et : SeqAt G at_ [.int 0]) (hm : okMod (some ms) = true)
    (k : ∀ H', Same G H' → RuleAt C H' x ms [] [0] → Q .non H') : spInit CR CT C K [.ref x, .ref am, .ref aa, .ref at_] (upd (upd G dx (.own x)) x (.ins C dx [])) Q E := by
  have hp := (okMod_all hm)
  have e0 : okBanks (prodV ms) (some ([].map V.int)) = true := rfl
  have pp : 0 < prodV ms := prod_pos hp.1 1 (by decide)
  have e1 : okBanks (prodV ms) (some ([0].map V.int)) = true := by
    show (withinV 0 (prodV ms - 1) (.int 0) && true) = true
    rw [show withinV 0 (prodV ms - 1) (.int 0) = true from decide_eq_true ⟨by decide, by omega⟩]
    rfl
  refine init_ok (A := fun _ => False) nx ndx (argA_mods em (fun z => z) hm) (argA_ints (ns := []) ea (fun z => z) (by decide)) (argA_ints (ns := [0]) et (fun z => z) (by decide)) ?_ (fun big => absurd big (by decide)) fun _ H' s R => k H' s R
  unfold ruleErr
  rw [if_neg (by rw [hm]; exact Bool.noConfusion), if_neg (by rw [show (some ms).getD [] = ms from rfl, e0]; exact Bool.noConfusion)]
  refine if_neg ?_
  rintro (z | z)
  · rw [show (some ms).getD [] = ms from rfl, e1] at z
    cases z
  · cases Option.some.inj z
/-- pairs of banks, each a tuple -/
def PairsB (B : Int) (G : Hp) (vs : List V) : Prop := ∀ v ∈ vs, ∃ (t : Addr) (i j : Int), v = .ref t ∧ G t = some (.tup [.int i, .int j]) ∧ 0 ≤ i ∧ i < B ∧ 0 ≤ j ∧ j < B
theorem PairsB.move {B : Int} {G G' : Hp} {vs : List V} (h : PairsB B G vs) (st : ∀ q xs, G q = some (.tup xs) → G' q = some (.tup xs)) : PairsB B G' vs := fun v hv =>
  let ⟨t, i, j, e, h1, h2⟩ := h v hv
  ⟨t, i, j, e, st _ _ h1, h2⟩
theorem PairsB.app {B : Int} {G : Hp} {vs us : List V} (h : PairsB B G vs) (h' : PairsB B G us) : PairsB B G (vs ++ us) := fun v hv => (List.mem_append.mp hv).elim (h v) (h' v)
theorem PairsB.one {B : Int} {G : Hp} {t : Addr} {i j : Int} (e : G t = some (.tup [.int i, .int j])) (h : 0 ≤ i ∧ i < B ∧ 0 ≤ j ∧ j < B) : PairsB B G [.ref t] := fun v hv => by
  rw [List.mem_singleton.mp hv]
  exact ⟨t, i, j, rfl, e, h⟩
/-- what stays through a turn: the pen, the moduli, the rule, the tables -/
structure Kp (p l m x C PT : Addr) (ns : List Int) (ms : List Int) (hi : Int) (G : Hp) : Prop where
  pen : ∃ a b, PenAt G p l ns a b ∧ a ≤ hi
  mo : G m = some (.tup (ms.map V.int))
  ru : RuleAt C G x (ms.map V.int) [] [0]
  tb : Tabs [(PT, ("_law_turn_right" ++ ".<locals>." ++ "<lambda>" : Str))] G
section
variable {p l m x C PT : Addr} {ns ms : List Int} {hi hi' : Int} {G G' : Hp}
theorem Kp.move (K : Kp p l m x C PT ns ms hi G) (st : ∀ b o, G b = some o → (∀ xs, o ≠ .lst xs) → (∀ ps, o ≠ .tbl ps) → G' b = some o) (pen : ∃ a b, PenAt G' p l ns a b ∧ a ≤ hi') (tb : Tabs [(PT, ("_law_turn_right" ++ ".<locals>." ++ "<lambda>" : Str))] G') : Kp p l m x C PT ns ms hi' G' := by
  have tp : ∀ {b : Addr} {xs : List V}, G b = some (.tup xs) → G' b = some (.tup xs) := fun {b xs} e => st b _ e (fun _ z => by cases z) fun _ z => by cases z
  obtain ⟨dx, qm, qa, qt, h1, h2, h3, h4⟩ := K.ru
  exact ⟨pen, tp K.mo, ⟨dx, qm, qa, qt, st _ _ h1 (fun _ z => by cases z) (fun _ z => by cases z), tp h2, tp h3, tp h4⟩, tb⟩
theorem Kp.same (K : Kp p l m x C PT ns ms hi G) (s : Same G G') : Kp p l m x C PT ns ms hi G' :=
  K.move (fun b o e _ _ => s b o e) (let ⟨a, b, h1, h2⟩ := K.pen; ⟨a, b, pen_same s h1, h2⟩) (K.tb.ext s)
theorem Kp.draw {a' b' : Int} (K : Kp p l m x C PT ns ms hi G) (bt : But p G G') (P : PenAt G' p l ns a' b') (ha : a' ≤ hi') : Kp p l m x C PT ns ms hi' G' := by
  obtain ⟨a, b, h1, h2⟩ := K.pen
  refine K.move (fun c o e n1 _ => bt c o (fun z => ?_) e) ⟨a', b', P, ha⟩ (tabs_but h1.pen bt K.tb)
  rw [z, h1.pen] at e
  exact n1 _ (Option.some.inj e).symm
theorem Kp.ext (K : Kp p l m x C PT ns ms hi G) (e : ExtN G G') (tb : Tabs [(PT, ("_law_turn_right" ++ ".<locals>." ++ "<lambda>" : Str))] G') : Kp p l m x C PT ns ms hi G' := by
  refine K.move (fun b o h _ n => e b o h n) ?_ tb
  obtain ⟨a, b, h1, h2⟩ := K.pen
  exact ⟨a, b, ⟨e _ _ h1.pen (fun _ z => by cases z), e _ _ h1.cells (fun _ z => by cases z), h1.few, h1.bits, h1.low⟩, h2⟩
theorem Kp.putq {Q : Addr} {xs ys : List V} (K : Kp p l m x C PT ns ms hi G) (hQ : G Q = some (.lst xs)) (n1 : Q ≠ p) (n2 : Q ≠ l) : Kp p l m x C PT ns ms hi (upd G Q (.lst ys)) := by
  obtain ⟨a, b, h1, h2⟩ := K.pen
  refine K.move (fun c o e m1 _ => ?_) ⟨a, b, pen_lay h1 n1 n2, h2⟩ (tabs_but hQ (But.refl Q G).put K.tb)
  rw [upd_ne]
  · exact e
  · intro z
    rw [z, hQ] at e
    exact m1 _ (Option.some.inj e).symm
end
theorem int_shown : ∀ m : Nat, m < 33 → (PyData.int (m : Int)).showable = true ∧ (PyData.int (m : Int)).depth ≤ 20 ∧ (PyData.int (m : Int)).shown.length ≤ PySem.sizeLine ∧ PyData.strOk (PyData.int (m : Int)).shown = true := by decide +kernel
theorem big_shown : (PyData.int ((10 : Int) ^ (30 : Int).toNat)).showable = true ∧ (PyData.int ((10 : Int) ^ (30 : Int).toNat)).depth ≤ 20 ∧ (PyData.int ((10 : Int) ^ (30 : Int).toNat)).shown.length ≤ PySem.sizeLine ∧ PyData.strOk (PyData.int ((10 : Int) ^ (30 : Int).toNat)).shown = true := by decide +kernel
theorem neg_shown : (PyData.int (-1)).showable = true ∧ (PyData.int (-1)).depth ≤ 20 ∧ (PyData.int (-1)).shown.length ≤ PySem.sizeLine ∧ PyData.strOk (PyData.int (-1)).shown = true := by decide +kernel
/-- menus of values that are no banks, and what repr shows of them -/
structure MenuO (K : PySem.W.Frag) (p : Addr) (hi : Int) (H0 H : Hp) (xs : List V) : Prop where
  same : Same H0 H
  all : ∀ v ∈ xs, (∃ z, OddAt K p H v z) ∧ withinV 0 hi v = false
section
variable {K : PySem.W.Frag} {p : Addr} {hi : Int} {H0 H : Hp} {xs : List V}
theorem MenuO.start : MenuO K p hi H0 H0 [] := ⟨Same.refl H0, fun _ z => nomatch z⟩
theorem MenuO.val (M : MenuO K p hi H0 H xs) {v : V} (h : ∃ z, OddAt K p H v z) (w : withinV 0 hi v = false) : MenuO K p hi H0 H (xs ++ [v]) := ⟨M.same, fun u hu => (List.mem_append.mp hu).elim (M.all u) fun z => by
  rw [List.mem_singleton.mp z]
  exact ⟨h, w⟩⟩
theorem MenuO.obj (M : MenuO K p hi H0 H xs) {q : Addr} {o : HO} (hq : H q = none) (h : ∃ z, OddAt K p (upd H q o) (.ref q) z) : MenuO K p hi H0 (upd H q o) (xs ++ [.ref q]) := by
  have s := Same.lay (o := o) hq
  refine ⟨fun _ _ z => s _ _ (M.same _ _ z), fun u hu => ?_⟩
  rcases List.mem_append.mp hu with z | z
  · obtain ⟨⟨y, h1⟩, h2⟩ := M.all u z
    exact ⟨⟨y, h1.same s⟩, h2⟩
  · rw [List.mem_singleton.mp z]
    exact ⟨h, rfl⟩
end
theorem okParts_parts {ns : List Int} {b : Int} (hM : Mods ns) : okParts ns ((partsI ns b).map V.int) = true := by
  unfold okParts
  rw [decide_eq_true (show ((partsI ns b).map V.int).length = ns.length by rw [List.length_map, partsI_len])]
  refine List.all_eq_true.mpr fun q hq => ?_
  obtain ⟨k, hk⟩ := List.mem_iff_getElem?.mp hq
  obtain ⟨h1, h2⟩ := List.getElem?_zip_eq_some.mp hk
  rw [List.getElem?_map] at h1
  obtain ⟨y, hy, e⟩ := Option.map_eq_some_iff.mp h1
  obtain ⟨n, hn, y0, y1⟩ := partsI_at hM.2 hy
  rw [hn] at h2
  rw [← e, ← Option.some.inj h2]
  exact decide_eq_true ⟨y0, by omega⟩
theorem ee_nil : PyData.eqv (.list []) (.list []) = true := by simp [PyData.eqv, PyData.eqvAll]
theorem cut_from {xs : List V} {n : Nat} (h : n ≤ xs.length) : cutV xs (some (n : Int)) none = xs.drop n := by
  unfold cutV
  rw [HT.sIx_none, HT.sIx_nat, Nat.min_eq_left h]
  rw [List.take_of_length_le]
  rw [List.length_drop]
  exact Nat.le_refl _
abbrev rowP : PyData := .tuple [.str "rule", .str (PyData.str "parts").shown]
theorem rowP_ok : ∀ k : Nat, ((List.replicate k rowP).all rowOk) = true := fun k => List.all_eq_true.mpr fun d hd => by
  rw [List.eq_of_mem_replicate hd]
  decide +kernel
theorem hrows_rep {G : Hp} {t : Addr} (e : G t = some (.tup [.str "rule", .str (PyData.str "parts").shown])) : ∀ k : Nat, HRows G (List.replicate k (V.ref t)) (List.replicate k rowP)
  | 0 => .nil
  | k + 1 => .cons (.ss e) (hrows_rep e k)
theorem told_parts {CR CN CT : Addr} {H' : Hp} {d : Addr} (e : H' d = some (.xd [("part", .str "parts")])) : Told CR CN CT H' (.ref CR) (some d) (.str "rule") (.str (PyData.str "parts").shown) :=
  ⟨d, rfl, .inl ⟨rfl, _, _, e, ⟨_, .d0 (.str _), by decide +kernel, by decide +kernel, by decide +kernel, rfl⟩, rfl, rfl⟩⟩
theorem okParts_len {ns : List Int} {xs : List V} (h : xs.length ≠ ns.length) : okParts ns xs = false := by
  unfold okParts
  rw [decide_eq_false h]
  rfl
end Toy
set_option maxRecDepth 100000
namespace Toy
open PySem L2 LamX Dg
abbrev noA : Addr → Prop := fun _ => False
theorem ruleErr_ok {ms : List V} {A T : List Int} (hm : okMod (some ms) = true) (ha : ∀ z ∈ A, 0 ≤ z ∧ z ≤ prodV ms - 1) (ht : ∀ z ∈ T, 0 ≤ z ∧ z ≤ prodV ms - 1) (ne : T ≠ []) : ruleErr (some ms) (some (A.map V.int)) (some (T.map V.int)) = none := by
  unfold ruleErr
  rw [if_neg (by rw [hm]; exact Bool.noConfusion), if_neg (by show ¬ (A.map V.int).all (withinV 0 (prodV ms - 1)) = false; rw [all_of ha]; exact Bool.noConfusion)]
  refine if_neg ?_
  rintro (z | z)
  · rw [show okBanks (prodV ((some ms).getD [])) (some (T.map V.int)) = true from all_of ht] at z
    cases z
  · exact ne (List.map_eq_nil_iff.mp (Option.some.inj z))
theorem tup_but {H G : Hp} {p l t : Addr} {ns : List Int} {a b : Int} {xs : List V} (P : PenAt H p l ns a b) (bt : But p H G) (h : H t = some (.tup xs)) : G t = some (.tup xs) := bt _ _ (pen_ne P h) h
end Toy
set_option maxRecDepth 100000
namespace L2
open PySem PySem.Spec PyProof.Rows LamX
/-! cls(e, ..), cls a name of the def that holds the class -/
def tMakeV (i : Nat) (C : Addr) (sp : Sp) (dvs : List V) (E : XK) (t : TA) : TE := fun σ H Q => σ[i]? = some (some (.ref C)) ∧ tMake C sp dvs E t σ H Q
theorem pe_makeV {X : Cx} {CX : CXT} {k : Nat} {f C : Addr} {fd : FuncData} {ps : List Str} {ds : List Value} {dvs : List V} {sp : Sp} {E : XK} {x : Str} {p pos : Pos} {e : Expr} {es : List Expr} {t : TA} {i : Nat}
    (M : Mk X.K C f) (F : FnOk X.prog X.w X.K X.mg X.base CX k f fd ps sp) (hr : Room (k + 1) X.A) (hN : X.N[i]? = some x) (hv : Vis X.env.scope x) (hb : Binds X.K fd ps ds) (hd : Vals dvs ds) (hx : Passes CX X E)
    (ha : PA X (e :: es) t) (hdb : (x == ("__debug__" : Str)) = false := by decide) (hcd : (x == ("__classdict__" : Str)) = false := by decide) (he : starEach (e :: es) X.env = (false, eval e X.env) :: starEach es X.env := by rfl) (hpl : (backTo pos (starEach es X.env)).any (·.1) = false := by rfl) :
    PE X (.Call (.Name x p) (e :: es) [] pos) (tMakeV i C sp dvs E t) := by
  refine ⟨fun pins s σ H Q I h => ?_⟩
  obtain ⟨hs, h⟩ := h
  refine wpAny_Call_Name_kw (thn ((pe_var (pos := p) (i := i) hN hv hdb hcd).run pins s σ H (fun v H1 => v = .ref C ∧ H1 = H) I ⟨.ref C, hs, rfl, rfl⟩) fun u s1 ⟨v, H1, I1, r1, q1⟩ => ?_)
  obtain ⟨rfl, rfl⟩ := q1
  obtain rfl : u = Value.ref C := r1
  refine PySem.W.callWith_K (h₀ := X.base) I.ok.mod.kin M.kp (thn (ha.run pos pins s1 σ _ _ I1 h) fun us s2 ⟨vs, H2, I2, r, q⟩ => ⟨I2.kIn, ?_⟩) he hpl
  exact run_make M F hr hb hd hx I2 r q
end L2
namespace Toy
open PySem L2 LamX ClX
/-! what follows of the arguments of a Rule, as in the proof of the law of wrong parts -/
/-! arguments that stay while the addresses in A change -/
/-! Rule(..) with such arguments -/
/-! doubled weights -/
abbrev s_doubled_weights : Stmt := top 17
def posI (w : Int) : List Int → Nat
  | [] => 0
  | x :: r => if x = w then 0 else posI w r + 1
def dbl : Nat → Int → List Int → Int → List Int × List Int
  | 0, _, ws, _ => (ws, [])
  | n + 1, m, ws, w => if w ∈ ws then (ws.take (posI w ws), ws.drop (posI w ws)) else dbl n m (ws ++ [w]) (2 * w % m)
def doubled (first m : Int) : List Int × List Int := dbl 33 m [] (first % m)
theorem posI_at {w : Int} : ∀ {ws : List Int}, w ∈ ws → ws[posI w ws]? = some w ∧ ∀ m < posI w ws, ∀ z, ws[m]? = some z → z ≠ w
  | [], h => nomatch h
  | x :: r, h => by
    unfold posI
    by_cases c : x = w
    · rw [if_pos c]
      exact ⟨by rw [c]; rfl, fun m hm => absurd hm (Nat.not_lt_zero m)⟩
    · rw [if_neg c]
      have hr : w ∈ r := (List.mem_cons.mp h).elim (fun z => absurd z.symm c) id
      obtain ⟨h1, h2⟩ := posI_at hr
      refine ⟨h1, fun m hm z hz => ?_⟩
      cases m with
      | zero => exact fun e => c (by rw [← e]; exact (Option.some.inj hz))
      | succ m => exact h2 m (by omega) z hz
theorem posI_le {w : Int} : ∀ ws : List Int, posI w ws ≤ ws.length
  | [] => Nat.le_refl _
  | x :: r => by
    unfold posI
    have := posI_le (w := w) r
    split
    · exact Nat.zero_le _
    · show _ ≤ r.length + 1
      omega
def dblOk (m : Int) (r : List Int × List Int) : Bool := decide (r.2 ≠ []) && (decide (r.1.length + r.2.length ≤ 33) && (r.1.all fun z => decide (0 ≤ z ∧ z ≤ m - 1)) && (r.2.all fun z => decide (0 ≤ z ∧ z ≤ m - 1)))
theorem dbl_all : ∀ m : Nat, m < 33 → ∀ w : Nat, w < m → dblOk (m : Int) (dbl 33 (m : Int) [] (w : Int)) = true := by decide +kernel
theorem doubled_ok {f m : Int} (h2 : 2 ≤ m) (h32 : m ≤ 32) : (doubled f m).2 ≠ [] ∧ (doubled f m).1.length + (doubled f m).2.length ≤ 33 ∧ (∀ z ∈ (doubled f m).1, 0 ≤ z ∧ z ≤ m - 1) ∧ ∀ z ∈ (doubled f m).2, 0 ≤ z ∧ z ≤ m - 1 := by
  obtain ⟨n, rfl⟩ : ∃ n : Nat, m = (n : Int) := ⟨m.toNat, by omega⟩
  have h0 := Int.emod_nonneg f (show (n : Int) ≠ 0 by omega)
  have h1 := Int.emod_lt_of_pos f (show (0 : Int) < n by omega)
  obtain ⟨w, hw⟩ : ∃ w : Nat, f % (n : Int) = (w : Int) := ⟨(f % (n : Int)).toNat, by omega⟩
  have q := dbl_all n (by omega) w (by omega)
  unfold doubled
  rw [hw]
  unfold dblOk at q
  simp only [Bool.and_eq_true, decide_eq_true_eq, List.all_eq_true] at q
  exact ⟨q.1, q.2.1.1, q.2.1.2, q.2.2⟩
theorem inV_ints (w : Int) (ws : List Int) : inV (.int w) (ws.map V.int) = decide (w ∈ ws) := by
  unfold inV
  rw [List.any_map]
  induction ws with
  | nil => rfl
  | cons x r ih =>
    rw [List.any_cons, ih]
    show ((x == w) || decide (w ∈ r)) = decide (w ∈ x :: r)
    by_cases c : x = w
    · simp [c]
    · have c2 : ¬ w = x := fun e => c e.symm
      simp [c, c2]
theorem flat_ints (ws : List Int) : (ws.map V.int).all flatV = true := by
  rw [List.all_map]
  exact List.all_eq_true.mpr fun _ _ => rfl
def lenD (σ : L2.St) (G : Hp) : Nat := match σ with
  | _ :: _ :: some (.ref a) :: _ => (match G a with
    | some (.lst xs) => 33 - xs.length
    | _ => 0)
  | _ => 0
theorem lenD_of {σ : L2.St} {u w : Option V} {G : Hp} {a : Addr} {xs : List V} (h : G a = some (.lst xs)) : lenD (u :: w :: some (.ref a) :: σ) G = 33 - xs.length := by
  simp [lenD, h]
def spDoubled : Sp := fun vs H Q _ => ∃ (f m : Int), vs = [.int f, .int m] ∧ 2 ≤ m ∧ m ≤ 32 ∧
  ∀ (H' : Hp) (q a t : Addr), Same H H' → H' q = some (.tup [.ref a, .ref t]) → H' a = some (.lst ((doubled f m).1.map V.int)) → H' t = some (.lst ((doubled f m).2.map V.int)) → Q (.ref q) H'
section
variable {P : Program} {w : World} {K : PySem.W.Frag} {mg : Str → Option Value} {base : Heap} {CR CN CT uR uN uT : Addr} {fdR fdN fdT : FuncData} {C pc pb gc gb : Addr}
abbrev N_doubled_weights : List Str := ["first", "banks", "weights", "weight", "begin"]
theorem sc_doubled_weights : FnScope N_doubled_weights ["first", "banks"] (defScope s_doubled_weights) := ⟨rfl, rfl, rfl, by decide +kernel, rfl, by decide +kernel, by decide +kernel⟩
theorem ok_doubled_weights {f : Addr} {fd : FuncData} (F : Fun K "doubled_weights" "doubled_weights" s_doubled_weights f fd) : FnOk P w K mg base CX0 1 f fd ["first", "banks"] spDoubled := by
  refine F.ok sc_doubled_weights (fun vs H Q E h => ?_) (fun cdv A outer s H vs Q E hr h => ?_)
  · obtain ⟨f, m, rfl, _⟩ := h
    rfl
  · obtain ⟨f, m, rfl, h2, h32, k⟩ := h
    obtain ⟨ok1, ok2, ok3, ok4⟩ := doubled_ok (f := f) h2 h32
    refine ⟨_, (pss_cons (ps_set (i := 2) sc_doubled_weights.nd rfl (Or.inl rfl) (pe_lst pa_nil))
 (pss_cons (ps_set (i := 3) sc_doubled_weights.nd rfl (Or.inl rfl) (pe_op op_mod (pv 0) (pv 1)))
 (pss_cons (ps_while PassesOwn.never (pt_cmpR op_notIn_seq (pv 3) (pv 2) (by rfl))
 (pss_cons (ps_expr (pe_bm PySem.F.plainAttrs_list PySem.F.slot_list_append PySem.F.type_list_append mt_append (pv 2) (pa_cons (pv 3) pa_nil)))
 (pss_one (ps_set (i := 3) sc_doubled_weights.nd rfl (Or.inl rfl) (pe_op op_mod (pe_op op_mul pe_int (pv 3)) (pv 1))))))
 (pss_cons (ps_set (i := 4) sc_doubled_weights.nd rfl (Or.inl rfl) (pe_bm PySem.F.plainAttrs_list PySem.F.slot_list_index PySem.F.type_list_index mt_index (pv 2) (pa_cons (pv 3) pa_nil)))
 (pss_one (ps_ret (pe_tup (pa_cons (pe_slice sl_list (pv 2) po_none (po_some (pv 4))) (pa_cons (pe_slice sl_list (pv 2) (po_some (pv 4)) po_none) pa_nil))))))))), ?_⟩
    refine ⟨(by show 0 ≤ PySem.sizeLine; decide), fun D hD => ⟨_, rfl, _, rfl, _, _, rfl, rfl, (by show (0 : Int) < m; omega), ?_⟩⟩
    refine while_by (fun σ G => ∃ (ws : List Int) (w : Int) (n : Nat), σ = [some (.int f), some (.int m), some (.ref D), some (.int w), none] ∧ Same H G ∧ G D = some (.lst (ws.map V.int)) ∧ dbl n m ws w = doubled f m ∧ n + ws.length = 33) lenD ?_ ?_ ?_
    · exact ⟨[], _, 33, rfl, Same.lay hD, upd_same, rfl, rfl⟩
    · rintro σ G ⟨ws, w, n, rfl, sG, hG, e, hn⟩
      refine ⟨_, rfl, _, rfl, D, _, rfl, .inl (SqL.of hG), rfl, flat_ints ws, _, rfl, ?_⟩
      rw [if_pos rfl, inV_ints]
      by_cases c : w ∈ ws
      · rw [decide_eq_true c]
        refine iteF ?_
        obtain ⟨p1, p2⟩ := posI_at c
        have hl := posI_le (w := w) ws
        have lm : posI w ws ≤ (ws.map V.int).length := by rw [List.length_map]; exact hl
        have e2 : doubled f m = (ws.take (posI w ws), ws.drop (posI w ws)) := by
          rw [← e]
          cases n with
          | zero =>
            exfalso
            exact ok1 (by rw [← e]; rfl)
          | succ n =>
            unfold dbl
            rw [if_pos c]
        refine ⟨_, rfl, .inl ⟨rfl, _, SqL.of hG⟩, _, rfl, D, _, _, posI w ws, .int w, rfl, rfl, SqL.of hG, rfl, flat_ints ws, (by rw [List.getElem?_map, p1]; rfl), (by show (w == w) = true; simp), (fun i z hi hz => ?_), ?_⟩
        · rw [List.getElem?_map] at hz
          cases e3 : ws[i]? with
          | none =>
            rw [e3] at hz
            cases hz
          | some y =>
            rw [e3] at hz
            obtain rfl := Option.some.inj hz
            show (y == w) = false
            have := p2 i hi y e3
            simpa using this
        · refine ⟨_, rfl, _, rfl, _, rfl, D, _, rfl, SqL.of hG, fun a ha => ?_⟩
          have s1 := Same.lay (o := .lst (cutV (ws.map V.int) none (some (posI w ws : Int)))) ha
          refine ⟨_, rfl, _, rfl, _, rfl, D, _, rfl, SqL.of (s1 _ _ hG), fun t ht => ⟨(by show 2 ≤ PySem.sizeLine; decide), fun q hq => ?_⟩⟩
          have s2 := Same.lay (o := .lst (cutV (ws.map V.int) (some (posI w ws : Int)) none)) ht
          have s3 := Same.lay (o := .tup [V.ref a, V.ref t]) hq
          refine k _ q a t (fun _ _ z => s3 _ _ (s2 _ _ (s1 _ _ (sG _ _ z)))) upd_same ?_ ?_
          · refine s3 _ _ (s2 _ _ ?_)
            rw [upd_same, cut_take lm, e2, List.map_take]
          · refine s3 _ _ ?_
            rw [upd_same, cut_from lm, e2, List.map_drop]
      · rw [decide_eq_false c]
        refine iteT ?_
        obtain ⟨n, rfl⟩ : ∃ n', n = n' + 1 := by
          cases n with
          | zero =>
            exfalso
            exact ok1 (by rw [← e]; rfl)
          | succ n => exact ⟨n, rfl⟩
        have e2 : dbl n m (ws ++ [w]) (2 * w % m) = doubled f m := by
          rw [← e]
          show _ = if w ∈ ws then _ else _
          rw [if_neg c]
        refine ⟨_, rfl, .inl ⟨rfl, _, SqL.of hG⟩, _, rfl, D, _, _, rfl, rfl, hG, small1000 (by rw [List.length_map]; omega), ?_⟩
        refine ⟨_, rfl, _, _, rfl, rfl, .inl ⟨by decide, by decide⟩, _, rfl, _, _, rfl, rfl, (by show (0 : Int) < m; omega), ?_⟩
        have hm : (ws.map V.int ++ [V.int w]) = (ws ++ [w]).map V.int := by rw [List.map_append]; rfl
        refine ⟨⟨ws ++ [w], _, n, rfl, fun b o z => ?_, (by rw [upd_same, hm]), e2, by rw [List.length_append]; show n + (ws.length + 1) = 33; omega⟩, ?_⟩
        · rw [upd_ne (ne_of_none z hD)]
          exact sG _ _ z
        · show lenD (_ :: _ :: some (.ref D) :: _) _ < lenD (_ :: _ :: some (.ref D) :: _) _
          rw [lenD_of hG, lenD_of (a := D) upd_same, List.length_append, List.length_map]
          show 33 - (ws.length + 1) < 33 - ws.length
          omega
    · rintro σ G Q1 Q2 i ⟨v, e1, hh⟩
      obtain ⟨v2, e2, a, xs, q1, q2, q3, q4, b, q5, q6⟩ := hh
      exact ⟨v, e1, v2, e2, a, xs, q1, q2, q3, q4, b, q5, i _ _ q6⟩
end
end Toy
set_option maxRecDepth 100000
namespace L2
open PySem PySem.Spec PyProof.Rows
/-! operators of an own class: a op b, -a; math.lcm -/
section
variable {X : Cx} {pins : List (Addr × Obj)} {σ : St} {H : Hp} {s : Shared}
theorem plain_looks {y : V} {u : Value} {S : String} (I : Inv X pins σ H s) (ry : RelV y u) (h : Plain X.K H y S) (M : Model) : PySem.W.Looks M s.heap (typeOf u) (.type S) := by
  have at_ : ∀ {a : Addr} {o : Obj} {T : String}, s.heap.get? a = some o → o.cls = .type T → PySem.W.Looks M s.heap (typeOf (.ref a)) (.type T) := fun e c => by
    rw [← c]
    exact (PySem.W.Looks.ld e).andThen .now
  cases h with
  | non => cases (show u = Value.none from ry); exact .of_pure rfl
  | bl b => cases (show u = Value.bool b from ry); exact .of_pure rfl
  | int i => obtain ⟨t, rfl⟩ := (show ∃ t, u = Value.int i t from ry); exact .of_pure rfl
  | str z => obtain ⟨t, rfl⟩ := (show ∃ t, u = Value.str z t from ry); exact .of_pure rfl
  | @lst a xs e =>
    cases (show u = Value.ref a from ry)
    obtain ⟨_, _, n, _, h1⟩ := (show ObjOk X.prog X.w H s.heap a (.lst xs) from I.hok a _ e)
    exact at_ h1 rfl
  | @tup a xs e =>
    cases (show u = Value.ref a from ry)
    obtain ⟨_, _, _, o, h1, h2, _⟩ := (show ObjOk X.prog X.w H s.heap a (.tup xs) from I.hok a _ e)
    exact at_ h1 h2
  | @dK a kvs e =>
    cases (show u = Value.ref a from ry)
    obtain ⟨_, _, _, _, o, _, _, h1, h2, _⟩ := (show ObjOk X.prog X.w H s.heap a (.dK kvs) from I.hok a _ e)
    exact at_ h1 h2.1
theorem plain_name {K : PySem.W.Frag} {y : V} {S : String} (h : Plain K H y S) : S ∈ ["NoneType", "bool", "int", "str", "list", "tuple", "dict"] := by cases h <;> decide
end
abbrev plainTys : List String := ["NoneType", "bool", "int", "str", "list", "tuple", "dict"]
theorem mro_none : fastBuiltinMro "NoneType" = some [.type "NoneType", .type "object"] := by decide +kernel
theorem mro_bool : fastBuiltinMro "bool" = some [.type "bool", .type "int", .type "object"] := by decide +kernel
theorem mro_int : fastBuiltinMro "int" = some [.type "int", .type "object"] := by decide +kernel
theorem mro_str : fastBuiltinMro "str" = some [.type "str", .type "object"] := by decide +kernel
theorem mro_list : fastBuiltinMro "list" = some [.type "list", .type "object"] := by decide +kernel
theorem mro_tuple : fastBuiltinMro "tuple" = some [.type "tuple", .type "object"] := by decide +kernel
theorem mro_dict : fastBuiltinMro "dict" = some [.type "dict", .type "object"] := by decide +kernel
theorem sub_no (K : PySem.W.Frag) (C : Addr) : ∀ S ∈ plainTys, PySem.W.subIn K (.type S) (.ref C) = some false := by
  intro S hS
  simp only [List.mem_cons, List.not_mem_nil, or_false] at hS
  rcases hS with rfl | rfl | rfl | rfl | rfl | rfl | rfl <;> simp [PySem.W.subIn, mro_none, mro_bool, mro_int, mro_str, mro_list, mro_tuple, mro_dict]
def opTys (nm : String) : Bool := plainTys.all fun S => (fastLookup S (PySem.dunder nm)).isSome && (fastLookup S (dunderR nm)).isSome
theorem op_tys (K : PySem.W.Frag) (C : Addr) {nm : String} (h : opTys nm = true) : ∀ S ∈ plainTys, (PySem.W.findIn K (.type S) (PySem.dunder nm)).isSome = true ∧ (PySem.W.findIn K (.type S) (dunderR nm)).isSome = true ∧ PySem.W.subIn K (.type S) (.ref C) = some false := fun S hS => by
  have := List.all_eq_true.mp h S hS
  obtain ⟨h1, h2⟩ := Bool.and_eq_true_iff.mp this
  exact ⟨h1, h2, sub_no K C S hS⟩
theorem ot_add : opTys "add" = true := by decide +kernel
theorem ot_mul : opTys "mul" = true := by decide +kernel
theorem ot_lshift : opTys "lshift" = true := by decide +kernel
theorem ot_or : opTys "or" = true := by decide +kernel
theorem ot_and : opTys "and" = true := by decide +kernel
theorem ot_xor : opTys "xor" = true := by decide +kernel
theorem ot_sub : opTys "sub" = true := by decide +kernel
/-- the class has this operator of its own, and none the other way about -/
structure OwnOp (K : PySem.W.Frag) (C f : Addr) (nm : String) : Prop where
  at_ : PySem.W.findIn K (.ref C) (PySem.dunder nm) = some (some (.ref f))
  fn : PySem.W.isFn K (.ref f) = true
  first : PySem.W.selfFirst K C = true
  back : PySem.W.findIn K (.ref C) (dunderR nm) = some none
def ownOpB (K : PySem.W.Frag) (C : Addr) (nm m : Str) (r : Str) : Bool := He.eqO (PySem.W.findIn K (.ref C) m) (some (some (.ref (He.ma K C m)))) && (PySem.W.isFn K (.ref (He.ma K C m)) && (PySem.W.selfFirst K C && He.eqO (PySem.W.findIn K (.ref C) r) (some none)))
theorem ownOp_of {K : PySem.W.Frag} {C : Addr} {nm : String} {z m r : Str} (em : PySem.dunder nm = m) (er : dunderR nm = r) (h : ownOpB K C z m r = true) : OwnOp K C (He.ma K C m) nm := by
  obtain ⟨h1, h⟩ := He.ba h
  obtain ⟨h2, h⟩ := He.ba h
  obtain ⟨h3, h4⟩ := He.ba h
  exact ⟨by rw [em]; exact He.eqO_ok h1, h2, h3, by rw [er]; exact He.eqO_ok h4⟩
/-- the other thing: an instance of C too, or a plain value -/
def Oth (K : PySem.W.Frag) (C : Addr) (H : Hp) (y : V) : Prop := (∃ b dx fs, y = .ref b ∧ H b = some (.ins C dx fs)) ∨ ∃ S, Plain K H y S
def rOwnOp (K : PySem.W.Frag) (C : Addr) (sp : Sp) (E : XK) : R2 := fun x y H Q => ∃ (a dx : Addr) (fs : List (Str × V)), x = .ref a ∧ H a = some (.ins C dx fs) ∧ Oth K C H y ∧ sp [x, y] H Q E
def rOwnUn (C : Addr) (sp : Sp) (E : XK) : V → Hp → VK → Prop := fun x H Q => ∃ (a dx : Addr) (fs : List (Str × V)), x = .ref a ∧ H a = some (.ins C dx fs) ∧ sp [x] H Q E
section
variable {X : Cx} {CX : CXT} {n : Nat} {C f : Addr} {sp : Sp} {E : XK}
theorem no_ni {pins : List (Addr × Obj)} {σ : St} {Q : VK} {v : Value} {s : Shared} (h : EP X pins σ Q v s) : PySem.W.CmpBack (EP X pins σ Q) v s := by
  obtain ⟨x, H', I', r, q⟩ := id h
  cases x <;> first
    | (obtain ⟨t, rfl⟩ := (show ∃ t, v = _ from r); exact h)
    | (cases (show v = _ from r); exact h)
theorem own_bin {prog : Program} {w : World} {A : Around} {Er : Value → Shared → Prop} {s : Shared} {K : PySem.W.Frag} {x C f : Addr} {ox : Obj} {od : Option Obj} {op : Operator} {b : Value} {T : String} {fo ro : Option Value} {Q : Value → Shared → Prop}
    (Y : K.In s.heap) (J : PySem.W.InstAt s.heap x ox C od) (o : OwnOp K C f op.info.2) (hb : PySem.W.Looks (model prog w) s.heap (typeOf b) (.type T))
    (h1 : PySem.W.findIn K (.type T) (PySem.dunder op.info.2) = some fo) (h2 : PySem.W.findIn K (.type T) (dunderR op.info.2) = some ro) (hsub : PySem.W.subIn K (.type T) (.ref C) = some false)
    (h : wpAny (model prog w) A (call (.ref f) [.ref x, b]) (PySem.W.CmpBack Q) Er s) : wpAny (model prog w) A (binaryOp op (.ref x) b) Q Er s := by
  obtain ⟨cd, rest, hcd, hm⟩ := PySem.W.ksp_first o.first
  obtain ⟨o1, o2, _, o4⟩ := o
  rcases hi : op.info with ⟨sy, nm⟩
  simp only [hi] at o1 o4 h1 h2
  have one := PySem.W.ksp_try Y J o1 o2 h
  obtain ⟨hh, g, d, tt, os⟩ := s
  have k1 : PySem.W.Looks (model prog w) hh (typeOf (.ref x)) (.ref C) := J.type
  have k3 := PySem.W.fills_K (M := model prog w) Y hcd hm o1
  have k4 := PySem.W.ksp_fillsT (M := model prog w) Y h1 h2
  have k5 : PySem.W.Looks (model prog w) hh (isSubtype (.type T) (.ref C)) false := PySem.W.looks_subIn Y hsub
  have k6 := PySem.W.ksp_inPy (M := model prog w) Y o1 o4 (.inl rfl)
  have k7 : PySem.W.Looks (model prog w) hh (numberSlotInPython (.type T) nm) false := .of_pure rfl
  have k8 : PySem.W.Looks (model prog w) hh (typeLookup (.type T) (dunderR nm)) ro := PySem.W.looks_findIn Y h2
  have ne : (Value.ref C == Value.type T) = false := Bool.eq_false_iff.mpr fun q => nomatch beq_iff_eq.mp q
  generalize ((fo.isSome && !isSeqSlot fo) || (ro.isSome && !isSeqSlot ro)) = rt at k4
  simp only [binaryOp, hi]
  refine wpAny_holding (wpAny_bind ?_)
  unfold binaryOp1
  refine wpAny_bind (k1.at (wpAny_bind (hb.at (wpAny_bind (k3.at ?_)))))
  simp only [ne, Bool.false_eq_true, if_false]
  cases rt <;>
  · ksp_lk
    refine wpAny_mono one (fun r s' z => ?_) fun _ _ e => e
    obtain ⟨v, rfl, hq⟩ := z
    ksp_lk
    exact hq
theorem op_own {op : Operator} (F : FnR X.prog X.w X.K X.mg X.base CX n f sp) (o : OwnOp X.K C f op.info.2) (hT : opTys op.info.2 = true)
    (hr : Room n X.A) (hx : Passes CX X E) : OpR X (binaryOp op) (rOwnOp X.K C sp E) := by
  intro pins s σ H x y v u Q I rx ry hq
  obtain ⟨a, dx, fs, rfl, ha, hy, hsp⟩ := hq
  cases rx
  obtain ⟨mA, J, _⟩ := ins_get I.hok ha
  obtain ⟨od, J, _⟩ := J.look
  obtain ⟨m, hF⟩ := I.fr
  have run := wpAny_call (run_fnR (us := [.ref a, u]) (vs := [.ref a, y]) F hr hx I (.cons rfl (.cons ry .nil)) hsp)
  have back : wpAny (model X.prog X.w) X.A (call (.ref f) [.ref a, u]) (PySem.W.CmpBack (EP X pins σ Q)) X.xe s := wpAny_mono run (fun _ _ z => no_ni z) fun _ _ z => z
  rcases hy with ⟨b, dx2, fs2, rfl, hb⟩ | ⟨S, hp⟩
  · cases ry
    obtain ⟨mB, JB, _⟩ := ins_get I.hok hb
    obtain ⟨ob, JB, _⟩ := JB.look
    exact PySem.W.binop_K hF I.ok.mod.kin J JB.type o.first o.at_ o.fn back
  · obtain ⟨h1, h2, h3⟩ := op_tys X.K C hT S (plain_name hp)
    obtain ⟨fo, e1⟩ := Option.isSome_iff_exists.mp h1
    obtain ⟨ro, e2⟩ := Option.isSome_iff_exists.mp h2
    exact own_bin I.kIn J o (plain_looks I ry hp _) e1 e2 h3 back
theorem un_own (F : FnR X.prog X.w X.K X.mg X.base CX n f sp) (h1 : PySem.W.findIn X.K (.ref C) "__neg__" = some (some (.ref f))) (h2 : PySem.W.isFn X.K (.ref f) = true) (hr : Room n X.A) (hx : Passes CX X E) : UnR X (unaryOp .USub) (rOwnUn C sp E) := by
  intro pins s σ H x v Q I rx hq
  obtain ⟨a, dx, fs, rfl, ha, hsp⟩ := hq
  cases rx
  obtain ⟨mA, J, _⟩ := ins_get I.hok ha
  obtain ⟨od, J, _⟩ := J.look
  obtain ⟨m, hF⟩ := I.fr
  exact PySem.W.ksp_neg hF I.ok.mod.kin J h1 h2 (wpAny_call (run_fnR (us := [.ref a]) (vs := [.ref a]) F hr hx I (.cons rfl .nil) hsp))
end
def rLcm : List V → Hp → VK → Prop := fun vs H Q => ∃ a b : Nat, vs = [.int (a : Int), .int (b : Int)] ∧ a < 2 ^ 64 ∧ b < 2 ^ 64 ∧ Q (.int ((Nat.lcm a b : Nat) : Int)) H
theorem cr_lcm {X : Cx} : CallR X (.builtin "math.lcm") rLcm := by
  intro pins s σ H vs us Q I r h
  obtain ⟨a, b, rfl, ha, hb, q⟩ := h
  obtain ⟨t, u, rfl⟩ := Vals.int2 r
  refine PySem.W.mc_lcm (by rw [Int.natAbs_natCast]; exact ha) (by rw [Int.natAbs_natCast]; exact hb) fun _ => ?_
  rw [Int.natAbs_natCast, Int.natAbs_natCast]
  exact ⟨.int _, H, I.tok _, ⟨_, rfl⟩, q⟩
/-! a range as a value, walked by its name -/
theorem cr_range1 {X : Cx} : CallR X (.type "range") (fun vs H Q => ∃ j, vs = [V.int j] ∧ ∀ p, H p = none → Q (.ref p) (upd H p (.rng 0 j))) := by
  intro pins s σ H vs us Q I r h
  obtain ⟨j, rfl, q⟩ := h
  cases r with
  | cons r rr =>
    cases rr
    obtain ⟨t, rfl⟩ := r
    refine call_range_1 ⟨.ref s.heap.objs.size, upd H s.heap.objs.size (.rng 0 j), I.laid (t' := _) (fun b o e => Heap.get?_push_of_some _ e) (Nat.le_refl _) ?_, rfl, q _ (I.hok.fresh (Nat.le_refl _))⟩
    exact ⟨_, _, _, Heap.get?_push_size _ rfl⟩
def iRngV (te : TE) : TI := fun σ H R => te σ H fun y H1 => ∃ (a : Addr) (lo hi : Int), y = .ref a ∧ H1 a = some (.rng lo hi) ∧ (-(2 ^ 62) ≤ lo ∧ lo < 2 ^ 62 ∧ -(2 ^ 62) ≤ hi ∧ hi < 2 ^ 62) ∧ R (Itr lo (hi - lo).toNat) H1
theorem pi_rng {X : Cx} {tg e : Expr} {te : TE} (he : PE X e te) : PI X tg e (iRngV te) := by
  refine ⟨fun pins s σ H R I h => thn (he.run pins s σ H _ I h) fun w s1 ⟨y, H1, I1, r1, a, lo, hi, ey, ea, ⟨b1, b2, b3, b4⟩, q⟩ => ?_⟩
  subst ey
  obtain rfl : w = Value.ref a := r1
  obtain ⟨t, u, v, ho⟩ := (show ObjOk X.prog X.w H1 s1.heap a (.rng lo hi) from I1.hok a _ ea)
  refine wpAny_pyIter_range (show IsRange s1.heap a lo hi 1 t u v from ho) (small_one b1 b2 b3 b4) ?_
  refine ⟨s1.heap.objs.size, [s1.heap.objs.size], _, _, H1, rfl, I1.kept (t' := s1.toks) fun b o e => Heap.get?_push_of_some _ e, turn_range _ lo (hi - lo).toNat, ?_, fun b hb => ?_, q⟩
  · have e1 : lo + ((0 : Nat) : Int) * 1 = lo := by simp
    have e2 : (((hi - lo).toNat : Nat) : Int) - ((0 : Nat) : Int) = Builtin.Range.rangeSize lo hi 1 := by
      rw [rangeSize_one]
      split <;> omega
    show IsRangeIter _ _ (lo + ((0 : Nat) : Int) * 1) ((((hi - lo).toNat : Nat) : Int) - ((0 : Nat) : Int)) 1
    rw [e1, e2]
    exact Heap.get?_push_size _ rfl
  · obtain rfl : b = s1.heap.objs.size := by simpa using hb
    exact I1.fpOk (Nat.le_refl _) (I1.hok.fresh (Nat.le_refl _))
end L2
set_option maxRecDepth 100000
set_option maxHeartbeats 4000000
namespace L2
open PySem PySem.Spec PyProof.Rows
/-! a tuple taken no times -/
theorem tuple_mul_none (l : Addr) (its : Array Value) (n : Nat) (dd : Option Addr) (sl : Array (Option Value)) (u : Tok) (ne : its.isEmpty = false) :
    Meets (Builtin.«tuple.__mul__» ⟨[.ref l, .int 0 u], []⟩) (fun _ R s => s.heap.get? l = some { cls := .type "tuple", dict := dd, data := .seq its n, slots := sl } ∧
      R (.ok (.ret (Value.ref s.heap.objs.size))) { s with heap := s.heap.push { cls := Value.type "tuple", data := Data.seq #[] }, toks := s.toks }) :=
  .of_wp fun prog w A R s h => by
    obtain ⟨hp, g, d, tk, os⟩ := s
    obtain ⟨hl, h⟩ := h
    have f1 := AutoSeq1.idx_int
    have c0 : (decide ((0 : Int) < -(2 ^ 63)) || decide ((0 : Int) ≥ 2 ^ 63)) = false := by decide
    have c1 : (its.isEmpty || (0 : Int) == 1) = false := by rw [ne]; rfl
    have c2 : (decide ((0 : Int) ≤ 0) || its.isEmpty) = true := by simp
    wp_walk using wpAny_loadPart' hl
    repeat (first
      | (refine wpAny_ite_false (decide_eq_false (by rw [c0]; exact Bool.false_ne_true)) ?_; wp_walk using wpAny_loadPart' hl)
      | (refine wpAny_ite_false (decide_eq_false (by rw [c1]; exact Bool.false_ne_true)) ?_; wp_walk using wpAny_loadPart' hl)
      | (refine wpAny_ite_true (decide_eq_true c2) ?_; wp_walk using wpAny_loadPart' hl))
    exact ⟨_, rfl, h⟩
def rRep0 (K : PySem.W.Frag) : R2 := fun x y H Q => ∃ l xs, x = .ref l ∧ y = .int 0 ∧ SqT K H l xs ∧ xs ≠ [] ∧ ∀ p, H p = none → Q (.ref p) (upd H p (.tup []))
theorem op_rep0 {X : Cx} : OpR X (binaryOp .Mult) (rRep0 X.K) := by
  intro pins s σ H x y v u Q I rx ry h
  obtain ⟨l, xs, rfl, rfl, hT, ne, q⟩ := h
  cases rx
  obtain ⟨t, rfl⟩ := ry
  obtain ⟨its, r, ⟨⟨cls, dd, data, sl⟩, ho, hc, n, hd⟩, hs⟩ := I.tuple hT
  simp only at hc hd
  subst hc hd
  have hi : its.toArray.isEmpty = false := by
    cases r with
    | nil => exact absurd rfl ne
    | cons a b => rfl
  exact wpAny_binaryOp_repeat_ref (T := "tuple") (U := "int") (by decide) ⟨_, ho, rfl⟩ (fun s' => typeIs_int s' 0 t) noFill_tuple_mul F.fills_int_mul F.slot_int_rmul repeat_tuple F.slot_int_index.lookup
    (call_meets F.slot_int_rmul (typeIs_int s 0 t) F.entry_int_rmul (F.args_int_rmul_2 _ _) (int_rmul_tuple 0 t l its.toArray n dd sl)
      ⟨ho, rfl, ⟨_, ho, rfl⟩, call_meets F.slot_tuple_mul ⟨_, ho, rfl⟩ F.entry_tuple_mul (F.args_tuple_mul_2 _ _) (tuple_mul_none l its.toArray n dd sl t hi)
        ⟨ho, .ref s.heap.objs.size, _, I.laid (t' := s.toks) (o := .tup []) (fun b ob q => Heap.get?_push_of_some _ q) (Nat.le_refl _) (show ObjOk X.prog X.w _ _ _ (.tup []) from ⟨Nat.zero_le _, [], .nil, IsTup.new _ _⟩), rfl, q _ (I.hok.fresh (Nat.le_refl _))⟩⟩)
/-- t * k, also for no times -/
def rRepZ : R2 := fun x y H Q => ∃ (a : Addr) (k : Nat) (xs : List V), x = .ref a ∧ y = .int (k : Int) ∧ H a = some (.tup xs) ∧ xs ≠ [] ∧ k ≤ 1000 ∧ xs.length ≤ 1000 ∧ ∀ p H', Same H H' → H' p = some (.tup (List.replicate k xs).flatten) → Q (.ref p) H'
theorem op_repZ {X : Cx} : OpR X (binaryOp .Mult) rRepZ := by
  intro pins s σ H x y v u Q I rx ry h
  obtain ⟨a, k, xs, rfl, rfl, h, ne, h1, h2, q⟩ := h
  by_cases hk : k = 0
  · subst hk
    exact op_rep0 pins s σ H _ _ v u Q I rx ry ⟨a, xs, rfl, rfl, SqT.of h, ne, fun p hp => q p _ (Same.lay hp) upd_same⟩
  · exact op_repP pins s σ H _ _ v u Q I rx ry ⟨a, (k : Int), xs, rfl, rfl, h, ne, by omega, by omega, h2, fun p H' s' e => q p H' s' (by rw [show ((k : Int)).toNat = k from Int.toNat_natCast k] at e; exact e)⟩
end L2
set_option maxRecDepth 100000
namespace L2
open PySem PySem.Spec PyProof.Rows
/-- e.f, its reading by name of the written part (for a comprehension's block) -/
theorem pe_fldK {X : Cx} {K : PySem.W.Frag} {e : Expr} {f : Str} {pos : Pos} {ta : TE} (he : PE X e ta) (hK : X.K = K := by rfl) (hb : attributeBase e f X.env (eval e X.env) = eval e X.env := by rfl) : PE X (.Attribute e f pos) (tFld K ta f) := by
  subst hK
  exact pe_fld he hb
end L2
set_option maxRecDepth 100000
namespace Toy
open PySem L2 LamX Dg
/-! the methods of a rule that make rules -/
abbrev s_Rule_eq : Stmt := (inClass (top 36) 6)
def classI (as ts : List Int) (i : Int) : Int := if i < as.length then i else as.length + (i - as.length) % ts.length
theorem lw_at {as ts : List Int} (i : Nat) (ne : ts ≠ []) : (as ++ ts)[(classI as ts (i : Int)).toNat]? = some (wAt as ts i) := by
  have tp : 0 < ts.length := List.length_pos_iff.mpr ne
  unfold classI wAt
  by_cases c : i < as.length
  · rw [if_pos (by omega), if_pos c, show ((i : Int)).toNat = i by omega, List.getElem?_append_left c, List.getElem?_eq_getElem c, getD_of (List.getElem?_eq_getElem c)]
  · rw [if_neg (by omega), if_neg c]
    have e : ((as.length : Int) + ((i : Int) - as.length) % ts.length).toNat = as.length + (i - as.length) % ts.length := by
      have e1 : ((i : Int) - as.length) = ((i - as.length : Nat) : Int) := by omega
      rw [e1, ← Int.natCast_emod]
      omega
    have l := Nat.mod_lt (i - as.length) tp
    rw [e, List.getElem?_append_right (by omega), show as.length + (i - as.length) % ts.length - as.length = (i - as.length) % ts.length by omega, List.getElem?_eq_getElem l]
    unfold pAt
    rw [getD_of (List.getElem?_eq_getElem l)]
def spClassOf (CN C : Addr) (K : PySem.W.Frag) : Sp := fun vs H Q E => ∃ (p : Addr) (x : V) (S : String) (ms : List V) (as ts : List Int), vs = [.ref p, x] ∧ RuleAt C H p ms as ts ∧ ts ≠ [] ∧ Plain K H x S ∧
  (numV x = false → badNum CN H x E) ∧ (∀ i, x = .int i → 0 ≤ i → Q (.int (classI as ts i)) H)
def spWeight (CN C : Addr) (K : PySem.W.Frag) : Sp := fun vs H Q E => ∃ (p : Addr) (x : V) (S : String) (ms : List V) (as ts : List Int), vs = [.ref p, x] ∧ RuleAt C H p ms as ts ∧ ts ≠ [] ∧ as.length + ts.length ≤ 24 ∧ Plain K H x S ∧
  (numV x = false → badNum CN H x E) ∧ (∀ i v H', x = .int i → 0 ≤ i → Same H H' → (as ++ ts)[(classI as ts i).toNat]? = some v → Q (.int v) H')
theorem classI_lt {as ts : List Int} {i : Int} (h0 : 0 ≤ i) (h : ts ≠ []) : 0 ≤ classI as ts i ∧ classI as ts i < as.length + ts.length := by
  have hp : 0 < ts.length := List.length_pos_iff.mpr h
  unfold classI
  by_cases c : i < as.length
  · rw [if_pos c]
    omega
  · rw [if_neg c]
    have h1 := Int.emod_nonneg (i - as.length) (show (ts.length : Int) ≠ 0 by omega)
    have h2 := Int.emod_lt_of_pos (i - as.length) (show (0 : Int) < ts.length by omega)
    omega
/-- what the top has written of Rule's kind -/
structure RuleCls (K : PySem.W.Frag) (C : Addr) : Prop where
  cl : Cls K C
  ha : PySem.W.findIn K (.ref C) "__class__" = some (some (.builtin "object.__class__"))
  hn : PySem.W.specialIn K (.builtin "object.__class__") "__get__" = some (some (.builtin "getset_descriptor.__get__"))
  ht : PySem.W.takesIn K (.builtin "object.__class__") = some true
  hm : PySem.W.mroIn K C (.type "object") = some true
  kC : PySem.W.kitOne K (.ref C) (.ref C) = some true
  kT : PySem.W.kitOne K (.type "tuple") (.ref C) = some false
  kS : ∀ S ∈ plainTys, PySem.W.kitOne K (.type S) (.ref C) = some false
def rclsB (K : PySem.W.Frag) (C : Addr) : Bool := decide (PySem.W.findIn K (.ref C) "__class__" = some (some (.builtin "object.__class__"))) && (decide (PySem.W.specialIn K (.builtin "object.__class__") "__get__" = some (some (.builtin "getset_descriptor.__get__"))) && (decide (PySem.W.takesIn K (.builtin "object.__class__") = some true) &&
  (decide (PySem.W.mroIn K C (.type "object") = some true) && (decide (PySem.W.kitOne K (.ref C) (.ref C) = some true) && (decide (PySem.W.kitOne K (.type "tuple") (.ref C) = some false) && plainTys.all fun S => decide (PySem.W.kitOne K (.type S) (.ref C) = some false))))))
theorem rcls_of {K : PySem.W.Frag} {C : Addr} (cl : Cls K C) (q : rclsB K C = true) : RuleCls K C := by
  unfold rclsB at q
  simp only [Bool.and_eq_true, decide_eq_true_eq] at q
  obtain ⟨h1, h2, h3, h4, h5, h6, h7⟩ := q
  exact ⟨cl, h1, h2, h3, h4, h5, h6, fun S hS => of_decide_eq_true (List.all_eq_true.mp h7 S hS)⟩
/-- two rules: the same moduli, the same normal form -/
def spRuleEq (C : Addr) : Sp := fun vs H Q _ => ∃ (p : Addr) (ms as ts : List Int) (y : V), vs = [.ref p, y] ∧ RuleAt C H p (ms.map V.int) as ts ∧
  ((∃ (q : Addr) (ms2 as2 ts2 : List Int), y = .ref q ∧ RuleAt C H q (ms2.map V.int) as2 ts2 ∧ ∀ H', Same H H' → Q (.bl (decide (ms = ms2 ∧ as = as2 ∧ ts = ts2))) H') ∨ ∃ (b : Addr) (xs : List V), y = .ref b ∧ H b = some (.tup xs) ∧ Q (.bl false) H)
def spIsCut (C : Addr) : Sp := fun vs H Q _ => ∃ (p : Addr) (ms : List V) (as ts : List Int), vs = [.ref p] ∧ RuleAt C H p ms as ts ∧ ∀ H', Same H H' → Q (.bl (decide (ts = [0]))) H'
def RuleOut (CT C : Addr) (H : Hp) (ms : List V) (A T : List Int) (Q : VK) (E : XK) : Prop :=
  (24 < (normW A T).1.length + (normW A T).2.length → ∀ d H', Same H H' → H' d = some (.xd [("most", .int 24), ("what", .str "places")]) → E (.ref CT) (some d) H') ∧
  ((normW A T).1.length + (normW A T).2.length ≤ 24 → ∀ H' x, Same H H' → RuleAt C H' x ms (normW A T).1 (normW A T).2 → Q (.ref x) H')
theorem made_out {CR CT C x dx : Addr} {K : PySem.W.Frag} {H0 G : Hp} {am aa at_ : Addr} {ms : List V} {A T : List Int} {Q : VK} {E : XK} (s0 : Same H0 G) (nx : G x = none) (ndx : G dx = none) (em : SeqAt G am ms) (ea : SeqAt G aa (A.map V.int)) (et : SeqAt G at_ (T.map V.int))
    (hm : okMod (some ms) = true) (ha : ∀ z ∈ A, 0 ≤ z ∧ z ≤ prodV ms - 1) (ht : ∀ z ∈ T, 0 ≤ z ∧ z ≤ prodV ms - 1) (ne : T ≠ []) (la : A.length ≤ 300) (lt : T.length ≤ 300) (o : RuleOut CT C H0 ms A T Q E) :
    spInit CR CT C K [.ref x, .ref am, .ref aa, .ref at_] (upd (upd G dx (.own x)) x (.ins C dx [])) (fun v H2 => v = .non ∧ Q (.ref x) H2) E :=
  init_ok nx ndx (argA_mods (A := noA) em (fun z => z) hm) (argA_ints (A := noA) ea (fun z => z) la) (argA_ints (A := noA) et (fun z => z) lt) (ruleErr_ok hm ha ht ne)
    (fun big d H' s e => o.1 big d H' (fun _ _ z => s _ _ (s0 _ _ z)) e) (fun le H' s R => ⟨rfl, o.2 le H' x (fun _ _ z => s _ _ (s0 _ _ z)) R⟩)
theorem weight_ok {CN C : Addr} {K : PySem.W.Frag} {H : Hp} {p : Addr} {ms : List V} {as ts : List Int} {i : Nat} {j : Int} {Q : VK} {E : XK} (hR : RuleAt C H p ms as ts) (tne : ts ≠ []) (l24 : as.length + ts.length ≤ 24) (e : j = (i : Int)) (k : ∀ H', Same H H' → Q (.int (wAt as ts i)) H') :
    spWeight CN C K [.ref p, .int j] H Q E := by
  subst e
  refine ⟨p, .int (i : Int), "int", ms, as, ts, rfl, hR, tne, l24, .int _, fun no => ?_, fun i' v H' ei _ s hv => ?_⟩
  · rw [show numV (.int (i : Int)) = true from decide_eq_true (show 0 ≤ (i : Int) by omega)] at no
    cases no
  · obtain rfl := V.int.inj ei
    rw [lw_at i tne] at hv
    rw [← Option.some.inj hv]
    exact k H' s
theorem drop_row {α : Type} (f : Nat → α) (n L : Nat) : ((List.range (n + L)).map f).drop n = (List.range L).map fun j => f (n + j) := by
  rw [List.range_add, List.map_append, List.drop_left' (by rw [List.length_map, List.length_range]), List.map_map]
  rfl
/-- rows of two weights each -/
def RowsB (G : Hp) (vs : List V) (f g : Nat → Int) : Prop := ∀ (i : Nat) (v : V), vs[i]? = some v → ∃ t, v = .ref t ∧ G t = some (.tup [.int (f i), .int (g i)])
theorem RowsB.move {G G' : Hp} {vs : List V} {f g : Nat → Int} (h : RowsB G vs f g) (st : ∀ b xs, G b = some (.tup xs) → G' b = some (.tup xs)) : RowsB G' vs f g := fun i v e => let ⟨t, e1, e2⟩ := h i v e; ⟨t, e1, st _ _ e2⟩
theorem RowsB.snoc {G : Hp} {vs : List V} {f g : Nat → Int} {t : Addr} {i : Nat} (h : RowsB G vs f g) (l : vs.length = i) (e : G t = some (.tup [.int (f i), .int (g i)])) : RowsB G (vs ++ [.ref t]) f g := fun j v ej => by
  rcases Nat.lt_trichotomy j vs.length with c | c | c
  · rw [List.getElem?_append_left c] at ej
    exact h j v ej
  · subst c
    rw [List.getElem?_append_right (Nat.le_refl _), Nat.sub_self] at ej
    obtain rfl := Option.some.inj ej
    rw [l]
    exact ⟨t, rfl, e⟩
  · rw [List.getElem?_eq_none (by rw [List.length_append]; show vs.length + 1 ≤ j; omega)] at ej
    cases ej
def spBeside (C : Addr) : Sp := fun vs H Q _ => ∃ (p q : Addr) (ms as ts ms2 as2 ts2 : List Int), vs = [.ref p, .ref q] ∧ RuleAt C H p (ms.map V.int) as ts ∧ RuleAt C H q (ms2.map V.int) as2 ts2 ∧ ts ≠ [] ∧ ts2 ≠ [] ∧ as.length + ts.length ≤ 24 ∧ as2.length + ts2.length ≤ 24 ∧
  ∀ (H' : Hp) (r D : Addr) (vs : List V), Same H H' → H' r = some (.tup [.int ((max as.length as2.length : Nat) : Int), .ref D]) → H' D = some (.lst vs) → vs.length = max as.length as2.length + Nat.lcm ts.length ts2.length → RowsB H' vs (wAt as ts) (wAt as2 ts2) → Q (.ref r) H'
/-- the lists of the sum's weights -/
def sumA (ms as ts as2 ts2 : List Int) : List Int := (List.range (max as.length as2.length)).map fun i => addB ms (wAt as ts i) (wAt as2 ts2 i)
def sumT (ms as ts as2 ts2 : List Int) : List Int := (List.range (Nat.lcm ts.length ts2.length)).map fun j => addB ms (wAt as ts (max as.length as2.length + j)) (wAt as2 ts2 (max as.length as2.length + j))
def spRadd (CR CT C : Addr) (K : PySem.W.Frag) : Sp := fun vs H Q E => ∃ (p : Addr) (y : V) (ms as ts : List Int), vs = [.ref p, y] ∧ RuleAt C H p (ms.map V.int) as ts ∧ okMod (some (ms.map V.int)) = true ∧ Mods ms ∧ ts ≠ [] ∧ as.length + ts.length ≤ 24 ∧
  ((∃ S, Plain K H y S ∧ badPart CR H "other" E) ∨ ∃ (q : Addr) (ms2 as2 ts2 : List Int), y = .ref q ∧ RuleAt C H q (ms2.map V.int) as2 ts2 ∧ ts2 ≠ [] ∧ as2.length + ts2.length ≤ 24 ∧ Nat.lcm ts.length ts2.length ≤ 250 ∧ (ms ≠ ms2 → badPart CR H "other" E) ∧
    (ms = ms2 → RuleOut CT C H (ms.map V.int) (sumA ms as ts as2 ts2) (sumT ms as ts as2 ts2) Q E))
def negB (ms : List Int) (b : Int) : Int := bankI ms (sumsI ms [b] [-1])
def spNeg (CT C : Addr) : Sp := fun vs H Q E => ∃ (p : Addr) (ms as ts : List Int), vs = [.ref p] ∧ RuleAt C H p (ms.map V.int) as ts ∧ okMod (some (ms.map V.int)) = true ∧ Mods ms ∧ ts ≠ [] ∧ as.length + ts.length ≤ 24 ∧ RuleOut CT C H (ms.map V.int) (as.map (negB ms)) (ts.map (negB ms)) Q E
section
variable {P : Program} {w : World} {K : PySem.W.Frag} {mg : Str → Option Value} {base : Heap} {CR CN CT uR uN uT : Addr} {fdR fdN fdT : FuncData} {C pc pb gc gb : Addr}
theorem sc_Rule___eq__ : FnScope ["self", "other"] ["self", "other"] (defScope s_Rule_eq) := ⟨rfl, rfl, rfl, by decide +kernel, rfl, by decide +kernel, by decide +kernel⟩
theorem ok_Rule_eq {f : Addr} {fd : FuncData} (F : Fun K "__eq__" "Rule.__eq__" s_Rule_eq f fd) (T : TR mg) (TU : TRule K mg C pc pb gc gb) (RC : RuleCls K C) : FnOk P w K mg base CX0 1 f fd ["self", "other"] (spRuleEq C) := by
  refine F.ok sc_Rule___eq__ (fun vs H Q E h => ?_) (fun cdv A outer s H vs Q E hr h => ?_)
  · obtain ⟨p, ms, as, ts, y, rfl, _⟩ := h
    rfl
  · obtain ⟨p, ms, as, ts, y, rfl, hp, h⟩ := h
    refine ⟨_, (pss_one (ps_ret (pe_and (pe_callB call_isi (by rfl) T.m_isinstance (by decide +kernel) (pa_cons (pv 1) (pa_cons (pe_glob (v := .ref C) rfl TU.gC rfl) pa_nil))) (pe_and (pe_cmpR (op_eqP hr.units) (pe_fld (pv 0) rfl) (pe_fld (pv 1) rfl) (nomark _)) (pe_and (pe_cmpR (op_eqP hr.units) (pe_fld (pv 0) rfl) (pe_fld (pv 1) rfl) (nomark _)) (pe_one (pe_cmpR (op_eqP hr.units) (pe_fld (pv 0) rfl) (pe_fld (pv 1) rfl) (nomark _)))))))), ?_⟩
    rcases h with ⟨q, ms2, as2, ts2, rfl, hq, k⟩ | ⟨b, xs, rfl, hb, k⟩
    · obtain ⟨dx, pm, pa, pt, h1, h2, h3, h4⟩ := hp
      obtain ⟨dy, qm, qa, qt, g1, g2, g3, g4⟩ := hq
      refine ⟨_, rfl, _, _, _, _, _, rfl, .own _, .base (.ins g1 RC.cl RC.ha RC.hn RC.ht RC.hm), RC.kC, _, rfl, ?_⟩
      refine ⟨_, rfl, p, C, dx, _, _, rfl, h1, TU.cl, TU.nM, flds_m _ _ _, _, rfl, q, C, dy, _, _, rfl, g1, TU.cl, TU.nM, flds_m _ _ _, pm, qm, ms, ms2, rfl, rfl, h2, g2, _, rfl, ?_⟩
      refine ite2 (fun c => ?_) (fun c => ?_)
      · refine ⟨_, rfl, p, C, dx, _, _, rfl, h1, TU.cl, TU.nA, flds_a _ _ _, _, rfl, q, C, dy, _, _, rfl, g1, TU.cl, TU.nA, flds_a _ _ _, pa, qa, as, as2, rfl, rfl, h3, g3, _, rfl, ?_⟩
        refine ite2 (fun c2 => ?_) (fun c2 => ?_)
        · refine ⟨_, rfl, p, C, dx, _, _, rfl, h1, TU.cl, TU.nT, flds_t _ _ _, _, rfl, q, C, dy, _, _, rfl, g1, TU.cl, TU.nT, flds_t _ _ _, pt, qt, ts, ts2, rfl, rfl, h4, g4, ?_⟩
          have e : decide (ms = ms2 ∧ as = as2 ∧ ts = ts2) = decide (ts = ts2) := by
            have c3 := of_decide_eq_true c
            have c4 := of_decide_eq_true c2
            simp [c3, c4]
          have z := k H (Same.refl H)
          rw [e] at z
          exact z
        · have e : decide (ms = ms2 ∧ as = as2 ∧ ts = ts2) = false := decide_eq_false fun z => c2 (decide_eq_true z.2.1)
          have z := k H (Same.refl H)
          rw [e] at z
          exact z
      · have e : decide (ms = ms2 ∧ as = as2 ∧ ts = ts2) = false := decide_eq_false fun z => c (decide_eq_true z.1)
        have z := k H (Same.refl H)
        rw [e] at z
        exact z
    · refine ⟨_, rfl, _, _, _, _, _, rfl, .own _, .base (.tup hb), RC.kT, _, rfl, ?_⟩
      exact k
end
end Toy
set_option maxRecDepth 100000
namespace Toy
open PySem L2 LamX ClX
/-! the class methods that make rules of kinds -/
theorem mod_one {m : Int} (h2 : 2 ≤ m) (h32 : m ≤ 32) : okMod (some [.int m]) = true ∧ prodV [.int m] = m := by
  have e : prodV [.int m] = m := by
    show 1 * m = m
    omega
  refine ⟨?_, e⟩
  show (decide (1 ≤ 1 ∧ 1 ≤ 5) && ((decide (2 ≤ m ∧ m ≤ 32) && true) && decide (prodV [.int m] ≤ 32))) = true
  rw [e, decide_eq_true (show 2 ≤ m ∧ m ≤ 32 from ⟨h2, h32⟩), decide_eq_true h32]
  rfl
def powL (n : Nat) : List Int := (List.range n).map fun (i : Nat) => (2 : Int) ^ i
theorem xor_ok : ∀ n : Nat, n < 6 → 1 ≤ n → okMod (some (List.replicate n (V.int 2))) = true ∧ (powL n).all (fun z => decide (0 ≤ z ∧ z ≤ prodV (List.replicate n (V.int 2)) - 1)) = true ∧ 2 ≤ prodV (List.replicate n (V.int 2)) := by decide +kernel
def powM (m : Int) (n : Nat) : List Int := (List.range n).map fun (i : Nat) => (2 : Int) ^ i % m
def spModulo (CR CT C : Addr) (K : PySem.W.Frag) : Sp := fun vs H Q E => ∃ (x : V) (S : String), vs = [.ref C, x] ∧ Plain K H x S ∧ (withinV 2 32 x = false → badPart CR H "banks" E) ∧
  ∀ m, x = .int m → 2 ≤ m → m ≤ 32 → RuleOut CT C H [.int m] (doubled 1 m).1 (doubled 1 m).2 Q E
def spXor (CR CT C : Addr) (K : PySem.W.Frag) : Sp := fun vs H Q E => ∃ (x y : V) (S S2 : String), vs = [.ref C, x, y] ∧ Plain K H x S ∧ Plain K H y S2 ∧ (withinV 1 5 x = false → badPart CR H "bits" E) ∧ (withinV 1 5 x = true → withinV 0 8 y = false → badPart CR H "folds" E) ∧
  ∀ n j : Nat, x = .int n → y = .int j → 1 ≤ n → n ≤ 5 → j ≤ 8 → RuleOut CT C H (List.replicate n (V.int 2)) (if j = 0 then [] else (List.replicate j (powL n)).flatten) (if j = 0 then powL n else [0]) Q E
def spPadded (CR CT C : Addr) (K : PySem.W.Frag) : Sp := fun vs H Q E => ∃ (x y z : V) (S S2 S3 : String), vs = [.ref C, x, y, z] ∧ Plain K H x S ∧ Plain K H y S2 ∧ Plain K H z S3 ∧ (withinV 2 32 x = false → badPart CR H "banks" E) ∧ (∀ m, x = .int m → withinV 2 32 x = true → withinV 1 12 y = false → badPart CR H "every" E) ∧
  (∀ m, x = .int m → withinV 2 32 x = true → withinV 1 12 y = true → withinV 0 (m - 1) z = false → badPart CR H "pad" E) ∧
  ∀ (m q : Int) (e : Nat), x = .int m → y = .int e → z = .int q → 2 ≤ m → m ≤ 32 → 1 ≤ e → e ≤ 12 → 0 ≤ q → q ≤ m - 1 → RuleOut CT C H [.int m] (powM m e ++ (doubled (2 ^ e + q) m).1) (doubled (2 ^ e + q) m).2 Q E
/-- check_padding(banks, every) -/
def spCheckPad (CR : Addr) (K : PySem.W.Frag) : Sp := fun vs H Q E => ∃ (x y : V) (S S2 : String), vs = [x, y] ∧ Plain K H x S ∧ Plain K H y S2 ∧ (withinV 2 32 x = false → badPart CR H "banks" E) ∧ (∀ m, x = .int m → withinV 2 32 x = true → withinV 1 12 y = false → badPart CR H "every" E) ∧
  (withinV 2 32 x = true → withinV 1 12 y = true → Q .non H)
abbrev s_check_padding : Stmt := top 35
abbrev s_Rule_modulo : Stmt := (inClass (top 36) 1)
abbrev s_Rule_xor : Stmt := (inClass (top 36) 2)
abbrev s_Rule_padded : Stmt := (inClass (top 36) 3)
section
variable {P : Program} {w : World} {K : PySem.W.Frag} {mg : Str → Option Value} {base : Heap} {CR CN CT uR uN uT : Addr} {fdR fdN fdT : FuncData} {C pc pb gc gb : Addr}
abbrev N_Rule_modulo : List Str := ["cls", "banks", "ahead", "turn"]
abbrev N_Rule_xor : List Str := ["cls", "bits", "folds", "weights", "bit"]
abbrev N_Rule_padded : List Str := ["cls", "banks", "every", "pad", "first", "place", "ahead", "turn"]
theorem sc_Rule_modulo : FnScope N_Rule_modulo ["cls", "banks"] (defScope s_Rule_modulo) := ⟨rfl, rfl, rfl, by decide +kernel, rfl, by decide +kernel, by decide +kernel⟩
theorem sc_Rule_xor : FnScope N_Rule_xor ["cls", "bits", "folds"] (defScope s_Rule_xor) := ⟨rfl, rfl, rfl, by decide +kernel, rfl, by decide +kernel, by decide +kernel⟩
theorem sc_Rule_padded : FnScope N_Rule_padded ["cls", "banks", "every", "pad"] (defScope s_Rule_padded) := ⟨rfl, rfl, rfl, by decide +kernel, rfl, by decide +kernel, by decide +kernel⟩
theorem ok_Rule_modulo {f fI fW fDb fRI : Addr} {fd fdI fdW fdDb fdRI : FuncData} (F : Fun K "modulo" "Rule.modulo" s_Rule_modulo f fd) (T : TR mg) (TE : TErr K mg CR CN CT uR uN uT fdR fdN fdT)
    (FI : Fun K "is_integer" "is_integer" s_is_integer fI fdI) (gI : mg "is_integer" = some (.ref fI)) (bI : Binds K fdI ["value"] [])
    (FW : Fun K "is_within" "is_within" s_is_within fW fdW) (gW : mg "is_within" = some (.ref fW)) (bW : Binds K fdW ["value", "least", "most"] [])
    (GDb : FnOk P w K mg base CX0 1 fDb fdDb ["first", "banks"] spDoubled) (gDb : mg "doubled_weights" = some (.ref fDb)) (kDb : PySem.W.keepIn K (.ref fDb) = true) (bDb : Binds K fdDb ["first", "banks"] [])
    (MRI : Mk K C fRI) (GRI : FnOk P w K mg base (L2.CX P w) 4 fRI fdRI ["self", "moduli", "ahead", "turn"] (spInit CR CT C K)) (bRI : Binds K fdRI ["self", "moduli", "ahead", "turn"] []) :
    FnOk P w K mg base (L2.CX P w) 6 f fd ["cls", "banks"] (spModulo CR CT C K) := by
  have GW : FnOk P w K mg base CX0 2 fW fdW ["value", "least", "most"] (spWithin K) := ok_is_within FW T FI gI bI
  have kW := FW.kp
  refine F.okX sc_Rule_modulo (fun vs H Q E h => ?_) (fun cdv A outer s H vs Q E hrM h => ?_)
  · obtain ⟨x, S, rfl, _⟩ := h
    rfl
  · obtain ⟨x, S, rfl, hx, kE, kQ⟩ := h
    have hr : Room 2 _ := hrM.mono (by decide)
    have hrE : Room 2 _ := hr
    have hrB : Room 1 _ := hrM.mono (by decide)
    refine ⟨_, (pss_cons (ps_if (pt_not (pt_val (pe_call GW hr rfl gW kW bW .nil pass0 (pa_cons (pv 1) (pa_cons pe_int (pa_cons (pe_glob (v := .int 32) rfl T.g_MOST_BANKS.choose_spec ⟨_, rfl⟩) pa_nil)))))) (pss_one (ps_raise rfl (takes_of rfl rfl rfl rfl) (pmk_x TE.iBadRule (ok_BadRule TE) hrE TE.bBadRule (by decide) rfl TE.gBadRule (mono_c mono_nil) (pa_cons pe_str pa_nil)))) pss_nil)
 (pss_cons (ps_asg (pe_call GDb hrB rfl gDb kDb bDb .nil pass0 (pa_cons pe_int (pa_cons (pv 1) pa_nil))) (pg_tup rfl (pgs_cons (pg_name (i := 2) sc_Rule_modulo.nd rfl (Or.inl rfl)) (pgs_cons (pg_name (i := 3) sc_Rule_modulo.nd rfl (Or.inl rfl)) pgs_nil))))
 (pss_one (ps_ret (pe_makeV (i := 0) MRI GRI hrM rfl (Or.inl rfl) bRI .nil (passes_call (takes_of rfl rfl rfl rfl) fun _ _ _ _ h => h) (pa_cons (pe_tup (pa_cons (pv 1) pa_nil)) (pa_cons (pv 2) (pa_cons (pv 3) pa_nil)))))))), ?_⟩
    refine ⟨_, rfl, x, S, 2, 32, rfl, hx, _, rfl, ?_⟩
    cases hw : withinV 2 32 x with
    | false => exact iteT ⟨rfl, fun d H' hd s2 e => kE hw d H' s2 e⟩
    | true =>
      obtain ⟨m, rfl, h2, h32⟩ := within_int hw
      refine iteF ?_
      obtain ⟨o1, o2, o3, o4⟩ := doubled_ok (f := 1) h2 h32
      obtain ⟨p1, p2⟩ := mod_one h2 h32
      refine ⟨_, rfl, 1, m, rfl, h2, h32, fun H1 q a t s1 eq ea et => ⟨q, _, rfl, SqT.of eq, rfl, _, _, rfl, _, _, rfl, rfl, ?_⟩⟩
      refine ⟨rfl, _, rfl, (by show 1 ≤ PySem.sizeLine; decide), fun tm htm => ⟨_, rfl, _, rfl, fun x dx nx ndx nex => ?_⟩⟩
      have s2 := Same.lay (o := .tup [.int m]) htm
      exact made_out (fun _ _ z => s2 _ _ (s1 _ _ z)) nx ndx (.inr upd_same) (.inl (s2 _ _ ea)) (.inl (s2 _ _ et)) p1 (by rw [p2]; exact o3) (by rw [p2]; exact o4) o1 (by omega) (by omega) (kQ m rfl h2 h32)
theorem pow_row {H : Hp} {D : Addr} (hD : H D = none) {f : Nat → Int} : upd H D (.lst []) = upd H D (.lst ((((List.range 0).map f)).map V.int)) := rfl
theorem ok_Rule_xor {f fI fW fRI : Addr} {fd fdI fdW fdRI : FuncData} {dvs : List V} {kws : List (Str × V)} (F : FunD K "xor" "Rule.xor" (defArgs s_Rule_xor) (defBody s_Rule_xor) (defScope s_Rule_xor) dvs kws f fd) (T : TR mg) (TE : TErr K mg CR CN CT uR uN uT fdR fdN fdT)
    (FI : Fun K "is_integer" "is_integer" s_is_integer fI fdI) (gI : mg "is_integer" = some (.ref fI)) (bI : Binds K fdI ["value"] [])
    (FW : Fun K "is_within" "is_within" s_is_within fW fdW) (gW : mg "is_within" = some (.ref fW)) (bW : Binds K fdW ["value", "least", "most"] [])
    (MRI : Mk K C fRI) (GRI : FnOk P w K mg base (L2.CX P w) 4 fRI fdRI ["self", "moduli", "ahead", "turn"] (spInit CR CT C K)) (bRI : Binds K fdRI ["self", "moduli", "ahead", "turn"] []) :
    FnOk P w K mg base (L2.CX P w) 6 f fd ["cls", "bits", "folds"] (spXor CR CT C K) := by
  have GW : FnOk P w K mg base CX0 2 fW fdW ["value", "least", "most"] (spWithin K) := ok_is_within FW T FI gI bI
  have kW := FW.kp
  refine F.ok sc_Rule_xor (fun vs H Q E h => ?_) (fun cdv A outer s H vs Q E hrM h => ?_)
  · obtain ⟨x, y, S, S2, rfl, _⟩ := h
    rfl
  · obtain ⟨x, y, S, S2, rfl, hx, hy, kE, kE2, kQ⟩ := h
    have hr : Room 2 _ := hrM.mono (by decide)
    have hrE : Room 2 _ := hr
    refine ⟨_, (pss_cons (ps_if (pt_not (pt_val (pe_call GW hr rfl gW kW bW .nil pass0 (pa_cons (pv 1) (pa_cons pe_int (pa_cons pe_int pa_nil)))))) (pss_one (ps_raise rfl (takes_of rfl rfl rfl rfl) (pmk_x TE.iBadRule (ok_BadRule TE) hrE TE.bBadRule (by decide) rfl TE.gBadRule (mono_c mono_nil) (pa_cons pe_str pa_nil)))) pss_nil)
 (pss_cons (ps_if (pt_not (pt_val (pe_call GW hr rfl gW kW bW .nil pass0 (pa_cons (pv 2) (pa_cons pe_int (pa_cons pe_int pa_nil)))))) (pss_one (ps_raise rfl (takes_of rfl rfl rfl rfl) (pmk_x TE.iBadRule (ok_BadRule TE) hrE TE.bBadRule (by decide) rfl TE.gBadRule (mono_c mono_nil) (pa_cons pe_str pa_nil)))) pss_nil)
 (pss_cons (ps_setLc (i := 3) (own := [("bit", 4)]) (g := (gName 4)) (tt := tYes) rfl sc_Rule_xor.nd rfl rfl (sw_true rfl rfl rfl (by decide +kernel)) (pi_range1 rfl T.m_range (pa_cons (pv 1) pa_nil)) (blkOk_by (N := N_Rule_xor) (sc := defScope s_Rule_xor) (by decide +kernel)) (fun _ _ _ _ _ => (pg_name (i := 4) sc_Rule_xor.nd rfl (Or.inl rfl))) (fun _ _ _ _ _ => pts_nil) (fun _ _ _ _ _ => (pe_op op_shl pe_int (pv 4))))
 (pss_cons (ps_if (pt_cmpR op_eq (pv 2) pe_int (nomark _)) (pss_one (ps_ret (pe_makeV (i := 0) MRI GRI hrM rfl (Or.inl rfl) bRI .nil (passes_call (takes_of rfl rfl rfl rfl) fun _ _ _ _ h => h) (pa_cons (pe_op op_repP (pe_tup (pa_cons pe_int pa_nil)) (pv 1)) (pa_cons (pe_tup pa_nil) (pa_cons (pv 3) pa_nil)))))) pss_nil)
 (pss_one (ps_ret (pe_makeV (i := 0) MRI GRI hrM rfl (Or.inl rfl) bRI .nil (passes_call (takes_of rfl rfl rfl rfl) fun _ _ _ _ h => h) (pa_cons (pe_op op_repP (pe_tup (pa_cons pe_int pa_nil)) (pv 1)) (pa_cons (pe_op op_rep (pv 3) (pv 2)) (pa_cons (pe_tup (pa_cons pe_int pa_nil)) pa_nil)))))))))), ?_⟩
    refine ⟨_, rfl, x, S, 1, 5, rfl, hx, _, rfl, ?_⟩
    cases hw : withinV 1 5 x with
    | false => exact iteT ⟨rfl, fun d H' hd s2 e => kE hw d H' s2 e⟩
    | true =>
      refine iteF ?_
      refine ⟨_, rfl, y, S2, 0, 8, rfl, hy, _, rfl, ?_⟩
      cases hv : withinV 0 8 y with
      | false => exact iteT ⟨rfl, fun d H' hd s2 e => kE2 hw hv d H' s2 e⟩
      | true =>
        obtain ⟨n, rfl, n1, n5⟩ := within_int hw
        obtain ⟨j, rfl, j0, j8⟩ := within_int hv
        obtain ⟨n, rfl⟩ : ∃ k : Nat, n = (k : Int) := ⟨n.toNat, by omega⟩
        obtain ⟨j, rfl⟩ : ∃ k : Nat, j = (k : Int) := ⟨j.toNat, by omega⟩
        obtain ⟨p1, p2, p3⟩ := xor_ok n (by omega) (by omega)
        have p2' : ∀ z ∈ powL n, 0 ≤ z ∧ z ≤ prodV (List.replicate n (V.int 2)) - 1 := fun z hz => of_decide_eq_true (List.all_eq_true.mp p2 z hz)
        have kk := kQ n j rfl rfl (by omega) (by omega) (by omega)
        refine iteF ?_
        refine ⟨_, rfl, _, rfl, by omega, by omega, fun D hD => ?_⟩
        refine lc_it walk_range (fun i G => G = upd H D (.lst ((((List.range i).map fun (i : Nat) => (2 : Int) ^ i)).map V.int))) rfl (fun _ _ _ _ => trivial) ?_ ?_
        · rintro i v G G' hi rfl ⟨rfl, rfl⟩
          have hi2 : i < n := by omega
          refine ⟨rfl, _, rfl, _, _, rfl, rfl, ⟨by omega, by omega, by decide⟩, _, upd_same, row_len hi2 (by omega), ?_⟩
          rw [upd_upd, List.range_succ, List.map_append, List.map_append]
          simp
        · rintro G rfl
          have hn : ((n : Int)).toNat = n := by omega
          rw [hn]
          have ePow : ((List.range n).map fun (i : Nat) => (2 : Int) ^ i) = powL n := rfl
          rw [ePow]
          have sD : Same H (upd H D (.lst ((powL n).map V.int))) := Same.lay hD
          have hD1 : (upd H D (.lst ((powL n).map V.int))) D = some (.lst ((powL n).map V.int)) := upd_same
          generalize upd H D (.lst ((powL n).map V.int)) = G1 at sD hD1 ⊢
          have ne : powL n ≠ [] := fun z => by
            have : (powL n).length = 0 := by rw [z]; rfl
            unfold powL at this
            rw [List.length_map, List.length_range] at this
            omega
          have lp : (powL n).length = n := by
            unfold powL
            rw [List.length_map, List.length_range]
          refine ⟨_, rfl, rfl, _, rfl, ?_⟩
          refine ite2 (fun c => ?_) (fun c => ?_)
          · have c1 : (j : Int) = 0 := V.int.inj (of_decide_eq_true c)
            have c2 : j = 0 := by omega
            subst c2
            rw [if_pos rfl, if_pos rfl] at kk
            refine ⟨rfl, (by show 1 ≤ PySem.sizeLine; decide), fun t2 ht2 => ⟨_, rfl, t2, n, _, rfl, rfl, upd_same, by simp, by omega, by omega, by decide, fun tm G3 s3 e3 => ⟨(by show 0 ≤ PySem.sizeLine; decide), fun ta hta => ⟨_, rfl, fun x dx nx ndx nex => ?_⟩⟩⟩⟩
            rw [List.flatten_replicate_singleton, hn] at e3
            have s4 := Same.lay (o := .tup []) hta
            have s2 := Same.lay (o := .tup [V.int 2]) ht2
            exact made_out (A := []) (fun _ _ z => s4 _ _ (s3 _ _ (s2 _ _ (sD _ _ z)))) nx ndx (.inr (s4 _ _ e3)) (.inr upd_same) (.inl (s4 _ _ (s3 _ _ (s2 _ _ hD1)))) p1 (fun z hz => nomatch hz) p2' ne (by decide) (by omega) kk
          · have c2 : j ≠ 0 := fun z => c (by rw [z]; rfl)
            rw [if_neg c2, if_neg c2] at kk
            have lf : (List.replicate j (powL n)).flatten.length = j * n := by simp [List.length_flatten, lp]
            have bnd : j * n ≤ 8 * 5 := Nat.mul_le_mul (by omega) (by omega)
            refine ⟨rfl, (by show 1 ≤ PySem.sizeLine; decide), fun t2 ht2 => ⟨_, rfl, t2, n, _, rfl, rfl, upd_same, by simp, by omega, by omega, by decide, fun tm G3 s3 e3 => ?_⟩⟩
            rw [List.flatten_replicate_singleton, hn] at e3
            have s2 := Same.lay (o := .tup [V.int 2]) ht2
            have hD3 := s3 _ _ (s2 _ _ hD1)
            have bnd2 : n * j ≤ 8 * 5 := by rw [Nat.mul_comm]; exact bnd
            refine ⟨_, rfl, _, rfl, D, j, _, rfl, rfl, hD3, by omega, by omega, Nat.le_of_lt (small1000 (by rw [List.length_map, lp, show ((j : Int)).toNat = j by omega]; omega)), fun ta hta => ⟨(by show 1 ≤ PySem.sizeLine; decide), fun tz htz => fun x dx nx ndx nex => ?_⟩⟩
            have eA : (List.replicate ((j : Int)).toNat ((powL n).map V.int)).flatten = ((List.replicate j (powL n)).flatten).map V.int := by
              rw [show ((j : Int)).toNat = j by omega, List.map_flatten, List.map_replicate]
            have s4 := Same.lay (o := .lst (List.replicate ((j : Int)).toNat ((powL n).map V.int)).flatten) hta
            have s5 := Same.lay (o := .tup [V.int 0]) htz
            refine made_out (fun _ _ z => s5 _ _ (s4 _ _ (s3 _ _ (s2 _ _ (sD _ _ z))))) nx ndx (.inr (s5 _ _ (s4 _ _ e3))) (.inl (s5 _ _ (by rw [upd_same, eA]))) (T := [0]) (.inr upd_same) p1 (fun z hz => ?_) (fun z hz => ?_) (by decide) (by rw [lf]; omega) (by decide) kk
            · obtain ⟨l, hl, hz2⟩ := List.mem_flatten.mp hz
              rw [List.eq_of_mem_replicate hl] at hz2
              exact p2' z hz2
            · rw [List.mem_singleton.mp hz]
              omega
abbrev N_check_padding : List Str := ["banks", "every"]
theorem sc_check_padding : FnScope N_check_padding ["banks", "every"] (defScope s_check_padding) := ⟨rfl, rfl, rfl, by decide +kernel, rfl, by decide +kernel, by decide +kernel⟩
theorem ok_check_padding {f fI fW : Addr} {fd fdI fdW : FuncData} (F : Fun K "check_padding" "check_padding" s_check_padding f fd) (T : TR mg) (TE : TErr K mg CR CN CT uR uN uT fdR fdN fdT)
    (FI : Fun K "is_integer" "is_integer" s_is_integer fI fdI) (gI : mg "is_integer" = some (.ref fI)) (bI : Binds K fdI ["value"] [])
    (FW : Fun K "is_within" "is_within" s_is_within fW fdW) (gW : mg "is_within" = some (.ref fW)) (bW : Binds K fdW ["value", "least", "most"] []) :
    FnOk P w K mg base (L2.CX P w) 3 f fd ["banks", "every"] (spCheckPad CR K) := by
  have GW : FnOk P w K mg base CX0 2 fW fdW ["value", "least", "most"] (spWithin K) := ok_is_within FW T FI gI bI
  have kW := FW.kp
  refine F.okX sc_check_padding (fun vs H Q E h => ?_) (fun cdv A outer s H vs Q E hrM h => ?_)
  · obtain ⟨x, y, S, S2, rfl, _⟩ := h
    rfl
  · obtain ⟨x, y, S, S2, rfl, hx, hy, kE, kE2, kQ⟩ := h
    have hr : Room 2 _ := hrM
    have hrE : Room 2 _ := hr
    refine ⟨_, (pss_cons (ps_if (pt_not (pt_val (pe_call GW hr rfl gW kW bW .nil pass0 (pa_cons (pv 0) (pa_cons pe_int (pa_cons (pe_glob (v := .int 32) rfl T.g_MOST_BANKS.choose_spec ⟨_, rfl⟩) pa_nil)))))) (pss_one (ps_raise rfl (takes_of rfl rfl rfl rfl) (pmk_x TE.iBadRule (ok_BadRule TE) hrE TE.bBadRule (by decide) rfl TE.gBadRule (mono_c mono_nil) (pa_cons pe_str pa_nil)))) pss_nil)
 (pss_one (ps_if (pt_not (pt_val (pe_call GW hr rfl gW kW bW .nil pass0 (pa_cons (pv 1) (pa_cons pe_int (pa_cons pe_int pa_nil)))))) (pss_one (ps_raise rfl (takes_of rfl rfl rfl rfl) (pmk_x TE.iBadRule (ok_BadRule TE) hrE TE.bBadRule (by decide) rfl TE.gBadRule (mono_c mono_nil) (pa_cons pe_str pa_nil)))) pss_nil))), ?_⟩
    refine ⟨_, rfl, x, S, 2, 32, rfl, hx, _, rfl, ?_⟩
    cases hw : withinV 2 32 x with
    | false => exact iteT ⟨rfl, fun d H' hd s2 e => kE hw d H' s2 e⟩
    | true =>
      obtain ⟨m, rfl, h2, h32⟩ := within_int hw
      refine iteF ?_
      refine ⟨_, rfl, y, S2, 1, 12, rfl, hy, _, rfl, ?_⟩
      cases hv : withinV 1 12 y with
      | false => exact iteT ⟨rfl, fun d H' hd s2 e => kE2 m rfl hw hv d H' s2 e⟩
      | true => exact iteF (kQ hw hv)
theorem ok_Rule_padded {f fI fW fDb fRI fCp : Addr} {fd fdI fdW fdDb fdRI fdCp : FuncData} (F : Fun K "padded" "Rule.padded" s_Rule_padded f fd) (T : TR mg) (TE : TErr K mg CR CN CT uR uN uT fdR fdN fdT)
    (FI : Fun K "is_integer" "is_integer" s_is_integer fI fdI) (gI : mg "is_integer" = some (.ref fI)) (bI : Binds K fdI ["value"] [])
    (FW : Fun K "is_within" "is_within" s_is_within fW fdW) (gW : mg "is_within" = some (.ref fW)) (bW : Binds K fdW ["value", "least", "most"] [])
    (GDb : FnOk P w K mg base CX0 1 fDb fdDb ["first", "banks"] spDoubled) (gDb : mg "doubled_weights" = some (.ref fDb)) (kDb : PySem.W.keepIn K (.ref fDb) = true) (bDb : Binds K fdDb ["first", "banks"] [])
    (GCp : FnOk P w K mg base (L2.CX P w) 3 fCp fdCp ["banks", "every"] (spCheckPad CR K)) (gCp : mg "check_padding" = some (.ref fCp)) (kCp : PySem.W.keepIn K (.ref fCp) = true) (bCp : Binds K fdCp ["banks", "every"] [])
    (MRI : Mk K C fRI) (GRI : FnOk P w K mg base (L2.CX P w) 4 fRI fdRI ["self", "moduli", "ahead", "turn"] (spInit CR CT C K)) (bRI : Binds K fdRI ["self", "moduli", "ahead", "turn"] []) :
    FnOk P w K mg base (L2.CX P w) 6 f fd ["cls", "banks", "every", "pad"] (spPadded CR CT C K) := by
  have GW : FnOk P w K mg base CX0 2 fW fdW ["value", "least", "most"] (spWithin K) := ok_is_within FW T FI gI bI
  have kW := FW.kp
  refine F.okX sc_Rule_padded (fun vs H Q E h => ?_) (fun cdv A outer s H vs Q E hrM h => ?_)
  · obtain ⟨x, y, z, S, S2, S3, rfl, _⟩ := h
    rfl
  · obtain ⟨x, y, z, S, S2, S3, rfl, hx, hy, hz, kE, kE2, kE3, kQ⟩ := h
    have hr : Room 2 _ := hrM.mono (by decide)
    have hrE : Room 2 _ := hr
    have hrB : Room 1 _ := hrM.mono (by decide)
    have hrCp : Room 3 _ := hrM.mono (by decide)
    refine ⟨_, (pss_cons (ps_expr (pe_call GCp hrCp rfl gCp kCp bCp .nil (passes_call (takes_of rfl rfl rfl rfl) fun _ _ _ _ h => h) (pa_cons (pv 1) (pa_cons (pv 2) pa_nil))))
 (pss_cons (ps_if (pt_not (pt_val (pe_call GW hr rfl gW kW bW .nil pass0 (pa_cons (pv 3) (pa_cons pe_int (pa_cons (pe_op op_sub (pv 1) pe_int) pa_nil)))))) (pss_one (ps_raise rfl (takes_of rfl rfl rfl rfl) (pmk_x TE.iBadRule (ok_BadRule TE) hrE TE.bBadRule (by decide) rfl TE.gBadRule (mono_c mono_nil) (pa_cons pe_str pa_nil)))) pss_nil)
 (pss_cons (ps_setLc (i := 4) (own := [("place", 5)]) (g := (gName 5)) (tt := tYes) rfl sc_Rule_padded.nd rfl rfl (sw_true rfl rfl rfl (by decide +kernel)) (pi_range1 rfl T.m_range (pa_cons (pv 2) pa_nil)) (blkOk_by (N := N_Rule_padded) (sc := defScope s_Rule_padded) (by decide +kernel)) (fun _ _ _ _ _ => (pg_name (i := 5) sc_Rule_padded.nd rfl (Or.inl rfl))) (fun _ _ _ _ _ => pts_nil) (fun _ _ _ _ _ => (pe_op op_mod (pe_op op_shl pe_int (pv 5)) (pv 1))))
 (pss_cons (ps_asg (pe_call GDb hrB rfl gDb kDb bDb .nil pass0 (pa_cons (pe_op op_add (pe_op op_shl pe_int (pv 2)) (pv 3)) (pa_cons (pv 1) pa_nil))) (pg_tup rfl (pgs_cons (pg_name (i := 6) sc_Rule_padded.nd rfl (Or.inl rfl)) (pgs_cons (pg_name (i := 7) sc_Rule_padded.nd rfl (Or.inl rfl)) pgs_nil))))
 (pss_one (ps_ret (pe_makeV (i := 0) MRI GRI hrM rfl (Or.inl rfl) bRI .nil (passes_call (takes_of rfl rfl rfl rfl) fun _ _ _ _ h => h) (pa_cons (pe_tup (pa_cons (pv 1) pa_nil)) (pa_cons (pe_op op_cat (pv 4) (pv 6)) (pa_cons (pv 7) pa_nil)))))))))), ?_⟩
    refine ⟨_, rfl, _, rfl, x, y, S, S2, rfl, hx, hy, kE, kE2, fun hw hv => ?_⟩
    · 
      · obtain ⟨m, rfl, h2, h32⟩ := within_int hw
        obtain ⟨e, rfl, e1, e12⟩ := within_int hv
        obtain ⟨e, rfl⟩ : ∃ k : Nat, e = (k : Int) := ⟨e.toNat, by omega⟩
        refine ⟨_, rfl, _, rfl, _, _, rfl, rfl, z, S3, 0, m - 1, rfl, hz, _, rfl, ?_⟩
        cases hu : withinV 0 (m - 1) z with
        | false => exact iteT ⟨rfl, fun d H' hd s2 e => kE3 m rfl hw hv hu d H' s2 e⟩
        | true =>
          obtain ⟨q, rfl, q0, q1⟩ := within_int hu
          refine iteF ?_
          have kk := kQ m q e rfl rfl rfl h2 h32 (by omega) (by omega) q0 q1
          obtain ⟨o1, o2, o3, o4⟩ := doubled_ok (f := 2 ^ e + q) h2 h32
          obtain ⟨p1, p2⟩ := mod_one h2 h32
          refine ⟨_, rfl, _, rfl, by omega, by omega, fun D hD => ?_⟩
          refine lc_it walk_range (fun i G => G = upd H D (.lst ((((List.range i).map fun (i : Nat) => (2 : Int) ^ i % m)).map V.int))) rfl (fun _ _ _ _ => trivial) ?_ ?_
          · rintro i v G G' hi rfl ⟨rfl, rfl⟩
            have hi2 : i < e := by omega
            refine ⟨rfl, _, rfl, _, _, rfl, rfl, ⟨by omega, by omega, by decide⟩, _, rfl, _, _, rfl, rfl, (by show (0 : Int) < m; omega), _, upd_same, row_len hi2 (by omega), ?_⟩
            rw [upd_upd, List.range_succ, List.map_append, List.map_append]
            simp
          · rintro G rfl
            rw [show ((e : Int)).toNat = e by omega]
            have ePow : ((List.range e).map fun (i : Nat) => (2 : Int) ^ i % m) = powM m e := rfl
            rw [ePow]
            have sD : Same H (upd H D (.lst ((powM m e).map V.int))) := Same.lay hD
            have hD1 : (upd H D (.lst ((powM m e).map V.int))) D = some (.lst ((powM m e).map V.int)) := upd_same
            generalize upd H D (.lst ((powM m e).map V.int)) = G1 at sD hD1 ⊢
            have lp : (powM m e).length = e := by
              unfold powM
              rw [List.length_map, List.length_range]
            refine ⟨_, rfl, _, _, rfl, rfl, ⟨by omega, by omega, by decide⟩, _, rfl, _, _, rfl, rfl, _, rfl, 2 ^ e + q, m, ?_, h2, h32, fun H1 u a t s1 eq ea et => ⟨u, _, rfl, SqT.of eq, rfl, _, _, rfl, _, _, rfl, rfl, ?_⟩⟩
            · rw [show ((e : Int)).toNat = e by omega, Int.one_mul]
              rfl
            · refine ⟨rfl, _, rfl, (by show 1 ≤ PySem.sizeLine; decide), fun tm htm => ⟨_, rfl, _, rfl, ?_⟩⟩
              have s2 := Same.lay (o := .tup [.int m]) htm
              refine ⟨D, a, _, _, rfl, rfl, s2 _ _ (s1 _ _ hD1), s2 _ _ ea, Nat.le_of_lt (small1000 (by rw [List.length_map, List.length_map, lp]; omega)), fun tc htc => ⟨_, rfl, fun x dx nx ndx nex => ?_⟩⟩
              have s3 := Same.lay (o := .lst ((powM m e).map V.int ++ ((doubled (2 ^ e + q) m).1).map V.int)) htc
              refine made_out (fun _ _ z => s3 _ _ (s2 _ _ (s1 _ _ (sD _ _ z)))) nx ndx (.inr (s3 _ _ upd_same)) (.inl (by rw [upd_same, List.map_append])) (.inl (s3 _ _ (s2 _ _ et))) p1 (fun z hz => ?_) (by rw [p2]; exact o4) o1 (by rw [List.length_append, lp]; omega) (by omega) kk
              rw [p2]
              rcases List.mem_append.mp hz with h | h
              · obtain ⟨i, _, rfl⟩ := List.mem_map.mp h
                have g0 := Int.emod_nonneg ((2 : Int) ^ i) (show m ≠ 0 by omega)
                have g1 := Int.emod_lt_of_pos ((2 : Int) ^ i) (show (0 : Int) < m by omega)
                omega
              · exact o3 z h
end
end Toy
set_option maxRecDepth 100000
namespace Toy
open PySem L2 LamX Dg
/-! rules by their weights at all places -/
def InB (ms l : List Int) : Prop := ∀ z ∈ l, 0 ≤ z ∧ z ≤ prodV (ms.map V.int) - 1
theorem pk_zero (ns : List Int) (k : Nat) : pk ns 0 k = 0 := by
  have z : ∀ (ns : List Int) (k : Nat), (partsI ns 0).getD k 0 = 0 := by
    intro ns
    induction ns with
    | nil => intro k; rfl
    | cons n ns ih =>
      intro k
      cases k with
      | zero => exact Int.zero_emod n
      | succ k =>
        show (partsI ns (0 / n)).getD k 0 = 0
        rw [Int.zero_ediv]
        exact ih k
  exact z ns k
def shW (n : Nat) (w : Nat → Int) (i : Nat) : Int := if i < n then 0 else w (i - n)
def cutW (n : Nat) (w : Nat → Int) (i : Nat) : Int := if i < n then w i else 0
theorem bankW_shift {ns : List Int} {w : Nat → Int} (n a : Nat) : bankW ns (shW n w) a = bankW ns w (a / 2 ^ n) := by
  unfold bankW rowS
  congr 1
  refine List.map_congr_left fun k _ => ?_
  rw [← dsum_shift]
  congr 1
  refine dsum_congr fun i => ?_
  unfold shW
  by_cases c : i < n
  · rw [if_pos c, if_pos c, pk_zero]
  · rw [if_neg c, if_neg c]
theorem bankW_cut {ns : List Int} {w : Nat → Int} (n a : Nat) : bankW ns (cutW n w) a = bankW ns w (a % 2 ^ n) := by
  unfold bankW rowS
  congr 1
  refine List.map_congr_left fun k _ => ?_
  rw [← dsum_cut]
  congr 1
  refine dsum_congr fun i => ?_
  unfold cutW
  by_cases c : i < n
  · rw [if_pos c, if_pos c]
  · rw [if_neg c, if_neg c, pk_zero]
theorem wAt_shift (A T : List Int) (n i : Nat) : wAt (List.replicate n 0 ++ A) T i = shW n (wAt A T) i := by
  unfold wAt shW
  rw [List.length_append, List.length_replicate]
  by_cases c : i < n
  · rw [if_pos c, if_pos (by omega), List.getD_eq_getElem?_getD, List.getElem?_append_left (by rw [List.length_replicate]; exact c), List.getElem?_replicate, if_pos c]
    rfl
  · rw [if_neg c]
    show _ = if i - n < A.length then A.getD (i - n) 0 else pAt T (i - n - A.length)
    by_cases c2 : i < n + A.length
    · rw [if_pos c2, if_pos (by omega), List.getD_eq_getElem?_getD, List.getElem?_append_right (by rw [List.length_replicate]; omega), List.length_replicate, List.getD_eq_getElem?_getD]
    · rw [if_neg c2, if_neg (by omega), Nat.sub_sub]
theorem wAt_cut (w : Nat → Int) (n i : Nat) : wAt ((List.range n).map w) [0] i = cutW n w i := by
  unfold wAt cutW
  rw [List.length_map, List.length_range]
  by_cases c : i < n
  · rw [if_pos c, if_pos c, List.getD_eq_getElem?_getD, List.getElem?_map, List.getElem?_range c]
    rfl
  · rw [if_neg c, if_neg c]
    unfold pAt
    rw [List.length_singleton, Nat.mod_one]
    rfl
theorem wAt_round {A T : List Int} {i : Nat} (h : A.length ≤ i) : wAt A T (i + T.length) = wAt A T i := by
  unfold wAt pAt
  rw [if_neg (by omega), if_neg (by omega), show i + T.length - A.length = i - A.length + T.length by omega, Nat.add_mod_right]
theorem wAt_rounds {A T : List Int} {i : Nat} (h : A.length ≤ i) : ∀ k : Nat, wAt A T (i + T.length * k) = wAt A T i
  | 0 => rfl
  | k + 1 => by
    rw [Nat.mul_succ, ← Nat.add_assoc, wAt_round (by omega)]
    exact wAt_rounds h k
theorem wAt_made {s : Nat → Int} {n L : Nat} (hL : 0 < L) (per : ∀ i, n ≤ i → s (i + L) = s i) (i : Nat) : wAt ((List.range n).map s) ((List.range L).map fun j => s (n + j)) i = s i := by
  unfold wAt
  rw [List.length_map, List.length_range]
  by_cases c : i < n
  · rw [if_pos c, List.getD_eq_getElem?_getD, List.getElem?_map, List.getElem?_range c]
    rfl
  · rw [if_neg c]
    unfold pAt
    rw [List.length_map, List.length_range]
    have hm : (i - n) % L < L := Nat.mod_lt _ hL
    rw [List.getD_eq_getElem?_getD, List.getElem?_map, List.getElem?_range hm]
    show s (n + (i - n) % L) = s i
    have pk : ∀ k j, n ≤ j → s (j + L * k) = s j := by
      intro k
      induction k with
      | zero => intro j _; rfl
      | succ k ih =>
        intro j hj
        rw [Nat.mul_succ, ← Nat.add_assoc, per _ (by omega), ih j hj]
    have e := pk ((i - n) / L) (n + (i - n) % L) (by omega)
    rw [← e]
    congr 1
    have := Nat.mod_add_div (i - n) L
    omega
theorem wAt_mem {A T : List Int} {z : Int} (h : z ∈ A ∨ z ∈ T) : ∃ i, wAt A T i = z := by
  rcases h with h | h
  · obtain ⟨i, hi, rfl⟩ := List.mem_iff_getElem.mp h
    refine ⟨i, ?_⟩
    unfold wAt
    rw [if_pos hi, List.getD_eq_getElem?_getD, List.getElem?_eq_getElem hi]
    rfl
  · obtain ⟨i, hi, rfl⟩ := List.mem_iff_getElem.mp h
    refine ⟨A.length + i, ?_⟩
    unfold wAt pAt
    rw [if_neg (by omega), Nat.add_sub_cancel_left, Nat.mod_eq_of_lt hi, List.getD_eq_getElem?_getD, List.getElem?_eq_getElem hi]
    rfl
theorem zero_round {A T : List Int} {n : Nat} (N : Normal A T) (h : ∀ i, n ≤ i → wAt A T i = 0) : T = [0] := by
  have p0 : Prim [0] := ⟨by decide, fun m m0 ml => by simp at ml; omega⟩
  refine pAt_inj N.1 p0 fun i => ?_
  have tp := List.length_pos_iff.mpr N.1.1
  have e1 : pAt T i = wAt A T (A.length + i) := by
    unfold wAt
    rw [if_neg (by omega), Nat.add_sub_cancel_left]
  have e2 := wAt_rounds (A := A) (T := T) (i := A.length + i) (by omega) n
  have e3 : n ≤ A.length + i + T.length * n := by
    have := Nat.le_mul_of_pos_left n tp
    omega
  rw [e1, ← e2, h _ e3]
  unfold pAt
  rw [List.length_singleton, Nat.mod_one]
  rfl
/-- all but lists and tables stays -/
def Nl (G G' : Hp) : Prop := ∀ b o, G b = some o → (∀ xs, o ≠ .lst xs) → (∀ ps, o ≠ .tbl ps) → G' b = some o
theorem Nl.refl (G : Hp) : Nl G G := fun _ _ e _ _ => e
theorem Nl.trans {G1 G2 G3 : Hp} (h : Nl G1 G2) (h' : Nl G2 G3) : Nl G1 G3 := fun b o e n m => h' b o (h b o e n m) n m
theorem Nl.same {G G' : Hp} (s : Same G G') : Nl G G' := fun b o e _ _ => s b o e
theorem Nl.but {G G' : Hp} {p : Addr} {xs : List V} (hp : G p = some (.lst xs)) (bt : But p G G') : Nl G G' := fun b o e n _ => bt b o (fun z => by
  rw [z, hp] at e
  exact n _ (Option.some.inj e).symm) e
theorem Nl.ext {G G' : Hp} (h : ExtN G G') : Nl G G' := fun b o e _ m => h b o e m
theorem Nl.put {G : Hp} {p : Addr} {xs ys : List V} (hp : G p = some (.lst xs)) : Nl G (upd G p (.lst ys)) := Nl.but hp (But.refl p G).put
theorem Nl.tup {G G' : Hp} (h : Nl G G') {b : Addr} {xs : List V} (e : G b = some (.tup xs)) : G' b = some (.tup xs) := h b _ e (fun _ z => by cases z) fun _ z => by cases z
theorem Nl.ins {G G' : Hp} (h : Nl G G') {b C dx : Addr} {fs : List (Str × V)} (e : G b = some (.ins C dx fs)) : G' b = some (.ins C dx fs) := h b _ e (fun _ z => by cases z) fun _ z => by cases z
/-- a rule that stands, by its moduli and its weights; how many places ahead and in the round there are at most -/
structure BankRule (C : Addr) (H : Hp) (x : Addr) (ms : List Int) (w : Nat → Int) (na nt : Nat) : Prop where
  ok : okMod (some (ms.map V.int)) = true
  mo : Mods ms
  rg : ∀ i, 0 ≤ w i ∧ w i < prodI ms
  at_ : ∃ A T, RuleAt C H x (ms.map V.int) A T ∧ Normal A T ∧ A.length + T.length ≤ 24 ∧ (∀ i, wAt A T i = w i) ∧ A.length ≤ na ∧ T.length ≤ nt
section
variable {C : Addr} {H G : Hp} {x : Addr} {ms : List Int} {w : Nat → Int} {na nt : Nat}
theorem BankRule.same (h : BankRule C H x ms w na nt) (s : Same H G) : BankRule C G x ms w na nt :=
  ⟨h.ok, h.mo, h.rg, let ⟨A, T, hR, r⟩ := h.at_; ⟨A, T, hR.same s, r⟩⟩
theorem BankRule.but {p l : Addr} {ns : List Int} {a b : Int} (h : BankRule C H x ms w na nt) (P : PenAt H p l ns a b) (bt : But p H G) : BankRule C G x ms w na nt := by
  obtain ⟨A, T, ⟨dx, qm, qa, qt, h1, h2, h3, h4⟩, r⟩ := h.at_
  refine ⟨h.ok, h.mo, h.rg, A, T, ⟨dx, qm, qa, qt, bt _ _ (fun z => ?_) h1, tup_but P bt h2, tup_but P bt h3, tup_but P bt h4⟩, r⟩
  have := P.pen
  rw [← z, h1] at this
  cases this
theorem BankRule.butL {D : Addr} {xs : List V} (h : BankRule C H x ms w na nt) (e : H D = some (.lst xs)) (bt : But D H G) : BankRule C G x ms w na nt := by
  obtain ⟨A, T, ⟨dx, qm, qa, qt, h1, h2, h3, h4⟩, r⟩ := h.at_
  have n : ∀ {b : Addr} {o : HO}, H b = some o → (∀ xs, o ≠ .lst xs) → b ≠ D := fun e1 no z => by
    rw [z, e] at e1
    exact no _ (Option.some.inj e1).symm
  exact ⟨h.ok, h.mo, h.rg, A, T, ⟨dx, qm, qa, qt, bt _ _ (n h1 fun _ z => by cases z) h1, bt _ _ (n h2 fun _ z => by cases z) h2, bt _ _ (n h3 fun _ z => by cases z) h3, bt _ _ (n h4 fun _ z => by cases z) h4⟩, r⟩
theorem BankRule.ext (h : BankRule C H x ms w na nt) (e : ExtN H G) : BankRule C G x ms w na nt := by
  obtain ⟨A, T, ⟨dx, qm, qa, qt, h1, h2, h3, h4⟩, r⟩ := h.at_
  exact ⟨h.ok, h.mo, h.rg, A, T, ⟨dx, qm, qa, qt, e _ _ h1 (fun _ z => by cases z), e _ _ h2 (fun _ z => by cases z), e _ _ h3 (fun _ z => by cases z), e _ _ h4 (fun _ z => by cases z)⟩, r⟩
theorem BankRule.nl (h : BankRule C H x ms w na nt) (n : Nl H G) : BankRule C G x ms w na nt := by
  obtain ⟨A, T, ⟨dx, qm, qa, qt, h1, h2, h3, h4⟩, r⟩ := h.at_
  exact ⟨h.ok, h.mo, h.rg, A, T, ⟨dx, qm, qa, qt, n.ins h1, n.tup h2, n.tup h3, n.tup h4⟩, r⟩
theorem BankRule.weights {w' : Nat → Int} (h : BankRule C H x ms w na nt) (e : ∀ i, w i = w' i) : BankRule C H x ms w' na nt := by
  rw [← show w = w' from funext e]
  exact h
theorem BankRule.ins (h : BankRule C H x ms w na nt) : ∃ dx fs, H x = some (.ins C dx fs) := by
  obtain ⟨A, T, ⟨dx, _, _, _, h1, _⟩, _⟩ := h.at_
  exact ⟨dx, _, h1⟩
/-- .. with its fields by name -/
theorem BankRule.insF (h : BankRule C H x ms w na nt) : ∃ dx m a t, H x = some (.ins C dx (flds m a t)) := by
  obtain ⟨A, T, ⟨dx, _, _, _, h1, _⟩, _⟩ := h.at_
  exact ⟨dx, _, _, _, h1⟩
theorem inB_of {A T : List Int} (rg : ∀ i, 0 ≤ w i ∧ w i < prodI ms) (e : ∀ i, wAt A T i = w i) : InB ms A ∧ InB ms T := by
  have key : ∀ z, z ∈ A ∨ z ∈ T → 0 ≤ z ∧ z ≤ prodV (ms.map V.int) - 1 := fun z hz => by
    obtain ⟨i, ei⟩ := wAt_mem hz
    have := rg i
    rw [← e, ei] at this
    rw [prodV_map]
    omega
  exact ⟨fun z hz => key z (.inl hz), fun z hz => key z (.inr hz)⟩
/-- what comes of weights ahead and in a round -/
theorem out_ok {CT : Addr} {A T : List Int} {Q : VK} {E : XK} (ok : okMod (some (ms.map V.int)) = true) (mo : Mods ms) (rg : ∀ i, 0 ≤ wAt A T i ∧ wAt A T i < prodI ms) (ne : T ≠ []) (l : A.length + T.length ≤ 24)
    (k : ∀ H' x, Same H H' → BankRule C H' x ms (wAt A T) A.length T.length → Q (.ref x) H') : RuleOut CT C H (ms.map V.int) A T Q E := by
  obtain ⟨nA, nS, nl1, nl2⟩ := normW_ok (A := A) ne
  exact ⟨fun big => absurd big (by omega), fun _ H' x s R => k H' x s ⟨ok, mo, rg, _, _, R, nA, by omega, nS, nl1, nl2⟩⟩
variable {CR CN CT : Addr} {K : PySem.W.Frag} {Q : VK} {E : XK}
theorem call_ok {i : Int} {a : Nat} (h : BankRule C H x ms w na nt) (e : i = (a : Int)) (hl : a.log2 < 9000) (k : ∀ H', Same H H' → Q (.int (bankW ms w a)) H') : (∃ dx fs, H x = some (.ins C dx fs)) ∧ spCall CN C K [.ref x, .int i] H Q E := by
  subst e
  obtain ⟨A, T, hR, N, l24, hw, _⟩ := h.at_
  refine ⟨h.ins, x, .int (a : Int), "int", ms, A, T, rfl, hR, h.mo, N.1.1, l24, .int _, fun no => ?_, fun b eb => ?_⟩
  · rw [show numV (.int (a : Int)) = true from decide_eq_true (show 0 ≤ (a : Int) by omega)] at no
    cases no
  · obtain rfl : a = b := by
      have := V.int.inj eb
      omega
    refine ⟨hl, fun H' s => ?_⟩
    rw [bankW_congr hw]
    exact k H' s
theorem eq_ok {y : Addr} {w2 : Nat → Int} {na2 nt2 : Nat} (h : BankRule C H x ms w na nt) (h2 : BankRule C H y ms w2 na2 nt2) (e : ∀ i, w i = w2 i) (k : ∀ H', Same H H' → Q (.bl true) H') : spRuleEq C [.ref x, .ref y] H Q E := by
  obtain ⟨A, T, hR, N, l24, hw, la, lt⟩ := h.at_
  obtain ⟨A2, T2, hR2, N2, l242, hw2, la2, lt2⟩ := h2.at_
  obtain ⟨eA, eT⟩ := norm_uniq N N2 fun i => by rw [hw, hw2, e]
  refine ⟨x, ms, A, T, .ref y, rfl, hR, .inl ⟨y, ms, A2, T2, rfl, hR2, fun H' s => ?_⟩⟩
  rw [decide_eq_true (show ms = ms ∧ A = A2 ∧ T = T2 from ⟨rfl, eA, eT⟩)]
  exact k H' s
end
end Toy
set_option maxRecDepth 100000
namespace L2
open PySem PySem.Spec PyProof.Rows
/-! str of an instance with a text of its own -/
def rStrI (C : Addr) (sp : Sp) (E : XK) : List V → Hp → VK → Prop := fun xs H Q => ∃ (a dx : Addr) (fs : List (Str × V)), xs = [V.ref a] ∧ H a = some (.ins C dx fs) ∧ sp [V.ref a] H (fun v H' => ∃ z, v = V.str z ∧ Q (V.str z) H') E
section
variable {X : Cx} {CX : CXT} {n : Nat} {C f : Addr} {fd : FuncData} {ps : List Str} {sp : Sp} {E : XK}
theorem own_code1 {A : Around} {pins : List (Addr × Obj)} {σ : St} {H : Hp} {s : Shared} {a : Addr} {Q : VK} (F : FnOk X.prog X.w X.K X.mg X.base CX n f fd ps sp) (hb : Binds X.K fd ps []) (hr : Room n A) (fr : A.frames = X.A.frames) (hx : Passes CX X E) (I : Inv X pins σ H s)
    (h : sp [.ref a] H Q E) : codeAny (model X.prog X.w) A (.call (.ref f) ⟨[.ref a], []⟩) (fun r s' => match r with
      | .ok (.ret v) => EP X pins σ Q v s'
      | .ok _ => False
      | .error e => X.xe e s') s := by
  have e0 : Env0 X.prog X.w X.K X.mg X.base A X.stack s H := by
    have e := I.env0
    exact ⟨by rw [fr]; exact e.frames, e.mod, e.bs, e.bsz, e.funs, e.frf, e.hok, e.bare⟩
  have hl := F.len _ _ _ _ h
  have r2 : Vals [V.ref a] [Value.ref a] := .cons rfl .nil
  refine codeAny_mono (F.run A X.stack s H ⟨[.ref a], []⟩ [.ref a] [.ref a] _ E hr e0 (by
    have := hb s [.ref a] I.kIn (by simpa using hl)
    simpa using this) r2 h) fun r s' hq => ?_
  cases r with
  | error e => exact hx pins σ H s e s' I hq
  | ok fl =>
    cases fl with
    | ret w => exact I.after hq
    | next => exact False.elim hq
    | brk => exact False.elim hq
    | cont => exact False.elim hq
theorem call_strI (F : FnOk X.prog X.w X.K X.mg X.base CX n f fd ps sp) (hb : Binds X.K fd ps []) (hr : Room (n + 1) X.A) (h1 : PySem.W.findIn X.K (.ref C) "__str__" = some (some (.ref f))) (h2 : PySem.W.isFn X.K (.ref f) = true) (hx : Passes CX X E) : CallR X (.type "str") (rStrI C sp E) := by
  intro pins s σ H xs us Q I r hq
  obtain ⟨a, dx, fs, rfl, ha, hsp⟩ := hq
  cases r with
  | cons r rr =>
    cases rr
    cases r
    obtain ⟨mA, J, _⟩ := ins_get I.hok ha
    obtain ⟨od, J, _⟩ := J.look
    have hr2 : Room n X.A.in1.in1 := ⟨hr.hd, by have := hr.dp; show X.A.depth + 3 * n + 5 < _; omega, by have := hr.un; show X.A.units + 1 + 1 + 16 * n + 200 < _; omega⟩
    refine PySem.W.kso_call (by have := hr2.un; omega) I.kIn J h1 h2 (wpAny_call (codeAny_mono (own_code1 F hb hr2 rfl hx I hsp) fun r s' z => ?_))
    cases r with
    | error e => exact z
    | ok fl =>
      cases fl with
      | ret w =>
        obtain ⟨v, H', I', rz, y, rfl, q⟩ := z
        obtain ⟨t, rfl⟩ := (show ∃ t, w = Value.str y t from rz)
        exact ⟨.str y, H', I', ⟨t, rfl⟩, q⟩
      | next => exact z.elim
      | brk => exact z.elim
      | cont => exact z.elim
end
/-- what the top has written of a class with a text of its own -/
def strB (K : PySem.W.Frag) (C : Addr) : Bool := He.eqO (PySem.W.findIn K (.ref C) "__str__") (some (some (.ref (He.ma K C "__str__")))) && PySem.W.isFn K (.ref (He.ma K C "__str__"))
theorem str_of {K : PySem.W.Frag} {C : Addr} (h : strB K C = true) : PySem.W.findIn K (.ref C) "__str__" = some (some (.ref (He.ma K C "__str__"))) ∧ PySem.W.isFn K (.ref (He.ma K C "__str__")) = true := by
  obtain ⟨h1, h2⟩ := He.ba h
  exact ⟨He.eqO_ok h1, h2⟩
end L2
set_option maxRecDepth 100000
namespace Toy
open PySem L2 LamX Dg
/-! texts of rules -/
abbrev s_spaced : Stmt := top 27
abbrev s_Rule___str__ : Stmt := (inClass (top 36) 5)
def shownS (ns : List Int) : List Str := ns.map fun z => (toString z : Str)
def spacedS (ns : List Int) : Str := if ns = [] then "-" else Txt.join " " (shownS ns)
def ruleTxt (ms as ts : List Int) : Str := Str.empty ++ "moduli " ++ spacedS ms ++ " ahead " ++ spacedS as ++ " round " ++ spacedS ts
def FitS (ns : List Int) : Prop := ns.length ≤ 300 ∧ (∀ z ∈ ns, z.natAbs < 1000000) ∧ ((shownS ns).map (·.length)).sum + (shownS ns).length * (Str.ofString " ").length ≤ 16777216 ∧ (spacedS ns).length ≤ 4000
def spSpaced : Sp := fun vs H Q _ => ∃ (a : Addr) (ns : List Int), vs = [.ref a] ∧ H a = some (.tup (ns.map V.int)) ∧ FitS ns ∧ ∀ H', Same H H' → Q (.str (spacedS ns)) H'
def spStr (C : Addr) : Sp := fun vs H Q _ => ∃ (p : Addr) (ms as ts : List Int), vs = [.ref p] ∧ RuleAt C H p (ms.map V.int) as ts ∧ FitS ms ∧ FitS as ∧ FitS ts ∧ ∀ H', Same H H' → Q (.str (ruleTxt ms as ts)) H'
section
variable {P : Program} {w : World} {K : PySem.W.Frag} {mg : Str → Option Value} {base : Heap} {CR CN CT uR uN uT : Addr} {fdR fdN fdT : FuncData} {C pc pb gc gb : Addr}
abbrev N_spaced : List Str := ["numbers", "number"]
theorem sc_spaced : FnScope N_spaced ["numbers"] (defScope s_spaced) := ⟨rfl, rfl, rfl, by decide +kernel, rfl, by decide +kernel, by decide +kernel⟩
theorem ok_spaced {f : Addr} {fd : FuncData} (F : Fun K "spaced" "spaced" s_spaced f fd) (T : TR mg) (m_str : mg "str" = none) : FnOk P w K mg base CX0 1 f fd ["numbers"] spSpaced := by
  refine F.ok sc_spaced (fun vs H Q E h => ?_) (fun cdv A outer s H vs Q E hr h => ?_)
  · obtain ⟨a, ns, rfl, _⟩ := h
    rfl
  · obtain ⟨a, ns, rfl, hH, ⟨l, sm, jl, jz⟩, k⟩ := h
    refine ⟨_, (pss_one (ps_ret (pe_ifExp (pt_truth (pv 0) (fun _ => rfl)) (pe_m1 PySem.F.slot_str_join PySem.F.type_str_join mt_join pe_str (pe_lc (own := [("number", 1)]) (g := (gName 1)) (tt := tYes) rfl sc_spaced.nd (pi_tup (pv 0)) (blkOk_by (N := N_spaced) (sc := defScope s_spaced) (by decide +kernel)) (fun _ _ _ _ _ => (pg_name (i := 1) sc_spaced.nd rfl (Or.inl rfl))) (fun _ _ _ _ _ => pts_nil) (fun _ _ _ _ _ => (pe_callTy call_str_int (by rfl) m_str (by decide +kernel) (pa_cons (pv 1) pa_nil))))) pe_str))), ?_⟩
    have tru : TruV K (.ref a) H (!ns.isEmpty) := .inr (.inl ⟨ns.map V.int, SqT.of hH, by cases ns <;> rfl⟩)
    refine ⟨_, rfl, _, tru, ?_⟩
    cases ns with
    | nil => exact k H (Same.refl H)
    | cons n ns =>
      refine ite2 (fun _ => ?_) (fun c => absurd rfl c)
      refine ⟨⟨_, rfl⟩, _, rfl, a, rfl, ⟨_, SqT.of hH⟩, fun D hD => ?_⟩
      have vD := Same.lay (o := .lst []) hD
      have nD : ∀ {b : Addr} {o : HO}, H b = some o → b ≠ D := fun e => ne_of_none e hD
      refine lc_it (walk_tup (xs := (n :: ns).map V.int)) (fun i G => But D (upd H D (.lst [])) G ∧ G D = some (.lst ((shownS ((n :: ns).take i)).map V.str))) ⟨But.refl _ _, upd_same⟩ (fun i G _ h => SqT.of (h.1 _ _ (nD hH) (vD _ _ hH))) ?_ ?_
      · rintro i v G G' hi ⟨bt, hG⟩ ⟨rfl, hx⟩
        rw [List.getElem?_map] at hx
        obtain ⟨z, hz, rfl⟩ := Option.map_eq_some_iff.mp hx
        refine ⟨rfl, _, rfl, _, rfl, ?_, _, hG, small1000 (by unfold shownS; rw [List.length_map, List.length_map, List.length_take]; omega), bt.put, ?_⟩
        · have := sm z (List.mem_of_getElem? hz)
          have h2 := Nat.log2_lt (n := z.natAbs) (k := 20)
          by_cases c : z.natAbs = 0
          · rw [c]; decide
          · have := (h2 c).mpr (by omega)
            omega
        · rw [upd_same, List.take_add_one, hz]
          unfold shownS
          rw [List.map_append, List.map_append]
          rfl
      · rintro G ⟨bt, hG⟩
        rw [List.length_map, List.take_length] at hG
        exact ⟨_, D, _, rfl, rfl, .inl (SqL.of hG), jl, k G fun b o e => bt b o (nD e) (vD _ _ e)⟩
abbrev N_Rule___str__ : List Str := ["self"]
theorem sc_Rule___str__ : FnScope N_Rule___str__ ["self"] (defScope s_Rule___str__) := ⟨rfl, rfl, rfl, by decide +kernel, rfl, by decide +kernel, by decide +kernel⟩
theorem ok_Rule_str {f fSp : Addr} {fd fdSp : FuncData} (F : Fun K "__str__" "Rule.__str__" s_Rule___str__ f fd) (TU : TRule K mg C pc pb gc gb)
    (GSp : FnOk P w K mg base CX0 1 fSp fdSp ["numbers"] spSpaced) (gSp : mg "spaced" = some (.ref fSp)) (kSp : PySem.W.keepIn K (.ref fSp) = true) (bSp : Binds K fdSp ["numbers"] []) : FnOk P w K mg base CX0 2 f fd ["self"] (spStr C) := by
  refine F.ok sc_Rule___str__ (fun vs H Q E h => ?_) (fun cdv A outer s H vs Q E hr h => ?_)
  · obtain ⟨p, ms, as, ts, rfl, _⟩ := h
    rfl
  · obtain ⟨p, ms, as, ts, rfl, hR, f1, f2, f3, k⟩ := h
    have hrQ : Room 1 _ := hr
    obtain ⟨dx, pm, pa, pt, h1, h2, h3, h4⟩ := id hR
    refine ⟨_, (pss_one (ps_ret (pe_joined (PJ.cons pe_str (PJ.cons (pe_fmt (pe_call GSp hrQ rfl gSp kSp bSp .nil pass0 (pa_cons (pe_fld (pv 0) rfl) pa_nil))) (PJ.cons pe_str (PJ.cons (pe_fmt (pe_call GSp hrQ rfl gSp kSp bSp .nil pass0 (pa_cons (pe_fld (pv 0) rfl) pa_nil))) (PJ.cons pe_str (PJ.cons (pe_fmt (pe_call GSp hrQ rfl gSp kSp bSp .nil pass0 (pa_cons (pe_fld (pv 0) rfl) pa_nil))) PJ.nil))))))))), ?_⟩
    have z1 := f1.2.2.2
    have z2 := f2.2.2.2
    have z3 := f3.2.2.2
    have sz : PySem.sizeLine = 16777216 := rfl
    have e1 : (Str.empty ++ ("moduli " : Str)).length = 7 := by decide +kernel
    have e2 : (" ahead " : Str).length = 7 := by decide +kernel
    have e3 : (" round " : Str).length = 7 := by decide +kernel
    refine ⟨_, rfl, by omega, _, rfl, p, C, dx, _, _, rfl, h1, TU.cl, TU.nM, flds_m _ _ _, pm, ms, rfl, h2, f1, fun G1 s1 => .inl ⟨_, rfl, by omega, _, rfl, ?_, _, rfl, ?_, ?_⟩⟩
    · rw [Str.length_append]; omega
    · rw [Str.length_append, Str.length_append]; omega
    refine ⟨_, rfl, p, C, dx, _, _, rfl, s1 _ _ h1, TU.cl, TU.nA, flds_a _ _ _, pa, as, rfl, s1 _ _ h3, f2, fun G2 s2 => .inl ⟨_, rfl, by omega, _, rfl, ?_, _, rfl, ?_, ?_⟩⟩
    · rw [Str.length_append, Str.length_append, Str.length_append]; omega
    · rw [Str.length_append, Str.length_append, Str.length_append, Str.length_append]; omega
    refine ⟨_, rfl, p, C, dx, _, _, rfl, s2 _ _ (s1 _ _ h1), TU.cl, TU.nT, flds_t _ _ _, pt, ts, rfl, s2 _ _ (s1 _ _ h4), f3, fun G3 s3 => .inl ⟨_, rfl, by omega, _, rfl, ?_, ?_⟩⟩
    · rw [Str.length_append, Str.length_append, Str.length_append, Str.length_append, Str.length_append]; omega
    exact k G3 fun _ _ z => s3 _ _ (s2 _ _ (s1 _ _ z))
end
end Toy
set_option maxRecDepth 100000
namespace Toy
open PySem L2 LamX Dg
theorem per_le {t : List Int} {n : Nat} (hn : n ∈ divs t) (ok : perOk t n = true) : per t ≤ n := by
  have hs := (divs_sorted t).filter (perOk t)
  have hm : n ∈ (divs t).filter (perOk t) := List.mem_filter.mpr ⟨hn, ok⟩
  unfold per
  cases e : (divs t).filter (perOk t) with
  | nil =>
    rw [e] at hm
    cases hm
  | cons m r =>
    rw [e] at hm hs
    rcases List.mem_cons.mp hm with z | z
    · exact Nat.le_of_eq z.symm
    · exact Nat.le_of_lt (List.rel_of_pairwise_cons hs z)
theorem divs_mem {t : List Int} {n : Nat} (h1 : 1 ≤ n) (h2 : n ≤ t.length) (h3 : t.length % n = 0) : n ∈ divs t := by
  unfold divs divsTo
  refine List.mem_filter.mpr ⟨List.mem_map.mpr ⟨n - 1, List.mem_range.mpr (by omega), by omega⟩, decide_eq_true h3⟩
theorem norm_len {A T : List Int} (ne : T ≠ []) : (normW A T).2.length = per T := by
  obtain ⟨p1, _, p3⟩ := per_prim ne
  obtain ⟨_, _, _, l⟩ := trimW_ok A.length A (T.take (per T)) (Nat.le_refl _) p1
  show (trimW A.length A (T.take (per T))).2.length = _
  rw [l, List.length_take]
  omega
theorem per4_le {A T : List Int} (ne : T ≠ []) (h : Per4 T) : (normW A T).2.length ≤ 4 := by
  rw [norm_len ne]
  obtain ⟨u, l4, e⟩ := h
  have tp := List.length_pos_iff.mpr ne
  have pl := (per_prim ne).2.2
  rcases e with e | e
  · rw [e] at pl ⊢
    omega
  · have lu : T.length = u.length + u.length := by rw [e, List.length_append]
    have u0 : 0 < u.length := by omega
    refine Nat.le_trans (per_le (n := u.length) (divs_mem u0 (by omega) (by rw [lu]; rw [Nat.add_mod_right, Nat.mod_self])) ?_) l4
    unfold perOk
    refine decide_eq_true ?_
    have d2 : T.length / u.length = 2 := by
      rw [lu, show u.length + u.length = u.length * 2 by omega, Nat.mul_div_cancel_left _ u0]
    have tk : T.take u.length = u := by
      rw [e, List.take_left']
      rfl
    rw [d2, tk, e]
    simp
/-- a rule made of parts that stand -/
theorem made_okB {CR CT C x dx : Addr} {K : PySem.W.Frag} {G : Hp} {am aa at_ : Addr} {ms A T : List Int} {nt : Nat} {Q : VK} {E : XK} (nx : G x = none) (ndx : G dx = none) (em : SeqAt G am (ms.map V.int)) (ea : SeqAt G aa (A.map V.int)) (et : SeqAt G at_ (T.map V.int))
    (hm : okMod (some (ms.map V.int)) = true) (hM : Mods ms) (ha : InB ms A) (ht : InB ms T) (ne : T ≠ []) (l : A.length + nt ≤ 24) (lt : T.length ≤ 300) (pn : (normW A T).2.length ≤ nt)
    (k : ∀ H', Same G H' → BankRule C H' x ms (wAt A T) A.length nt → Q .non H') : spInit CR CT C K [.ref x, .ref am, .ref aa, .ref at_] (upd (upd G dx (.own x)) x (.ins C dx [])) Q E := by
  obtain ⟨nA, nS, nl1, nl2⟩ := normW_ok (A := A) ne
  refine init_ok (A := noA) nx ndx (argA_mods em (fun z => z) hm) (argA_ints ea (fun z => z) (by omega)) (argA_ints et (fun z => z) lt) (ruleErr_ok hm ha ht ne) (fun big => absurd big (by omega)) (fun _ H2 s2 R2 => k H2 s2 ⟨hm, hM, fun i => ?_, _, _, R2, nA, by omega, nS, nl1, pn⟩)
  have mem : ∀ {l : List Int} {j : Nat}, InB ms l → j < l.length → 0 ≤ l.getD j 0 ∧ l.getD j 0 < prodI ms := fun {l j} hl hj => by
    rw [List.getD_eq_getElem?_getD, List.getElem?_eq_getElem hj]
    have := hl _ (List.getElem_mem hj)
    rw [prodV_map] at this
    show 0 ≤ l[j] ∧ l[j] < prodI ms
    omega
  unfold wAt pAt
  split
  · rename_i c
    exact mem ha c
  · exact mem ht (Nat.mod_lt _ (List.length_pos_iff.mpr ne))
theorem inB_all {ms l : List Int} (h : l.all (fun z => decide (0 ≤ z ∧ z ≤ prodV (ms.map V.int) - 1)) = true) : InB ms l := fun z hz => of_decide_eq_true (List.all_eq_true.mp h z hz)
theorem log_far {z : Int} (h0 : 0 ≤ z) (h : z ≤ 10 ^ 39) : z.natAbs.log2 < 9000 := by
  have e : z.natAbs ≤ 10 ^ 39 := by omega
  by_cases c : z.natAbs = 0
  · rw [c]
    decide
  · exact Nat.lt_trans ((Nat.log2_lt c).mpr (Nat.lt_of_le_of_lt e (show 10 ^ 39 < 2 ^ 130 by decide +kernel))) (by decide)
end Toy
set_option maxRecDepth 100000
namespace Toy
open PySem L2 LamX Dg
/-! the least places by comparing slices -/
abbrev s__law_places : Stmt := top 42
def hitP (ws : List Int) (f m : Nat) : Bool := decide ((ws.drop f).take (ws.length - m - f) = ws.drop (f + m))
def stepP (ws : List Int) (f : Nat) (best : Int) (m : Nat) : Int := if decide (((f + m : Nat) : Int) < best) && hitP ws f m then ((f + m : Nat) : Int) else best
def rowP_ (ws : List Int) (f : Nat) (best : Int) (j : Nat) : Int := (List.range j).foldl (fun b i => stepP ws f b (i + 1)) best
def placesP (ws : List Int) (i : Nat) : Int := (List.range i).foldl (fun b f => rowP_ ws f b 28) 99
theorem rowP_succ (ws : List Int) (f : Nat) (best : Int) (j : Nat) : rowP_ ws f best (j + 1) = stepP ws f (rowP_ ws f best j) (j + 1) := by
  unfold rowP_
  rw [List.range_succ, List.foldl_append]
  rfl
theorem placesP_succ (ws : List Int) (i : Nat) : placesP ws (i + 1) = rowP_ ws i (placesP ws i) 28 := by
  unfold placesP
  rw [List.range_succ, List.foldl_append, List.foldl_cons, List.foldl_nil]
def spPlaces : Sp := fun vs H Q _ => ∃ (a : Addr) (ws : List Int) (ah : Nat), vs = [.ref a, .int (ah : Int)] ∧ H a = some (.lst (ws.map V.int)) ∧ 60 ≤ ws.length ∧ ws.length ≤ 100 ∧ ah ≤ 20 ∧ ∀ H', Same H H' → Q (.int (placesP ws (ah + 1))) H'
theorem eqv_lsts (a b : List Int) : PyData.eqv (.list (a.map .int)) (.list (b.map .int)) = decide (a = b) := by
  rw [← eqvAll_ints a b]
  rfl
theorem cut_mid {xs : List V} {i j : Nat} (hi : i ≤ xs.length) (hj : j ≤ xs.length) : cutV xs (some (i : Int)) (some (j : Int)) = (xs.drop i).take (j - i) := by
  unfold cutV
  rw [HT.sIx_nat, HT.sIx_nat, Nat.min_eq_left hi, Nat.min_eq_left hj]
section
variable {P : Program} {w : World} {K : PySem.W.Frag} {mg : Str → Option Value} {base : Heap}
abbrev N__law_places : List Str := ["_law_weights", "_law_ahead", "_law_best", "_law_first", "_law_many"]
theorem sc__law_places : FnScope N__law_places ["_law_weights", "_law_ahead"] (defScope s__law_places) := ⟨rfl, rfl, rfl, by decide +kernel, rfl, by decide +kernel, by decide +kernel⟩
theorem ok__law_places {f : Addr} {fd : FuncData} (F : Fun K "_law_places" "_law_places" s__law_places f fd) (T : TR mg) : FnOk P w K mg base CX0 1 f fd ["_law_weights", "_law_ahead"] spPlaces := by
  refine F.ok sc__law_places (fun vs H Q E h => ?_) (fun cdv A outer s H vs Q E hr h => ?_)
  · obtain ⟨a, ws, ah, rfl, _⟩ := h
    rfl
  · obtain ⟨a, ws, ah, rfl, hH, l1, l2, ha, k⟩ := h
    refine ⟨_, (pss_cons (ps_set (i := 2) sc__law_places.nd rfl (Or.inl rfl) pe_int)
 (pss_cons (ps_for PassesOwn.never rfl (pi_range1 rfl T.m_range (pa_cons (pe_op op_add (pv 1) pe_int) pa_nil)) (pg_name (i := 3) sc__law_places.nd rfl (Or.inl rfl))
 (pss_one (ps_for PassesOwn.never rfl (pi_range2 rfl T.m_range (pa_cons pe_int (pa_cons pe_int pa_nil))) (pg_name (i := 4) sc__law_places.nd rfl (Or.inl rfl))
 (pss_one (ps_if (PW.pt (pw_and (pt_cmpR op_lt (pe_op op_add (pv 3) (pv 4)) (pv 2) (nomark _)) (pw_and1 (pt_cmpR (op_eqD hr.units) (pe_slice sl_list (pv 0) (po_some (pv 3)) (po_some (pe_op op_sub (pe_callB call_len_seq (by rfl) T.m_len (by decide +kernel) (pa_cons (pv 0) pa_nil)) (pv 4)))) (pe_slice sl_list (pv 0) (po_some (pe_op op_add (pv 3) (pv 4))) po_none) (nomark _))))) (pss_one (ps_set (i := 2) sc__law_places.nd rfl (Or.inl rfl) (pe_op op_add (pv 3) (pv 4)))) pss_nil)))))
 (pss_one (ps_ret (pv 2))))), ?_⟩
    refine ⟨_, rfl, _, _, rfl, rfl, _, rfl, by omega, by omega, for_it walk_range (fun i σ G => ∃ u3 u4 : Option V, σ = [some (.ref a), some (.int (ah : Int)), some (.int (placesP ws i)), u3, u4] ∧ Same H G) ⟨none, none, rfl, Same.refl H⟩ (fun _ _ _ _ _ => trivial) ?_ ?_⟩
    · rintro i v σ G G' hi ⟨u3, u4, rfl, sG⟩ ⟨rfl, hv⟩
      have hi2 : i ≤ 20 := by omega
      obtain rfl : v = V.int (i : Int) := hv.trans (congrArg V.int (Int.zero_add _))
      refine ⟨1, 29, rfl, by decide, for_it walk_range (fun j σ G => ∃ u4 : Option V, σ = [some (.ref a), some (.int (ah : Int)), some (.int (rowP_ ws i (placesP ws i) j)), some (.int (i : Int)), u4] ∧ Same H G) ⟨_, rfl, sG⟩ (fun _ _ _ _ _ => trivial) ?_ ?_⟩
      · rintro j v σ G G' hj ⟨u4, rfl, sG2⟩ ⟨rfl, hv⟩
        have hj2 : j < 28 := hj
        obtain rfl : v = V.int ((j + 1 : Nat) : Int) := hv.trans (congrArg V.int (show (1 : Int) + (j : Int) = ((j + 1 : Nat) : Int) by omega))
        have hG := sG2 _ _ hH
        refine ⟨_, rfl, _, rfl, _, _, rfl, rfl, _, rfl, _, _, rfl, rfl, _, rfl, ?_⟩
        have eb : (i : Int) + ((j + 1 : Nat) : Int) = ((i + (j + 1) : Nat) : Int) := by omega
        rw [eb]
        refine ite2 (fun c1 => ?_) (fun c1 => ?_)
        · refine ⟨_, rfl, _, rfl, _, rfl, _, rfl, a, _, rfl, .inl (SqL.of hG), _, rfl, _, _, rfl, rfl, _, rfl, a, _, rfl, SqL.of hG, fun L1 hL1 => ?_⟩
          rw [show (((ws.map V.int).length : Nat) : Int) - ((j + 1 : Nat) : Int) = ((ws.length - (j + 1) : Nat) : Int) by rw [List.length_map]; omega, cut_mid (by rw [List.length_map]; omega) (by rw [List.length_map]; omega), ← List.map_drop, ← List.map_take]
          have s1 := Same.lay (o := .lst (((ws.drop i).take (ws.length - (j + 1) - i)).map V.int)) hL1
          refine ⟨_, rfl, _, rfl, _, rfl, _, _, rfl, rfl, _, rfl, a, _, rfl, SqL.of (s1 _ _ hG), fun L2 hL2 => ?_⟩
          rw [eb, cut_from (by rw [List.length_map]; omega), ← List.map_drop]
          have s2 := Same.lay (o := .lst ((ws.drop (i + (j + 1))).map V.int)) hL2
          refine ⟨.list (((ws.drop i).take (ws.length - (j + 1) - i)).map .int), .list ((ws.drop (i + (j + 1))).map .int), .lst (SqL.of (s2 _ _ upd_same)) (dp_ints' _), .lst (SqL.of upd_same) (dp_ints' _), shaped_ints _, shaped_ints _, _, rfl, ?_⟩
          rw [eqv_lsts]
          have sG3 : Same H _ := fun _ _ z => s2 _ _ (s1 _ _ (sG2 _ _ z))
          refine ite2 (fun c2 => ?_) (fun c2 => ?_)
          · refine ⟨_, rfl, _, rfl, _, _, rfl, rfl, some (.int ((j + 1 : Nat) : Int)), ?_, sG3⟩
            rw [rowP_succ, show stepP ws i (rowP_ ws i (placesP ws i) j) (j + 1) = ((i + (j + 1) : Nat) : Int) from if_pos (by rw [c1]; exact c2), ← eb]
            rfl
          · refine ⟨some (.int ((j + 1 : Nat) : Int)), ?_, sG3⟩
            rw [rowP_succ, show stepP ws i (rowP_ ws i (placesP ws i) j) (j + 1) = rowP_ ws i (placesP ws i) j from if_neg (by rw [c1]; exact c2)]
            rfl
        · refine ⟨some (.int ((j + 1 : Nat) : Int)), ?_, sG2⟩
          rw [rowP_succ, show stepP ws i (rowP_ ws i (placesP ws i) j) (j + 1) = rowP_ ws i (placesP ws i) j from if_neg (fun z => c1 (Bool.and_eq_true_iff.mp z).1)]
          rfl
      · rintro σ G2 ⟨u4', rfl, sG2⟩
        refine ⟨some (.int (i : Int)), u4', ?_, sG2⟩
        rw [placesP_succ]
        rfl
    · rintro σ G ⟨u3, u4, rfl, sG⟩
      rw [show ((ah : Int) + 1).toNat = ah + 1 by omega]
      exact ⟨_, rfl, k G sG⟩
end
end Toy
set_option maxRecDepth 100000
namespace Toy
open PySem L2 LamX Dg
/-! the places found by slices are those of the normal form -/
theorem step_le (ws : List Int) (f : Nat) (b : Int) (m : Nat) : stepP ws f b m ≤ b := by
  unfold stepP
  split
  · rename_i c
    have := of_decide_eq_true (Bool.and_eq_true_iff.mp c).1
    omega
  · exact Int.le_refl _
theorem step_ge {ws : List Int} {f m : Nat} {b c : Int} (h : c ≤ b) (hh : hitP ws f m = true → c ≤ ((f + m : Nat) : Int)) : c ≤ stepP ws f b m := by
  unfold stepP
  split
  · rename_i z
    exact hh (Bool.and_eq_true_iff.mp z).2
  · exact h
theorem step_hit {ws : List Int} {f m : Nat} {b : Int} (hh : hitP ws f m = true) : stepP ws f b m ≤ ((f + m : Nat) : Int) := by
  unfold stepP
  rw [hh, Bool.and_true]
  split
  · exact Int.le_refl _
  · rename_i z
    have : ¬ ((f + m : Nat) : Int) < b := fun y => z (decide_eq_true y)
    omega
theorem row_le (ws : List Int) (f : Nat) (b : Int) : ∀ j, rowP_ ws f b j ≤ b
  | 0 => Int.le_refl _
  | j + 1 => by
    rw [rowP_succ]
    exact Int.le_trans (step_le ..) (row_le ws f b j)
theorem row_ge {ws : List Int} {f : Nat} {b c : Int} (h : c ≤ b) : ∀ j, (∀ m, 1 ≤ m → m ≤ j → hitP ws f m = true → c ≤ ((f + m : Nat) : Int)) → c ≤ rowP_ ws f b j
  | 0, _ => h
  | j + 1, hh => by
    rw [rowP_succ]
    exact step_ge (row_ge h j fun m h1 h2 => hh m h1 (by omega)) (hh (j + 1) (by omega) (by omega))
theorem row_hit {ws : List Int} {f m : Nat} {b : Int} (hh : hitP ws f m = true) (h1 : 1 ≤ m) : ∀ j, m ≤ j → rowP_ ws f b j ≤ ((f + m : Nat) : Int)
  | 0, h => absurd h (by omega)
  | j + 1, h => by
    rw [rowP_succ]
    by_cases c : m = j + 1
    · rw [← c]
      exact step_hit hh
    · exact Int.le_trans (step_le ..) (row_hit hh h1 j (by omega))
theorem places_ge {ws : List Int} {c : Int} (h : c ≤ 99) : ∀ i, (∀ f m, f < i → 1 ≤ m → m ≤ 28 → hitP ws f m = true → c ≤ ((f + m : Nat) : Int)) → c ≤ placesP ws i
  | 0, _ => h
  | i + 1, hh => by
    rw [placesP_succ]
    exact row_ge (places_ge h i fun f m hf => hh f m (by omega)) 28 fun m => hh i m (by omega)
theorem places_hit {ws : List Int} {f m : Nat} (hh : hitP ws f m = true) (h1 : 1 ≤ m) (h28 : m ≤ 28) : ∀ i, f < i → placesP ws i ≤ ((f + m : Nat) : Int)
  | 0, h => absurd h (by omega)
  | i + 1, h => by
    rw [placesP_succ]
    by_cases c : f = i
    · rw [← c]
      exact row_hit hh h1 28 h28
    · exact Int.le_trans (row_le ..) (places_hit hh h1 h28 i (by omega))
theorem hit_iff {W : Nat → Int} {N f m : Nat} (hN : f + m ≤ N) : hitP ((List.range N).map W) f m = true ↔ ∀ i, f ≤ i → i + m < N → W i = W (i + m) := by
  have g : ∀ i, i < N → ((List.range N).map W)[i]? = some (W i) := fun i hi => by rw [List.getElem?_map, List.getElem?_range hi]; rfl
  have ln : ((List.range N).map W).length = N := by rw [List.length_map, List.length_range]
  unfold hitP
  rw [decide_eq_true_iff, ln]
  constructor
  · intro h i hi hm
    have e := congrArg (fun l => l[i - f]?) h
    simp only [List.getElem?_take, List.getElem?_drop] at e
    rw [if_pos (by omega), show f + (i - f) = i by omega, show f + m + (i - f) = i + m by omega, g i (by omega), g (i + m) hm] at e
    exact Option.some.inj e
  · intro h
    refine List.ext_getElem? fun k => ?_
    simp only [List.getElem?_take, List.getElem?_drop]
    by_cases c : k < N - m - f
    · rw [if_pos c, g (f + k) (by omega), show f + m + k = f + k + m by omega, g (f + k + m) (by omega), h (f + k) (by omega) (by omega)]
    · rw [if_neg c, List.getElem?_eq_none (by rw [ln]; omega)]
/-- a sequence that is set by each member from place e on: a fit of slices is a round -/
theorem hit_round {W : Nat → Int} {N f m e : Nat} (step : ∀ i j, e ≤ i → e ≤ j → W i = W j → W (i + 1) = W (j + 1)) (he : e + m < N) (hf : f + m < N) (h : ∀ i, f ≤ i → i + m < N → W i = W (i + m)) : ∀ i, f ≤ i → W (i + m) = W i := by
  have key : ∀ d, W (max f e + d) = W (max f e + d + m) := fun d => by
    induction d with
    | zero => exact h _ (by omega) (by omega)
    | succ d ih => exact (step _ _ (by omega) (by omega) ih).trans (congrArg W (by omega))
  intro i hi
  by_cases c : i < max f e
  · exact (h i hi (by omega)).symm
  · have := key (i - max f e)
    rw [show max f e + (i - max f e) = i by omega] at this
    exact this.symm
theorem places_norm {W : Nat → Int} {A T : List Int} {N ah e : Nat} (nf : Normal A T) (hw : ∀ i, wAt A T i = W i) (step : ∀ i j, e ≤ i → e ≤ j → W i = W j → W (i + 1) = W (j + 1)) (la : A.length ≤ ah) (lt : T.length ≤ 28) (hN : ah + 28 < N) (he : e + 28 < N) (hs : A.length + T.length ≤ 99) :
    placesP ((List.range N).map W) (ah + 1) = ((A.length + T.length : Nat) : Int) := by
  have tp := List.length_pos_iff.mpr nf.1.1
  have hit0 : hitP ((List.range N).map W) A.length T.length = true := (hit_iff (by omega)).mpr fun i hi _ => by
    rw [← hw, ← hw]
    exact (wAt_round hi).symm
  have up := places_hit hit0 (by omega) lt (ah + 1) (by omega)
  have lo : ((A.length + T.length : Nat) : Int) ≤ placesP ((List.range N).map W) (ah + 1) := places_ge (by omega) _ fun f m hf h1 h28 hh => by
    have r := hit_round (W := W) (N := N) step (by omega) (by omega) ((hit_iff (by omega)).mp hh)
    obtain ⟨nA, nS, nl1, nl2⟩ := normW_ok (A := (List.range f).map W) (T := (List.range m).map fun j => W (f + j)) (fun z => by
      have := congrArg List.length z
      rw [List.length_map, List.length_range] at this
      simp at this
      omega)
    obtain ⟨eA, eT⟩ := norm_uniq nf nA fun i => by rw [hw, nS, wAt_made (by omega) (fun i hi => r i hi)]
    rw [List.length_map, List.length_range] at nl1 nl2
    rw [← eA] at nl1
    rw [← eT] at nl2
    omega
  omega
end Toy
set_option maxRecDepth 100000
namespace Toy
open PySem L2 LamX Dg
/-! weights that double: by a number, with a padding -/
theorem mul_mm (a b m : Int) : a * (b % m) % m = a * b % m := by rw [Int.mul_emod, Int.emod_emod, ← Int.mul_emod]
def dblChk (m r : Int) (AT : List Int × List Int) : Bool := decide (AT.2 ≠ []) && (decide (AT.1.length ≤ 5) && (decide (AT.2.length ≤ 28) && (decide (wAt AT.1 AT.2 0 = r) && (List.range (AT.1.length + AT.2.length + 1)).all fun i => decide (wAt AT.1 AT.2 (i + 1) = 2 * wAt AT.1 AT.2 i % m))))
theorem dbl_chk : ∀ m : Nat, m < 33 → ∀ r : Nat, r < m → dblChk (m : Int) (r : Int) (dbl 33 (m : Int) [] (r : Int)) = true := by decide +kernel
theorem dbl_facts {m r : Int} (h2 : 2 ≤ m) (h32 : m ≤ 32) (r0 : 0 ≤ r) (r1 : r < m) : (dbl 33 m [] r).2 ≠ [] ∧ (dbl 33 m [] r).1.length ≤ 5 ∧ (dbl 33 m [] r).2.length ≤ 28 ∧ ∀ i, wAt (dbl 33 m [] r).1 (dbl 33 m [] r).2 i = 2 ^ i * r % m := by
  obtain ⟨mn, rfl⟩ : ∃ n : Nat, m = (n : Int) := ⟨m.toNat, by omega⟩
  obtain ⟨rn, rfl⟩ : ∃ n : Nat, r = (n : Int) := ⟨r.toNat, by omega⟩
  have h := dbl_chk mn (by omega) rn (by omega)
  generalize dbl 33 (mn : Int) [] (rn : Int) = AT at h ⊢
  obtain ⟨A, T⟩ := AT
  unfold dblChk at h
  simp only [Bool.and_eq_true, decide_eq_true_eq] at h
  obtain ⟨ne, lA, lT, z, rec⟩ := h
  have tp := List.length_pos_iff.mpr ne
  have rec' : ∀ n i, i ≤ n → wAt A T (i + 1) = 2 * wAt A T i % (mn : Int) := fun n => by
    induction n with
    | zero =>
      intro i hi
      exact of_decide_eq_true (List.all_eq_true.mp rec i (List.mem_range.mpr (by omega)))
    | succ n ih =>
      intro i hi
      by_cases c : i < A.length + T.length + 1
      · exact of_decide_eq_true (List.all_eq_true.mp rec i (List.mem_range.mpr c))
      · have e1 := wAt_round (A := A) (T := T) (i := i - T.length) (by omega)
        have e2 := wAt_round (A := A) (T := T) (i := i - T.length + 1) (by omega)
        rw [show i - T.length + T.length = i by omega] at e1
        rw [show i - T.length + 1 + T.length = i + 1 by omega] at e2
        rw [e1, e2]
        exact ih _ (by omega)
  refine ⟨ne, lA, lT, fun i => ?_⟩
  induction i with
  | zero =>
    show wAt A T 0 = 2 ^ 0 * (rn : Int) % mn
    rw [z, Int.pow_zero, Int.one_mul, Int.emod_eq_of_lt (by omega) r1]
  | succ i ih =>
    show wAt A T (i + 1) = 2 ^ (i + 1) * (rn : Int) % mn
    rw [rec' i i (Nat.le_refl _), ih, mul_mm, Int.pow_succ]
    congr 1
    rw [← Int.mul_assoc, Int.mul_comm 2]
/-- the bank of one modulus -/
theorem bankW_one {m : Int} (h2 : 2 ≤ m) (h32 : m ≤ 32) (g : Nat → Int) (a : Nat) : bankW [m] (fun i => g i % m) a = dsum g a % m := by
  have hM : Mods [m] := ⟨(by show 1 ≤ 5; decide), fun n hn => by rw [List.mem_singleton.mp hn]; exact ⟨h2, h32⟩⟩
  have l := bankW_lt (w := fun i => g i % m) (a := a) hM
  have p := bankW_pk (w := fun i => g i % m) (a := a) hM (k := 0) (n := m) (by show 0 < 1; decide) rfl
  have e : ∀ x : Int, pk [m] x 0 = x % m := fun x => rfl
  rw [e, dsum_mod (g := g) (fun i => by rw [e, Int.emod_emod, Int.emod_emod])] at p
  rw [← p]
  exact (Int.emod_eq_of_lt l.1 (by
    have : prodI [m] = m := Int.mul_one m
    omega)).symm
def wMod (m : Int) (i : Nat) : Int := 2 ^ i % m
theorem modulo_at {m : Int} (h2 : 2 ≤ m) (h32 : m ≤ 32) : (doubled 1 m).2 ≠ [] ∧ (doubled 1 m).1.length ≤ 5 ∧ (doubled 1 m).2.length ≤ 28 ∧ ∀ i, wAt (doubled 1 m).1 (doubled 1 m).2 i = wMod m i := by
  obtain ⟨h1, h3, h4, h5⟩ := dbl_facts (r := 1 % m) h2 h32 (Int.emod_nonneg _ (by omega)) (Int.emod_lt_of_pos _ (by omega))
  exact ⟨h1, h3, h4, fun i => by rw [show doubled 1 m = dbl 33 m [] (1 % m) from rfl, h5, mul_mm, Int.mul_one]; rfl⟩
theorem modulo_bank {m : Int} (h2 : 2 ≤ m) (h32 : m ≤ 32) (a : Nat) : bankW [m] (wMod m) a = (a : Int) % m := by
  show bankW [m] (fun i => 2 ^ i % m) a = _
  rw [bankW_one h2 h32, dsum_pow]
theorem wMod_step {m : Int} (i j : Nat) (h : wMod m i = wMod m j) : wMod m (i + 1) = wMod m (j + 1) := by
  unfold wMod at *
  rw [Int.pow_succ, Int.pow_succ, Int.mul_emod, h, ← Int.mul_emod]
def gPad (q : Int) (e i : Nat) : Int := 2 ^ i + q * (if i < e then 0 else 2 ^ (i - e))
def wPad (m q : Int) (e i : Nat) : Int := gPad q e i % m
theorem padded_at {m q : Int} {e : Nat} (h2 : 2 ≤ m) (h32 : m ≤ 32) : (doubled (2 ^ e + q) m).2 ≠ [] ∧ (powM m e ++ (doubled (2 ^ e + q) m).1).length ≤ e + 5 ∧ (doubled (2 ^ e + q) m).2.length ≤ 28 ∧ ∀ i, wAt (powM m e ++ (doubled (2 ^ e + q) m).1) (doubled (2 ^ e + q) m).2 i = wPad m q e i := by
  obtain ⟨h1, h3, h4, h5⟩ := dbl_facts (r := (2 ^ e + q) % m) h2 h32 (Int.emod_nonneg _ (by omega)) (Int.emod_lt_of_pos _ (by omega))
  have lp : (powM m e).length = e := by unfold powM; rw [List.length_map, List.length_range]
  refine ⟨h1, by rw [List.length_append, lp]; show _ + (dbl 33 m [] ((2 ^ e + q) % m)).1.length ≤ _; omega, h4, fun i => ?_⟩
  show wAt (powM m e ++ (dbl 33 m [] ((2 ^ e + q) % m)).1) (dbl 33 m [] ((2 ^ e + q) % m)).2 i = _
  unfold wPad gPad
  by_cases c : i < e
  · rw [if_pos c, Int.mul_zero, Int.add_zero]
    unfold wAt
    rw [if_pos (by rw [List.length_append, lp]; omega), List.getD_eq_getElem?_getD, List.getElem?_append_left (by rw [lp]; exact c)]
    unfold powM
    rw [List.getElem?_map, List.getElem?_range c]
    rfl
  · have sh : wAt (powM m e ++ (dbl 33 m [] ((2 ^ e + q) % m)).1) (dbl 33 m [] ((2 ^ e + q) % m)).2 i = wAt (dbl 33 m [] ((2 ^ e + q) % m)).1 (dbl 33 m [] ((2 ^ e + q) % m)).2 (i - e) := by
      unfold wAt
      rw [List.length_append, lp]
      by_cases c2 : i < e + (dbl 33 m [] ((2 ^ e + q) % m)).1.length
      · rw [if_pos c2, if_pos (by omega), List.getD_eq_getElem?_getD, List.getElem?_append_right (by rw [lp]; omega), lp, List.getD_eq_getElem?_getD]
      · rw [if_neg c2, if_neg (by omega), Nat.sub_sub]
    rw [sh, h5, mul_mm, if_neg c, Int.mul_add, ← Int.pow_add, show i - e + e = i by omega, Int.mul_comm q]
theorem wPad_step {m q : Int} {e i j : Nat} (hi : e ≤ i) (hj : e ≤ j) (h : wPad m q e i = wPad m q e j) : wPad m q e (i + 1) = wPad m q e (j + 1) := by
  have two : ∀ i, e ≤ i → gPad q e (i + 1) = 2 * gPad q e i := fun i hi => by
    unfold gPad
    rw [if_neg (by omega), if_neg (by omega), show i + 1 - e = i - e + 1 by omega, Int.pow_succ, Int.pow_succ, Int.mul_add, Int.mul_comm (2 ^ i) 2, Int.mul_comm (2 ^ (i - e)) 2, ← Int.mul_assoc, ← Int.mul_assoc, Int.mul_comm q 2]
  unfold wPad at *
  rw [two i hi, two j hj, Int.mul_emod, h, ← Int.mul_emod]
theorem padded_bank {m q : Int} {e : Nat} (h2 : 2 ≤ m) (h32 : m ≤ 32) (a : Nat) : bankW [m] (wPad m q e) a = ((a : Int) + q * ((a / 2 ^ e : Nat) : Int)) % m := by
  show bankW [m] (fun i => gPad q e i % m) a = _
  rw [bankW_one h2 h32]
  unfold gPad
  rw [dsum_plus, dsum_times, dsum_pow, dsum_shift (fun i => 2 ^ i), dsum_pow]
end Toy
set_option maxRecDepth 100000
namespace Toy
open PySem L2 LamX Dg
/-! banks by folds -/
theorem dsum_null (a : Nat) : dsum (fun _ => 0) a = 0 := by
  have := dsum_times (fun _ => 0) 0 a
  simpa using this
theorem bankW_null {ns : List Int} {a : Nat} (hM : Mods ns) : bankW ns (fun _ => 0) a = 0 := by
  refine bank_ext hM (bankW_lt hM).1 (bankW_lt hM).2 (Int.le_refl 0) (prodI_pos hM.2) fun k n hk e => ?_
  rw [bankW_pk hM hk e, pk_zero, dsum_null, Int.zero_emod]
abbrev twos (n : Nat) : List Int := List.replicate n 2
theorem twos_mods {n : Nat} (h : n ≤ 5) : Mods (twos n) := ⟨by rw [List.length_replicate]; exact h, fun m hm => by rw [List.eq_of_mem_replicate hm]; decide⟩
theorem twos_prod : ∀ n : Nat, prodI (twos n) = ((2 ^ n : Nat) : Int)
  | 0 => rfl
  | n + 1 => by
    show 2 * prodI (twos n) = _
    rw [twos_prod n, Nat.pow_succ]
    omega
theorem xor_add : ∀ n : Nat, n < 6 → ∀ x : Nat, x < 32 → ∀ y : Nat, y < 32 → x < 2 ^ n → y < 2 ^ n → addB (twos n) (x : Int) (y : Int) = ((x ^^^ y : Nat) : Int) := by decide +kernel
theorem low_bank : ∀ n : Nat, n < 6 → ∀ x : Nat, x < 32 → x < 2 ^ n → bankW (twos n) (fun i => 2 ^ i) x = (x : Int) := by decide +kernel
theorem dsum_split (f : Nat → Int) (a n : Nat) : dsum f a = dsum f (a % 2 ^ n) + dsum (fun i => f (i + n)) (a / 2 ^ n) := by
  rw [← dsum_cut f a n, ← dsum_shift (fun i => f (i + n)) a n, ← dsum_plus]
  refine dsum_congr fun i => ?_
  by_cases c : i < n
  · rw [if_pos c, if_pos c, Int.add_zero]
  · rw [if_neg c, if_neg c, Int.zero_add, show i - n + n = i by omega]
theorem bankW_split {ns : List Int} {w : Nat → Int} (hM : Mods ns) (a n : Nat) : bankW ns w a = addB ns (bankW ns w (a % 2 ^ n)) (bankW ns (fun i => w (i + n)) (a / 2 ^ n)) := by
  refine bank_ext hM (bankW_lt hM).1 (bankW_lt hM).2 (addB_lt hM).1 (addB_lt hM).2 fun k m hk e => ?_
  rw [bankW_pk hM hk e, addB_pk hM hk e, bankW_pk hM hk e, bankW_pk hM hk e, dsum_split (fun i => pk ns (w i) k) a n, ← Int.add_emod]
def foldN (n : Nat) : Nat → Nat → Nat
  | 0, _ => 0
  | k + 1, a => (a % 2 ^ n) ^^^ foldN n k (a / 2 ^ n)
theorem foldN_lt (n : Nat) : ∀ k a, foldN n k a < 2 ^ n
  | 0, _ => Nat.two_pow_pos n
  | k + 1, a => Nat.xor_lt_two_pow (Nat.mod_lt _ (Nat.two_pow_pos n)) (foldN_lt n k _)
theorem two_le {n : Nat} (h : n ≤ 5) : 2 ^ n ≤ 32 := Nat.pow_le_pow_right (by decide) h
theorem low_at {n : Nat} (h : n ≤ 5) {w : Nat → Int} (hw : ∀ i, i < n → w i = 2 ^ i) (a : Nat) : bankW (twos n) w (a % 2 ^ n) = ((a % 2 ^ n : Nat) : Int) := by
  have l := Nat.mod_lt a (Nat.two_pow_pos n)
  have t := two_le h
  rw [← low_bank n (by omega) (a % 2 ^ n) (by omega) l, ← bankW_cut, ← bankW_cut]
  refine bankW_congr fun i => ?_
  unfold cutW
  by_cases c : i < n
  · rw [if_pos c, if_pos c, hw i c]
  · rw [if_neg c, if_neg c]
def wC (n k i : Nat) : Int := if i < n * k then 2 ^ (i % n) else 0
def wI (n i : Nat) : Int := 2 ^ (i % n)
theorem fold_fin {n : Nat} (h : n ≤ 5) (h1 : 1 ≤ n) : ∀ k a, bankW (twos n) (wC n k) a = ((foldN n k a : Nat) : Int)
  | 0, a => by
    rw [bankW_congr (w' := fun _ => 0) fun i => by unfold wC; rw [if_neg (by omega)]]
    exact bankW_null (twos_mods h)
  | k + 1, a => by
    have t := two_le h
    have l := Nat.mod_lt a (Nat.two_pow_pos n)
    have l2 := foldN_lt n k (a / 2 ^ n)
    rw [bankW_split (twos_mods h) a n, low_at h (fun i hi => by unfold wC; rw [if_pos (by rw [Nat.mul_succ]; omega), Nat.mod_eq_of_lt hi]), bankW_congr (w' := wC n k) fun i => by
      unfold wC
      rw [Nat.add_mod_right, Nat.mul_succ]
      by_cases c : i < n * k
      · rw [if_pos (by omega), if_pos c]
      · rw [if_neg (by omega), if_neg c]]
    rw [fold_fin h h1 k, xor_add n (by omega) _ (by omega) _ (by omega) l l2]
    rfl
theorem fold_inf {n : Nat} (h : n ≤ 5) (h1 : 1 ≤ n) : ∀ k a, a < 2 ^ (n * k) → bankW (twos n) (wI n) a = ((foldN n k a : Nat) : Int)
  | 0, a, ha => by
    obtain rfl : a = 0 := by
      rw [Nat.mul_zero] at ha
      omega
    exact bankW_zero (twos_mods h)
  | k + 1, a, ha => by
    have t := two_le h
    have l := Nat.mod_lt a (Nat.two_pow_pos n)
    have l2 := foldN_lt n k (a / 2 ^ n)
    rw [bankW_split (twos_mods h) a n, low_at h (fun i hi => by unfold wI; rw [Nat.mod_eq_of_lt hi]), bankW_congr (w' := wI n) fun i => by unfold wI; rw [Nat.add_mod_right]]
    rw [fold_inf h h1 k _ (Nat.div_lt_of_lt_mul (by rw [← Nat.pow_add, Nat.add_comm]; rw [Nat.mul_succ] at ha; exact ha)), xor_add n (by omega) _ (by omega) _ (by omega) l l2]
    rfl
theorem powL_len (n : Nat) : (powL n).length = n := by unfold powL; rw [List.length_map, List.length_range]
theorem powL_at {n i : Nat} (h : i < n) : (powL n).getD i 0 = 2 ^ i := by
  unfold powL
  rw [List.getD_eq_getElem?_getD, List.getElem?_map, List.getElem?_range h]
  rfl
theorem xor_inf {n : Nat} (h1 : 1 ≤ n) (i : Nat) : wAt [] (powL n) i = wI n i := by
  unfold wAt pAt wI
  rw [if_neg (by simp), powL_len, List.length_nil, Nat.sub_zero, powL_at (Nat.mod_lt _ (by omega))]
theorem flatX_len (n : Nat) : ∀ j, ((List.replicate j (powL n)).flatten).length = n * j
  | 0 => rfl
  | j + 1 => by
    rw [List.replicate_succ, List.flatten_cons, List.length_append, flatX_len n j, powL_len, Nat.mul_succ]
    omega
theorem flatX_at {n : Nat} (h1 : 1 ≤ n) : ∀ j i, i < n * j → ((List.replicate j (powL n)).flatten).getD i 0 = 2 ^ (i % n)
  | 0, i, h => absurd h (by omega)
  | j + 1, i, h => by
    rw [List.replicate_succ, List.flatten_cons, List.getD_eq_getElem?_getD]
    by_cases c : i < n
    · rw [List.getElem?_append_left (by rw [powL_len]; exact c), ← List.getD_eq_getElem?_getD, powL_at c, Nat.mod_eq_of_lt c]
    · rw [List.getElem?_append_right (by rw [powL_len]; omega), powL_len, ← List.getD_eq_getElem?_getD, flatX_at h1 j (i - n) (by rw [Nat.mul_succ] at h; omega)]
      rw [Nat.mod_eq_sub_mod (a := i) (by omega)]
theorem xor_fin {n : Nat} (h1 : 1 ≤ n) (j i : Nat) : wAt (List.replicate j (powL n)).flatten [0] i = wC n j i := by
  unfold wAt pAt wC
  rw [flatX_len]
  by_cases c : i < n * j
  · rw [if_pos c, if_pos c, flatX_at h1 j i c]
  · rw [if_neg c, if_neg c, List.length_singleton, Nat.mod_one]
    rfl
end Toy
set_option maxRecDepth 100000
namespace Toy
open PySem L2 LamX Dg
abbrev s__law_folded : Stmt := top 44
def spFolded : Sp := fun vs H Q _ => ∃ a n j : Nat, vs = [.int (a : Int), .int (n : Int), .int (j : Int)] ∧ 1 ≤ n ∧ n ≤ 5 ∧ ∀ H', Same H H' → Q (.int ((foldN n (if j = 0 then a.log2 + 1 else j) a : Nat) : Int)) H'
def adr0 (σ : L2.St) (_ : Hp) : Nat := match σ with
  | some (.int i) :: _ => i.toNat
  | _ => 0
theorem xor_n (x y : Nat) : Builtin.bitXor (x : Int) (y : Int) = ((x ^^^ y : Nat) : Int) := (Bits.bitXor_pp (by omega) (by omega)).trans (by simp)
theorem foldN_zero (n : Nat) : ∀ k, foldN n k 0 = 0
  | 0 => rfl
  | k + 1 => by
    show (0 % 2 ^ n) ^^^ foldN n k (0 / 2 ^ n) = 0
    rw [Nat.zero_mod, Nat.zero_div, foldN_zero n k]
    rfl
section
variable {P : Program} {w : World} {K : PySem.W.Frag} {mg : Str → Option Value} {base : Heap}
abbrev N__law_folded : List Str := ["_law_address", "_law_bits", "_law_folds", "_law_found", "_law_row", "_law_size"]
theorem sc__law_folded : FnScope N__law_folded ["_law_address", "_law_bits", "_law_folds"] (defScope s__law_folded) := ⟨rfl, rfl, rfl, by decide +kernel, rfl, by decide +kernel, by decide +kernel⟩
theorem ok__law_folded {f : Addr} {fd : FuncData} (F : Fun K "_law_folded" "_law_folded" s__law_folded f fd) (T : TR mg) : FnOk P w K mg base CX0 1 f fd ["_law_address", "_law_bits", "_law_folds"] spFolded := by
  refine F.ok sc__law_folded (fun vs H Q E h => ?_) (fun cdv A outer s H vs Q E hr h => ?_)
  · obtain ⟨a, n, j, rfl, _⟩ := h
    rfl
  · obtain ⟨a, n, j, rfl, n1, n5, k⟩ := h
    refine ⟨_, (pss_cons (ps_asg (pe_tup (pa_cons pe_int (pa_cons pe_int pa_nil))) (pg_tup rfl (pgs_cons (pg_name (i := 3) sc__law_folded.nd rfl (Or.inl rfl)) (pgs_cons (pg_name (i := 4) sc__law_folded.nd rfl (Or.inl rfl)) pgs_nil))))
 (pss_cons (ps_set (i := 5) sc__law_folded.nd rfl (Or.inl rfl) (pe_ix ix_list (pe_lst (pa_cons pe_int (pa_cons pe_int (pa_cons pe_int (pa_cons pe_int (pa_cons pe_int pa_nil)))))) (pe_op op_sub (pv 1) pe_int) (fun _ _ => rfl)))
 (pss_cons (ps_while PassesOwn.never (PW.pt (pw_and (pt_cmpR op_gt (pv 0) pe_int (nomark _)) (pw_and1 (PW.pt (pw_or (pt_cmpR op_eq (pv 2) pe_int (nomark _)) (pw_or1 (pt_cmpR op_lt (pv 4) (pv 2) (nomark _))))))))
 (pss_cons (ps_set (i := 3) sc__law_folded.nd rfl (Or.inl rfl) (pe_op op_xor (pv 3) (pe_op op_mod (pe_callTy call_int1 (by rfl) T.m_int (by decide +kernel) (pa_cons (pv 0) pa_nil)) (pv 5))))
 (pss_one (ps_par (i := 0) (j := 4) rfl sc__law_folded.nd rfl rfl (by decide) rfl rfl (pa_cons (pe_op op_fdiv (pv 0) (pv 5)) (pa_cons (pe_op op_add (pv 4) pe_int) pa_nil)) rfl))))
 (pss_one (ps_ret (pv 3)))))), ?_⟩
    have K1 : ∃ K, K = if j = 0 then a.log2 + 1 else j := ⟨_, rfl⟩
    obtain ⟨KK, eK⟩ := K1
    rw [← eK] at k
    refine ⟨(by show 2 ≤ PySem.sizeLine; decide), fun q1 hq1 => ⟨q1, _, rfl, SqT.of upd_same, rfl, _, _, rfl, _, _, rfl, rfl, ?_⟩⟩
    have s1 := Same.lay (o := .tup [V.int 0, V.int 0]) hq1
    generalize upd H q1 (.tup [V.int 0, V.int 0]) = H1 at s1 ⊢
    refine ⟨(by show 5 ≤ PySem.sizeLine; decide), fun q2 hq2 => ⟨_, rfl, _, _, rfl, rfl, q2, _, (n : Int) - 1, .int ((2 ^ n : Nat) : Int), rfl, rfl, SqL.of upd_same, ?_, ?_⟩⟩
    · obtain ⟨m, rfl⟩ : ∃ m, n = m + 1 := ⟨n - 1, by omega⟩
      rw [show (((m + 1 : Nat) : Int) - 1) = (m : Int) by omega]
      have : m = 0 ∨ m = 1 ∨ m = 2 ∨ m = 3 ∨ m = 4 := by omega
      rcases this with rfl | rfl | rfl | rfl | rfl <;> rfl
    have s2 := Same.lay (o := .lst [V.int 2, V.int 4, V.int 8, V.int 16, V.int 32]) hq2
    have S2 : Same H _ := fun _ _ z => s2 _ _ (s1 _ _ z)
    have t := two_le n5
    have p0 := Nat.two_pow_pos n
    refine while_by (fun σ G => ∃ b fd r : Nat, σ = [some (.int (b : Int)), some (.int (n : Int)), some (.int (j : Int)), some (.int (fd : Int)), some (.int (r : Int)), some (.int ((2 ^ n : Nat) : Int))] ∧ Same H G ∧ fd ^^^ foldN n (KK - r) b = foldN n KK a ∧ (j = 0 → b < 2 ^ (KK - r))) adr0 ⟨a, 0, 0, rfl, S2, Nat.zero_xor _, fun z => by rw [eK, if_pos z, Nat.sub_zero]; exact Nat.lt_log2_self⟩ ?_ ?_
    · rintro σ G ⟨b, fd, r, rfl, sG, eF, bb⟩
      refine ⟨_, rfl, _, _, rfl, rfl, _, rfl, ?_⟩
      by_cases c1 : (0 : Int) < (b : Int)
      · refine ite2 (fun _ => ?_) (fun c => absurd (decide_eq_true c1) c)
        refine ⟨_, rfl, rfl, _, rfl, ?_⟩
        by_cases c2 : j = 0
        · refine ite2 (fun _ => ?_) (fun c => absurd (by simp [c2]) c)
          refine iteT ?_
          refine ⟨_, rfl, _, rfl, .inl ⟨_, rfl, _, rfl, _, _, rfl, rfl, (by show (0 : Int) < ((2 ^ n : Nat) : Int); omega), _, _, rfl, rfl, ?_⟩⟩
          refine ⟨_, rfl, _, rfl, _, _, rfl, rfl, ⟨by omega, by omega⟩, _, rfl, _, _, rfl, rfl, _, _, rfl, ?_⟩
          have hr1 : r < KK := by
            rcases Nat.lt_or_ge r KK with y | y
            · exact y
            · have := bb c2
              rw [show KK - r = 0 by omega] at this
              omega
          have hb : 0 < b := by omega
          have e3 : KK - r = (KK - (r + 1)) + 1 := by omega
          have dlt : b / 2 ^ n < b := Nat.div_lt_self hb (Nat.one_lt_two_pow (by omega))
          refine ⟨⟨b / 2 ^ n, fd ^^^ (b % 2 ^ n), r + 1, ?_, sG, ?_, fun z => ?_⟩, ?_⟩
          · rw [← show Builtin.bitXor (fd : Int) ((b : Int) % ((2 ^ n : Nat) : Int)) = ((fd ^^^ (b % 2 ^ n) : Nat) : Int) by rw [← Int.natCast_emod]; exact xor_n _ _, Int.natCast_ediv]
            rfl
          · rw [← eF, e3]
            show _ = fd ^^^ ((b % 2 ^ n) ^^^ foldN n (KK - (r + 1)) (b / 2 ^ n))
            rw [Nat.xor_assoc]
          · have h := bb z
            rw [e3, Nat.pow_succ] at h
            have h2 : b / 2 ^ n ≤ b / 2 := Nat.div_le_div_left (by have := Nat.pow_le_pow_right (show 0 < 2 by decide) n1; omega) (by decide)
            omega
          · show (((b : Int) / ((2 ^ n : Nat) : Int))).toNat < ((b : Int)).toNat
            rw [← Int.natCast_ediv, Int.toNat_natCast, Int.toNat_natCast]
            exact dlt
        · refine ite2 (fun c => absurd c (by simp [c2])) (fun _ => ?_)
          refine ⟨_, rfl, _, rfl, _, _, rfl, rfl, _, rfl, ?_⟩
          by_cases c3 : (r : Int) < (j : Int)
          · rw [decide_eq_true c3]
            refine iteT ?_
            refine ⟨_, rfl, _, rfl, .inl ⟨_, rfl, _, rfl, _, _, rfl, rfl, (by show (0 : Int) < ((2 ^ n : Nat) : Int); omega), _, _, rfl, rfl, ?_⟩⟩
            refine ⟨_, rfl, _, rfl, _, _, rfl, rfl, ⟨by omega, by omega⟩, _, rfl, _, _, rfl, rfl, _, _, rfl, ?_⟩
            have hr1 : r < KK := by rw [eK, if_neg c2]; omega
            have hb : 0 < b := by omega
            have e3 : KK - r = (KK - (r + 1)) + 1 := by omega
            have dlt : b / 2 ^ n < b := Nat.div_lt_self hb (Nat.one_lt_two_pow (by omega))
            refine ⟨⟨b / 2 ^ n, fd ^^^ (b % 2 ^ n), r + 1, ?_, sG, ?_, fun z => ?_⟩, ?_⟩
            · rw [← show Builtin.bitXor (fd : Int) ((b : Int) % ((2 ^ n : Nat) : Int)) = ((fd ^^^ (b % 2 ^ n) : Nat) : Int) by rw [← Int.natCast_emod]; exact xor_n _ _, Int.natCast_ediv]
              rfl
            · rw [← eF, e3]
              show _ = fd ^^^ ((b % 2 ^ n) ^^^ foldN n (KK - (r + 1)) (b / 2 ^ n))
              rw [Nat.xor_assoc]
            · have h := bb z
              rw [e3, Nat.pow_succ] at h
              have h2 : b / 2 ^ n ≤ b / 2 := Nat.div_le_div_left (by have := Nat.pow_le_pow_right (show 0 < 2 by decide) n1; omega) (by decide)
              omega
            · show (((b : Int) / ((2 ^ n : Nat) : Int))).toNat < ((b : Int)).toNat
              rw [← Int.natCast_ediv, Int.toNat_natCast, Int.toNat_natCast]
              exact dlt
          · rw [decide_eq_false c3]
            refine iteF ⟨_, rfl, ?_⟩
            have e4 : KK - r = 0 := by rw [eK, if_neg c2]; omega
            rw [e4] at eF
            rw [show fd = foldN n KK a by rw [← eF]; exact (Nat.xor_zero fd).symm]
            exact k _ sG
      · refine ite2 (fun c => absurd (of_decide_eq_true c) c1) (fun _ => ?_)
        obtain rfl : b = 0 := by omega
        rw [foldN_zero] at eF
        refine ⟨_, rfl, ?_⟩
        rw [show fd = foldN n KK a by rw [← eF]; exact (Nat.xor_zero fd).symm]
        exact k _ sG
    · rintro σ G Q1 Q2 i ⟨v, e1, x1, x2, e2, e3, kk, e4, hh⟩
      refine ⟨v, e1, x1, x2, e2, e3, kk, e4, ?_⟩
      cases kk with
      | false => exact i _ _ hh
      | true =>
        obtain ⟨v2, e5, e6, k2, e7, hh⟩ := hh
        refine ⟨v2, e5, e6, k2, e7, ?_⟩
        cases k2 with
        | true => exact i _ _ hh
        | false =>
          obtain ⟨v3, e8, v4, e9, x3, x4, e10, e11, k3, e12, hh⟩ := hh
          exact ⟨v3, e8, v4, e9, x3, x4, e10, e11, k3, e12, i _ _ hh⟩
end
end Toy
set_option maxRecDepth 100000
namespace L2
open PySem PySem.Spec PyProof.Rows ClX
/-! a class method called by keywords -/
def tCMethK (C : Addr) (m : Nat) (sp : Sp) (gV : List V → List V → List V) (E : XK) (ta : TE) (tk : TA) : TE := fun σ H Q => ta σ H fun x H1 => x = .ref C ∧ tk σ H1 fun zs H2 => zs.length = m ∧ sp (gV [.ref C] zs) H2 Q E
section
variable {X : Cx} {CX : CXT} {k : Nat} {p g C : Addr} {mc : Value} {fd : FuncData} {ps ks : List Str} {m : Str} {sp : Sp} {E : XK} {o : Expr} {ta : TE} {tk : TA} {pos apos : Pos} {kws : List Keyword} {gg : List Value → List Value → List Value} {gV : List V → List V → List V}
theorem pe_cmethK {pl : Sem Bool} (he : PE X o ta) (r : CRead X.K C mc) (c : CMet X.K C mc m p g) (F : FnOk X.prog X.w X.K X.mg X.base CX k g fd ps sp) (hr : Room k X.A) (hb : KBn X.K fd ps 1 ks gg gV) (hx : Passes CX X E) (hkw : PK X kws tk)
    (hall : (backToKw pos (keywordEach kws X.env)).all (·.1.isSome) = true := by rfl) (hks : (backToKw pos (keywordEach kws X.env)).filterMap (·.1) = ks := by rfl)
    (hpl : ((backTo pos (starEach [] X.env)).any (·.1) || (backToKw pos (keywordEach kws X.env)).any (·.1.isNone)) = false := by rfl)
    (ht : eval (.Call (.Attribute o m apos) [] kws pos) X.env = (do
      let ov ← eval o X.env
      standAt apos.atName
      let (f, first) ← holding [ov] (getMethod ov m pl)
      callWith pos f first (backTo pos (starEach [] X.env)) (backToKw pos (keywordEach kws X.env))) := by rfl) :
    PE X (.Call (.Attribute o m apos) [] kws pos) (tCMethK C ks.length sp gV E ta tk) := by
  refine ⟨fun pins s σ H Q I h => ?_⟩
  refine PySem.W.methodCall_KW (pl := pl) (thn (he.run pins s σ H _ I h) fun u s1 ⟨x, H1, I1, rx, ex, q⟩ => ?_) ht
  subst ex
  obtain rfl : u = Value.ref C := rx
  refine getmethcm_ok I1 r c fun s2 I2 => ?_
  refine PySem.W.callWith_of hpl (PySem.W.keeps_M (K := X.K) (self := .ref C) c.fi) (evalArgs_kw2_nil hall (thn (hkw.run pos _ s2 σ H1 _ I2 q) fun ws s3 ⟨zs, H2, I3, rz, l2, q2⟩ => ?_))
  refine ⟨⟨pin_at I3, I3.kIn⟩, ?_⟩
  rw [hks]
  have rr : Vals [V.ref C] [Value.ref C] := .cons rfl .nil
  have r2 := hb.rel rr rz
  have z : wpAny (model X.prog X.w) X.A (call (.ref s1.heap.objs.size) [] (ks.zip ws)) (EP X ((s1.heap.objs.size, PySem.W.methodObj (.ref g) (.ref C)) :: pins) σ Q) X.xe s3 := by
    refine wpAny_call (PySem.W.method_call (pin_at I3) (codeAny_mono (F.run X.A X.stack s3 H2 ⟨[.ref C], ks.zip ws⟩ (gg [.ref C] ws) (gV [.ref C] zs) Q E hr I3.env0 (hb.to s3 [.ref C] ws I3.kIn rfl (rz.length.symm.trans l2)) r2 q2) fun r s' hq => ?_))
    cases r with
    | error e => exact hx _ σ H2 s3 e s' I3 hq
    | ok fl =>
      cases fl with
      | ret u => exact I3.after hq
      | next => exact False.elim hq
      | brk => exact False.elim hq
      | cont => exact False.elim hq
  exact thn z fun _ _ y => unpinE y
end
end L2
set_option maxRecDepth 100000
namespace Toy
open PySem L2 LamX Dg ClX
abbrev s__law_modulo_right : Stmt := top 43
abbrev s__law_folds_right : Stmt := top 45
abbrev s__law_padded_right : Stmt := top 46
abbrev qM : Str := "_law_modulo_right" ++ ".<locals>." ++ "<lambda>"
abbrev qF : Str := "_law_folds_right" ++ ".<locals>." ++ "<lambda>"
abbrev qP : Str := "_law_padded_right" ++ ".<locals>." ++ "<lambda>"
abbrev qLaw : Str := "law" ++ ".<locals>." ++ "<lambda>"
def T4 (a b c d : Addr) : List (Addr × Str) := [(a, qM), (b, qF), (c, qP), (d, qLaw)]
structure Dis (a b c d : Addr) : Prop where
  ab : a ≠ b
  ac : a ≠ c
  ad : a ≠ d
  bc : b ≠ c
  bd : b ≠ d
  cd : c ≠ d
section
variable {a b c d : Addr}
theorem t4_cases {p : Addr × Str} (h : p ∈ T4 a b c d) : p = (a, qM) ∨ p = (b, qF) ∨ p = (c, qP) ∨ p = (d, qLaw) := by
  simpa [T4] using h
theorem t4_m : (a, qM) ∈ T4 a b c d := .head _
theorem t4_f : (b, qF) ∈ T4 a b c d := .tail _ (.head _)
theorem t4_p : (c, qP) ∈ T4 a b c d := .tail _ (.tail _ (.head _))
theorem t4_l : (d, qLaw) ∈ T4 a b c d := .tail _ (.tail _ (.tail _ (.head _)))
theorem t4u_m (D : Dis a b c d) : ∀ p ∈ T4 a b c d, p.1 = a → p.2 = qM := fun p h e => by
  rcases t4_cases h with rfl | rfl | rfl | rfl
  · rfl
  · exact absurd e.symm D.ab
  · exact absurd e.symm D.ac
  · exact absurd e.symm D.ad
theorem t4u_f (D : Dis a b c d) : ∀ p ∈ T4 a b c d, p.1 = b → p.2 = qF := fun p h e => by
  rcases t4_cases h with rfl | rfl | rfl | rfl
  · exact absurd e D.ab
  · rfl
  · exact absurd e.symm D.bc
  · exact absurd e.symm D.bd
theorem t4u_p (D : Dis a b c d) : ∀ p ∈ T4 a b c d, p.1 = c → p.2 = qP := fun p h e => by
  rcases t4_cases h with rfl | rfl | rfl | rfl
  · exact absurd e D.ac
  · exact absurd e D.bc
  · rfl
  · exact absurd e.symm D.cd
theorem t4u_l (D : Dis a b c d) : ∀ p ∈ T4 a b c d, p.1 = d → p.2 = qLaw := fun p h e => by
  rcases t4_cases h with rfl | rfl | rfl | rfl
  · exact absurd e D.ad
  · exact absurd e D.bd
  · exact absurd e D.cd
  · rfl
end
theorem told_many {CR CN CT : Addr} {H' : Hp} {d : Addr} (e : H' d = some (.xd [("most", .int 24), ("what", .str "places")])) : Told CR CN CT H' (.ref CT) (some d) (.str "places") (.int 24) := ⟨d, rfl, .inr (.inr ⟨rfl, e⟩)⟩
theorem log_le {a : Nat} (h : (a : Int) ≤ 10 ^ 39) : a.log2 < 9000 := log_far (z := (a : Int)) (by omega) h
theorem shaped1 {d : PyData} (h : rowOk d = true) : PySem.SeqAt.shaped d = true := by
  obtain ⟨h1, h2, _⟩ := rowOk_lay h
  simp only [PySem.SeqAt.shaped, h1, Bool.true_and, Bool.and_true, decide_eq_true_eq]
  first | omega | exact decide_eq_true (by omega) | simp; omega
abbrev rowT : PyData := .tuple [.str "places", .int 24]
theorem rowT_ok : rowOk rowT = true := by decide +kernel
section
variable {P : Program} {w : World} {K : PySem.W.Frag} {mg : Str → Option Value} {base : Heap} {CR CN CT B : Addr} {C pc pb gc gb : Addr} {mc : Value}
def spMr (TM TF TP TL : Addr) : Sp := fun vs H Q _ => ∃ (p l : Addr) (ns : List Int) (a b m : Int), vs = [.ref p, .int m] ∧ 2 ≤ m ∧ m ≤ 32 ∧ PenAt H p l ns a b ∧ a ≤ 990000 ∧ Tabs (T4 TM TF TP TL) H ∧
  ∀ (H' : Hp) (a' b' : Int), PenAt H' p l ns a' b' → a' ≤ a + 20 → Tabs (T4 TM TF TP TL) H' → Q (.bl true) H'
abbrev N__law_modulo_right : List Str := ["_law_pen_here", "_law_banks", "_law_weights", "_law_power", "_law_place", "_law_heard_here", "_law_rule_so", "_law_turn", "_law_address"]
theorem sc__law_modulo_right : FnScope N__law_modulo_right ["_law_pen_here", "_law_banks"] (defScope s__law_modulo_right) := ⟨rfl, rfl, rfl, by decide +kernel, rfl, by decide +kernel, by decide +kernel⟩
set_option maxHeartbeats 4000000 in
theorem ok__law_modulo_right {f fD fPk fLp fCl fHe c TM TF TP TL pM gM : Addr} {fdD fdPk fdLp fdMd fdC : FuncData} {gK : List Value → List Value → List Value} {oc kV doc pm ct : Value} {od an : Option Addr} {osl : Array (Option Value)} {och kVh doch pmh cdvh cth : Value} {odh anh : Option Addr} {oslh : Array (Option Value)}
    (lk : K.lookup f = some ⟨oc, od, .func (PySem.W.fnOf "_law_modulo_right" "_law_modulo_right" (defArgs s__law_modulo_right) (defBody s__law_modulo_right) (defScope s__law_modulo_right) .none kV doc pm an (.ref c) ct), osl⟩) (hcd : PySem.W.codeIn K (.ref c) "_law_modulo_right" = true) (TBM : TabB base mg c TM) (dis : Dis TM TF TP TL)
    (T : TR mg) (TU : TRule K mg C pc pb gc gb) (THd : THeard K mg CR CN CT B)
    (GD : FnOk P w K mg base CX0 1 fD fdD ["_law_pen_here", "_law_many"] spDraw) (gD : mg "_law_draw" = some (.ref fD)) (kD : PySem.W.keepIn K (.ref fD) = true) (bD : Binds K fdD ["_law_pen_here", "_law_many"] [])
    (GPk : FnOk P w K mg base CX0 2 fPk fdPk ["_law_pen_here", "_law_some"] (spPick K)) (gPk : mg "_law_pick" = some (.ref fPk)) (kPk : PySem.W.keepIn K (.ref fPk) = true) (bPk : Binds K fdPk ["_law_pen_here", "_law_some"] [])
    (GLp : FnOk P w K mg base CX0 1 fLp fdLp ["_law_weights", "_law_ahead"] spPlaces) (gLp : mg "_law_places" = some (.ref fLp)) (kLp : PySem.W.keepIn K (.ref fLp) = true) (bLp : Binds K fdLp ["_law_weights", "_law_ahead"] [])
    (rcR : CRead K C mc) (cmM : CMet K C mc "modulo" pM gM) (GMdO : FnOk P w K mg base (L2.CX P w) 6 gM fdMd ["cls", "banks"] (spModulo CR CT C K)) (kMd : KBn K fdMd ["cls", "banks"] 1 ["banks"] gK (fun vs zs => vs ++ zs))
    (cO : StX.CallO K C fCl) (GClR : FnR P w K mg base (L2.CX P w) 3 fCl (spCall CN C K)) (GC : FnOk P w K mg base CX0 1 gc fdC ["self"] (spClasses C)) (bC : Binds K fdC ["self"] [])
    (gHe : mg "_law_heard" = some (.ref fHe)) (kHe : PySem.W.keepIn K (.ref fHe) = true) (lkHe : K.lookup fHe = some ⟨och, odh, .func (PySem.W.fnOf "_law_heard" "_law_heard" (defArgs s__law_heard) (defBody s__law_heard) (defScope s__law_heard) .none kVh doch pmh anh cdvh cth), oslh⟩) (hcHe : PySem.W.codeIn K cdvh "_law_heard" = true)
    (bHe : L2.Binds K (PySem.W.fnOf "_law_heard" "_law_heard" (defArgs s__law_heard) (defBody s__law_heard) (defScope s__law_heard) .none kVh doch pmh anh cdvh cth) ["_law_ask"] []) :
    FnG P w K mg base CX0 9 f (PySem.W.fnOf "_law_modulo_right" "_law_modulo_right" (defArgs s__law_modulo_right) (defBody s__law_modulo_right) (defScope s__law_modulo_right) .none kV doc pm an (.ref c) ct) ["_law_pen_here", "_law_banks"] (spMr TM TF TP TL) := by
  refine fnG_of lk hcd sc__law_modulo_right (fun vs H Q E h => ?_) (fun A outer s H vs Q E hgd hr h => ?_)
  · obtain ⟨p, l, ns, a, b, m, rfl, _⟩ := h
    rfl
  · obtain ⟨p, l, ns, a, b, m, rfl, m2, m32, hP, ha, hTb, k⟩ := h
    have hrH : Room 8 _ := hr
    have hrK : Room 6 _ := hr.mono (by decide)
    have hrCl : Room 3 _ := hr.mono (by decide)
    have hrD2 : Room 2 _ := hr.mono (by decide)
    have hrD1 : Room 1 _ := hr.mono (by decide)
    refine ⟨_, (pss_cons (ps_par (i := 2) (j := 3) rfl sc__law_modulo_right.nd rfl rfl (by decide) rfl rfl (pa_cons (pe_lst pa_nil) (pa_cons pe_int pa_nil)) rfl)
 (pss_cons (ps_for PassesOwn.never rfl (pi_range1 rfl T.m_range (pa_cons pe_int pa_nil)) (pg_name (i := 4) sc__law_modulo_right.nd rfl (Or.inl rfl))
 (pss_cons (ps_expr (pe_bm PySem.F.plainAttrs_list PySem.F.slot_list_append PySem.F.type_list_append mt_append (pv 2) (pa_cons (pe_op op_mod (pe_callTy call_int1 (by rfl) T.m_int (by decide +kernel) (pa_cons (pv 3) pa_nil)) (pv 1)) pa_nil)))
 (pss_one (ps_set (i := 3) sc__law_modulo_right.nd rfl (Or.inl rfl) (pe_op op_mod (pe_callTy call_int1 (by rfl) T.m_int (by decide +kernel) (pa_cons (pe_op op_mul (pv 3) pe_int) pa_nil)) (pv 1))))))
 (pss_cons (ps_set (i := 5) sc__law_modulo_right.nd rfl (Or.inl rfl) (by exact (pe_lamcall (T := T4 TM TF TP TL) (TT := TTH CR CN CT) (k := 6) (t := (fun E => tCMethK C (["banks"] : List Str).length (spModulo CR CT C K) (fun vs zs => vs ++ zs) E (tC (.ref C)) (tCons (tVar 1) tNil))) rfl gHe kHe lkHe hcHe bHe sc__law_heard rfl (Or.inl rfl) (heard_gives THd hrH hgd) TBM rfl t4_m (t4u_m dis) hrH (lamS_by (show lamSB (defScope s__law_modulo_right) _ = true by decide +kernel)) rfl (fun _ _ _ _ _ => rfl) (fun A outer s H E f c' hr => (pe_cmethK (pe_glob (v := .ref C) rfl TU.gC rfl) rcR cmM GMdO hr kMd (passes_call (takes_of rfl rfl rfl rfl) fun _ _ _ _ h => h) (pk_cons (pv 1) pk_nil))))))
 (pss_cons (ps_if (pt_cmpR op_gt (pe_call GLp hrD1 rfl gLp kLp bLp .nil pass0 (pa_cons (pv 2) (pa_cons pe_int pa_nil))) pe_int (nomark _)) (pss_one (ps_ret (pe_cmpR (op_eqD hrD2.units) (pv 5) (pe_tup (pa_cons pe_str (pa_cons pe_int pa_nil))) (nomark _)))) pss_nil)
 (pss_cons (ps_set (i := 6) sc__law_modulo_right.nd rfl (Or.inl rfl) (pe_ix ix_list (pv 5) pe_int (fun _ _ => rfl)))
 (pss_cons (ps_for PassesOwn.never rfl (pi_range1 rfl T.m_range (pa_cons pe_int pa_nil)) (pg_name (i := 7) sc__law_modulo_right.nd rfl (Or.inl rfl))
 (pss_cons (ps_set (i := 8) sc__law_modulo_right.nd rfl (Or.inl rfl) (by exact (pe_call GD hrD1 rfl gD kD bD .nil pass0 (pa_cons (pv 0) (pa_cons (pe_call GPk hrD2 rfl gPk kPk bPk .nil pass0 (pa_cons (pv 0) (pa_cons (pe_lst (pa_cons pe_int (pa_cons (pe_op op_pow pe_int pe_int) (pa_cons (pe_op op_pow pe_int pe_int) pa_nil)))) pa_nil))) pa_nil)))))
 (pss_one (ps_if (pt_cmpR op_ne (pe_callI (pv 6) cO GClR hrCl passL (pa_cons (pv 8) pa_nil)) (pe_op op_mod (pe_callTy call_int1 (by rfl) T.m_int (by decide +kernel) (pa_cons (pv 8) pa_nil)) (pv 1)) (nomark _)) (pss_one (ps_ret pe_bl)) pss_nil))))
 (pss_one (ps_ret (pe_and (pe_cmpR (op_eqP hrD2.units) (pe_fld (pv 6) rfl) (pe_tup (pa_cons (pv 1) pa_nil)) (nomark _)) (pe_one (pe_cmpR op_eq (pe_prop (pv 6) TU.cl TU.pC GC hrD2 bC .nil pass0 rfl) (pe_call GLp hrD1 rfl gLp kLp bLp .nil pass0 (pa_cons (pv 2) (pa_cons pe_int pa_nil))) (nomark _)))))))))))), ?_⟩
    have hm0 : 0 < m := by omega
    refine ⟨(by show 0 ≤ PySem.sizeLine; decide), fun D hD => ⟨_, _, rfl, ?_⟩⟩
    have vD := Same.lay (o := .lst []) hD
    have nD : ∀ {b : Addr} {o : HO}, H b = some o → b ≠ D := fun e => ne_of_none e hD
    refine ⟨80, rfl, by decide, by decide, for_it walk_range (fun i σ G => ∃ (pw : Int) (u4 : Option V), σ = [some (.ref p), some (.int m), some (.ref D), some (.int pw), u4, none, none, none, none] ∧ pw % m = wMod m i ∧ 0 ≤ pw ∧ pw < 64 ∧ But D (upd H D (.lst [])) G ∧ G D = some (.lst (((List.range i).map (wMod m)).map V.int))) ⟨1, none, rfl, rfl, by decide, by decide, But.refl _ _, upd_same⟩ (fun _ _ _ _ _ => trivial) ?_ ?_⟩
    · rintro i v σ G G' hi ⟨pw, u4, rfl, ep, p0, p1, bt, hG⟩ ⟨rfl, rfl⟩
      have hi2 : i < 80 := hi
      refine ⟨_, rfl, .inl ⟨rfl, _, SqL.of hG⟩, _, rfl, .inl ⟨_, rfl, _, rfl, _, _, rfl, rfl, hm0, D, _, _, rfl, rfl, hG, small1000 (by rw [List.length_map, List.length_map, List.length_range]; omega), ?_⟩⟩
      refine ⟨_, rfl, _, _, rfl, rfl, .inl ⟨by omega, by omega⟩, .inl ⟨_, rfl, _, rfl, _, _, rfl, rfl, hm0, _, _, rfl, ?_, Int.emod_nonneg _ (by omega), (by have := Int.emod_lt_of_pos (pw * 2) hm0; omega), bt.put, ?_⟩⟩
      · rw [Int.emod_emod]
        unfold wMod at *
        rw [Int.mul_emod, ep, Int.pow_succ, ← Int.mul_emod]
      · rw [upd_same, List.range_succ, List.map_append, List.map_append]
        show some (HO.lst (_ ++ [V.int (pw % m)])) = _
        rw [ep]
        rfl
    · rintro σ G1 ⟨pw, u4, rfl, ep, p0, p1, bt, hG⟩
      have up : Same H G1 := fun b o e => bt b o (nD e) (vD _ _ e)
      have P1 := pen_same up hP
      have nDp : D ≠ p := (ne_of_none hP.pen hD).symm
      have tb1 := hTb.ext up
      obtain ⟨dne, dA, dT, dW⟩ := modulo_at m2 m32
      obtain ⟨nA, nS, nl1, nl2⟩ := normW_ok (A := (doubled 1 m).1) dne
      have hw : ∀ i, wAt (normW (doubled 1 m).1 (doubled 1 m).2).1 (normW (doubled 1 m).1 (doubled 1 m).2).2 i = wMod m i := fun i => by rw [nS, dW]
      have pl := places_norm (W := wMod m) (N := 80) (ah := 6) (e := 0) nA hw (fun i j _ _ h => wMod_step i j h) (by omega) (by omega) (by decide) (by decide) (by omega)
      obtain ⟨okm, pm⟩ := mod_one m2 m32
      have hM : Mods [m] := ⟨(by show 1 ≤ 5; decide), fun n hn => by rw [List.mem_singleton.mp hn]; exact ⟨m2, m32⟩⟩
      have ln : ((List.range 80).map (wMod m)).length = 80 := by rw [List.length_map, List.length_range]
      have okn : ∀ {w : Nat}, (normW (doubled 1 m).1 (doubled 1 m).2).1.length + (normW (doubled 1 m).1 (doubled 1 m).2).2.length = w → placesP ((List.range 80).map (wMod m)) (6 + 1) = (w : Int) := fun e => by rw [pl, e]
      generalize hA : (normW (doubled 1 m).1 (doubled 1 m).2).1 = NA at *
      generalize hT : (normW (doubled 1 m).1 (doubled 1 m).2).2 = NT at *
      clear ep p0 p1 bt vD nD
      refine ⟨tb1, fun G2 e2 T2 => ?_⟩
      have hG2 := e2 _ _ hG fun _ z => by cases z
      have P2 : PenAt G2 p l ns a b := ⟨e2 _ _ P1.pen (fun _ z => by cases z), e2 _ _ P1.cells (fun _ z => by cases z), P1.few, P1.bits, P1.low⟩
      refine ⟨rfl, _, rfl, rfl, .int m, "int", rfl, .int m, fun no => ?_, fun m' em _ _ => ?_⟩
      · rw [show withinV 2 32 (.int m) = true from decide_eq_true ⟨m2, m32⟩] at no
        cases no
      obtain rfl := V.int.inj em
      by_cases big : 24 < NA.length + NT.length
      · refine ⟨fun _ d H' s' e' => ?_, fun le => absurd big (by rw [← hA, ← hT]; omega)⟩
        refine ⟨_, _, told_many e', fun G3 w3 s3 hw3 => ?_⟩
        have S3 : Same G2 G3 := fun _ _ z => s3 _ _ (s' _ _ z)
        refine ⟨_, rfl, D, (List.range 80).map (wMod m), 6, rfl, S3 _ _ hG2, by rw [ln]; decide, by rw [ln]; decide, by decide, fun G4 s4 => ⟨_, _, rfl, rfl, _, rfl, ?_⟩⟩
        rw [okn rfl]
        refine ite2 (fun _ => ?_) (fun c => absurd (decide_eq_true (show (24 : Int) < ((NA.length + NT.length : Nat) : Int) by omega)) c)
        refine ⟨_, rfl, (by show 2 ≤ PySem.sizeLine; decide), fun t5 ht5 => ?_⟩
        have y5 := Same.lay (o := .tup [V.str "places", V.int 24]) ht5
        refine ⟨rowT, rowT, .tup (SqT.of (y5 _ _ (s4 _ _ hw3))) (.cons (.str _) (.cons (.int _) .nil)), .tup (SqT.of upd_same) (.cons (.str _) (.cons (.int _) .nil)), shaped1 rowT_ok, shaped1 rowT_ok, ?_⟩
        rw [(rowOk_lay rowT_ok).2.2]
        have S5 : Same G2 _ := fun _ _ z => y5 _ _ (s4 _ _ (S3 _ _ z))
        exact k _ a b (pen_same S5 P2) (by omega) (T2.ext S5)
      · refine ⟨fun b' => absurd b' (by rw [hA, hT]; exact big), fun _ H' z s' R => ?_⟩
        rw [hA, hT] at R
        refine ⟨(by show 1 ≤ PySem.sizeLine; decide), fun L3 hL3 => ?_⟩
        have y3 := Same.lay (o := .lst [V.ref z]) hL3
        have S3 : Same G2 _ := fun _ _ z => y3 _ _ (s' _ _ z)
        have Z3 : BankRule C (upd H' L3 (.lst [V.ref z])) z [m] (wMod m) NA.length NT.length := ⟨okm, hM, fun i => ?_, NA, NT, R.same y3, nA, by omega, hw, Nat.le_refl _, Nat.le_refl _⟩
        · have hG3 := S3 _ _ hG2
          have P3 := pen_same S3 P2
          have T3 := T2.ext S3
          have hL3' : (upd H' L3 (.lst [V.ref z])) L3 = some (.lst [V.ref z]) := upd_same
          clear y3 S3 R s' hL3 P2 T2 hG2 e2 P1 tb1 hG
          generalize upd H' L3 (.lst [V.ref z]) = G3 at Z3 hG3 P3 T3 hL3' ⊢
          refine ⟨_, rfl, D, (List.range 80).map (wMod m), 6, rfl, hG3, by rw [ln]; decide, by rw [ln]; decide, by decide, fun G4 s4 => ⟨_, _, rfl, rfl, _, rfl, ?_⟩⟩
          rw [okn rfl]
          refine ite2 (fun c => absurd (of_decide_eq_true c) (by omega)) (fun _ => ?_)
          refine ⟨_, rfl, L3, _, 0, .ref z, rfl, rfl, SqL.of (s4 _ _ hL3'), atI_nat (j := 0) rfl, ?_⟩
          have Z4 := Z3.same s4
          have P4 := pen_same s4 P3
          have T4' := T3.ext s4
          have hG4 := s4 _ _ hG3
          clear Z3 P3 T3 hG3
          refine ⟨5, rfl, by decide, by decide, for_it walk_range (fun i σ G => ∃ (a' b' : Int) (u1 u2 : Option V), σ = [some (.ref p), some (.int m), some (.ref D), some (.int pw), u4, some (.ref L3), some (.ref z), u1, u2] ∧ PenAt G p l ns a' b' ∧ a' ≤ a + 2 * (i : Int) ∧ But p G4 G) ⟨a, b, none, none, rfl, P4, by omega, But.refl _ _⟩ (fun _ _ _ _ _ => trivial) ?_ ?_⟩
          · rintro i v σ G G' hi ⟨a', b', u1, u2, rfl, PG, hGa, btG⟩ ⟨rfl, rfl⟩
            have hi2 : i < 5 := hi
            refine ⟨_, rfl, _, rfl, _, _, rfl, rfl, ⟨by decide, by decide, by decide⟩, _, _, rfl, rfl, ⟨by decide, by decide, by decide⟩, (by show 3 ≤ PySem.sizeLine; decide), fun L8 hL8 => ?_⟩
            have s8 := Same.lay (o := .lst [V.int 64, V.int (10 ^ (9 : Int).toNat), V.int (10 ^ (30 : Int).toNat)]) hL8
            refine ⟨p, l, L8, ns, a', b', _, rfl, pen_same s8 PG, by omega, SqL.of upd_same, (ne_of_none PG.pen hL8).symm, (by show 0 < 3; decide), (by show 3 ≤ 1000; decide), fun G9 i9 v9 a9 b9 hv9 h91 h92 bt9 P9 => ?_⟩
            obtain ⟨zz, rfl, z0, z1⟩ : ∃ z : Int, v9 = .int z ∧ 0 < z ∧ z ≤ 10 ^ 39 := by
              have hm := List.mem_of_getElem? hv9
              simp only [List.mem_cons, List.not_mem_nil, or_false] at hm
              rcases hm with rfl | rfl | rfl <;> exact ⟨_, rfl, by decide +kernel, by decide +kernel⟩
            refine ⟨p, l, ns, a9, b9, zz, rfl, P9, by omega, z0, log_far (by omega) z1, fun G10 d a10 b10 d0 d1 h101 h102 bt10 P10 => ?_⟩
            obtain ⟨dn, rfl⟩ : ∃ n : Nat, d = (n : Int) := ⟨d.toNat, by omega⟩
            have b10' : But p G4 G10 := ((btG.trans (But.of s8)).trans bt9).trans bt10
            refine ⟨_, rfl, z, rfl, _, rfl, call_ok (Z4.but P4 b10') rfl (log_le (by omega)) (fun G11 s11 => ⟨_, rfl, .inl ⟨_, rfl, _, rfl, _, _, rfl, rfl, hm0, rfl, _, rfl, ?_⟩⟩)⟩
            rw [modulo_bank m2 m32]
            refine ite2 (fun c => absurd c (by simp)) (fun _ => ?_)
            exact ⟨a10, b10, _, _, rfl, pen_same s11 P10, by omega, b10'.trans (But.of s11)⟩
          · rintro σ G ⟨a', b', u1, u2, rfl, PG, hGa, btG⟩
            have hGb : a' ≤ a + 10 := hGa
            have Z5 := Z4.but P4 btG
            have T5 := tabs_but P4.pen btG T4'
            have hG5 := btG _ _ nDp hG4
            obtain ⟨AZ, TZ, R5, N5, _, w5, _⟩ := id Z5.at_
            obtain ⟨rfl, rfl⟩ := norm_uniq N5 nA fun i => by rw [w5, hw]
            obtain ⟨dz, qm, qa, qt, iz, jz, _, _⟩ := id R5
            refine ⟨_, rfl, z, C, dz, _, _, rfl, iz, TU.cl, TU.nM, flds_m _ _ _, _, rfl, (by show 1 ≤ PySem.sizeLine; decide), fun t6 ht6 => ?_⟩
            have y6 := Same.lay (o := .tup [V.int m]) ht6
            refine ⟨qm, t6, [m], [m], rfl, rfl, y6 _ _ jz, upd_same, _, rfl, ?_⟩
            refine ite2 (fun _ => ?_) (fun c => absurd (decide_eq_true rfl) c)
            refine ⟨_, rfl, z, dz, _, rfl, y6 _ _ iz, z, _, _, _, rfl, R5.same y6, _, rfl, D, (List.range 80).map (wMod m), 6, rfl, y6 _ _ hG5, by rw [ln]; decide, by rw [ln]; decide, by decide, fun G7 s7 => ?_⟩
            rw [okn rfl]
            refine ⟨rfl, ?_⟩
            have S7 : Same G G7 := fun _ _ z => s7 _ _ (y6 _ _ z)
            have kk := k G7 a' b' (pen_same S7 PG) (by omega) (T5.ext S7)
            simpa using kk
        · unfold wMod
          have h1 := Int.emod_nonneg (2 ^ i) (show m ≠ 0 by omega)
          have h2 := Int.emod_lt_of_pos (2 ^ i) hm0
          have : prodI [m] = m := Int.mul_one m
          omega
end
end Toy
set_option maxRecDepth 100000
namespace Toy
open PySem L2 LamX Dg ClX
section
variable {C CT CN CR : Addr} {H : Hp} {x : Addr} {ms A T : List Int} {K : PySem.W.Frag} {Q : VK} {E : XK} {n : Nat}
/-- a rule of written parts, as it is kept -/
theorem made_raw {dx : Addr} {am aa at_ : Addr} (nx : H x = none) (ndx : H dx = none) (em : SeqAt H am (ms.map V.int)) (ea : SeqAt H aa (A.map V.int)) (et : SeqAt H at_ (T.map V.int))
    (hm : okMod (some (ms.map V.int)) = true) (ha : A.all (fun z => decide (0 ≤ z ∧ z ≤ prodV (ms.map V.int) - 1)) = true) (ht : T.all (fun z => decide (0 ≤ z ∧ z ≤ prodV (ms.map V.int) - 1)) = true) (ne : T ≠ []) (l : A.length + T.length ≤ 24)
    (k : ∀ H', Same H H' → RuleAt C H' x (ms.map V.int) (normW A T).1 (normW A T).2 → Q .non H') : spInit CR CT C K [.ref x, .ref am, .ref aa, .ref at_] (upd (upd H dx (.own x)) x (.ins C dx [])) Q E := by
  obtain ⟨nA, nS, nl1, nl2⟩ := normW_ok (A := A) ne
  exact init_ok (A := noA) nx ndx (argA_mods em (fun z => z) hm) (argA_ints ea (fun z => z) (by omega)) (argA_ints et (fun z => z) (by omega)) (ruleErr_ok hm (inB_all ha) (inB_all ht) ne) (fun big => absurd big (by omega)) (fun _ H2 s2 R2 => k H2 s2 R2)
theorem own_raw {y : Addr} {ms2 A2 T2 : List Int} {neg : Bool} (R : RuleAt C H x (ms.map V.int) A T) (R2 : RuleAt C H y (ms2.map V.int) A2 T2) (e : ms = ms2 ∧ A = A2 ∧ T = T2) (k : ∀ H', Same H H' → Q (.bl (!neg)) H') : rOwn C (spRuleEq C) E neg (.ref x) (.ref y) H Q := by
  obtain ⟨dx, _, _, _, hx, _⟩ := id R
  obtain ⟨dy, _, _, _, hy, _⟩ := id R2
  refine ⟨x, dx, _, rfl, hx, .ins hy, x, ms, A, T, .ref y, rfl, R, .inl ⟨y, ms2, A2, T2, rfl, R2, fun H' s => ⟨true, by rw [decide_eq_true e], ?_⟩⟩⟩
  have := k H' s
  cases neg <;> exact this
end
theorem xor_lens : ∀ n : Nat, n < 6 → ∀ j : Nat, j < 9 → 1 ≤ n → (normW (if j = 0 then [] else (List.replicate j (powL n)).flatten) (if j = 0 then powL n else [0])).1.length + (normW (if j = 0 then [] else (List.replicate j (powL n)).flatten) (if j = 0 then powL n else [0])).2.length = if j = 0 then n else n * j + 1 := by decide +kernel
def wX (n j i : Nat) : Int := if j = 0 then wI n i else wC n j i
theorem wX_at {n : Nat} (h1 : 1 ≤ n) (j i : Nat) : wAt (if j = 0 then [] else (List.replicate j (powL n)).flatten) (if j = 0 then powL n else [0]) i = wX n j i := by
  unfold wX
  by_cases c : j = 0
  · rw [if_pos c, if_pos c, if_pos c, xor_inf h1]
  · rw [if_neg c, if_neg c, if_neg c, xor_fin h1]
theorem wX_bank {n : Nat} (h1 : 1 ≤ n) (h5 : n ≤ 5) (j a : Nat) : bankW (twos n) (wX n j) a = ((foldN n (if j = 0 then a.log2 + 1 else j) a : Nat) : Int) := by
  by_cases c : j = 0
  · rw [if_pos c, bankW_congr (w' := wI n) fun i => by unfold wX; rw [if_pos c]]
    refine fold_inf h5 h1 _ _ (Nat.lt_of_lt_of_le Nat.lt_log2_self (Nat.pow_le_pow_right (by decide) ?_))
    exact Nat.le_mul_of_pos_left _ (by omega)
  · rw [if_neg c, bankW_congr (w' := wC n j) fun i => by unfold wX; rw [if_neg c]]
    exact fold_fin h5 h1 j a
theorem wX_rg : ∀ n : Nat, n < 6 → ∀ k : Nat, k < n → 0 ≤ (2 : Int) ^ k ∧ (2 : Int) ^ k < prodI (twos n) := by decide +kernel
theorem wX_lt {n : Nat} (h1 : 1 ≤ n) (h5 : n ≤ 5) (j i : Nat) : 0 ≤ wX n j i ∧ wX n j i < prodI (twos n) := by
  have r := wX_rg n (by omega) (i % n) (Nat.mod_lt _ (by omega))
  have p := prodI_pos (twos_mods h5).2
  unfold wX wI wC
  split
  · exact r
  · split
    · exact r
    · exact ⟨Int.le_refl _, p⟩
section
variable {P : Program} {w : World} {K : PySem.W.Frag} {mg : Str → Option Value} {base : Heap} {CR CN CT B : Addr} {C pc pb gc gb : Addr} {mc : Value}
def spFr (TM TF TP TL : Addr) : Sp := fun vs H Q _ => ∃ (p l : Addr) (ns : List Int) (a b : Int), vs = [.ref p] ∧ PenAt H p l ns a b ∧ a ≤ 990000 ∧ Tabs (T4 TM TF TP TL) H ∧
  ∀ (H' : Hp) (a' b' : Int), PenAt H' p l ns a' b' → a' ≤ a + 20 → Tabs (T4 TM TF TP TL) H' → Q (.bl true) H'
abbrev N__law_folds_right : List Str := ["_law_pen_here", "_law_bits", "_law_folds", "_law_heard_here", "_law_turn", "_law_address"]
theorem sc__law_folds_right : FnScope N__law_folds_right ["_law_pen_here"] (defScope s__law_folds_right) := ⟨rfl, rfl, rfl, by decide +kernel, rfl, by decide +kernel, by decide +kernel⟩
set_option maxHeartbeats 4000000 in
theorem ok__law_folds_right {f fD fPk fLf fCl fRI fEq fHe c TM TF TP TL pX gX : Addr} {fdD fdPk fdLf fdXr fdRI fdEq : FuncData} {gK : List Value → List Value → List Value} {oc kV doc pm ct : Value} {od an : Option Addr} {osl : Array (Option Value)} {och kVh doch pmh cdvh cth : Value} {odh anh : Option Addr} {oslh : Array (Option Value)}
    (lk : K.lookup f = some ⟨oc, od, .func (PySem.W.fnOf "_law_folds_right" "_law_folds_right" (defArgs s__law_folds_right) (defBody s__law_folds_right) (defScope s__law_folds_right) .none kV doc pm an (.ref c) ct), osl⟩) (hcd : PySem.W.codeIn K (.ref c) "_law_folds_right" = true) (TBF : TabB base mg c TF) (dis : Dis TM TF TP TL)
    (T : TR mg) (TU : TRule K mg C pc pb gc gb) (THd : THeard K mg CR CN CT B)
    (GD : FnOk P w K mg base CX0 1 fD fdD ["_law_pen_here", "_law_many"] spDraw) (gD : mg "_law_draw" = some (.ref fD)) (kD : PySem.W.keepIn K (.ref fD) = true) (bD : Binds K fdD ["_law_pen_here", "_law_many"] [])
    (GPk : FnOk P w K mg base CX0 2 fPk fdPk ["_law_pen_here", "_law_some"] (spPick K)) (gPk : mg "_law_pick" = some (.ref fPk)) (kPk : PySem.W.keepIn K (.ref fPk) = true) (bPk : Binds K fdPk ["_law_pen_here", "_law_some"] [])
    (GLf : FnOk P w K mg base CX0 1 fLf fdLf ["_law_address", "_law_bits", "_law_folds"] spFolded) (gLf : mg "_law_folded" = some (.ref fLf)) (kLf : PySem.W.keepIn K (.ref fLf) = true) (bLf : Binds K fdLf ["_law_address", "_law_bits", "_law_folds"] [])
    (rcR : CRead K C mc) (cmX : CMet K C mc "xor" pX gX) (GXr : FnR P w K mg base (L2.CX P w) 6 gX (spXor CR CT C K)) (GXrO : FnOk P w K mg base (L2.CX P w) 6 gX fdXr ["cls", "bits", "folds"] (spXor CR CT C K)) (kXr : KBn K fdXr ["cls", "bits", "folds"] 1 ["bits", "folds"] gK (fun vs zs => vs ++ zs))
    (MRI : Mk K C fRI) (GRI : FnOk P w K mg base (L2.CX P w) 4 fRI fdRI ["self", "moduli", "ahead", "turn"] (spInit CR CT C K)) (bRI : Binds K fdRI ["self", "moduli", "ahead", "turn"] [])
    (OC : OwnCmp K C fEq) (GEq : FnOk P w K mg base CX0 1 fEq fdEq ["self", "other"] (spRuleEq C)) (bEq : Binds K fdEq ["self", "other"] [])
    (cO : StX.CallO K C fCl) (GClR : FnR P w K mg base (L2.CX P w) 3 fCl (spCall CN C K))
    (gHe : mg "_law_heard" = some (.ref fHe)) (kHe : PySem.W.keepIn K (.ref fHe) = true) (lkHe : K.lookup fHe = some ⟨och, odh, .func (PySem.W.fnOf "_law_heard" "_law_heard" (defArgs s__law_heard) (defBody s__law_heard) (defScope s__law_heard) .none kVh doch pmh anh cdvh cth), oslh⟩) (hcHe : PySem.W.codeIn K cdvh "_law_heard" = true)
    (bHe : L2.Binds K (PySem.W.fnOf "_law_heard" "_law_heard" (defArgs s__law_heard) (defBody s__law_heard) (defScope s__law_heard) .none kVh doch pmh anh cdvh cth) ["_law_ask"] []) :
    FnG P w K mg base CX0 9 f (PySem.W.fnOf "_law_folds_right" "_law_folds_right" (defArgs s__law_folds_right) (defBody s__law_folds_right) (defScope s__law_folds_right) .none kV doc pm an (.ref c) ct) ["_law_pen_here"] (spFr TM TF TP TL) := by
  refine fnG_of lk hcd sc__law_folds_right (fun vs H Q E h => ?_) (fun A outer s H vs Q E hgd hr h => ?_)
  · obtain ⟨p, l, ns, a, b, rfl, _⟩ := h
    rfl
  · obtain ⟨p, l, ns, a, b, rfl, hP, ha, hTb, k⟩ := h
    have hrH : Room 8 _ := hr
    have hrK : Room 6 _ := hr.mono (by decide)
    have hrR : Room 5 _ := hr.mono (by decide)
    have hrCl : Room 3 _ := hr.mono (by decide)
    have hrD2 : Room 2 _ := hr.mono (by decide)
    have hrD1 : Room 1 _ := hr.mono (by decide)
    refine ⟨_, (pss_cons (ps_asg (pe_tup (pa_cons (pe_op op_add pe_int (pe_call GD hrD1 rfl gD kD bD .nil pass0 (pa_cons (pv 0) (pa_cons pe_int pa_nil)))) (pa_cons (pe_call GPk hrD2 rfl gPk kPk bPk .nil pass0 (pa_cons (pv 0) (pa_cons (pe_lst (pa_cons pe_int (pa_cons pe_int (pa_cons pe_int (pa_cons pe_int (pa_cons pe_int (pa_cons pe_int (pa_cons pe_int (pa_cons pe_int (pa_cons pe_int (pa_cons pe_int pa_nil))))))))))) pa_nil))) pa_nil))) (pg_tup rfl (pgs_cons (pg_name (i := 1) sc__law_folds_right.nd rfl (Or.inr rfl)) (pgs_cons (pg_name (i := 2) sc__law_folds_right.nd rfl (Or.inr rfl)) pgs_nil))))
 (pss_cons (ps_set (i := 3) sc__law_folds_right.nd rfl (Or.inl rfl) (by exact (pe_lamcall (T := T4 TM TF TP TL) (TT := TTH CR CN CT) (k := 6) (t := (fun E => tCMeth C (spXor CR CT C K) E (tC (.ref C)) (tCons (tVar 1) (tCons (tVar 2) tNil)))) rfl gHe kHe lkHe hcHe bHe sc__law_heard rfl (Or.inl rfl) (heard_gives THd hrH hgd) TBF rfl t4_f (t4u_f dis) hrH (lamS_by (show lamSB (defScope s__law_folds_right) _ = true by decide +kernel)) rfl (fun _ _ _ _ _ => rfl) (fun A outer s H E f c' hr => (pe_cmeth (pe_glob (v := .ref C) rfl TU.gC rfl) rcR cmX GXr hr (passes_call (takes_of rfl rfl rfl rfl) fun _ _ _ _ h => h) (pa_cons (pv 1) (pa_cons (pv 2) pa_nil)))))))
 (pss_cons (ps_if (pt_cmpR op_gt (pe_op op_mul (pv 1) (pv 2)) pe_int (nomark _)) (pss_one (ps_ret (pe_cmpR (op_eqD hrD2.units) (pv 3) (pe_tup (pa_cons pe_str (pa_cons pe_int pa_nil))) (nomark _)))) pss_nil)
 (pss_cons (ps_for PassesOwn.never rfl (pi_range1 rfl T.m_range (pa_cons pe_int pa_nil)) (pg_name (i := 4) sc__law_folds_right.nd rfl (Or.inl rfl))
 (pss_cons (ps_set (i := 5) sc__law_folds_right.nd rfl (Or.inl rfl) (by exact (pe_call GD hrD1 rfl gD kD bD .nil pass0 (pa_cons (pv 0) (pa_cons (pe_call GPk hrD2 rfl gPk kPk bPk .nil pass0 (pa_cons (pv 0) (pa_cons (pe_lst (pa_cons pe_int (pa_cons (pe_op op_pow pe_int pe_int) (pa_cons (pe_op op_pow pe_int pe_int) pa_nil)))) pa_nil))) pa_nil)))))
 (pss_one (ps_if (pt_cmpR op_ne (pe_callI (pe_ix ix_list (pv 3) pe_int (fun _ _ => rfl)) cO GClR hrCl passL (pa_cons (pv 5) pa_nil)) (pe_call GLf hrD1 rfl gLf kLf bLf .nil pass0 (pa_cons (pv 5) (pa_cons (pv 1) (pa_cons (pv 2) pa_nil)))) (nomark _)) (pss_one (ps_ret pe_bl)) pss_nil))))
 (pss_one (ps_ret (pe_and (pe_cmpR (op_eqP hrD2.units) (pe_fld (pe_ix ix_list (pv 3) pe_int (fun _ _ => rfl)) rfl) (pe_op op_repP (pe_tup (pa_cons pe_int pa_nil)) (pv 1)) (nomark _)) (pe_one (pe_cmpR (op_eqOwn GEq OC bEq hrD1 pass0) (pe_cmethK (pe_glob (v := .ref C) rfl TU.gC rfl) rcR cmX GXrO hrK kXr passL (pk_cons pe_int (pk_cons pe_int pk_nil))) (pe_make MRI GRI hrR rfl TU.gC bRI .nil passL (pa_cons (pe_tup (pa_cons pe_int pa_nil)) (pa_cons (pe_tup pa_nil) (pa_cons (pe_tup (pa_cons pe_int pa_nil)) pa_nil)))) (nomark _)))))))))), ?_⟩
    refine ⟨_, rfl, p, l, ns, a, b, 5, rfl, hP, by omega, by decide, by decide, fun H1 d a1 b1 d0 d5 h11 h12 bt1 P1 => ⟨_, _, rfl, rfl, ?_⟩⟩
    obtain ⟨dn, rfl⟩ : ∃ n : Nat, d = (n : Int) := ⟨d.toNat, by omega⟩
    refine ⟨_, rfl, (by show 10 ≤ PySem.sizeLine; decide), fun L2 hL2 => ?_⟩
    have s2 := Same.lay (o := .lst [V.int 0, V.int 0, V.int 1, V.int 2, V.int 3, V.int 4, V.int 5, V.int 6, V.int 7, V.int 8]) hL2
    refine ⟨p, l, L2, ns, a1, b1, _, rfl, pen_same s2 P1, by omega, SqL.of upd_same, (ne_of_none P1.pen hL2).symm, (by show 0 < 10; decide), (by show 10 ≤ 1000; decide), fun G3 i3 v3 a3 b3 hv3 h31 h32 bt3 P3 => ⟨(by show 2 ≤ PySem.sizeLine; decide), fun q4 hq4 => ⟨q4, _, rfl, SqT.of upd_same, rfl, _, _, rfl, _, _, rfl, rfl, ?_⟩⟩⟩
    obtain ⟨j, rfl, j8⟩ : ∃ j : Nat, v3 = .int (j : Int) ∧ j < 9 := by
      have hm := List.mem_of_getElem? hv3
      simp only [List.mem_cons, List.not_mem_nil, or_false] at hm
      rcases hm with rfl | rfl | rfl | rfl | rfl | rfl | rfl | rfl | rfl | rfl
      · exact ⟨0, rfl, by decide⟩
      · exact ⟨0, rfl, by decide⟩
      · exact ⟨1, rfl, by decide⟩
      · exact ⟨2, rfl, by decide⟩
      · exact ⟨3, rfl, by decide⟩
      · exact ⟨4, rfl, by decide⟩
      · exact ⟨5, rfl, by decide⟩
      · exact ⟨6, rfl, by decide⟩
      · exact ⟨7, rfl, by decide⟩
      · exact ⟨8, rfl, by decide⟩
    have tb3 := tabs_but (pen_same s2 P1).pen bt3 ((tabs_but hP.pen bt1 hTb).ext s2)
    dsimp only
    rw [show (1 : Int) + (dn : Int) = ((dn + 1 : Nat) : Int) by omega]
    obtain ⟨n, en⟩ : ∃ n, n = dn + 1 := ⟨_, rfl⟩
    rw [← en]
    have n1 : 1 ≤ n := by omega
    have n5 : n ≤ 5 := by omega
    have y4 := Same.lay (o := .tup [V.int (n : Int), V.int (j : Int)]) hq4
    have P4 := pen_same y4 P3
    have tb4 := tb3.ext y4
    clear tb3 y4 P3 bt3 bt1 s2 hq4 hL2 hv3 P1 hTb hP
    generalize upd G3 q4 (.tup [V.int (n : Int), V.int (j : Int)]) = G4 at P4 tb4 ⊢
    have lens := xor_lens n (by omega) j j8 n1
    have dne : (if j = 0 then powL n else [0]) ≠ [] := by
      split
      · exact fun z => by
          have := congrArg List.length z
          rw [powL_len] at this
          simp at this
          omega
      · decide
    obtain ⟨nA, nS, nl1, nl2⟩ := normW_ok (A := if j = 0 then [] else (List.replicate j (powL n)).flatten) dne
    have hw : ∀ i, _ = wX n j i := fun i => (nS i).trans (wX_at n1 j i)
    generalize hA : (normW (if j = 0 then [] else (List.replicate j (powL n)).flatten) (if j = 0 then powL n else [0])).1 = NA at *
    generalize hT : (normW (if j = 0 then [] else (List.replicate j (powL n)).flatten) (if j = 0 then powL n else [0])).2 = NT at *
    refine ⟨tb4, fun G5 e5 T5 => ?_⟩
    have P5 : PenAt G5 p l ns a3 b3 := ⟨e5 _ _ P4.pen (fun _ z => by cases z), e5 _ _ P4.cells (fun _ z => by cases z), P4.few, P4.bits, P4.low⟩
    refine ⟨rfl, _, rfl, _, rfl, .int (n : Int), .int (j : Int), "int", "int", rfl, .int _, .int _, fun no => ?_, fun _ no => ?_, fun n' j' e1 e2 _ _ _ => ?_⟩
    · rw [show withinV 1 5 (.int (n : Int)) = true from decide_eq_true ⟨by omega, by omega⟩] at no
      cases no
    · rw [show withinV 0 8 (.int (j : Int)) = true from decide_eq_true ⟨by omega, by omega⟩] at no
      cases no
    obtain rfl : n = n' := by have := V.int.inj e1; omega
    obtain rfl : j = j' := by have := V.int.inj e2; omega
    have nj : n * j ≤ 40 := Nat.mul_le_mul (show n ≤ 5 by omega) (show j ≤ 8 by omega)
    have em : (n : Int) * (j : Int) = ((n * j : Nat) : Int) := (Int.natCast_mul n j).symm
    by_cases big : 24 < NA.length + NT.length
    · have c23 : 23 < n * j := by
        rw [lens] at big
        split at big <;> omega
      refine ⟨fun _ d H' s' e' => ?_, fun le => absurd big (by rw [← hA, ← hT]; omega)⟩
      refine ⟨_, _, told_many e', fun G6 w6 s6 hw6 => ?_⟩
      have S6 : Same G5 G6 := fun _ _ z => s6 _ _ (s' _ _ z)
      refine ⟨_, rfl, _, rfl, _, _, rfl, rfl, .inl ⟨by omega, by omega⟩, _, _, rfl, rfl, _, rfl, ?_⟩
      refine ite2 (fun _ => ?_) (fun c => absurd (decide_eq_true (show (23 : Int) < (n : Int) * (j : Int) by rw [em]; omega)) c)
      refine ⟨_, rfl, (by show 2 ≤ PySem.sizeLine; decide), fun t7 ht7 => ?_⟩
      have y7 := Same.lay (o := .tup [V.str "places", V.int 24]) ht7
      refine ⟨rowT, rowT, .tup (SqT.of (y7 _ _ hw6)) (.cons (.str _) (.cons (.int _) .nil)), .tup (SqT.of upd_same) (.cons (.str _) (.cons (.int _) .nil)), shaped1 rowT_ok, shaped1 rowT_ok, ?_⟩
      rw [(rowOk_lay rowT_ok).2.2]
      have S7 : Same G5 _ := fun _ _ z => y7 _ _ (S6 _ _ z)
      exact k _ a3 b3 (pen_same S7 P5) (by omega) (T5.ext S7)
    · have c23 : n * j ≤ 23 := by
        rw [lens] at big
        split at big
        · rename_i z
          rw [z]
          omega
        · omega
      refine ⟨fun b' => absurd b' (by rw [hA, hT]; exact big), fun _ H' z s' R => ?_⟩
      rw [hA, hT, show List.replicate n (V.int 2) = (twos n).map V.int from List.map_replicate.symm] at R
      refine ⟨(by show 1 ≤ PySem.sizeLine; decide), fun L6 hL6 => ?_⟩
      have y6 := Same.lay (o := .lst [V.ref z]) hL6
      have S6 : Same G5 _ := fun _ _ z => y6 _ _ (s' _ _ z)
      have okm : okMod (some ((twos n).map V.int)) = true := by
        rw [List.map_replicate]
        exact (xor_ok n (by omega) n1).1
      have Z6 : BankRule C (upd H' L6 (.lst [V.ref z])) z (twos n) (wX n j) NA.length NT.length := ⟨okm, twos_mods n5, fun i => wX_lt n1 n5 j i, NA, NT, R.same y6, nA, by omega, hw, Nat.le_refl _, Nat.le_refl _⟩
      have P6 := pen_same S6 P5
      have T6 := T5.ext S6
      have hL6' : (upd H' L6 (.lst [V.ref z])) L6 = some (.lst [V.ref z]) := upd_same
      have nLp : L6 ≠ p := (ne_of_none (s' _ _ P5.pen) hL6).symm
      clear y6 S6 R s' hL6 P5 T5 e5 P4 tb4
      generalize upd H' L6 (.lst [V.ref z]) = G6 at Z6 P6 T6 hL6' ⊢
      refine ⟨_, rfl, _, rfl, _, _, rfl, rfl, .inl ⟨by omega, by omega⟩, _, _, rfl, rfl, _, rfl, ?_⟩
      refine ite2 (fun c => absurd (of_decide_eq_true c) (by rw [em]; omega)) (fun _ => ?_)
      refine ⟨6, rfl, by decide, by decide, for_it walk_range (fun i σ G => ∃ (a' b' : Int) (u1 u2 : Option V), σ = [some (.ref p), some (.int (n : Int)), some (.int (j : Int)), some (.ref L6), u1, u2] ∧ PenAt G p l ns a' b' ∧ a' ≤ a3 + 2 * (i : Int) ∧ But p G6 G) ⟨a3, b3, none, none, rfl, P6, by omega, But.refl _ _⟩ (fun _ _ _ _ _ => trivial) ?_ ?_⟩
      · rintro i v σ G G' hi ⟨a', b', u1, u2, rfl, PG, hGa, btG⟩ ⟨rfl, rfl⟩
        have hi2 : i < 6 := hi
        refine ⟨_, rfl, _, rfl, _, _, rfl, rfl, ⟨by decide, by decide, by decide⟩, _, _, rfl, rfl, ⟨by decide, by decide, by decide⟩, (by show 3 ≤ PySem.sizeLine; decide), fun L8 hL8 => ?_⟩
        have s8 := Same.lay (o := .lst [V.int 64, V.int (10 ^ (9 : Int).toNat), V.int (10 ^ (30 : Int).toNat)]) hL8
        refine ⟨p, l, L8, ns, a', b', _, rfl, pen_same s8 PG, by omega, SqL.of upd_same, (ne_of_none PG.pen hL8).symm, (by show 0 < 3; decide), (by show 3 ≤ 1000; decide), fun G9 i9 v9 a9 b9 hv9 h91 h92 bt9 P9 => ?_⟩
        obtain ⟨zz, rfl, z0, z1⟩ : ∃ z : Int, v9 = .int z ∧ 0 < z ∧ z ≤ 10 ^ 39 := by
          have hm := List.mem_of_getElem? hv9
          simp only [List.mem_cons, List.not_mem_nil, or_false] at hm
          rcases hm with rfl | rfl | rfl <;> exact ⟨_, rfl, by decide +kernel, by decide +kernel⟩
        refine ⟨p, l, ns, a9, b9, zz, rfl, P9, by omega, z0, log_far (by omega) z1, fun G10 d a10 b10 d0 d1 h101 h102 bt10 P10 => ?_⟩
        obtain ⟨dd, rfl⟩ : ∃ n : Nat, d = (n : Int) := ⟨d.toNat, by omega⟩
        have b10' : But p G6 G10 := ((btG.trans (But.of s8)).trans bt9).trans bt10
        have hL10 := b10' _ _ nLp hL6'
        refine ⟨_, rfl, L6, _, 0, .ref z, rfl, rfl, SqL.of hL10, atI_nat (j := 0) rfl, z, rfl, _, rfl, call_ok (Z6.but P6 b10') rfl (log_le (by omega)) (fun G11 s11 => ⟨_, rfl, _, rfl, _, rfl, dd, n, j, rfl, n1, n5, fun G12 s12 => ⟨rfl, _, rfl, ?_⟩⟩)⟩
        rw [wX_bank n1 n5]
        refine ite2 (fun c => absurd c (by simp)) (fun _ => ?_)
        have S12 : Same G10 G12 := fun _ _ z => s12 _ _ (s11 _ _ z)
        exact ⟨a10, b10, _, _, rfl, pen_same S12 P10, by omega, b10'.trans (But.of S12)⟩
      · rintro σ G ⟨a', b', u1, u2, rfl, PG, hGa, btG⟩
        have hGb : a' ≤ a3 + 12 := hGa
        have Z7 := Z6.but P6 btG
        have T7 := tabs_but P6.pen btG T6
        have hL7 := btG _ _ nLp hL6'
        obtain ⟨AZ, TZ, R7, N7, _, w7, _⟩ := id Z7.at_
        obtain ⟨dz, qm, qa, qt, iz, jz, _, _⟩ := id R7
        refine ⟨_, rfl, L6, _, 0, .ref z, rfl, rfl, SqL.of hL7, atI_nat (j := 0) rfl, z, C, dz, _, _, rfl, iz, TU.cl, TU.nM, flds_m _ _ _, ?_⟩
        refine ⟨(by show 1 ≤ PySem.sizeLine; decide), fun t8 ht8 => ⟨_, rfl, t8, (n : Int), _, rfl, rfl, upd_same, by decide, by omega, by omega, by decide, fun t9 H9 s9 e9 => ?_⟩⟩
        have y8 := Same.lay (o := .tup [V.int 2]) ht8
        have S9 : Same G H9 := fun _ _ z => s9 _ _ (y8 _ _ z)
        rw [List.flatten_replicate_singleton, Int.toNat_natCast, ← List.map_replicate] at e9
        refine ⟨qm, t9, twos n, twos n, rfl, rfl, S9 _ _ jz, e9, _, rfl, ?_⟩
        refine ite2 (fun _ => ?_) (fun c => absurd (decide_eq_true rfl) c)
        refine ⟨rfl, rfl, .int 1, .int 0, "int", "int", rfl, .int _, .int _, (fun y => absurd y (by decide)), (fun _ y => absurd y (by decide)), fun n' j' e1 e2 _ _ _ => ?_⟩
        obtain rfl : 1 = n' := by have := V.int.inj e1; omega
        obtain rfl : 0 = j' := by have := V.int.inj e2; omega
        refine ⟨fun big => absurd big (by decide +kernel), fun _ H10 zx s10 Rx => ?_⟩
        refine ⟨(by show 1 ≤ PySem.sizeLine; decide), fun q1 hq1 => ⟨(by show 0 ≤ PySem.sizeLine; decide), fun q2 hq2 => ⟨(by show 1 ≤ PySem.sizeLine; decide), fun q3 hq3 => fun x dx nx ndx nex => ?_⟩⟩⟩
        have v1 := Same.lay (o := .tup [V.int 2]) hq1
        have v2 := Same.lay (o := .tup []) hq2
        have v3 := Same.lay (o := .tup [V.int 1]) hq3
        refine made_raw (ms := [2]) (A := []) (T := [1]) nx ndx (.inr (v3 _ _ (v2 _ _ upd_same))) (.inr (v3 _ _ upd_same)) (.inr upd_same) (by decide +kernel) (by decide +kernel) (by decide +kernel) (by decide) (by decide) (fun H11 s11 Rw => ⟨rfl, ?_⟩)
        have S11 : Same H10 H11 := fun _ _ z => s11 _ _ (v3 _ _ (v2 _ _ (v1 _ _ z)))
        refine own_raw (ms := [2]) (A := []) (T := [1]) (Rx.same S11) Rw ⟨rfl, rfl, rfl⟩ (fun H12 s12 => ?_)
        have S12 : Same G H12 := fun _ _ z => s12 _ _ (S11 _ _ (s10 _ _ (S9 _ _ z)))
        exact k H12 a' b' (pen_same S12 PG) (by omega) (T7.ext S12)
end
end Toy
set_option maxRecDepth 100000
namespace Toy
open PySem L2 LamX Dg ClX
theorem pow_quot (i e : Nat) : (2 : Int) ^ i / 2 ^ e = if i < e then 0 else 2 ^ (i - e) := by
  have h1 : (2 : Int) ^ i = ((2 ^ i : Nat) : Int) := (Int.natCast_pow 2 i).symm
  have h2 : (2 : Int) ^ e = ((2 ^ e : Nat) : Int) := (Int.natCast_pow 2 e).symm
  rw [h1, h2, ← Int.natCast_ediv]
  by_cases c : i < e
  · rw [if_pos c, Nat.div_eq_of_lt (Nat.pow_lt_pow_right (by decide) c)]
    rfl
  · rw [if_neg c, Nat.pow_div (by omega) (by decide)]
    exact Int.natCast_pow 2 (i - e)
section
variable {P : Program} {w : World} {K : PySem.W.Frag} {mg : Str → Option Value} {base : Heap} {CR CN CT B : Addr} {C pc pb gc gb : Addr} {mc : Value}
def spPr (TM TF TP TL : Addr) : Sp := fun vs H Q _ => ∃ (p l : Addr) (ns : List Int) (a b : Int), vs = [.ref p] ∧ PenAt H p l ns a b ∧ a ≤ 990000 ∧ Tabs (T4 TM TF TP TL) H ∧
  ∀ (H' : Hp) (a' b' : Int), PenAt H' p l ns a' b' → a' ≤ a + 20 → Tabs (T4 TM TF TP TL) H' → Q (.bl true) H'
abbrev N__law_padded_right : List Str := ["_law_pen_here", "_law_banks", "_law_every", "_law_pad", "_law_power", "_law_weights", "_law_size", "_law_place", "_law_heard_here", "_law_turn", "_law_address"]
theorem sc__law_padded_right : FnScope N__law_padded_right ["_law_pen_here"] (defScope s__law_padded_right) := ⟨rfl, rfl, rfl, by decide +kernel, rfl, by decide +kernel, by decide +kernel⟩
set_option maxHeartbeats 4000000 in
theorem ok__law_padded_right {f fD fPk fLp fCl fHe c TM TF TP TL pP gP : Addr} {fdD fdPk fdLp fdPd fdC : FuncData} {gK : List Value → List Value → List Value} {oc kV doc pm ct : Value} {od an : Option Addr} {osl : Array (Option Value)} {och kVh doch pmh cdvh cth : Value} {odh anh : Option Addr} {oslh : Array (Option Value)}
    (lk : K.lookup f = some ⟨oc, od, .func (PySem.W.fnOf "_law_padded_right" "_law_padded_right" (defArgs s__law_padded_right) (defBody s__law_padded_right) (defScope s__law_padded_right) .none kV doc pm an (.ref c) ct), osl⟩) (hcd : PySem.W.codeIn K (.ref c) "_law_padded_right" = true) (TBP : TabB base mg c TP) (dis : Dis TM TF TP TL)
    (T : TR mg) (TU : TRule K mg C pc pb gc gb) (THd : THeard K mg CR CN CT B)
    (GD : FnOk P w K mg base CX0 1 fD fdD ["_law_pen_here", "_law_many"] spDraw) (gD : mg "_law_draw" = some (.ref fD)) (kD : PySem.W.keepIn K (.ref fD) = true) (bD : Binds K fdD ["_law_pen_here", "_law_many"] [])
    (GPk : FnOk P w K mg base CX0 2 fPk fdPk ["_law_pen_here", "_law_some"] (spPick K)) (gPk : mg "_law_pick" = some (.ref fPk)) (kPk : PySem.W.keepIn K (.ref fPk) = true) (bPk : Binds K fdPk ["_law_pen_here", "_law_some"] [])
    (GLp : FnOk P w K mg base CX0 1 fLp fdLp ["_law_weights", "_law_ahead"] spPlaces) (gLp : mg "_law_places" = some (.ref fLp)) (kLp : PySem.W.keepIn K (.ref fLp) = true) (bLp : Binds K fdLp ["_law_weights", "_law_ahead"] [])
    (rcR : CRead K C mc) (cmP : CMet K C mc "padded" pP gP) (GPdO : FnOk P w K mg base (L2.CX P w) 6 gP fdPd ["cls", "banks", "every", "pad"] (spPadded CR CT C K)) (kPd : KBn K fdPd ["cls", "banks", "every", "pad"] 1 ["pad", "every", "banks"] gK (fun vs zs => vs ++ zs.reverse))
    (cO : StX.CallO K C fCl) (GClR : FnR P w K mg base (L2.CX P w) 3 fCl (spCall CN C K)) (GC : FnOk P w K mg base CX0 1 gc fdC ["self"] (spClasses C)) (bC : Binds K fdC ["self"] [])
    (gHe : mg "_law_heard" = some (.ref fHe)) (kHe : PySem.W.keepIn K (.ref fHe) = true) (lkHe : K.lookup fHe = some ⟨och, odh, .func (PySem.W.fnOf "_law_heard" "_law_heard" (defArgs s__law_heard) (defBody s__law_heard) (defScope s__law_heard) .none kVh doch pmh anh cdvh cth), oslh⟩) (hcHe : PySem.W.codeIn K cdvh "_law_heard" = true)
    (bHe : L2.Binds K (PySem.W.fnOf "_law_heard" "_law_heard" (defArgs s__law_heard) (defBody s__law_heard) (defScope s__law_heard) .none kVh doch pmh anh cdvh cth) ["_law_ask"] []) :
    FnG P w K mg base CX0 9 f (PySem.W.fnOf "_law_padded_right" "_law_padded_right" (defArgs s__law_padded_right) (defBody s__law_padded_right) (defScope s__law_padded_right) .none kV doc pm an (.ref c) ct) ["_law_pen_here"] (spPr TM TF TP TL) := by
  refine fnG_of lk hcd sc__law_padded_right (fun vs H Q E h => ?_) (fun A outer s H vs Q E hgd hr h => ?_)
  · obtain ⟨p, l, ns, a, b, rfl, _⟩ := h
    rfl
  · obtain ⟨p, l, ns, a, b, rfl, hP, ha, hTb, k⟩ := h
    have hrH : Room 8 _ := hr
    have hrK : Room 6 _ := hr.mono (by decide)
    have hrCl : Room 3 _ := hr.mono (by decide)
    have hrD2 : Room 2 _ := hr.mono (by decide)
    have hrD1 : Room 1 _ := hr.mono (by decide)
    refine ⟨_, (pss_cons (ps_asg (pe_tup (pa_cons (pe_call GPk hrD2 rfl gPk kPk bPk .nil pass0 (pa_cons (pv 0) (pa_cons (pe_lst (pa_cons pe_int (pa_cons pe_int (pa_cons pe_int (pa_cons pe_int (pa_cons pe_int (pa_cons pe_int (pa_cons pe_int (pa_cons pe_int (pa_cons pe_int (pa_cons pe_int pa_nil))))))))))) pa_nil))) (pa_cons (pe_op op_add pe_int (pe_call GD hrD1 rfl gD kD bD .nil pass0 (pa_cons (pv 0) (pa_cons pe_int pa_nil)))) pa_nil))) (pg_tup rfl (pgs_cons (pg_name (i := 1) sc__law_padded_right.nd rfl (Or.inr rfl)) (pgs_cons (pg_name (i := 2) sc__law_padded_right.nd rfl (Or.inr rfl)) pgs_nil))))
 (pss_cons (ps_asg (pe_tup (pa_cons (pe_call GD hrD1 rfl gD kD bD .nil pass0 (pa_cons (pv 0) (pa_cons (pv 1) pa_nil))) (pa_cons pe_int (pa_cons (pe_lst pa_nil) pa_nil)))) (pg_tup rfl (pgs_cons (pg_name (i := 3) sc__law_padded_right.nd rfl (Or.inr rfl)) (pgs_cons (pg_name (i := 4) sc__law_padded_right.nd rfl (Or.inl rfl)) (pgs_cons (pg_name (i := 5) sc__law_padded_right.nd rfl (Or.inl rfl)) pgs_nil)))))
 (pss_cons (ps_set (i := 6) sc__law_padded_right.nd rfl (Or.inl rfl) pe_int)
 (pss_cons (ps_for PassesOwn.never rfl (pi_range1 rfl T.m_range (pa_cons (pv 2) pa_nil)) (pg_name (i := 7) sc__law_padded_right.nd rfl (Or.inl rfl))
 (pss_one (ps_set (i := 6) sc__law_padded_right.nd rfl (Or.inl rfl) (pe_op op_mul (pv 6) pe_int))))
 (pss_cons (ps_for PassesOwn.never rfl (pi_range1 rfl T.m_range (pa_cons pe_int pa_nil)) (pg_name (i := 7) sc__law_padded_right.nd rfl (Or.inl rfl))
 (pss_cons (ps_expr (pe_bm PySem.F.plainAttrs_list PySem.F.slot_list_append PySem.F.type_list_append mt_append (pv 5) (pa_cons (pe_op op_mod (pe_callTy call_int1 (by rfl) T.m_int (by decide +kernel) (pa_cons (pe_op op_add (pv 4) (pe_op op_mul (pv 3) (pe_op op_fdiv (pv 4) (pv 6)))) pa_nil)) (pv 1)) pa_nil)))
 (pss_one (ps_set (i := 4) sc__law_padded_right.nd rfl (Or.inl rfl) (pe_op op_mul (pv 4) pe_int)))))
 (pss_cons (ps_set (i := 8) sc__law_padded_right.nd rfl (Or.inl rfl) (by exact (pe_lamcall (T := T4 TM TF TP TL) (TT := TTH CR CN CT) (k := 6) (t := (fun E => tCMethK C (["pad", "every", "banks"] : List Str).length (spPadded CR CT C K) (fun vs zs => vs ++ zs.reverse) E (tC (.ref C)) (tCons (tVar 3) (tCons (tVar 2) (tCons (tVar 1) tNil))))) rfl gHe kHe lkHe hcHe bHe sc__law_heard rfl (Or.inl rfl) (heard_gives THd hrH hgd) TBP rfl t4_p (t4u_p dis) hrH (lamS_by (show lamSB (defScope s__law_padded_right) _ = true by decide +kernel)) rfl (fun _ _ _ _ _ => rfl) (fun A outer s H E f c' hr => (pe_cmethK (pe_glob (v := .ref C) rfl TU.gC rfl) rcR cmP GPdO hr kPd (passes_call (takes_of rfl rfl rfl rfl) fun _ _ _ _ h => h) (pk_cons (pv 3) (pk_cons (pv 2) (pk_cons (pv 1) pk_nil))))))))
 (pss_cons (ps_if (pt_cmpR op_gt (pe_call GLp hrD1 rfl gLp kLp bLp .nil pass0 (pa_cons (pv 5) (pa_cons (pe_op op_add (pv 2) pe_int) pa_nil))) pe_int (nomark _)) (pss_one (ps_ret (pe_cmpR (op_eqD hrD2.units) (pv 8) (pe_tup (pa_cons pe_str (pa_cons pe_int pa_nil))) (nomark _)))) pss_nil)
 (pss_cons (ps_for PassesOwn.never rfl (pi_range1 rfl T.m_range (pa_cons pe_int pa_nil)) (pg_name (i := 9) sc__law_padded_right.nd rfl (Or.inl rfl))
 (pss_cons (ps_set (i := 10) sc__law_padded_right.nd rfl (Or.inl rfl) (by exact (pe_call GD hrD1 rfl gD kD bD .nil pass0 (pa_cons (pv 0) (pa_cons (pe_call GPk hrD2 rfl gPk kPk bPk .nil pass0 (pa_cons (pv 0) (pa_cons (pe_lst (pa_cons pe_int (pa_cons (pe_op op_pow pe_int pe_int) (pa_cons (pe_op op_pow pe_int pe_int) pa_nil)))) pa_nil))) pa_nil)))))
 (pss_one (ps_if (pt_cmpR op_ne (pe_callI (pe_ix ix_list (pv 8) pe_int (fun _ _ => rfl)) cO GClR hrCl passL (pa_cons (pv 10) pa_nil)) (pe_op op_mod (pe_callTy call_int1 (by rfl) T.m_int (by decide +kernel) (pa_cons (pe_op op_add (pv 10) (pe_op op_mul (pv 3) (pe_op op_fdiv (pv 10) (pv 6)))) pa_nil)) (pv 1)) (nomark _)) (pss_one (ps_ret pe_bl)) pss_nil))))
 (pss_one (ps_ret (pe_cmpR op_eq (pe_prop (pe_ix ix_list (pv 8) pe_int (fun _ _ => rfl)) TU.cl TU.pC GC hrD2 bC .nil pass0 rfl) (pe_call GLp hrD1 rfl gLp kLp bLp .nil pass0 (pa_cons (pv 5) (pa_cons (pe_op op_add (pv 2) pe_int) pa_nil))) (nomark _)))))))))))), ?_⟩
    refine ⟨_, rfl, (by show 10 ≤ PySem.sizeLine; decide), fun L2 hL2 => ?_⟩
    have s2 := Same.lay (o := .lst [V.int 2, V.int 3, V.int 4, V.int 5, V.int 7, V.int 8, V.int 16, V.int 29, V.int 32, V.int 12]) hL2
    refine ⟨p, l, L2, ns, a, b, _, rfl, pen_same s2 hP, by omega, SqL.of upd_same, (ne_of_none hP.pen hL2).symm, (by show 0 < 10; decide), (by show 10 ≤ 1000; decide), fun G3 i3 v3 a3 b3 hv3 h31 h32 bt3 P3 => ?_⟩
    obtain ⟨m, rfl, m2, m32⟩ : ∃ m : Int, v3 = .int m ∧ 2 ≤ m ∧ m ≤ 32 := by
      have hm := List.mem_of_getElem? hv3
      simp only [List.mem_cons, List.not_mem_nil, or_false] at hm
      rcases hm with rfl | rfl | rfl | rfl | rfl | rfl | rfl | rfl | rfl | rfl <;> exact ⟨_, rfl, by decide, by decide⟩
    refine ⟨_, rfl, p, l, ns, a3, b3, 12, rfl, P3, by omega, by decide, by decide, fun G4 d4 a4 b4 d40 d41 h41 h42 bt4 P4 => ⟨_, _, rfl, rfl, ?_⟩⟩
    obtain ⟨dn, rfl⟩ : ∃ n : Nat, d4 = (n : Int) := ⟨d4.toNat, by omega⟩
    refine ⟨(by show 2 ≤ PySem.sizeLine; decide), fun q5 hq5 => ⟨q5, _, rfl, SqT.of upd_same, rfl, _, _, rfl, _, _, rfl, rfl, ?_⟩⟩
    dsimp only
    rw [show (1 : Int) + (dn : Int) = ((dn + 1 : Nat) : Int) by omega]
    obtain ⟨e, ee⟩ : ∃ e, e = dn + 1 := ⟨_, rfl⟩
    rw [← ee]
    have e1 : 1 ≤ e := by omega
    have e12 : e ≤ 12 := by omega
    have tb4 := tabs_but P3.pen bt4 (tabs_but (pen_same s2 hP).pen bt3 (hTb.ext s2))
    have y5 := Same.lay (o := .tup [V.int m, V.int (e : Int)]) hq5
    have P5 := pen_same y5 P4
    have tb5 := tb4.ext y5
    clear tb4 y5 P4 P3 bt3 bt4 s2 hq5 hL2 hv3 hTb hP
    generalize upd G4 q5 (.tup [V.int m, V.int (e : Int)]) = G5 at P5 tb5 ⊢
    have hm0 : 0 < m := by omega
    refine ⟨_, rfl, _, rfl, p, l, ns, a4, b4, m, rfl, P5, by omega, hm0, log_ok hm0 m32, fun G6 q a6 b6 q0 q1 h61 h62 bt6 P6 => ⟨(by show 0 ≤ PySem.sizeLine; decide), fun D hD => ⟨(by show 3 ≤ PySem.sizeLine; decide), fun q7 hq7 => ⟨q7, _, rfl, SqT.of upd_same, rfl, _, _, rfl, _, _, rfl, _, _, rfl, rfl, ?_⟩⟩⟩⟩
    have vD := Same.lay (o := .lst []) hD
    have y7 := Same.lay (o := .tup [V.int q, V.int 1, V.ref D]) hq7
    have S7 : Same G6 _ := fun _ _ z => y7 _ _ (vD _ _ z)
    have P7 := pen_same S7 P6
    have tb7 := (tabs_but P5.pen bt6 tb5).ext S7
    have hD7 := y7 _ _ (show (upd G6 D (.lst [])) D = some (.lst []) from upd_same)
    have nDp : D ≠ p := (ne_of_none P6.pen hD).symm
    have nDl : D ≠ l := (ne_of_none P6.cells hD).symm
    clear S7 y7 vD P6 P5 bt6 tb5 hD hq7
    generalize upd (upd G6 D (.lst [])) q7 (.tup [V.int q, V.int 1, V.ref D]) = G7 at P7 tb7 hD7 ⊢
    have ps : ∀ i : Nat, i ≤ 12 → 0 < (2 : Int) ^ i ∧ (2 : Int) ^ i < 1073741824 := fun i hi => by
      have h1 : (2 : Nat) ^ i ≤ 2 ^ 12 := Nat.pow_le_pow_right (by decide) hi
      have h2 := Nat.two_pow_pos i
      have h3 : ((2 ^ i : Nat) : Int) = (2 : Int) ^ i := Int.natCast_pow 2 i
      have h4 : (2 : Nat) ^ 12 = 4096 := by decide
      omega
    refine ⟨_, rfl, _, rfl, by omega, by omega, for_it walk_range (fun i σ G => ∃ u7 : Option V, σ = [some (.ref p), some (.int m), some (.int (e : Int)), some (.int q), some (.int 1), some (.ref D), some (.int (2 ^ i)), u7, none, none, none] ∧ G = G7) ⟨none, rfl, rfl⟩ (fun _ _ _ _ _ => trivial) ?_ ?_⟩
    · rintro i v σ G G' hi ⟨u7, rfl, rfl⟩ ⟨rfl, rfl⟩
      have hi2 : i < 12 := by omega
      have := ps i (by omega)
      refine ⟨_, rfl, _, _, rfl, rfl, .inr ⟨by decide, by decide⟩, some (.int (0 + (i : Int))), ?_, rfl⟩
      rw [Int.pow_succ]
      rfl
    rintro σ G ⟨u7, rfl, rfl⟩
    rw [Int.toNat_natCast]
    have pe := ps e e12
    refine ⟨90, rfl, by decide, by decide, for_it walk_range (fun i σ G' => ∃ u7 : Option V, σ = [some (.ref p), some (.int m), some (.int (e : Int)), some (.int q), some (.int (2 ^ i)), some (.ref D), some (.int (2 ^ e)), u7, none, none, none] ∧ But D G G' ∧ G' D = some (.lst (((List.range i).map (wPad m q e)).map V.int))) ⟨_, rfl, But.refl _ _, hD7⟩ (fun _ _ _ _ _ => trivial) ?_ ?_⟩
    · rintro i v σ G' G'' hi ⟨u7, rfl, bt, hG⟩ ⟨rfl, rfl⟩
      have hi2 : i < 90 := hi
      refine ⟨_, rfl, .inl ⟨rfl, _, SqL.of hG⟩, _, rfl, _, rfl, _, rfl, _, rfl, _, _, rfl, rfl, ⟨pe.1, pe.2⟩, _, _, rfl, rfl, .inl ⟨by omega, by omega⟩, _, _, rfl, rfl, .inl ⟨_, rfl, _, rfl, _, _, rfl, rfl, hm0, D, _, _, rfl, rfl, hG, small1000 (by rw [List.length_map, List.length_map, List.length_range]; omega), ?_⟩⟩
      refine ⟨_, rfl, _, _, rfl, rfl, .inr ⟨by decide, by decide⟩, some (.int (0 + (i : Int))), ?_, bt.put, ?_⟩
      · rw [Int.pow_succ]
        rfl
      · rw [upd_same, List.range_succ, List.map_append, List.map_append]
        show some (HO.lst (_ ++ [V.int ((2 ^ i + q * (2 ^ i / 2 ^ e)) % m)])) = _
        rw [pow_quot]
        rfl
    · rintro σ G1 ⟨u8, rfl, bt, hG⟩
      have P1 : PenAt G1 p l ns a6 b6 := ⟨bt _ _ nDp.symm P7.pen, bt _ _ nDl.symm P7.cells, P7.few, P7.bits, P7.low⟩
      have tb1 := tabs_but hD7 bt tb7
      obtain ⟨dne, dA, dT, dW⟩ := padded_at (q := q) (e := e) m2 m32
      obtain ⟨nA, nS, nl1, nl2⟩ := normW_ok (A := powM m e ++ (doubled (2 ^ e + q) m).1) dne
      have hw : ∀ i, wAt (normW (powM m e ++ (doubled (2 ^ e + q) m).1) (doubled (2 ^ e + q) m).2).1 (normW (powM m e ++ (doubled (2 ^ e + q) m).1) (doubled (2 ^ e + q) m).2).2 i = wPad m q e i := fun i => by rw [nS, dW]
      have pl := places_norm (W := wPad m q e) (N := 90) (ah := e + 6) (e := e) nA hw (fun i j hi hj h => wPad_step hi hj h) (by omega) (by omega) (by omega) (by omega) (by omega)
      obtain ⟨okm, pm⟩ := mod_one m2 m32
      have hM : Mods [m] := ⟨(by show 1 ≤ 5; decide), fun n hn => by rw [List.mem_singleton.mp hn]; exact ⟨m2, m32⟩⟩
      have ln : ((List.range 90).map (wPad m q e)).length = 90 := by rw [List.length_map, List.length_range]
      have okn : ∀ {w : Nat}, (normW (powM m e ++ (doubled (2 ^ e + q) m).1) (doubled (2 ^ e + q) m).2).1.length + (normW (powM m e ++ (doubled (2 ^ e + q) m).1) (doubled (2 ^ e + q) m).2).2.length = w → placesP ((List.range 90).map (wPad m q e)) (e + 6 + 1) = (w : Int) := fun e => by rw [pl, e]
      generalize hA : (normW (powM m e ++ (doubled (2 ^ e + q) m).1) (doubled (2 ^ e + q) m).2).1 = NA at *
      generalize hT : (normW (powM m e ++ (doubled (2 ^ e + q) m).1) (doubled (2 ^ e + q) m).2).2 = NT at *
      refine ⟨tb1, fun G2 e2 T2 => ?_⟩
      have hG2 := e2 _ _ hG fun _ z => by cases z
      have P2 : PenAt G2 p l ns a6 b6 := ⟨e2 _ _ P1.pen (fun _ z => by cases z), e2 _ _ P1.cells (fun _ z => by cases z), P1.few, P1.bits, P1.low⟩
      refine ⟨rfl, _, rfl, _, rfl, _, rfl, rfl, .int m, .int (e : Int), .int q, "int", "int", "int", rfl, .int _, .int _, .int _, fun no => ?_, fun _ _ _ no => ?_, fun m' em _ _ no => ?_, fun m' q' e' em ee' eq' _ _ _ _ _ _ => ?_⟩
      · rw [show withinV 2 32 (.int m) = true from decide_eq_true ⟨m2, m32⟩] at no
        cases no
      · rw [show withinV 1 12 (.int (e : Int)) = true from decide_eq_true ⟨by omega, by omega⟩] at no
        cases no
      · obtain rfl := V.int.inj em
        rw [show withinV 0 (m - 1) (.int q) = true from decide_eq_true ⟨by omega, by omega⟩] at no
        cases no
      obtain rfl := V.int.inj em
      obtain rfl := V.int.inj eq'
      obtain rfl : e = e' := by have := V.int.inj ee'; omega
      by_cases big : 24 < NA.length + NT.length
      · refine ⟨fun _ d H' s' e' => ?_, fun le => absurd big (by rw [← hA, ← hT]; omega)⟩
        refine ⟨_, _, told_many e', fun G3 w3 s3 hw3 => ?_⟩
        have S3 : Same G2 G3 := fun _ _ z => s3 _ _ (s' _ _ z)
        refine ⟨_, rfl, _, rfl, _, _, rfl, rfl, D, (List.range 90).map (wPad m q e), e + 6, rfl, S3 _ _ hG2, by rw [ln]; decide, by rw [ln]; decide, by omega, fun G4 s4 => ⟨_, _, rfl, rfl, _, rfl, ?_⟩⟩
        rw [okn rfl]
        refine ite2 (fun _ => ?_) (fun c => absurd (decide_eq_true (show (24 : Int) < ((NA.length + NT.length : Nat) : Int) by omega)) c)
        refine ⟨_, rfl, (by show 2 ≤ PySem.sizeLine; decide), fun t5 ht5 => ?_⟩
        have y5 := Same.lay (o := .tup [V.str "places", V.int 24]) ht5
        refine ⟨rowT, rowT, .tup (SqT.of (y5 _ _ (s4 _ _ hw3))) (.cons (.str _) (.cons (.int _) .nil)), .tup (SqT.of upd_same) (.cons (.str _) (.cons (.int _) .nil)), shaped1 rowT_ok, shaped1 rowT_ok, ?_⟩
        rw [(rowOk_lay rowT_ok).2.2]
        have S5 : Same G2 _ := fun _ _ z => y5 _ _ (s4 _ _ (S3 _ _ z))
        exact k _ a6 b6 (pen_same S5 P2) (by omega) (T2.ext S5)
      · refine ⟨fun b' => absurd b' (by rw [hA, hT]; exact big), fun _ H' z s' R => ?_⟩
        rw [hA, hT] at R
        refine ⟨(by show 1 ≤ PySem.sizeLine; decide), fun L3 hL3 => ?_⟩
        have y3 := Same.lay (o := .lst [V.ref z]) hL3
        have S3 : Same G2 _ := fun _ _ z => y3 _ _ (s' _ _ z)
        have Z3 : BankRule C (upd H' L3 (.lst [V.ref z])) z [m] (wPad m q e) NA.length NT.length := ⟨okm, hM, fun i => (by
          unfold wPad
          have h1 := Int.emod_nonneg (gPad q e i) (show m ≠ 0 by omega)
          have h2 := Int.emod_lt_of_pos (gPad q e i) hm0
          have : prodI [m] = m := Int.mul_one m
          omega), NA, NT, R.same y3, nA, by omega, hw, Nat.le_refl _, Nat.le_refl _⟩
        have hG3 := S3 _ _ hG2
        have P3 := pen_same S3 P2
        have T3 := T2.ext S3
        have hL3' : (upd H' L3 (.lst [V.ref z])) L3 = some (.lst [V.ref z]) := upd_same
        have nLp : L3 ≠ p := (ne_of_none (s' _ _ P2.pen) hL3).symm
        clear y3 S3 R s' hL3 P2 T2 hG2 e2 P1 tb1 hG bt P7 tb7 hD7
        generalize upd H' L3 (.lst [V.ref z]) = G3 at Z3 hG3 P3 T3 hL3' ⊢
        refine ⟨_, rfl, _, rfl, _, _, rfl, rfl, D, (List.range 90).map (wPad m q e), e + 6, rfl, hG3, by rw [ln]; decide, by rw [ln]; decide, by omega, fun G4 s4 => ⟨_, _, rfl, rfl, _, rfl, ?_⟩⟩
        rw [okn rfl]
        refine ite2 (fun c => absurd (of_decide_eq_true c) (by omega)) (fun _ => ?_)
        have Z4 := Z3.same s4
        have P4 := pen_same s4 P3
        have T4' := T3.ext s4
        have hG4 := s4 _ _ hG3
        have hL4 := s4 _ _ hL3'
        clear Z3 P3 T3 hG3 hL3' s4
        refine ⟨6, rfl, by decide, by decide, for_it walk_range (fun i σ G => ∃ (a' b' : Int) (u1 u2 : Option V), σ = [some (.ref p), some (.int m), some (.int (e : Int)), some (.int q), some (.int (2 ^ 90)), some (.ref D), some (.int (2 ^ e)), u8, some (.ref L3), u1, u2] ∧ PenAt G p l ns a' b' ∧ a' ≤ a6 + 2 * (i : Int) ∧ But p G4 G) ⟨a6, b6, none, none, rfl, P4, by omega, But.refl _ _⟩ (fun _ _ _ _ _ => trivial) ?_ ?_⟩
        · rintro i v σ G G' hi ⟨a', b', u1, u2, rfl, PG, hGa, btG⟩ ⟨rfl, rfl⟩
          have hi2 : i < 6 := hi
          refine ⟨_, rfl, _, rfl, _, _, rfl, rfl, ⟨by decide, by decide, by decide⟩, _, _, rfl, rfl, ⟨by decide, by decide, by decide⟩, (by show 3 ≤ PySem.sizeLine; decide), fun L8 hL8 => ?_⟩
          have s8 := Same.lay (o := .lst [V.int 64, V.int (10 ^ (9 : Int).toNat), V.int (10 ^ (30 : Int).toNat)]) hL8
          refine ⟨p, l, L8, ns, a', b', _, rfl, pen_same s8 PG, by omega, SqL.of upd_same, (ne_of_none PG.pen hL8).symm, (by show 0 < 3; decide), (by show 3 ≤ 1000; decide), fun G9 i9 v9 a9 b9 hv9 h91 h92 bt9 P9 => ?_⟩
          obtain ⟨zz, rfl, z0, z1⟩ : ∃ z : Int, v9 = .int z ∧ 0 < z ∧ z ≤ 10 ^ 39 := by
            have hm := List.mem_of_getElem? hv9
            simp only [List.mem_cons, List.not_mem_nil, or_false] at hm
            rcases hm with rfl | rfl | rfl <;> exact ⟨_, rfl, by decide +kernel, by decide +kernel⟩
          refine ⟨p, l, ns, a9, b9, zz, rfl, P9, by omega, z0, log_far (by omega) z1, fun G10 d a10 b10 d0 d1 h101 h102 bt10 P10 => ?_⟩
          obtain ⟨dd, rfl⟩ : ∃ n : Nat, d = (n : Int) := ⟨d.toNat, by omega⟩
          have b10' : But p G4 G10 := ((btG.trans (But.of s8)).trans bt9).trans bt10
          refine ⟨_, rfl, L3, _, 0, .ref z, rfl, rfl, SqL.of (b10' _ _ nLp hL4), atI_nat (j := 0) rfl, z, rfl, _, rfl, call_ok (Z4.but P4 b10') rfl (log_le (by omega)) (fun G11 s11 => ⟨_, rfl, _, rfl, _, rfl, _, rfl, _, _, rfl, rfl, ⟨pe.1, pe.2⟩, _, _, rfl, rfl, .inl ⟨by omega, by omega⟩, _, _, rfl, rfl, .inl ⟨_, rfl, _, rfl, _, _, rfl, rfl, hm0, rfl, _, rfl, ?_⟩⟩)⟩
          rw [padded_bank m2 m32, ← show (dd : Int) / (2 : Int) ^ e = ((dd / 2 ^ e : Nat) : Int) by rw [Int.natCast_ediv, Int.natCast_pow]; rfl]
          refine ite2 (fun c => absurd c (by simp)) (fun _ => ?_)
          exact ⟨a10, b10, _, _, rfl, pen_same s11 P10, by omega, b10'.trans (But.of s11)⟩
        · rintro σ G ⟨a', b', u1, u2, rfl, PG, hGa, btG⟩
          have hGb : a' ≤ a6 + 12 := hGa
          have Z5 := Z4.but P4 btG
          have T5 := tabs_but P4.pen btG T4'
          have hG5 := btG _ _ nDp hG4
          have hL5 := btG _ _ nLp hL4
          obtain ⟨AZ, TZ, R5, N5, _, w5, _⟩ := id Z5.at_
          obtain ⟨rfl, rfl⟩ := norm_uniq N5 nA fun i => by rw [w5, hw]
          obtain ⟨dz, qm, qa, qt, iz, jz, _, _⟩ := id R5
          refine ⟨_, rfl, L3, _, 0, .ref z, rfl, rfl, SqL.of hL5, atI_nat (j := 0) rfl, z, dz, _, rfl, iz, z, _, _, _, rfl, R5, _, rfl, _, rfl, _, _, rfl, rfl, D, (List.range 90).map (wPad m q e), e + 6, rfl, hG5, by rw [ln]; decide, by rw [ln]; decide, by omega, fun G7 s7 => ?_⟩
          rw [okn rfl]
          refine ⟨rfl, ?_⟩
          have kk := k G7 a' b' (pen_same s7 PG) (by omega) (T5.ext s7)
          simpa using kk
end
end Toy
set_option maxRecDepth 100000
namespace L2
open PySem PySem.Spec PyProof.Rows LamX
/-! the law's call, where nothing is being shown and one def makes lambdas: its code object at c, its table at t -/
theorem end_tab {P : Program} {w : World} {K : PySem.W.Frag} {mg mb : Str → Option Value} {k : Nat} {fa a c t : Addr} {fd : FuncData} {x : Str} {sp : Sp} {s₁ : Shared} {vs : List Value} {H : Hp}
    (KX : K.In s₁.heap) (hns : s₁.heap.Ns mainGlobals mg) (hb : s₁.heap.Ns builtinsNs mb) (hbb : ∀ y : Str, y ≠ "__name__" → mb y = bootBuiltins y) (lim : s₁.heap.NoLimit) (hg : s₁.gens = #[])
    (ht : s₁.heap.get? t = some { cls := .none, data := .fields #[] }) (nt : K.lookup t = none) (hc : PySem.W.CodeHd s₁.heap c t)
    (bm : ∃ (m : Addr) (om : Obj), mg "__builtins__" = some (.ref m) ∧ m ≠ builtinsNs ∧ s₁.heap.get? m = some om ∧ om.cls = .type "module" ∧ om.dict = some builtinsNs ∧ om.data = .plain)
    (ha : s₁.heap.get? a = some { cls := .type "list", data := .seq vs.toArray }) (hr : Room k callerA)
    (F : ∀ base : Heap, K.In base → base.Ns mainGlobals mg → TabB base mg c t → FnG P w K mg base CX0 k fa fd [x] sp) (bind : ∀ (s : Shared) (u : Value), BindsTo s fd ⟨[u], []⟩ [(x, u)])
    (hHt : H t = some (.tbl #[])) (hO : ∀ b, b ≠ t → H b = none ∨ ∃ o xs, H b = some (.frz o (.lst xs))) (hok : HOk P w H s₁.heap) (hA : ∀ b, b ≠ t → H b ≠ none → b = a) (hK : H a ≠ none → K.lookup a = none)
    (hsp : sp [.ref a] H (fun v _ => v = .bl true) fun _ _ _ => False) :
    codeAny (model P w) callerA (.call (.ref fa) ⟨[.ref a], []⟩) (fun r s' => r = .ok (.ret (.bool true)) ∧ OldK s₁.heap s'.heap ∧ s'.os = s₁.os ∧ AllBare s'.gens) s₁ := by
  have apart : ∀ {b : Addr} {o : Obj}, s₁.heap.get? b = some o → o.data ≠ .fields #[] → b ≠ t := by
    intro b o e d z
    rw [z, ht] at e
    have eo := Option.some.inj e
    exact d (by rw [← eo])
  have free : ∀ {b : Addr} {o : Obj}, s₁.heap.get? b = some o → o.data ≠ .fields #[] → (∀ v n, o.data ≠ .seq v n) → H b = none := by
    intro b o e d1 d2
    refine Classical.byContradiction fun n => ?_
    have eb := hA b (apart e d1) n
    subst eb
    have eo := Option.some.inj (e.symm.trans ha)
    exact d2 vs.toArray _ (by rw [eo])
  have ns' : ∀ {b : Addr} {m : Str → Option Value}, s₁.heap.Ns b m → (hidT s₁.heap H).Ns b m := by
    rintro b m ⟨o, es, ep, e, d, r⟩
    exact ⟨o, es, ep, hidT_get e (free e (by rw [d]; intro z; cases z) fun v n z => by rw [d] at z; cases z), d, r⟩
  have kb : K.In (hidT s₁.heap H) := by
    intro b o e
    refine hidT_get (KX b o e) (Classical.byContradiction fun n => ?_)
    by_cases eb : b = t
    · subst eb
      rw [nt] at e
      cases e
    · have e2 := hA b eb n
      subst e2
      rw [hK n] at e
      cases e
  have md : Mod K mg (hidT s₁.heap H) := by
    obtain ⟨mc, h1, h2⟩ := lim
    exact ⟨kb, ns' hns, ⟨mb, ns' hb, hbb⟩, ⟨mc, ns' h1, h2⟩⟩
  have tb : TabB (hidT s₁.heap H) mg c t := by
    obtain ⟨m, om, m1, m2, m3, m4, m5, m6⟩ := id bm
    have hm : H m = none := free m3 (by rw [m6]; intro z; cases z) fun v n z => by rw [m6] at z; cases z
    have gm : m ≠ mainGlobals := fun z => by
      obtain ⟨o, es, ep, e, d, _⟩ := hns
      rw [z, e] at m3
      have eo := Option.some.inj m3
      rw [← eo, d] at m6
      cases m6
    have mt : m ≠ t := apart m3 (by rw [m6]; intro z; cases z)
    refine ⟨?_, ⟨m, om, m1, m2, gm, mt, hidT_get m3 hm, m4, m5, m6⟩, fun z => ?_⟩
    · obtain ⟨o, us, fi, tf, fl, tg, inF, tx, tt, c1, c2, c3, c4, rest⟩ := hc
      refine ⟨o, us, fi, tf, fl, tg, inF, tx, tt, hidT_get c1 (free c1 (fun z => ?_) fun v n z => ?_), c2, c3, c4, rest⟩
      · rw [c3] at z
        have e := Data.fields.inj z
        rw [e] at c4
        simp at c4
      · rw [c3] at z
        cases z
    · obtain ⟨o, es, ep, e, d, _⟩ := hns
      rw [z, ht] at e
      have eo := Option.some.inj e
      rw [← eo] at d
      cases d
  have ev : Env0 P w K mg (hidT s₁.heap H) callerA [] s₁ H :=
    ⟨rfl, md, fun b o e => of_hidT e, Nat.le_of_eq (hidT_size _ _), trivial, fun b hb => (nomatch hb), hok, .of_eq hg⟩
  refine codeAny_mono ((F _ kb (ns' hns) tb).run callerA [] s₁ H _ [.ref a] [.ref a] _ _ rfl hr ev (bind s₁ (.ref a)) (.cons rfl .nil) hsp) fun r s' h => ?_
  cases r with
  | error e => exact (h : False).elim
  | ok fl =>
    cases fl with
    | next => exact (h : False).elim
    | brk => exact (h : False).elim
    | cont => exact (h : False).elim
    | ret u =>
      obtain ⟨v, H', os, bare, un, hok', r', q⟩ := h
      have q' : v = .bl true := q
      subst q'
      obtain rfl : u = Value.bool true := r'
      have keep : ∀ b o, b ≠ t → s₁.heap.get? b = some o → s'.heap.get? b = some o := by
        intro b o n e
        rcases hO b n with z | ⟨ob, xs, z⟩
        · exact un.keep b o e z (fun m => nomatch m) (fun m => nomatch m)
        · have e1 := (hok b _ z).1
          have e2 := (hok' b _ (un.frzs b ob _ z)).1
          exact (Option.some.inj (e.symm.trans e1)) ▸ e2
      obtain ⟨more, gt⟩ := un.tbls t #[] hHt
      have gt2 : s'.heap.get? t = some { cls := .none, data := .fields (#[] ++ more) } := hok' t _ gt
      refine ⟨rfl, ⟨fun b o e => ?_, fun b o e => ?_⟩, os, bare⟩
      · by_cases eb : b = t
        · subst eb
          have eo := Option.some.inj (e.symm.trans ht)
          subst eo
          exact .inr (.inl ⟨(hc.tab ht).isCodeTable, rfl, #[], more, rfl, gt2⟩)
        · exact .inl (keep b o eb e)
      · by_cases eb : b = t
        · subst eb
          exact ⟨_, gt2⟩
        · exact ⟨o, keep b o eb e⟩
theorem walk_tab {l : PySem.W.OpenLaw} {n k : Nat} {q : Program} {loose : List Str} {XP : (Str → Option Value) → Heap → Prop} {YP : World → Heap → Prop} {d : DefRec} {sp : PySem.W.Frag → Addr → Sp} {x : Str}
    (hn : l.most = some n) (hn2 : n ≤ sizeLine) (hdf : d.params.defaults = []) (hr : Room k callerA)
    (F : ∀ (w : World) (mg : Str → Option Value) (fa : Addr) (h : Heap), YP w h → h.Ns mainGlobals mg → mg d.name = some (.ref fa) →
      ∃ (K : PySem.W.Frag) (c t : Addr) (fd : FuncData), K.In h ∧ h.get? t = some { cls := .none, data := .fields #[] } ∧ K.lookup t = none ∧ PySem.W.CodeHd h c t ∧ (∀ (s : Shared) (u : Value), BindsTo s fd ⟨[u], []⟩ [(x, u)]) ∧
        ∀ base : Heap, K.In base → base.Ns mainGlobals mg → TabB base mg c t → FnG l.prog w K mg base CX0 k fa fd [x] (sp K t))
    (hsp : ∀ (K : PySem.W.Frag) (t : Addr) (H : Hp) (a : Addr) (ns : List Int), ns.length ≤ n → (∀ z ∈ ns, Builtin.Int.intBits z ≤ 1048576) → H t = some (.tbl #[]) → SqL K H a (ns.map V.int) → sp K t [.ref a] H (fun v _ => v = .bl true) fun _ _ _ => False) :
    PySem.W.WalkO q loose XP YP l.row.toRowW d [] (fun f vs => PySem.call f vs) := by
  refine Att.attach_callB hn hdf fun w s₀ s₁ mg mb fa o pm cd doc a vs ns G Y ho hd hcd hmg hobj hints hlen hbits hg => ?_
  obtain ⟨K, c, t, fd, KX, ht, nt, hc, b, f⟩ := F w mg fa _ Y G.T.g hmg
  have rv := vals_ints hints
  have lv := hints.length
  have nat_ : a ≠ t := fun z => by
    have e := hobj
    rw [z, ht] at e
    have eo := congrArg Obj.data (Option.some.inj e)
    cases eo
  have hl : ns.length ≤ sizeLine := Nat.le_trans hlen hn2
  cases hk : K.lookup a with
  | some oa =>
    have eo := Option.some.inj ((KX a oa hk).symm.trans hobj)
    subst eo
    refine end_tab (H := fun b => if b = t then some (.tbl #[]) else none) KX G.T.g G.T.b G.T.builtins G.T.nolimit hg ht nt hc G.T.bmain hobj hr f b (if_pos rfl) (fun b n => .inl (if_neg n)) (fun b u z => ?_) (fun b n z => absurd (if_neg n) z) (fun z => absurd (if_neg nat_) z) ?_
    · by_cases eb : b = t
      · subst eb
        have eu := Option.some.inj ((if_pos rfl).symm.trans z)
        subst eu
        exact ht
      · exact nomatch (if_neg eb).symm.trans z
    · exact hsp K t _ a ns hlen hbits (if_pos rfl) (.inr ⟨_, vs.toArray, _, hk, rfl, rfl, rfl, by rw [List.size_toArray, lv]; exact hl, by simpa using rv⟩)
  | none =>
    refine end_tab (H := fun b => if b = t then some (.tbl #[]) else if b = a then some (HO.frz { cls := .type "list", data := .seq vs.toArray } (.lst (ns.map V.int))) else none) KX G.T.g G.T.b G.T.builtins G.T.nolimit hg ht nt hc G.T.bmain hobj hr f b (if_pos rfl) (fun b n => ?_) (fun b u z => ?_) (fun b n z => ?_) (fun _ => hk) ?_
    · by_cases eb : b = a
      · exact .inr ⟨_, _, (if_neg n).trans (if_pos eb)⟩
      · exact .inl ((if_neg n).trans (if_neg eb))
    · by_cases eb : b = t
      · subst eb
        have eu := Option.some.inj ((if_pos rfl).symm.trans z)
        subst eu
        exact ht
      · have z2 := (if_neg eb).symm.trans z
        by_cases e2 : b = a
        · subst e2
          have eu := Option.some.inj ((if_pos rfl).symm.trans z2)
          subst eu
          exact ⟨hobj, by rw [List.length_map]; exact hl, vs, _, rv, hobj⟩
        · exact nomatch (if_neg e2).symm.trans z2
    · refine Classical.byContradiction fun e2 => z ((if_neg n).trans (if_neg e2))
    · exact hsp K t _ a ns hlen hbits (if_pos rfl) (.inl (.inr ⟨_, (if_neg nat_).trans (if_pos rfl)⟩))
end L2
set_option maxRecDepth 100000
namespace L2
open PySem PySem.Spec PyProof.Rows LamX
/-! the law's call, where nothing is being shown and several defs make lambdas: their code objects and tables in ts -/
theorem end_tabs {P : Program} {w : World} {K : PySem.W.Frag} {mg mb : Str → Option Value} {k : Nat} {fa a : Addr} {ts : List (Addr × Addr)} {fd : FuncData} {x : Str} {sp : Sp} {s₁ : Shared} {vs : List Value} {H : Hp}
    (KX : K.In s₁.heap) (hns : s₁.heap.Ns mainGlobals mg) (hb : s₁.heap.Ns builtinsNs mb) (hbb : ∀ y : Str, y ≠ "__name__" → mb y = bootBuiltins y) (lim : s₁.heap.NoLimit) (hg : s₁.gens = #[])
    (ht : ∀ p ∈ ts, s₁.heap.get? p.2 = some { cls := .none, data := .fields #[] }) (nt : ∀ p ∈ ts, K.lookup p.2 = none) (hc : ∀ p ∈ ts, PySem.W.CodeHd s₁.heap p.1 p.2)
    (bm : ∃ (m : Addr) (om : Obj), mg "__builtins__" = some (.ref m) ∧ m ≠ builtinsNs ∧ s₁.heap.get? m = some om ∧ om.cls = .type "module" ∧ om.dict = some builtinsNs ∧ om.data = .plain)
    (ha : s₁.heap.get? a = some { cls := .type "list", data := .seq vs.toArray }) (hr : Room k callerA)
    (F : ∀ base : Heap, K.In base → base.Ns mainGlobals mg → (∀ p ∈ ts, TabB base mg p.1 p.2) → FnG P w K mg base CX0 k fa fd [x] sp) (bind : ∀ (s : Shared) (u : Value), BindsTo s fd ⟨[u], []⟩ [(x, u)])
    (hHt : ∀ p ∈ ts, H p.2 = some (.tbl #[])) (hO : ∀ b, (∀ p ∈ ts, b ≠ p.2) → H b = none ∨ ∃ o xs, H b = some (.frz o (.lst xs))) (hok : HOk P w H s₁.heap) (hA : ∀ b, (∀ p ∈ ts, b ≠ p.2) → H b ≠ none → b = a) (hK : H a ≠ none → K.lookup a = none)
    (hsp : sp [.ref a] H (fun v _ => v = .bl true) fun _ _ _ => False) :
    codeAny (model P w) callerA (.call (.ref fa) ⟨[.ref a], []⟩) (fun r s' => r = .ok (.ret (.bool true)) ∧ OldK s₁.heap s'.heap ∧ s'.os = s₁.os ∧ AllBare s'.gens) s₁ := by
  have apart : ∀ {b : Addr} {o : Obj}, s₁.heap.get? b = some o → o.data ≠ .fields #[] → ∀ p ∈ ts, b ≠ p.2 := by
    intro b o e d p hp z
    rw [z, ht p hp] at e
    have eo := Option.some.inj e
    exact d (by rw [← eo])
  have free : ∀ {b : Addr} {o : Obj}, s₁.heap.get? b = some o → o.data ≠ .fields #[] → (∀ v n, o.data ≠ .seq v n) → H b = none := by
    intro b o e d1 d2
    refine Classical.byContradiction fun n => ?_
    have eb := hA b (apart e d1) n
    subst eb
    have eo := Option.some.inj (e.symm.trans ha)
    exact d2 vs.toArray _ (by rw [eo])
  have ns' : ∀ {b : Addr} {m : Str → Option Value}, s₁.heap.Ns b m → (hidT s₁.heap H).Ns b m := by
    rintro b m ⟨o, es, ep, e, d, r⟩
    exact ⟨o, es, ep, hidT_get e (free e (by rw [d]; intro z; cases z) fun v n z => by rw [d] at z; cases z), d, r⟩
  have kb : K.In (hidT s₁.heap H) := by
    intro b o e
    refine hidT_get (KX b o e) (Classical.byContradiction fun n => ?_)
    by_cases eb : ∃ p ∈ ts, b = p.2
    · obtain ⟨p, hp, eb⟩ := eb
      rw [eb, nt p hp] at e
      cases e
    · have e2 := hA b (fun p hp z => eb ⟨p, hp, z⟩) n
      subst e2
      rw [hK n] at e
      cases e
  have md : Mod K mg (hidT s₁.heap H) := by
    obtain ⟨mc, h1, h2⟩ := lim
    exact ⟨kb, ns' hns, ⟨mb, ns' hb, hbb⟩, ⟨mc, ns' h1, h2⟩⟩
  have tb : ∀ p ∈ ts, TabB (hidT s₁.heap H) mg p.1 p.2 := by
    intro p hp
    obtain ⟨m, om, m1, m2, m3, m4, m5, m6⟩ := id bm
    have hm : H m = none := free m3 (by rw [m6]; intro z; cases z) fun v n z => by rw [m6] at z; cases z
    have gm : m ≠ mainGlobals := fun z => by
      obtain ⟨o, es, ep, e, d, _⟩ := hns
      rw [z, e] at m3
      have eo := Option.some.inj m3
      rw [← eo, d] at m6
      cases m6
    have mt : m ≠ p.2 := apart m3 (by rw [m6]; intro z; cases z) p hp
    refine ⟨?_, ⟨m, om, m1, m2, gm, mt, hidT_get m3 hm, m4, m5, m6⟩, fun z => ?_⟩
    · obtain ⟨o, us, fi, tf, fl, tg, inF, tx, tt, c1, c2, c3, c4, rest⟩ := hc p hp
      refine ⟨o, us, fi, tf, fl, tg, inF, tx, tt, hidT_get c1 (free c1 (fun z => ?_) fun v n z => ?_), c2, c3, c4, rest⟩
      · rw [c3] at z
        have e := Data.fields.inj z
        rw [e] at c4
        simp at c4
      · rw [c3] at z
        cases z
    · obtain ⟨o, es, ep, e, d, _⟩ := hns
      rw [z, ht p hp] at e
      have eo := Option.some.inj e
      rw [← eo] at d
      cases d
  have ev : Env0 P w K mg (hidT s₁.heap H) callerA [] s₁ H :=
    ⟨rfl, md, fun b o e => of_hidT e, Nat.le_of_eq (hidT_size _ _), trivial, fun b hb => (nomatch hb), hok, .of_eq hg⟩
  refine codeAny_mono ((F _ kb (ns' hns) tb).run callerA [] s₁ H _ [.ref a] [.ref a] _ _ rfl hr ev (bind s₁ (.ref a)) (.cons rfl .nil) hsp) fun r s' h => ?_
  cases r with
  | error e => exact (h : False).elim
  | ok fl =>
    cases fl with
    | next => exact (h : False).elim
    | brk => exact (h : False).elim
    | cont => exact (h : False).elim
    | ret u =>
      obtain ⟨v, H', os, bare, un, hok', r', q⟩ := h
      have q' : v = .bl true := q
      subst q'
      obtain rfl : u = Value.bool true := r'
      have keep : ∀ b o, (∀ p ∈ ts, b ≠ p.2) → s₁.heap.get? b = some o → s'.heap.get? b = some o := by
        intro b o n e
        rcases hO b n with z | ⟨ob, xs, z⟩
        · exact un.keep b o e z (fun m => nomatch m) (fun m => nomatch m)
        · have e1 := (hok b _ z).1
          have e2 := (hok' b _ (un.frzs b ob _ z)).1
          exact (Option.some.inj (e.symm.trans e1)) ▸ e2
      refine ⟨rfl, ⟨fun b o e => ?_, fun b o e => ?_⟩, os, bare⟩
      · by_cases eb : ∃ p ∈ ts, b = p.2
        · obtain ⟨p, hp, eb⟩ := eb
          obtain ⟨more, gt⟩ := un.tbls p.2 #[] (hHt p hp)
          have gt2 : s'.heap.get? p.2 = some { cls := .none, data := .fields (#[] ++ more) } := hok' p.2 _ gt
          subst eb
          have eo := Option.some.inj (e.symm.trans (ht p hp))
          subst eo
          exact .inr (.inl ⟨((hc p hp).tab (ht p hp)).isCodeTable, rfl, #[], more, rfl, gt2⟩)
        · exact .inl (keep b o (fun p hp z => eb ⟨p, hp, z⟩) e)
      · by_cases eb : ∃ p ∈ ts, b = p.2
        · obtain ⟨p, hp, eb⟩ := eb
          obtain ⟨more, gt⟩ := un.tbls p.2 #[] (hHt p hp)
          have gt2 : s'.heap.get? p.2 = some { cls := .none, data := .fields (#[] ++ more) } := hok' p.2 _ gt
          subst eb
          exact ⟨_, gt2⟩
        · exact ⟨o, keep b o (fun p hp z => eb ⟨p, hp, z⟩) e⟩
open Classical in
theorem walk_tabs {l : PySem.W.OpenLaw} {n k : Nat} {q : Program} {loose : List Str} {XP : (Str → Option Value) → Heap → Prop} {YP : World → Heap → Prop} {d : DefRec} {sp : PySem.W.Frag → List (Addr × Addr) → Sp} {x : Str}
    (hn : l.most = some n) (hn2 : n ≤ sizeLine) (hdf : d.params.defaults = []) (hr : Room k callerA)
    (F : ∀ (w : World) (mg : Str → Option Value) (fa : Addr) (h : Heap), YP w h → h.Ns mainGlobals mg → mg d.name = some (.ref fa) →
      ∃ (K : PySem.W.Frag) (ts : List (Addr × Addr)) (fd : FuncData), K.In h ∧ (∀ p ∈ ts, h.get? p.2 = some { cls := .none, data := .fields #[] }) ∧ (∀ p ∈ ts, K.lookup p.2 = none) ∧ (∀ p ∈ ts, PySem.W.CodeHd h p.1 p.2) ∧ (∀ (s : Shared) (u : Value), BindsTo s fd ⟨[u], []⟩ [(x, u)]) ∧
        ∀ base : Heap, K.In base → base.Ns mainGlobals mg → (∀ p ∈ ts, TabB base mg p.1 p.2) → FnG l.prog w K mg base CX0 k fa fd [x] (sp K ts))
    (hsp : ∀ (K : PySem.W.Frag) (ts : List (Addr × Addr)) (H : Hp) (a : Addr) (ns : List Int), ns.length ≤ n → (∀ z ∈ ns, Builtin.Int.intBits z ≤ 1048576) → (∀ p ∈ ts, H p.2 = some (.tbl #[])) → SqL K H a (ns.map V.int) → sp K ts [.ref a] H (fun v _ => v = .bl true) fun _ _ _ => False) :
    PySem.W.WalkO q loose XP YP l.row.toRowW d [] (fun f vs => PySem.call f vs) := by
  refine Att.attach_callB hn hdf fun w s₀ s₁ mg mb fa o pm cd doc a vs ns G Y ho hd hcd hmg hobj hints hlen hbits hg => ?_
  obtain ⟨K, ts, fd, KX, ht, nt, hc, b, f⟩ := F w mg fa _ Y G.T.g hmg
  have rv := vals_ints hints
  have lv := hints.length
  have nat_ : ¬ ∃ p ∈ ts, a = p.2 := fun ⟨p, hp, z⟩ => by
    have e := hobj
    rw [z, ht p hp] at e
    have eo := congrArg Obj.data (Option.some.inj e)
    cases eo
  have hl : ns.length ≤ sizeLine := Nat.le_trans hlen hn2
  have no : ∀ {b : Addr}, (∀ p ∈ ts, b ≠ p.2) → ¬ ∃ p ∈ ts, b = p.2 := fun n ⟨p, hp, z⟩ => n p hp z
  cases hk : K.lookup a with
  | some oa =>
    have eo := Option.some.inj ((KX a oa hk).symm.trans hobj)
    subst eo
    refine end_tabs (H := fun b => if ∃ p ∈ ts, b = p.2 then some (.tbl #[]) else none) KX G.T.g G.T.b G.T.builtins G.T.nolimit hg ht nt hc G.T.bmain hobj hr f b (fun p hp => if_pos ⟨p, hp, rfl⟩) (fun b n => .inl (if_neg (no n))) (fun b u z => ?_) (fun b n z => absurd (if_neg (no n)) z) (fun z => absurd (if_neg nat_) z) ?_
    · by_cases eb : ∃ p ∈ ts, b = p.2
      · have eu := Option.some.inj ((if_pos eb).symm.trans z)
        subst eu
        obtain ⟨p, hp, eb⟩ := eb
        subst eb
        exact ht p hp
      · exact nomatch (if_neg eb).symm.trans z
    · exact hsp K ts _ a ns hlen hbits (fun p hp => if_pos ⟨p, hp, rfl⟩) (.inr ⟨_, vs.toArray, _, hk, rfl, rfl, rfl, by rw [List.size_toArray, lv]; exact hl, by simpa using rv⟩)
  | none =>
    refine end_tabs (H := fun b => if ∃ p ∈ ts, b = p.2 then some (.tbl #[]) else if b = a then some (HO.frz { cls := .type "list", data := .seq vs.toArray } (.lst (ns.map V.int))) else none) KX G.T.g G.T.b G.T.builtins G.T.nolimit hg ht nt hc G.T.bmain hobj hr f b (fun p hp => if_pos ⟨p, hp, rfl⟩) (fun b n => ?_) (fun b u z => ?_) (fun b n z => ?_) (fun _ => hk) ?_
    · by_cases eb : b = a
      · exact .inr ⟨_, _, (if_neg (no n)).trans (if_pos eb)⟩
      · exact .inl ((if_neg (no n)).trans (if_neg eb))
    · by_cases eb : ∃ p ∈ ts, b = p.2
      · have eu := Option.some.inj ((if_pos eb).symm.trans z)
        subst eu
        obtain ⟨p, hp, eb⟩ := eb
        subst eb
        exact ht p hp
      · have z2 := (if_neg eb).symm.trans z
        by_cases e2 : b = a
        · subst e2
          have eu := Option.some.inj ((if_pos rfl).symm.trans z2)
          subst eu
          exact ⟨hobj, by rw [List.length_map]; exact hl, vs, _, rv, hobj⟩
        · exact nomatch (if_neg e2).symm.trans z2
    · refine Classical.byContradiction fun e2 => z ((if_neg (no n)).trans (if_neg e2))
    · exact hsp K ts _ a ns hlen hbits (fun p hp => if_pos ⟨p, hp, rfl⟩) (.inl (.inr ⟨_, (if_neg nat_).trans (if_pos rfl)⟩))
end L2
set_option maxRecDepth 100000
namespace Toy
open PySem L2 LamX Dg ClX
abbrev s_law : Stmt := top 47
def spTabs (K : PySem.W.Frag) (ts : List (Addr × Addr)) : Sp := fun vs H Q _ => ∃ (a : Addr) (ns : List Int), vs = [.ref a] ∧ SqL K H a (ns.map V.int) ∧ ns.length ≤ 63 ∧ (∀ z ∈ ns, Builtin.Int.intBits z ≤ 1048576) ∧ (∀ p ∈ ts, H p.2 = some (.tbl #[])) ∧ ∀ H', Q (.bl true) H'
def spXor1 (CR CT C : Addr) (K : PySem.W.Frag) : Sp := fun vs H Q E => spXor CR CT C K (vs ++ [.int 0]) H Q E
section
variable {P : Program} {w : World} {K : PySem.W.Frag} {mg : Str → Option Value} {base : Heap} {CR CN CT B : Addr} {C pc pb gc gb : Addr} {mc : Value}
abbrev N_law : List Str := ["_law_script", "_law_pen_here", "_law_turn", "_law_told", "_law_due"]
theorem sc_law : FnScope N_law ["_law_script"] (defScope s_law) := ⟨rfl, rfl, rfl, by decide +kernel, rfl, by decide +kernel, by decide +kernel⟩
set_option maxHeartbeats 4000000 in
theorem ok_law {f fPn fD fTM fTF fTP fHe fSt c TM TF TP TL cM cF cP cL pM gM pX gX pP gP : Addr} {fdPn fdD fdTM fdTF fdTP fdSt fdC : FuncData} {oc kV doc pm ct : Value} {od an : Option Addr} {osl : Array (Option Value)} {och kVh doch pmh cdvh cth : Value} {odh anh : Option Addr} {oslh : Array (Option Value)}
    (lk : K.lookup f = some ⟨oc, od, .func (PySem.W.fnOf "law" "law" (defArgs s_law) (defBody s_law) (defScope s_law) .none kV doc pm an (.ref c) ct), osl⟩) (hcd : PySem.W.codeIn K (.ref c) "law" = true) (TBl : TabB base mg c TL) (dis : Dis TM TF TP TL)
    (T : TR mg) (m_str : mg "str" = none) (TU : TRule K mg C pc pb gc gb) (THd : THeard K mg CR CN CT B)
    (GPn : FnOk P w K mg base CX0 1 fPn fdPn ["_law_script"] (spPen K)) (gPn : mg "_law_pen" = some (.ref fPn)) (kPn : PySem.W.keepIn K (.ref fPn) = true) (bPn : Binds K fdPn ["_law_script"] [])
    (GD : FnOk P w K mg base CX0 1 fD fdD ["_law_pen_here", "_law_many"] spDraw) (gD : mg "_law_draw" = some (.ref fD)) (kD : PySem.W.keepIn K (.ref fD) = true) (bD : Binds K fdD ["_law_pen_here", "_law_many"] [])
    (GTM : FnG P w K mg base CX0 9 fTM fdTM ["_law_pen_here", "_law_banks"] (spMr TM TF TP TL)) (gTM : mg "_law_modulo_right" = some (.ref fTM)) (kTM : PySem.W.keepIn K (.ref fTM) = true) (bTM : Binds K fdTM ["_law_pen_here", "_law_banks"] [])
    (GTF : FnG P w K mg base CX0 9 fTF fdTF ["_law_pen_here"] (spFr TM TF TP TL)) (gTF : mg "_law_folds_right" = some (.ref fTF)) (kTF : PySem.W.keepIn K (.ref fTF) = true) (bTF : Binds K fdTF ["_law_pen_here"] [])
    (GTP : FnG P w K mg base CX0 9 fTP fdTP ["_law_pen_here"] (spPr TM TF TP TL)) (gTP : mg "_law_padded_right" = some (.ref fTP)) (kTP : PySem.W.keepIn K (.ref fTP) = true) (bTP : Binds K fdTP ["_law_pen_here"] [])
    (rcR : CRead K C mc) (cmM : CMet K C mc "modulo" pM gM) (GMd : FnR P w K mg base (L2.CX P w) 6 gM (spModulo CR CT C K)) (cmX : CMet K C mc "xor" pX gX) (GXr : FnR P w K mg base (L2.CX P w) 6 gX (spXor CR CT C K)) (GXr1 : FnR P w K mg base (L2.CX P w) 6 gX (spXor1 CR CT C K)) (cmP : CMet K C mc "padded" pP gP) (GPd : FnR P w K mg base (L2.CX P w) 6 gP (spPadded CR CT C K))
    (nSt : PySem.W.findIn K (.ref C) "__str__" = some (some (.ref fSt))) (nSt2 : PySem.W.isFn K (.ref fSt) = true) (GSt : FnOk P w K mg base CX0 2 fSt fdSt ["self"] (spStr C)) (bSt : Binds K fdSt ["self"] [])
    (GC : FnOk P w K mg base CX0 1 gc fdC ["self"] (spClasses C)) (bC : Binds K fdC ["self"] [])
    (gHe : mg "_law_heard" = some (.ref fHe)) (kHe : PySem.W.keepIn K (.ref fHe) = true) (lkHe : K.lookup fHe = some ⟨och, odh, .func (PySem.W.fnOf "_law_heard" "_law_heard" (defArgs s__law_heard) (defBody s__law_heard) (defScope s__law_heard) .none kVh doch pmh anh cdvh cth), oslh⟩) (hcHe : PySem.W.codeIn K cdvh "_law_heard" = true)
    (bHe : L2.Binds K (PySem.W.fnOf "_law_heard" "_law_heard" (defArgs s__law_heard) (defBody s__law_heard) (defScope s__law_heard) .none kVh doch pmh anh cdvh cth) ["_law_ask"] []) :
    FnG P w K mg base CX0 10 f (PySem.W.fnOf "law" "law" (defArgs s_law) (defBody s_law) (defScope s_law) .none kV doc pm an (.ref c) ct) ["_law_script"] (spTabs K [(cM, TM), (cF, TF), (cP, TP), (cL, TL)]) := by
  refine fnG_of lk hcd sc_law (fun vs H Q E h => ?_) (fun A outer s H vs Q E hgd hr h => ?_)
  · obtain ⟨a, ns, rfl, _⟩ := h
    rfl
  · obtain ⟨a, ns, rfl, hS, hl, hb, hTs, k⟩ := h
    have hrT : Room 9 _ := hr
    have hrH : Room 8 _ := hr.mono (by decide)
    have hrK : Room 6 _ := hr.mono (by decide)
    have hrSt : Room 3 _ := hr.mono (by decide)
    have hrD2 : Room 2 _ := hr.mono (by decide)
    have hrD1 : Room 1 _ := hr.mono (by decide)
    refine ⟨_, (pss_cons (ps_set (i := 1) sc_law.nd rfl (Or.inl rfl) (by exact (pe_call GPn hrD1 rfl gPn kPn bPn .nil pass0 (pa_cons (pv 0) pa_nil))))
 (pss_cons (ps_for PassesOwn.never rfl (pi_range1 rfl T.m_range (pa_cons pe_int pa_nil)) (pg_name (i := 2) sc_law.nd rfl (Or.inl rfl))
 (pss_one (ps_if (PW.pt (pw_or (pt_not (pt_val (pe_callG GTM hgd hrT rfl gTM kTM bTM .nil pass0 (pa_cons (pv 1) (pa_cons (pe_op op_add pe_int (pe_call GD hrD1 rfl gD kD bD .nil pass0 (pa_cons (pv 1) (pa_cons pe_int pa_nil)))) pa_nil))))) (pw_or (pt_not (pt_val (pe_callG GTF hgd hrT rfl gTF kTF bTF .nil pass0 (pa_cons (pv 1) pa_nil)))) (pw_or1 (pt_not (pt_val (pe_callG GTP hgd hrT rfl gTP kTP bTP .nil pass0 (pa_cons (pv 1) pa_nil)))))))) (pss_one (ps_ret pe_bl)) pss_nil)))
 (pss_cons (ps_set (i := 3) sc_law.nd rfl (Or.inl rfl) (pe_lst (pa_cons (pe_callTy (call_strI GSt bSt hrSt nSt nSt2 pass0) (by rfl) m_str (by decide +kernel) (pa_cons (pe_cmeth (pe_glob (v := .ref C) rfl TU.gC rfl) rcR cmP GPd hrK passL (pa_cons pe_int (pa_cons pe_int (pa_cons pe_int pa_nil)))) pa_nil)) (pa_cons (pe_callTy (call_strI GSt bSt hrSt nSt nSt2 pass0) (by rfl) m_str (by decide +kernel) (pa_cons (pe_cmeth (pe_glob (v := .ref C) rfl TU.gC rfl) rcR cmX GXr hrK passL (pa_cons pe_int (pa_cons pe_int pa_nil))) pa_nil)) (pa_cons (pe_callTy (call_strI GSt bSt hrSt nSt nSt2 pass0) (by rfl) m_str (by decide +kernel) (pa_cons (pe_cmeth (pe_glob (v := .ref C) rfl TU.gC rfl) rcR cmM GMd hrK passL (pa_cons pe_int pa_nil)) pa_nil)) (pa_cons (pe_callTy (call_strI GSt bSt hrSt nSt nSt2 pass0) (by rfl) m_str (by decide +kernel) (pa_cons (pe_cmeth (pe_glob (v := .ref C) rfl TU.gC rfl) rcR cmX GXr1 hrK passL (pa_cons pe_int pa_nil)) pa_nil)) (pa_cons (pe_prop (pe_cmeth (pe_glob (v := .ref C) rfl TU.gC rfl) rcR cmM GMd hrK passL (pa_cons pe_int pa_nil)) TU.cl TU.pC GC hrD2 bC .nil pass0 rfl) pa_nil)))))))
 (pss_cons (ps_set (i := 4) sc_law.nd rfl (Or.inl rfl) (pe_lst (pa_cons pe_str (pa_cons pe_str (pa_cons pe_str pa_nil)))))
 (pss_one (ps_ret (pe_and (pe_cmpR (op_eqD hrD2.units) (pv 3) (pe_op op_cat (pv 4) (pe_lst (pa_cons pe_str (pa_cons pe_int pa_nil)))) (nomark _)) (pe_one (pe_cmpR (op_eqD hrD2.units) (pe_lamcall (T := T4 TM TF TP TL) (TT := TTH CR CN CT) (k := 6) (t := (fun E => tCMeth C (spModulo CR CT C K) E (tC (.ref C)) (tCons (tC (.int 29)) tNil))) rfl gHe kHe lkHe hcHe bHe sc__law_heard rfl (Or.inl rfl) (heard_gives THd hrH hgd) TBl rfl t4_l (t4u_l dis) hrH (lamS_by (show lamSB (defScope s_law) _ = true by decide +kernel)) rfl (fun _ _ _ _ _ => rfl) (fun A outer s H E f c' hr => (pe_cmeth (pe_glob (v := .ref C) rfl TU.gC rfl) rcR cmM GMd hr (passes_call (takes_of rfl rfl rfl rfl) fun _ _ _ _ h => h) (pa_cons pe_int pa_nil)))) (pe_tup (pa_cons pe_str (pa_cons pe_int pa_nil))) (nomark _)))))))))), ?_⟩
    refine ⟨_, rfl, a, ns, rfl, hS, hl, hb, fun H1 p l s1 np P1 => ?_⟩
    refine ⟨3, rfl, by decide, by decide, for_it walk_range (fun i σ G => ∃ (a' b' : Int) (u : Option V), σ = [some (.ref a), some (.ref p), u, none, none] ∧ PenAt G p l ns a' b' ∧ a' ≤ 100 * (i : Int) ∧ Tabs (T4 TM TF TP TL) G) ?_ (fun _ _ _ _ _ => trivial) ?_ ?_⟩
    · refine ⟨0, 0, none, rfl, P1, by omega, fun y hy => ?_⟩
      have h1 := hTs _ List.mem_cons_self
      have h2 := hTs _ (List.mem_cons_of_mem _ List.mem_cons_self)
      have h3 := hTs _ (List.mem_cons_of_mem _ (List.mem_cons_of_mem _ List.mem_cons_self))
      have h4 := hTs _ (List.mem_cons_of_mem _ (List.mem_cons_of_mem _ (List.mem_cons_of_mem _ List.mem_cons_self)))
      rcases t4_cases hy with rfl | rfl | rfl | rfl
      · exact TabS.nil (s1 _ _ h1)
      · exact TabS.nil (s1 _ _ h2)
      · exact TabS.nil (s1 _ _ h3)
      · exact TabS.nil (s1 _ _ h4)
    · rintro i v σ G G' hi ⟨a', b', u, rfl, PG, ha, tb⟩ ⟨rfl, rfl⟩
      have hi2 : i < 3 := hi
      refine ⟨_, rfl, _, rfl, p, l, ns, a', b', 31, rfl, PG, by omega, by decide, by decide, fun G2 d a2 b2 d0 d1 h21 h22 bt2 P2 => ⟨_, _, rfl, rfl, p, l, ns, a2, b2, _, rfl, by omega, by omega, P2, by omega, tabs_but PG.pen bt2 tb, fun H3 a3 b3 P3 h3 T3 => ⟨_, rfl, ?_⟩⟩⟩
      refine iteF ?_
      refine ⟨_, rfl, p, l, ns, a3, b3, rfl, P3, by omega, T3, fun H4 a4 b4 P4 h4 T4' => ⟨_, rfl, ?_⟩⟩
      refine iteF ?_
      refine ⟨_, rfl, p, l, ns, a4, b4, rfl, P4, by omega, T4', fun H5 a5 b5 P5 h5 T5 => ⟨_, rfl, ?_⟩⟩
      exact iteF ⟨a5, b5, _, rfl, P5, by omega, T5⟩
    · rintro σ G ⟨a', b', u, rfl, PG, ha, tb⟩
      refine ⟨rfl, .int 4, .int 2, .int 1, "int", "int", "int", rfl, .int _, .int _, .int _, (fun y => absurd y (by decide)), (fun _ _ _ y => absurd y (by decide)), (fun m e _ _ y => ?_), fun m q e e1 e2 e3 _ _ _ _ _ _ => ?_⟩
      · rw [← V.int.inj e] at y
        exact absurd y (by decide)
      obtain rfl := V.int.inj e1
      obtain rfl : 2 = e := by have := V.int.inj e2; omega
      obtain rfl := V.int.inj e3
      refine ⟨fun big => absurd big (by decide +kernel), fun _ K1 z1 sz1 Rz1 => ?_⟩
      rw [show normW (powM 4 2 ++ (doubled (2 ^ 2 + 1) 4).1) (doubled (2 ^ 2 + 1) 4).2 = ([1, 2, 1, 2], [0]) by decide +kernel] at Rz1
      replace Rz1 : RuleAt C K1 z1 ([4].map V.int) [1, 2, 1, 2] [0] := Rz1
      obtain ⟨dz1, _, _, _, iz1, _⟩ := id Rz1
      refine ⟨z1, dz1, _, rfl, iz1, z1, [4], [1, 2, 1, 2], [0], rfl, Rz1, ⟨by decide +kernel, by decide +kernel, by decide +kernel, by decide +kernel⟩, ⟨by decide +kernel, by decide +kernel, by decide +kernel, by decide +kernel⟩, ⟨by decide +kernel, by decide +kernel, by decide +kernel, by decide +kernel⟩, fun K1x sxz1 => ⟨_, rfl, ?_⟩⟩
      rw [show ruleTxt [4] [1, 2, 1, 2] [0] = "moduli 4 ahead 1 2 1 2 round 0" by decide +kernel]
      refine ⟨rfl, .int 2, .int 2, "int", "int", rfl, .int _, .int _, (fun y => absurd y (by decide)), (fun _ y => absurd y (by decide)), fun n j e1 e2 _ _ _ => ?_⟩
      obtain rfl : 2 = n := by have := V.int.inj e1; omega
      obtain rfl : 2 = j := by have := V.int.inj e2; omega
      refine ⟨fun big => absurd big (by decide +kernel), fun _ K2 z2 sz2 Rz2 => ?_⟩
      rw [show normW (if 2 = 0 then [] else (List.replicate 2 (powL 2)).flatten) (if 2 = 0 then powL 2 else [0]) = ([1, 2, 1, 2], [0]) by decide +kernel] at Rz2
      replace Rz2 : RuleAt C K2 z2 ([2, 2].map V.int) [1, 2, 1, 2] [0] := Rz2
      obtain ⟨dz2, _, _, _, iz2, _⟩ := id Rz2
      refine ⟨z2, dz2, _, rfl, iz2, z2, [2, 2], [1, 2, 1, 2], [0], rfl, Rz2, ⟨by decide +kernel, by decide +kernel, by decide +kernel, by decide +kernel⟩, ⟨by decide +kernel, by decide +kernel, by decide +kernel, by decide +kernel⟩, ⟨by decide +kernel, by decide +kernel, by decide +kernel, by decide +kernel⟩, fun K2x sxz2 => ⟨_, rfl, ?_⟩⟩
      rw [show ruleTxt [2, 2] [1, 2, 1, 2] [0] = "moduli 2 2 ahead 1 2 1 2 round 0" by decide +kernel]
      refine ⟨rfl, .int 12, "int", rfl, .int _, (fun y => absurd y (by decide)), fun m e _ _ => ?_⟩
      obtain rfl := V.int.inj e
      refine ⟨fun big => absurd big (by decide +kernel), fun _ K3 z3 sz3 Rz3 => ?_⟩
      rw [show normW (doubled 1 12).1 (doubled 1 12).2 = ([1, 2], [4, 8]) by decide +kernel] at Rz3
      replace Rz3 : RuleAt C K3 z3 ([12].map V.int) [1, 2] [4, 8] := Rz3
      obtain ⟨dz3, _, _, _, iz3, _⟩ := id Rz3
      refine ⟨z3, dz3, _, rfl, iz3, z3, [12], [1, 2], [4, 8], rfl, Rz3, ⟨by decide +kernel, by decide +kernel, by decide +kernel, by decide +kernel⟩, ⟨by decide +kernel, by decide +kernel, by decide +kernel, by decide +kernel⟩, ⟨by decide +kernel, by decide +kernel, by decide +kernel, by decide +kernel⟩, fun K3x sxz3 => ⟨_, rfl, ?_⟩⟩
      rw [show ruleTxt [12] [1, 2] [4, 8] = "moduli 12 ahead 1 2 round 4 8" by decide +kernel]
      refine ⟨rfl, .int 1, .int 0, "int", "int", rfl, .int _, .int _, (fun y => absurd y (by decide)), (fun _ y => absurd y (by decide)), fun n j e1 e2 _ _ _ => ?_⟩
      obtain rfl : 1 = n := by have := V.int.inj e1; omega
      obtain rfl : 0 = j := by have := V.int.inj e2; omega
      refine ⟨fun big => absurd big (by decide +kernel), fun _ K4 z4 sz4 Rz4 => ?_⟩
      rw [show normW (if 0 = 0 then [] else (List.replicate 0 (powL 1)).flatten) (if 0 = 0 then powL 1 else [0]) = ([], [1]) by decide +kernel] at Rz4
      replace Rz4 : RuleAt C K4 z4 ([2].map V.int) [] [1] := Rz4
      obtain ⟨dz4, _, _, _, iz4, _⟩ := id Rz4
      refine ⟨z4, dz4, _, rfl, iz4, z4, [2], [], [1], rfl, Rz4, ⟨by decide +kernel, by decide +kernel, by decide +kernel, by decide +kernel⟩, ⟨by decide +kernel, by decide +kernel, by decide +kernel, by decide +kernel⟩, ⟨by decide +kernel, by decide +kernel, by decide +kernel, by decide +kernel⟩, fun K4x sxz4 => ⟨_, rfl, ?_⟩⟩
      rw [show ruleTxt [2] [] [1] = "moduli 2 ahead - round 1" by decide +kernel]
      refine ⟨rfl, .int 32, "int", rfl, .int _, (fun y => absurd y (by decide)), fun m e _ _ => ?_⟩
      obtain rfl := V.int.inj e
      refine ⟨fun big => absurd big (by decide +kernel), fun _ K5 z5 sz5 Rz5 => ?_⟩
      rw [show normW (doubled 1 32).1 (doubled 1 32).2 = ([1, 2, 4, 8, 16], [0]) by decide +kernel] at Rz5
      replace Rz5 : RuleAt C K5 z5 ([32].map V.int) [1, 2, 4, 8, 16] [0] := Rz5
      obtain ⟨dz5, _, _, _, iz5, _⟩ := id Rz5
      refine ⟨z5, dz5, _, rfl, iz5, z5, _, _, _, rfl, Rz5, (by show 5 ≤ PySem.sizeLine; decide), fun L6 hL6 => ?_⟩
      have S5 : Same G K5 := fun _ _ z => sz5 _ _ (sxz4 _ _ (sz4 _ _ (sxz3 _ _ (sz3 _ _ (sxz2 _ _ (sz2 _ _ (sxz1 _ _ (sz1 _ _ z))))))))
      have y6 := Same.lay (o := .lst [V.str "moduli 4 ahead 1 2 1 2 round 0", V.str "moduli 2 2 ahead 1 2 1 2 round 0", V.str "moduli 12 ahead 1 2 round 4 8", V.str "moduli 2 ahead - round 1", V.int 6]) hL6
      have h6 : (upd K5 L6 (.lst [V.str "moduli 4 ahead 1 2 1 2 round 0", V.str "moduli 2 2 ahead 1 2 1 2 round 0", V.str "moduli 12 ahead 1 2 round 4 8", V.str "moduli 2 ahead - round 1", V.int 6])) L6 = some (.lst [V.str "moduli 4 ahead 1 2 1 2 round 0", V.str "moduli 2 2 ahead 1 2 1 2 round 0", V.str "moduli 12 ahead 1 2 round 4 8", V.str "moduli 2 ahead - round 1", V.int 6]) := upd_same
      have S6 : Same G (upd K5 L6 (.lst [V.str "moduli 4 ahead 1 2 1 2 round 0", V.str "moduli 2 2 ahead 1 2 1 2 round 0", V.str "moduli 12 ahead 1 2 round 4 8", V.str "moduli 2 ahead - round 1", V.int 6])) := fun _ _ z => y6 _ _ (S5 _ _ z)
      have tb6 := tb.ext S6
      clear S5 y6 S6
      refine ⟨(by show 3 ≤ PySem.sizeLine; decide), fun L7 hL7 => ?_⟩
      have y7 := Same.lay (o := .lst [V.str "moduli 4 ahead 1 2 1 2 round 0", V.str "moduli 2 2 ahead 1 2 1 2 round 0", V.str "moduli 12 ahead 1 2 round 4 8"]) hL7
      refine ⟨_, rfl, _, rfl, (by show 2 ≤ PySem.sizeLine; decide), fun r8 hr8 => ?_⟩
      have y8 := Same.lay (o := .lst [V.str "moduli 2 ahead - round 1", V.int 6]) hr8
      refine ⟨L7, r8, _, _, rfl, rfl, y8 _ _ upd_same, upd_same, (by decide), fun L9 hL9 => ?_⟩
      have y9 := Same.lay (o := .lst ([V.str "moduli 4 ahead 1 2 1 2 round 0", V.str "moduli 2 2 ahead 1 2 1 2 round 0", V.str "moduli 12 ahead 1 2 round 4 8"] ++ [V.str "moduli 2 ahead - round 1", V.int 6])) hL9
      have dp : ∀ {H : Hp}, DpAll K H [V.str "moduli 4 ahead 1 2 1 2 round 0", V.str "moduli 2 2 ahead 1 2 1 2 round 0", V.str "moduli 12 ahead 1 2 round 4 8", V.str "moduli 2 ahead - round 1", V.int 6] ([.str "moduli 4 ahead 1 2 1 2 round 0", .str "moduli 2 2 ahead 1 2 1 2 round 0", .str "moduli 12 ahead 1 2 round 4 8", .str "moduli 2 ahead - round 1", .int 6] : List PyData) := .cons (.str _) (.cons (.str _) (.cons (.str _) (.cons (.str _) (.cons (.int _) .nil))))
      refine ⟨.list [.str "moduli 4 ahead 1 2 1 2 round 0", .str "moduli 2 2 ahead 1 2 1 2 round 0", .str "moduli 12 ahead 1 2 round 4 8", .str "moduli 2 ahead - round 1", .int 6], .list [.str "moduli 4 ahead 1 2 1 2 round 0", .str "moduli 2 2 ahead 1 2 1 2 round 0", .str "moduli 12 ahead 1 2 round 4 8", .str "moduli 2 ahead - round 1", .int 6], .lst (SqL.of (y9 _ _ (y8 _ _ (y7 _ _ h6)))) dp, .lst (SqL.of upd_same) dp, by decide +kernel, by decide +kernel, ?_⟩
      rw [show PyData.eqv (.list [.str "moduli 4 ahead 1 2 1 2 round 0", .str "moduli 2 2 ahead 1 2 1 2 round 0", .str "moduli 12 ahead 1 2 round 4 8", .str "moduli 2 ahead - round 1", .int 6]) (.list [.str "moduli 4 ahead 1 2 1 2 round 0", .str "moduli 2 2 ahead 1 2 1 2 round 0", .str "moduli 12 ahead 1 2 round 4 8", .str "moduli 2 ahead - round 1", .int 6]) = true by decide +kernel]
      refine ⟨true, rfl, ?_⟩
      refine ite2 (fun _ => ?_) (fun c => absurd rfl c)
      refine ⟨tb6.ext fun _ _ z => y9 _ _ (y8 _ _ (y7 _ _ z)), fun G10 e10 T10 => ?_⟩
      refine ⟨rfl, .int 29, "int", rfl, .int _, (fun y => absurd y (by decide)), fun m e _ _ => ?_⟩
      obtain rfl := V.int.inj e
      refine ⟨fun _ d H' s' e' => ?_, fun le => absurd le (by decide +kernel)⟩
      refine ⟨_, _, told_many e', fun G11 w s11 hw => ⟨(by show 2 ≤ PySem.sizeLine; decide), fun t12 ht12 => ?_⟩⟩
      have y12 := Same.lay (o := .tup [V.str "places", V.int 24]) ht12
      refine ⟨rowT, rowT, .tup (SqT.of (y12 _ _ hw)) (.cons (.str _) (.cons (.int _) .nil)), .tup (SqT.of upd_same) (.cons (.str _) (.cons (.int _) .nil)), shaped1 rowT_ok, shaped1 rowT_ok, ?_⟩
      rw [(rowOk_lay rowT_ok).2.2]
      exact k _
end
end Toy
set_option maxRecDepth 100000
namespace L2
open PySem PySem.Spec PyProof.Rows
/-- what the written part says of an own error class below B, itself right below ValueError -/
def XL (K : PySem.W.Frag) (C B : Addr) : Prop := ∃ nm q N bs sn sub ab col dd k0 k1 k2 k3 k5, K.lookup C = some (excClassObj nm q C N bs (.ref B :: PySem.HandSPX.veTail) true sn sub ab col dd k0 k1 k2 k3 k5 "ValueError.__new__")
theorem XL.cls {K : PySem.W.Frag} {C B : Addr} (h : XL K C B) : ∃ cd : ClassData, PySem.W.clsIn K C = some cd ∧ cd.mro = .ref C :: .ref B :: PySem.HandSPX.veTail ∧ cd.hasDict = true := by
  obtain ⟨nm, q, N, bs, sn, sub, ab, col, dd, k0, k1, k2, k3, k5, e⟩ := h
  refine ⟨_, by unfold PySem.W.clsIn; rw [e] <;> rfl, rfl, rfl⟩
theorem XL.ty {K : PySem.W.Frag} {C B : Addr} (h : XL K C B) : PySem.W.typeIn K (.ref C) = some (.type "type") := by
  obtain ⟨nm, q, N, bs, sn, sub, ab, col, dd, k0, k1, k2, k3, k5, e⟩ := h
  show (K.lookup C).map (·.cls) = _
  rw [e]
  rfl
theorem XL.mro {K : PySem.W.Frag} {C B : Addr} (h : XL K C B) (x : Value) : PySem.W.mroIn K C x = some ((.ref C :: .ref B :: PySem.HandSPX.veTail).contains x) := by
  obtain ⟨cd, e, m, _⟩ := h.cls
  unfold PySem.W.mroIn
  rw [e, Option.bind_some, m]
  rfl
theorem XL.isC {K : PySem.W.Frag} {C B : Addr} (h : XL K C B) : (PySem.W.clsIn K C).isSome = true := by
  obtain ⟨cd, e, _⟩ := h.cls
  rw [e]
  rfl
theorem XL.dict {K : PySem.W.Frag} {C B : Addr} (h : XL K C B) : PySem.W.hasDictIn K C = true := by
  obtain ⟨cd, e, _, d⟩ := h.cls
  unfold PySem.W.hasDictIn
  rw [e]
  exact d
theorem XL.x {K : PySem.W.Frag} {C B : Addr} (h : XL K C B) (sa : PySem.W.findIn K (.ref C) "__setattr__" = some (some (.builtin "object.__setattr__"))) (ga : PySem.W.findIn K (.ref C) "__getattribute__" = some (some (.builtin "BaseException.__getattribute__")))
    (gg : PySem.W.findIn K (.ref C) "__getattr__" = some none) (ca : PySem.W.findIn K (.ref C) "__class__" = some (some (.builtin "object.__class__"))) (kC : PySem.W.keepIn K (.ref C) = true)
    (gs : PySem.W.specialIn K (.builtin "object.__class__") "__get__" = some (some (.builtin "getset_descriptor.__get__"))) (tk : PySem.W.takesIn K (.builtin "object.__class__") = some true) : XvC K C where
  oex := {
    cls := by
      obtain ⟨nm, q, N, bs, sn, sub, ab, col, dd, k0, k1, k2, k3, k5, e⟩ := h
      exact ⟨nm, q, N, bs, _, sn, sub, ab, col, dd, k0, k1, k2, k3, k5, e, by show PySem.HandSPX.refsVE PySem.HandSPX.veTail = true; decide +kernel⟩
    sa := sa
    exC := (h.mro _).trans (by simp)
    tyC := h.ty
    kC := kC }
  ga := ga
  gg := gg
  dd := h.dict
  ic := h.isC
  ca := ca
  gs := gs
  tk := tk
  mo := (h.mro _).trans (by simp)
theorem kit_own {K : PySem.W.Frag} {C B D : Addr} (h : XL K C B) (hd : (PySem.W.clsIn K D).isSome = true) (ht : PySem.W.typeIn K (.ref D) = some (.type "type")) : PySem.W.kitOne K (.ref C) (.ref D) = some (decide (C = D) || decide (B = D)) := by
  unfold PySem.W.kitOne
  by_cases e : C = D
  · subst e
    simp
  · have e1 : (Value.ref C == Value.ref D) = false := by simpa using e
    rw [e1, if_neg Bool.false_ne_true]
    unfold PySem.W.kitCls
    have e2 : ((PySem.W.clsIn K D).isSome && PySem.W.typeIn K (.ref D) == some (.type "type")) = true := by rw [hd, ht]; rfl
    show (if ((PySem.W.clsIn K D).isSome && PySem.W.typeIn K (.ref D) == some (.type "type")) = true then PySem.W.mroIn K C (.ref D) else none) = _
    rw [if_pos e2, h.mro]
    have e3 : (Value.ref D == Value.ref C) = false := by simpa using fun z => e z.symm
    by_cases e4 : B = D
    · subst e4
      simp [e]
    · have e5 : ¬ D = B := fun z => e4 z.symm
      have e7 : (Value.ref D == Value.ref B) = false := by simpa using e5
      rw [decide_eq_false e, decide_eq_false e4]
      rw [List.contains_cons, e3, List.contains_cons, e7]
      rfl
theorem kit_ve {K : PySem.W.Frag} {C B : Addr} (h : XL K C B) : PySem.W.kitOne K (.ref C) (.type "ValueError") = some true := by
  unfold PySem.W.kitOne
  have e1 : (Value.ref C == Value.type "ValueError") = false := rfl
  rw [e1, if_neg Bool.false_ne_true]
  show (if PySem.W.kitMeta "ValueError" = true then PySem.W.mroIn K C (.type "ValueError") else none) = _
  rw [if_pos (by decide +kernel), h.mro]
  simp
end L2
set_option maxRecDepth 100000
namespace L2
open PySem PySem.Spec PyProof.Rows
/-! facts of the top as Bools of the written part -/
/-- an own error class right below B, itself right below ValueError -/
def xlB (K : PySem.W.Frag) (C B : Addr) : Bool := match K.lookup C with
  | some ⟨.type "type", _, .cls cd, sl⟩ => (match cd.mro, sl.toList with
    | .ref C' :: .ref B' :: rest, [_, _, _, _, some (.builtin n), _] => decide (C' = C) && (decide (B' = B) && (decide (n = "ValueError.__new__") && (!cd.hasDel && (cd.hasDict && decide (rest = PySem.HandSPX.veTail)))))
    | _, _ => false)
  | _ => false
theorem xl_of {K : PySem.W.Frag} {C B : Addr} (q : xlB K C B = true) : XL K C B := by
  unfold xlB at q
  split at q
  · rename_i dd cd sl ho
    split at q
    · rename_i C' B' rest k0 k1 k2 k3 n k5 hm hs
      simp only [Bool.and_eq_true, decide_eq_true_eq, Bool.not_eq_true'] at q
      obtain ⟨rfl, rfl, rfl, hdel, hdict, rfl⟩ := q
      obtain ⟨nm, bs, mro, ns, qn, hd, sn, sub, ab, col, del⟩ := cd
      dsimp only at hm hdel hdict
      subst hm hdel hdict
      have hsl : sl = #[k0, k1, k2, k3, some (.builtin "ValueError.__new__"), k5] := by
        obtain ⟨l⟩ := sl
        simp only at hs
        rw [hs]
      subst hsl
      exact ⟨nm, qn, ns, bs, sn, sub, ab, col, dd, k0, k1, k2, k3, k5, ho⟩
    · cases q
  · cases q
/-- what is asked of such a class beside -/
def xcB (K : PySem.W.Frag) (C : Addr) : Bool := decide (PySem.W.findIn K (.ref C) "__setattr__" = some (some (.builtin "object.__setattr__"))) && (decide (PySem.W.findIn K (.ref C) "__getattribute__" = some (some (.builtin "BaseException.__getattribute__"))) &&
  (decide (PySem.W.findIn K (.ref C) "__getattr__" = some none) && (decide (PySem.W.findIn K (.ref C) "__class__" = some (some (.builtin "object.__class__"))) && (PySem.W.keepIn K (.ref C) &&
  (decide (PySem.W.specialIn K (.builtin "object.__class__") "__get__" = some (some (.builtin "getset_descriptor.__get__"))) && decide (PySem.W.takesIn K (.builtin "object.__class__") = some true))))))
theorem xc_of {K : PySem.W.Frag} {C B : Addr} (l : XL K C B) (q : xcB K C = true) : XvC K C := by
  unfold xcB at q
  simp only [Bool.and_eq_true, decide_eq_true_eq] at q
  obtain ⟨h1, h2, h3, h4, h5, h6, h7⟩ := q
  exact l.x h1 h2 h3 h4 h5 h6 h7
/-- a property's getter -/
def getterOf (K : PySem.W.Frag) (p : Addr) : Addr := match PySem.W.recIn K p "property" with
  | some (.ref g :: _) => g
  | _ => 0
def propB (K : PySem.W.Frag) (C : Addr) (f : Str) : Bool := decide (PySem.W.findIn K (.ref C) f = some (some (.ref (He.ma K C f)))) && (decide (PySem.W.specialIn K (.ref (He.ma K C f)) "__get__" = some (some (.builtin "property.__get__"))) &&
  (decide (PySem.W.takesIn K (.ref (He.ma K C f)) = some true) && (match PySem.W.recIn K (He.ma K C f) "property" with
    | some (.ref _ :: _) => true
    | _ => false)))
theorem prop_of {K : PySem.W.Frag} {C : Addr} {f : Str} (q : propB K C f = true) : PropOf K C f (He.ma K C f) (getterOf K (He.ma K C f)) := by
  unfold propB at q
  simp only [Bool.and_eq_true, decide_eq_true_eq] at q
  obtain ⟨h1, h2, h3, h4⟩ := q
  refine ⟨h1, h2, h3, ?_⟩
  split at h4
  · rename_i g rest e
    exact ⟨rest, by unfold getterOf; rw [e]⟩
  · cases h4
/-- a def without defaults -/
theorem fun_of {K : PySem.W.Frag} {x qual : Str} {st : Stmt} {f : Addr} {fd : FuncData} (F : FunD K x qual (defArgs st) (defBody st) (defScope st) [] [] f fd) : Fun K x qual st f fd := by
  obtain ⟨oc, od, dV, kV, doc, pm, an, cdv, ct, osl, rfl, lk, hc, hd, _⟩ := F.ex
  rcases hd with ⟨_, rfl⟩ | ⟨n, _⟩
  · exact ⟨⟨oc, od, kV, doc, pm, an, cdv, ct, osl, rfl, lk, hc⟩, F.kp⟩
  · exact absurd rfl n
end L2
set_option maxRecDepth 100000
namespace L2
open PySem PySem.Spec PyProof.Rows He
/-! a head by defs at told places, one Bool, and the table of one def that makes lambdas -/
structure DefA where
  at_ : PySem.W.Frag → Addr
  name : Str
  qual : Str
  st : Stmt
def fnA (K : PySem.W.Frag) (d : DefA) : FnW := match K.lookup (d.at_ K) with
  | some ⟨_, _, .func fd, _⟩ => some (fd.name, fd.qualname, fd.params, fd.body, fd.scope, fd.globals, fd.closure, fd.builtins)
  | _ => none
def DefA.val (d : DefA) : FnW := some (d.name, d.qual, defArgs d.st, .stmts (defBody d.st), defScope d.st, mainGlobals, [], builtinsNs)
def DefA.ok (K : PySem.W.Frag) (d : DefA) : Bool := PySem.W.keepIn K (.ref (d.at_ K)) && (match K.lookup (d.at_ K) with
  | some ⟨_, _, .func fd, _⟩ => PySem.W.codeIn K fd.code d.qual && decide (fd.defaults = .none)
  | _ => false)
theorem DefA.to {K : PySem.W.Frag} {d : DefA} (e : fnA K d = d.val) (c : d.ok K = true) : ∃ fd, Fun K d.name d.qual d.st (d.at_ K) fd := by
  obtain ⟨kp, c2⟩ := ba c
  unfold fnA at e
  split at e
  · rename_i oc od fd osl q
    rw [q] at c2
    obtain ⟨m1, m2, m3, m4, m5, m6, m7, m8, m9, m10, m11, m12, m13, m14, m15⟩ := fd
    have e2 := Option.some.inj e
    simp only [Prod.mk.injEq] at e2
    obtain ⟨h1, h2, h3, h4, h5, h6, h7, h8⟩ := e2
    subst h1 h2 h3 h4 h5 h6 h7 h8
    obtain ⟨k1, k2⟩ := ba c2
    have k3 := of_decide_eq_true k2
    dsimp only at k3
    subst k3
    exact ⟨_, ⟨oc, od, _, _, _, _, _, _, osl, rfl, q, k1⟩, kp⟩
  · cases e
structure SaysH (ds : List DefA) (p : Defn) (ex : PySem.W.Frag → Bool) (h : Heap) (K : PySem.W.Frag) : Prop where
  more : ex K = true
  defs : ∀ d ∈ ds, ∃ fd, Fun K d.name d.qual d.st (d.at_ K) fd
  hd : PySem.W.codeHdIn K (cT K p).1 (cT K p).2 = true
  out : K.lookup (cT K p).2 = none
  empty : h.get? (cT K p).2 = some { cls := .none, data := .fields #[] }
def obsH (n : Nat) (ds : List DefA) (p : Defn) (ex : PySem.W.Frag → Bool) (g : Addr → Option Obj) : Bool × List FnW :=
  (ex (frT g (asD g n)) && ((ds.all fun d => d.ok (frT g (asD g n))) && tabsB g [p] (frT g (asD g n))), ds.map (fnA (frT g (asD g n))))
theorem says_of {n : Nat} {ds : List DefA} {p : Defn} {ex : PySem.W.Frag → Bool} {h : Heap} (e : obsH n ds p ex h.get? = (true, ds.map DefA.val)) : SaysH ds p ex h (frT h.get? (asD h.get? n)) := by
  have e1 : (ex (frT h.get? (asD h.get? n)) && ((ds.all fun d => d.ok (frT h.get? (asD h.get? n))) && tabsB h.get? [p] (frT h.get? (asD h.get? n)))) = true := congrArg (·.1) e
  have e2 : ds.map (fnA (frT h.get? (asD h.get? n))) = ds.map DefA.val := congrArg (·.2) e
  obtain ⟨x1, x2⟩ := ba e1
  obtain ⟨x3, x4⟩ := ba x2
  obtain ⟨y1, y2⟩ := ba (List.all_eq_true.mp x4 p (List.mem_singleton.mpr rfl))
  obtain ⟨o, o1, o2⟩ : ∃ o, h.get? (cT (frT h.get? (asD h.get? n)) p).2 = some o ∧ emptyTab o = true := by
    split at y2
    · rename_i o q
      exact ⟨o, q, y2⟩
    · cases y2
  refine ⟨x1, fun d hd => ?_, y1, frT_none o1 o2, by rw [o1, emptyTab_eq o2]⟩
  obtain ⟨i, hi, ei⟩ := List.mem_iff_getElem.mp hd
  refine DefA.to ?_ (List.all_eq_true.mp x3 d hd)
  have z : (ds.map (fnA (frT h.get? (asD h.get? n))))[i]? = (ds.map DefA.val)[i]? := by rw [e2]
  rw [List.getElem?_map, List.getElem?_map, List.getElem?_eq_getElem hi, ei] at z
  exact Option.some.inj z
def hookH (n : Nat) (ds : List DefA) (p : Defn) (ex : PySem.W.Frag → Bool) : PySem.W.Hook where
  α := Bool × List FnW
  obs := fun s => obsH n ds p ex s.heap.get?
  val := fun _ => (true, ds.map DefA.val)
  says := fun _ h => ∃ K : PySem.W.Frag, K.In h ∧ SaysH ds p ex h K
  of := fun _ _ e => ⟨_, frT_in, says_of e⟩
  keeps := fun _ _ _ ⟨K, hK, c⟩ k => ⟨K, PySem.W.Frag.In.keeps hK k, ⟨c.more, c.defs, c.hd, c.out, k _ _ c.empty⟩⟩
theorem obsH_eq {n : Nat} {ds : List DefA} {p : Defn} {ex : PySem.W.Frag → Bool} {g : Addr → Option Obj} {s : Shared} (h : ∀ a, g a = s.heap.get? a) : obsH n ds p ex g = (hookH n ds p ex).obs s := by
  obtain rfl : g = s.heap.get? := funext h
  rfl
end L2
set_option maxRecDepth 100000
namespace L2
open PySem PySem.Spec PyProof.Rows He
/-! a head by defs at told places, one Bool, and the tables of several defs that make lambdas -/
structure SaysHs (ds : List DefA) (ps : List Defn) (ex : PySem.W.Frag → Bool) (h : Heap) (K : PySem.W.Frag) : Prop where
  more : ex K = true
  defs : ∀ d ∈ ds, ∃ fd, Fun K d.name d.qual d.st (d.at_ K) fd
  hd : ∀ p ∈ ps, PySem.W.codeHdIn K (cT K p).1 (cT K p).2 = true
  out : ∀ p ∈ ps, K.lookup (cT K p).2 = none
  empty : ∀ p ∈ ps, h.get? (cT K p).2 = some { cls := .none, data := .fields #[] }
def obsHs (n : Nat) (ds : List DefA) (ps : List Defn) (ex : PySem.W.Frag → Bool) (g : Addr → Option Obj) : Bool × List FnW :=
  (ex (frT g (asD g n)) && ((ds.all fun d => d.ok (frT g (asD g n))) && tabsB g ps (frT g (asD g n))), ds.map (fnA (frT g (asD g n))))
theorem saysHs_of {n : Nat} {ds : List DefA} {ps : List Defn} {ex : PySem.W.Frag → Bool} {h : Heap} (e : obsHs n ds ps ex h.get? = (true, ds.map DefA.val)) : SaysHs ds ps ex h (frT h.get? (asD h.get? n)) := by
  have e1 : (ex (frT h.get? (asD h.get? n)) && ((ds.all fun d => d.ok (frT h.get? (asD h.get? n))) && tabsB h.get? ps (frT h.get? (asD h.get? n)))) = true := congrArg (·.1) e
  have e2 : ds.map (fnA (frT h.get? (asD h.get? n))) = ds.map DefA.val := congrArg (·.2) e
  obtain ⟨x1, x2⟩ := ba e1
  obtain ⟨x3, x4⟩ := ba x2
  have one : ∀ p ∈ ps, PySem.W.codeHdIn (frT h.get? (asD h.get? n)) (cT (frT h.get? (asD h.get? n)) p).1 (cT (frT h.get? (asD h.get? n)) p).2 = true ∧ ∃ o, h.get? (cT (frT h.get? (asD h.get? n)) p).2 = some o ∧ emptyTab o = true := fun p hp => by
    obtain ⟨y1, y2⟩ := ba (List.all_eq_true.mp x4 p hp)
    refine ⟨y1, ?_⟩
    split at y2
    · rename_i o q
      exact ⟨o, q, y2⟩
    · cases y2
  refine ⟨x1, fun d hd => ?_, fun p hp => (one p hp).1, fun p hp => ?_, fun p hp => ?_⟩
  · obtain ⟨i, hi, ei⟩ := List.mem_iff_getElem.mp hd
    refine DefA.to ?_ (List.all_eq_true.mp x3 d hd)
    have z : (ds.map (fnA (frT h.get? (asD h.get? n))))[i]? = (ds.map DefA.val)[i]? := by rw [e2]
    rw [List.getElem?_map, List.getElem?_map, List.getElem?_eq_getElem hi, ei] at z
    exact Option.some.inj z
  · obtain ⟨_, o, o1, o2⟩ := one p hp
    exact frT_none o1 o2
  · obtain ⟨_, o, o1, o2⟩ := one p hp
    rw [o1, emptyTab_eq o2]
def hookHs (n : Nat) (ds : List DefA) (ps : List Defn) (ex : PySem.W.Frag → Bool) : PySem.W.Hook where
  α := Bool × List FnW
  obs := fun s => obsHs n ds ps ex s.heap.get?
  val := fun _ => (true, ds.map DefA.val)
  says := fun _ h => ∃ K : PySem.W.Frag, K.In h ∧ SaysHs ds ps ex h K
  of := fun _ _ e => ⟨_, frT_in, saysHs_of e⟩
  keeps := fun _ _ _ ⟨K, hK, c⟩ k => ⟨K, PySem.W.Frag.In.keeps hK k, ⟨c.more, c.defs, c.hd, c.out, fun p hp => k _ _ (c.empty p hp)⟩⟩
theorem obsHs_eq {n : Nat} {ds : List DefA} {ps : List Defn} {ex : PySem.W.Frag → Bool} {g : Addr → Option Obj} {s : Shared} (h : ∀ a, g a = s.heap.get? a) : obsHs n ds ps ex g = (hookHs n ds ps ex).obs s := by
  obtain rfl : g = s.heap.get? := funext h
  rfl
end L2
set_option maxRecDepth 100000
namespace L2
open PySem PySem.Spec PyProof.Rows He
/-! the head once more: defs with defaults besides, and the interpreter's own statics -/
def frC (g : Addr → Option Obj) (n : Nat) : PySem.W.Frag := frT g (He5.asA g n)
structure SaysHc (ds : List DefA) (dd : List He5.DefA) (ps : List Defn) (ex : PySem.W.Frag → Bool) (h : Heap) (K : PySem.W.Frag) : Prop where
  more : ex K = true
  defs : ∀ d ∈ ds, ∃ fd, Fun K d.name d.qual d.st (d.at_ K) fd
  defd : ∀ d ∈ dd, ∃ fd, FunD K d.name d.qual d.params d.body d.scope (d.dvs K) (d.kws K) (d.at_ K) fd
  hd : ∀ p ∈ ps, PySem.W.codeHdIn K (cT K p).1 (cT K p).2 = true
  out : ∀ p ∈ ps, K.lookup (cT K p).2 = none
  empty : ∀ p ∈ ps, h.get? (cT K p).2 = some { cls := .none, data := .fields #[] }
def obsHc (n : Nat) (ds : List DefA) (dd : List He5.DefA) (ps : List Defn) (ex : PySem.W.Frag → Bool) (g : Addr → Option Obj) : Bool × List FnW :=
  (ex (frC g n) && ((ds.all fun d => d.ok (frC g n)) && ((dd.all fun d => d.ok (frC g n)) && tabsB g ps (frC g n))), ds.map (fnA (frC g n)) ++ dd.map fun d => He5.fnA (frC g n) (d.at_ (frC g n)))
def valHc (ds : List DefA) (dd : List He5.DefA) : Bool × List FnW := (true, ds.map DefA.val ++ dd.map He5.DefA.val)
theorem saysHc_of {n : Nat} {ds : List DefA} {dd : List He5.DefA} {ps : List Defn} {ex : PySem.W.Frag → Bool} {h : Heap} (e : obsHc n ds dd ps ex h.get? = valHc ds dd) : SaysHc ds dd ps ex h (frC h.get? n) := by
  have e1 : (ex (frC h.get? n) && ((ds.all fun d => d.ok (frC h.get? n)) && ((dd.all fun d => d.ok (frC h.get? n)) && tabsB h.get? ps (frC h.get? n)))) = true := congrArg (·.1) e
  have e2 : ds.map (fnA (frC h.get? n)) ++ (dd.map fun d => He5.fnA (frC h.get? n) (d.at_ (frC h.get? n))) = ds.map DefA.val ++ dd.map He5.DefA.val := congrArg (·.2) e
  obtain ⟨x1, x2⟩ := ba e1
  obtain ⟨x3, x4⟩ := ba x2
  obtain ⟨x5, x6⟩ := ba x4
  obtain ⟨e3, e4⟩ := List.append_inj e2 (by rw [List.length_map, List.length_map])
  have one : ∀ p ∈ ps, PySem.W.codeHdIn (frC h.get? n) (cT (frC h.get? n) p).1 (cT (frC h.get? n) p).2 = true ∧ ∃ o, h.get? (cT (frC h.get? n) p).2 = some o ∧ emptyTab o = true := fun p hp => by
    obtain ⟨y1, y2⟩ := ba (List.all_eq_true.mp x6 p hp)
    refine ⟨y1, ?_⟩
    split at y2
    · rename_i o q
      exact ⟨o, q, y2⟩
    · cases y2
  refine ⟨x1, fun d hd => ?_, fun d hd => ?_, fun p hp => (one p hp).1, fun p hp => ?_, fun p hp => ?_⟩
  · obtain ⟨i, hi, ei⟩ := List.mem_iff_getElem.mp hd
    refine DefA.to ?_ (List.all_eq_true.mp x3 d hd)
    have z : (ds.map (fnA (frC h.get? n)))[i]? = (ds.map DefA.val)[i]? := by rw [e3]
    rw [List.getElem?_map, List.getElem?_map, List.getElem?_eq_getElem hi, ei] at z
    exact Option.some.inj z
  · obtain ⟨i, hi, ei⟩ := List.mem_iff_getElem.mp hd
    refine He5.DefA.funD ?_ (List.all_eq_true.mp x5 d hd)
    have z : (dd.map fun d => He5.fnA (frC h.get? n) (d.at_ (frC h.get? n)))[i]? = (dd.map He5.DefA.val)[i]? := by rw [e4]
    rw [List.getElem?_map, List.getElem?_map, List.getElem?_eq_getElem hi, ei] at z
    exact Option.some.inj z
  · obtain ⟨_, o, o1, o2⟩ := one p hp
    exact frT_none o1 o2
  · obtain ⟨_, o, o1, o2⟩ := one p hp
    rw [o1, emptyTab_eq o2]
def hookHc (n : Nat) (ds : List DefA) (dd : List He5.DefA) (ps : List Defn) (ex : PySem.W.Frag → Bool) : PySem.W.Hook where
  α := Bool × List FnW
  obs := fun s => obsHc n ds dd ps ex s.heap.get?
  val := fun _ => valHc ds dd
  says := fun _ h => ∃ K : PySem.W.Frag, K.In h ∧ SaysHc ds dd ps ex h K
  of := fun _ _ e => ⟨_, frT_in, saysHc_of e⟩
  keeps := fun _ _ _ ⟨K, hK, c⟩ k => ⟨K, PySem.W.Frag.In.keeps hK k, ⟨c.more, c.defs, c.defd, c.hd, c.out, fun p hp => k _ _ (c.empty p hp)⟩⟩
theorem obsHc_eq {n : Nat} {ds : List DefA} {dd : List He5.DefA} {ps : List Defn} {ex : PySem.W.Frag → Bool} {g : Addr → Option Obj} {s : Shared} (h : ∀ a, g a = s.heap.get? a) : obsHc n ds dd ps ex g = (hookHc n ds dd ps ex).obs s := by
  obtain rfl : g = s.heap.get? := funext h
  rfl
/-- a class's attributes are read as a type's are -/
def creadB (K : PySem.W.Frag) (C : Addr) : Bool := PySem.W.readsIn K C (.type "type") && eqO (PySem.W.specialIn K (.ref C) "__getattribute__") (some (some (.builtin "type.__getattribute__")))
theorem cread_of {K : PySem.W.Frag} {C : Addr} (h : creadB K C = true) : ClX.CRead K C (.type "type") := by
  obtain ⟨h1, h2⟩ := ba h
  exact ⟨h1, eqO_ok h2⟩
def cmB (K : PySem.W.Frag) (C : Addr) (m : Str) : Bool := He5.wrapB K C "classmethod" "classmethod.__get__" m && PySem.W.fnIn K (He5.wf K C "classmethod" m)
theorem cm_of {K : PySem.W.Frag} {C : Addr} {m : Str} (h : cmB K C m = true) : ClX.CMet K C (.type "type") m (He.ma K C m) (He5.wf K C "classmethod" m) := by
  obtain ⟨h1, h2⟩ := ba h
  exact He5.cmet_of h1 h2
end L2
set_option maxRecDepth 100000
namespace Toy
open PySem L2 LamX
theorem xor_bind (T : Addr) (kV doc pm : Value) (an : Option Addr) (cdv ct c1 b1 f1 i1 : Value) : ∃ k : Option (Array Value) → Sem (List (Str × Value)), bindArgs (PySem.W.fnOf "xor" "Rule.xor" (defArgs s_Rule_xor) (defBody s_Rule_xor) (defScope s_Rule_xor) (.ref T) kV doc pm an cdv ct) ⟨[c1], [("bits", b1), ("folds", f1)]⟩ = seqItems? (.ref T) >>= k ∧ k (some #[i1]) = pure [(("cls" : Str), c1), (("bits" : Str), b1), (("folds" : Str), f1)] := by
  refine ⟨_, rfl, ?_⟩
  rfl
end Toy
set_option maxRecDepth 100000
namespace Toy
open PySem L2 LamX
/-! the head: what the top leaves, by one run -/
abbrev R : PySem.W.OpenRow := PySem.W.OpenLaw.row PySem.Challenge.rw_lanebanks_k24_whole_rules_of_kinds
def fa : List He.Fa := [.glo "is_integer", .glo "is_within", .glo "is_number", .glo "banks_by", .glo "are_moduli", .glo "are_banks", .glo "parts_of", .glo "bank_with", .glo "bank_sum", .glo "ones_of", .glo "shortest_weights", .glo "doubled_weights", .glo "check_padding", .glo "spaced", .glo "_law_pen", .glo "_law_draw", .glo "_law_pick", .glo "_law_heard", .glo "_law_places", .glo "_law_folded", .glo "_law_modulo_right", .glo "_law_folds_right", .glo "_law_padded_right", .glo "law", .glo "BankError", .glo "BadRule", .glo "BadNumber", .glo "TooMany", .glo "Rule", .free "isinstance", .free "int", .free "bool", .free "len", .free "all", .free "list", .free "tuple", .free "range", .free "abs", .free "repr", .free "sum", .free "zip", .free "enumerate", .free "str", .int "MOST_MODULI" 5, .int "MOST_BANKS" 32, .int "MOST_PLACES" 24, .cls "Rule", .noat "Rule" "moduli", .noat "Rule" "ahead", .noat "Rule" "turn", .noat "BadRule" "part", .noat "BadNumber" "value", .noat "TooMany" "what", .noat "TooMany" "most", .mkr "Rule", .exm "BadRule" "BankError" true, .exm "BadNumber" "BankError" true, .exm "TooMany" "BankError" true]
def initB (K : PySem.W.Frag) (x : Str) : Bool := decide (PySem.W.findIn K (.ref (He.ga K x)) "__init__" = some (some (.ref (He.ma K (He.ga K x) "__init__")))) && decide (PySem.W.typeIn K (.ref (He.ma K (He.ga K x) "__init__")) = some (.type "function"))
def kitB' (K : PySem.W.Frag) (x y : Str) (b : Bool) : Bool := decide (PySem.W.kitOne K (.ref (He.ga K x)) (.ref (He.ga K y)) = some b)
def ex (K : PySem.W.Frag) : Bool := (fa.all fun f => f.ok K) && (xlB K (He.ga K "BadRule") (He.ga K "BankError") && (xlB K (He.ga K "BadNumber") (He.ga K "BankError") && (xlB K (He.ga K "TooMany") (He.ga K "BankError") && (xcB K (He.ga K "BadRule") && (xcB K (He.ga K "BadNumber") && (xcB K (He.ga K "TooMany") && (initB K "BadRule" && (initB K "BadNumber" && (initB K "TooMany" && (kitB' K "BadRule" "BadRule" true && (kitB' K "BadRule" "BadNumber" false && (kitB' K "BadRule" "TooMany" false && (kitB' K "BadNumber" "BadRule" false && (kitB' K "BadNumber" "BadNumber" true && (kitB' K "BadNumber" "TooMany" false && (kitB' K "TooMany" "BadRule" false && (kitB' K "TooMany" "BadNumber" false && (kitB' K "TooMany" "TooMany" true && (propB K (He.ga K "Rule") "classes" && (propB K (He.ga K "Rule") "banks" && (ownB K (He.ga K "Rule") && (rclsB K (He.ga K "Rule") && (callOB K (He.ga K "Rule") && (strB K (He.ga K "Rule") && (creadB K (He.ga K "Rule") && (cmB K (He.ga K "Rule") "modulo" && (cmB K (He.ga K "Rule") "xor" && (cmB K (He.ga K "Rule") "padded" && (decide ((He.cT K ("_law_modulo_right", none)).2 ≠ (He.cT K ("_law_folds_right", none)).2) && (decide ((He.cT K ("_law_modulo_right", none)).2 ≠ (He.cT K ("_law_padded_right", none)).2) && (decide ((He.cT K ("_law_modulo_right", none)).2 ≠ (He.cT K ("law", none)).2) && (decide ((He.cT K ("_law_folds_right", none)).2 ≠ (He.cT K ("_law_padded_right", none)).2) && (decide ((He.cT K ("_law_folds_right", none)).2 ≠ (He.cT K ("law", none)).2) && (decide ((He.cT K ("_law_padded_right", none)).2 ≠ (He.cT K ("law", none)).2)))))))))))))))))))))))))))))))))))
def ds : List DefA := [
⟨fun K => He.ga K "is_integer", "is_integer", "is_integer", s_is_integer⟩,
  ⟨fun K => He.ga K "is_within", "is_within", "is_within", s_is_within⟩,
  ⟨fun K => He.ga K "is_number", "is_number", "is_number", s_is_number⟩,
  ⟨fun K => He.ga K "banks_by", "banks_by", "banks_by", s_banks_by⟩,
  ⟨fun K => He.ga K "are_moduli", "are_moduli", "are_moduli", s_are_moduli⟩,
  ⟨fun K => He.ga K "are_banks", "are_banks", "are_banks", s_are_banks⟩,
  ⟨fun K => He.ga K "parts_of", "parts_of", "parts_of", s_parts_of⟩,
  ⟨fun K => He.ga K "bank_with", "bank_with", "bank_with", s_bank_with⟩,
  ⟨fun K => He.ga K "bank_sum", "bank_sum", "bank_sum", s_bank_sum⟩,
  ⟨fun K => He.ga K "ones_of", "ones_of", "ones_of", s_ones_of⟩,
  ⟨fun K => He.ga K "shortest_weights", "shortest_weights", "shortest_weights", s_shortest_weights⟩,
  ⟨fun K => He.ga K "doubled_weights", "doubled_weights", "doubled_weights", s_doubled_weights⟩,
  ⟨fun K => He.ga K "check_padding", "check_padding", "check_padding", s_check_padding⟩,
  ⟨fun K => He.ga K "spaced", "spaced", "spaced", s_spaced⟩,
  ⟨fun K => He.ga K "_law_pen", "_law_pen", "_law_pen", s__law_pen⟩,
  ⟨fun K => He.ga K "_law_draw", "_law_draw", "_law_draw", s__law_draw⟩,
  ⟨fun K => He.ga K "_law_pick", "_law_pick", "_law_pick", s__law_pick⟩,
  ⟨fun K => He.ga K "_law_heard", "_law_heard", "_law_heard", s__law_heard⟩,
  ⟨fun K => He.ga K "_law_places", "_law_places", "_law_places", s__law_places⟩,
  ⟨fun K => He.ga K "_law_folded", "_law_folded", "_law_folded", s__law_folded⟩,
  ⟨fun K => He.ga K "_law_modulo_right", "_law_modulo_right", "_law_modulo_right", s__law_modulo_right⟩,
  ⟨fun K => He.ga K "_law_folds_right", "_law_folds_right", "_law_folds_right", s__law_folds_right⟩,
  ⟨fun K => He.ga K "_law_padded_right", "_law_padded_right", "_law_padded_right", s__law_padded_right⟩,
  ⟨fun K => He.ga K "law", "law", "law", s_law⟩,
  ⟨fun K => He.ma K (He.ga K "BadRule") "__init__", "__init__", "BadRule.__init__", s_BadRule⟩,
  ⟨fun K => He.ma K (He.ga K "BadNumber") "__init__", "__init__", "BadNumber.__init__", s_BadNumber⟩,
  ⟨fun K => He.ma K (He.ga K "TooMany") "__init__", "__init__", "TooMany.__init__", s_TooMany⟩,
  ⟨fun K => He.ma K (He.ga K "Rule") "__init__", "__init__", "Rule.__init__", s_Rule_init⟩,
  ⟨fun K => He.ma K (He.ga K "Rule") "__call__", "__call__", "Rule.__call__", s_Rule_call⟩,
  ⟨fun K => He.ma K (He.ga K "Rule") "__eq__", "__eq__", "Rule.__eq__", s_Rule_eq⟩,
  ⟨fun K => He.ma K (He.ga K "Rule") "__str__", "__str__", "Rule.__str__", s_Rule___str__⟩,
  ⟨fun K => getterOf K (He.ma K (He.ga K "Rule") "classes"), "classes", "Rule.classes", s_Rule_classes⟩,
  ⟨fun K => getterOf K (He.ma K (He.ga K "Rule") "banks"), "banks", "Rule.banks", s_Rule_banks⟩,
  ⟨fun K => He5.wf K (He.ga K "Rule") "classmethod" "modulo", "modulo", "Rule.modulo", s_Rule_modulo⟩,
  ⟨fun K => He5.wf K (He.ga K "Rule") "classmethod" "padded", "padded", "Rule.padded", s_Rule_padded⟩]
def tabsOf : List He.Defn := [("_law_modulo_right", none), ("_law_folds_right", none), ("_law_padded_right", none), ("law", none)]
def dd : List He5.DefA := [⟨fun K => He5.wf K (He.ga K "Rule") "classmethod" "xor", "xor", "Rule.xor", defArgs s_Rule_xor, defBody s_Rule_xor, defScope s_Rule_xor, [.int 0], []⟩]
abbrev hk : PySem.W.Hook := hookHc 6 ds dd tabsOf ex
def ob (s : PySem.W.SharedT) : Bool × List He.FnW := obsHc 6 ds dd tabsOf ex (HandSHeadRun.getT s)
theorem ob_eq (s : PySem.W.SharedT) : ob s = hk.obs s.abs := obsHc_eq (HandSHeadRun.getT_eq s)
def names : List Str := ["_wall", "__name__", "is_integer", "is_within", "is_number", "MOST_BANKS", "MOST_MODULI", "banks_by", "are_moduli", "are_banks", "parts_of", "bank_with", "bank_sum", "ones_of", "shortest_weights", "doubled_weights", "BankError", "BadRule", "BadNumber", "BadText"]
def names2 : List Str := ["TooMany", "DIGITS", "whole_in", "spaced", "expect", "moduli_from", "weights_from", "read_weights", "MOST_PLACES", "check_padding", "Rule", "_law_pen", "_law_draw", "_law_pick", "_law_heard", "_law_places", "_law_modulo_right", "_law_folded", "_law_folds_right", "_law_padded_right"]
set_option maxHeartbeats 0 in
theorem run (w : World) : HandSHeadRun.RunEqI R (PySem.W.view R.prog [0, 47]) hk ob 4000 (names ++ names2) w := by
  unfold HandSHeadRun.RunEqI
  kernel_rfl
end Toy
set_option maxRecDepth 100000
namespace Toy
open PySem L2 LamX
set_option maxHeartbeats 4000000 in
theorem facts {P : Program} {w : World} {K : PySem.W.Frag} {h : Heap} {mg : Str → Option Value} {f : Addr} (X : K.In h) (G : h.Ns mainGlobals mg) (hfa : mg ("law" : Str) = some (.ref f)) (c : SaysHc ds dd tabsOf ex h K) :
    ∃ fd : FuncData, (∀ (s : Shared) (v : Value), BindsTo s fd ⟨[v], []⟩ [("_law_script", v)]) ∧ ∀ base : Heap, K.In base → base.Ns mainGlobals mg → (∀ p ∈ tabsOf.map (He.cT K), TabB base mg p.1 p.2) →
      FnG P w K mg base CX0 10 f fd ["_law_script"] (spTabs K (tabsOf.map (He.cT K))) := by
  have z0 := c.more
  unfold ex at z0
  obtain ⟨f0, z1⟩ := He.ba z0
  obtain ⟨xBadRule, z2⟩ := He.ba z1
  obtain ⟨xBadNumber, z3⟩ := He.ba z2
  obtain ⟨xTooMany, z4⟩ := He.ba z3
  obtain ⟨yBadRule, z5⟩ := He.ba z4
  obtain ⟨yBadNumber, z6⟩ := He.ba z5
  obtain ⟨yTooMany, z7⟩ := He.ba z6
  obtain ⟨iBadRule, z8⟩ := He.ba z7
  obtain ⟨iBadNumber, z9⟩ := He.ba z8
  obtain ⟨iTooMany, z10⟩ := He.ba z9
  obtain ⟨kBadRuleBadRule, z11⟩ := He.ba z10
  obtain ⟨kBadRuleBadNumber, z12⟩ := He.ba z11
  obtain ⟨kBadRuleTooMany, z13⟩ := He.ba z12
  obtain ⟨kBadNumberBadRule, z14⟩ := He.ba z13
  obtain ⟨kBadNumberBadNumber, z15⟩ := He.ba z14
  obtain ⟨kBadNumberTooMany, z16⟩ := He.ba z15
  obtain ⟨kTooManyBadRule, z17⟩ := He.ba z16
  obtain ⟨kTooManyBadNumber, z18⟩ := He.ba z17
  obtain ⟨kTooManyTooMany, z19⟩ := He.ba z18
  obtain ⟨p1, z20⟩ := He.ba z19
  obtain ⟨p2, z21⟩ := He.ba z20
  obtain ⟨ow, z22⟩ := He.ba z21
  obtain ⟨rc, z23⟩ := He.ba z22
  obtain ⟨co, z24⟩ := He.ba z23
  obtain ⟨st, z25⟩ := He.ba z24
  obtain ⟨cr, z26⟩ := He.ba z25
  obtain ⟨cm_modulo, z27⟩ := He.ba z26
  obtain ⟨cm_xor, z28⟩ := He.ba z27
  obtain ⟨cm_padded, z29⟩ := He.ba z28
  obtain ⟨pp01, z30⟩ := He.ba z29
  obtain ⟨pp02, z31⟩ := He.ba z30
  obtain ⟨pp03, z32⟩ := He.ba z31
  obtain ⟨pp12, z33⟩ := He.ba z32
  obtain ⟨pp13, z34⟩ := He.ba z33
  have pp23 := z34
  have fi : ∀ (i : Nat) (q : He.Fa), fa[i]? = some q → q.ok K = true := fun i q hq => List.all_eq_true.mp f0 q (List.mem_of_getElem? hq)
  have di : ∀ (i : Nat) (d : DefA), ds[i]? = some d → ∃ fd, Fun K d.name d.qual d.st (d.at_ K) fd := fun i d hd => c.defs d (List.mem_of_getElem? hd)
  obtain ⟨fd_is_integer, F_is_integer'⟩ := di 0 _ rfl
  have F_is_integer : Fun K "is_integer" "is_integer" s_is_integer (He.ga K "is_integer") fd_is_integer := F_is_integer'
  have b_is_integer : Binds K fd_is_integer ["value"] [] := F_is_integer.binds (ps := ["value"]) fun _ _ _ _ _ _ us hl => match us, hl with | [_], _ => rfl
  obtain ⟨fd_is_within, F_is_within'⟩ := di 1 _ rfl
  have F_is_within : Fun K "is_within" "is_within" s_is_within (He.ga K "is_within") fd_is_within := F_is_within'
  have b_is_within : Binds K fd_is_within ["value", "least", "most"] [] := F_is_within.binds (ps := ["value", "least", "most"]) fun _ _ _ _ _ _ us hl => match us, hl with | [_, _, _], _ => rfl
  obtain ⟨fd_is_number, F_is_number'⟩ := di 2 _ rfl
  have F_is_number : Fun K "is_number" "is_number" s_is_number (He.ga K "is_number") fd_is_number := F_is_number'
  have b_is_number : Binds K fd_is_number ["value"] [] := F_is_number.binds (ps := ["value"]) fun _ _ _ _ _ _ us hl => match us, hl with | [_], _ => rfl
  obtain ⟨fd_banks_by, F_banks_by'⟩ := di 3 _ rfl
  have F_banks_by : Fun K "banks_by" "banks_by" s_banks_by (He.ga K "banks_by") fd_banks_by := F_banks_by'
  have b_banks_by : Binds K fd_banks_by ["moduli"] [] := F_banks_by.binds (ps := ["moduli"]) fun _ _ _ _ _ _ us hl => match us, hl with | [_], _ => rfl
  obtain ⟨fd_are_moduli, F_are_moduli'⟩ := di 4 _ rfl
  have F_are_moduli : Fun K "are_moduli" "are_moduli" s_are_moduli (He.ga K "are_moduli") fd_are_moduli := F_are_moduli'
  have b_are_moduli : Binds K fd_are_moduli ["value"] [] := F_are_moduli.binds (ps := ["value"]) fun _ _ _ _ _ _ us hl => match us, hl with | [_], _ => rfl
  obtain ⟨fd_are_banks, F_are_banks'⟩ := di 5 _ rfl
  have F_are_banks : Fun K "are_banks" "are_banks" s_are_banks (He.ga K "are_banks") fd_are_banks := F_are_banks'
  have b_are_banks : Binds K fd_are_banks ["value", "banks"] [] := F_are_banks.binds (ps := ["value", "banks"]) fun _ _ _ _ _ _ us hl => match us, hl with | [_, _], _ => rfl
  obtain ⟨fd_parts_of, F_parts_of'⟩ := di 6 _ rfl
  have F_parts_of : Fun K "parts_of" "parts_of" s_parts_of (He.ga K "parts_of") fd_parts_of := F_parts_of'
  have b_parts_of : Binds K fd_parts_of ["moduli", "bank"] [] := F_parts_of.binds (ps := ["moduli", "bank"]) fun _ _ _ _ _ _ us hl => match us, hl with | [_, _], _ => rfl
  obtain ⟨fd_bank_with, F_bank_with'⟩ := di 7 _ rfl
  have F_bank_with : Fun K "bank_with" "bank_with" s_bank_with (He.ga K "bank_with") fd_bank_with := F_bank_with'
  have b_bank_with : Binds K fd_bank_with ["moduli", "parts"] [] := F_bank_with.binds (ps := ["moduli", "parts"]) fun _ _ _ _ _ _ us hl => match us, hl with | [_, _], _ => rfl
  obtain ⟨fd_bank_sum, F_bank_sum'⟩ := di 8 _ rfl
  have F_bank_sum : Fun K "bank_sum" "bank_sum" s_bank_sum (He.ga K "bank_sum") fd_bank_sum := F_bank_sum'
  have b_bank_sum : Binds K fd_bank_sum ["moduli", "banks", "times"] [] := F_bank_sum.binds (ps := ["moduli", "banks", "times"]) fun _ _ _ _ _ _ us hl => match us, hl with | [_, _, _], _ => rfl
  obtain ⟨fd_ones_of, F_ones_of'⟩ := di 9 _ rfl
  have F_ones_of : Fun K "ones_of" "ones_of" s_ones_of (He.ga K "ones_of") fd_ones_of := F_ones_of'
  have b_ones_of : Binds K fd_ones_of ["address", "ahead", "turn"] [] := F_ones_of.binds (ps := ["address", "ahead", "turn"]) fun _ _ _ _ _ _ us hl => match us, hl with | [_, _, _], _ => rfl
  obtain ⟨fd_shortest_weights, F_shortest_weights'⟩ := di 10 _ rfl
  have F_shortest_weights : Fun K "shortest_weights" "shortest_weights" s_shortest_weights (He.ga K "shortest_weights") fd_shortest_weights := F_shortest_weights'
  have b_shortest_weights : Binds K fd_shortest_weights ["ahead", "turn"] [] := F_shortest_weights.binds (ps := ["ahead", "turn"]) fun _ _ _ _ _ _ us hl => match us, hl with | [_, _], _ => rfl
  obtain ⟨fd_doubled_weights, F_doubled_weights'⟩ := di 11 _ rfl
  have F_doubled_weights : Fun K "doubled_weights" "doubled_weights" s_doubled_weights (He.ga K "doubled_weights") fd_doubled_weights := F_doubled_weights'
  have b_doubled_weights : Binds K fd_doubled_weights ["first", "banks"] [] := F_doubled_weights.binds (ps := ["first", "banks"]) fun _ _ _ _ _ _ us hl => match us, hl with | [_, _], _ => rfl
  obtain ⟨fd_check_padding, F_check_padding'⟩ := di 12 _ rfl
  have F_check_padding : Fun K "check_padding" "check_padding" s_check_padding (He.ga K "check_padding") fd_check_padding := F_check_padding'
  have b_check_padding : Binds K fd_check_padding ["banks", "every"] [] := F_check_padding.binds (ps := ["banks", "every"]) fun _ _ _ _ _ _ us hl => match us, hl with | [_, _], _ => rfl
  obtain ⟨fd_spaced, F_spaced'⟩ := di 13 _ rfl
  have F_spaced : Fun K "spaced" "spaced" s_spaced (He.ga K "spaced") fd_spaced := F_spaced'
  have b_spaced : Binds K fd_spaced ["numbers"] [] := F_spaced.binds (ps := ["numbers"]) fun _ _ _ _ _ _ us hl => match us, hl with | [_], _ => rfl
  obtain ⟨fd__law_pen, F__law_pen'⟩ := di 14 _ rfl
  have F__law_pen : Fun K "_law_pen" "_law_pen" s__law_pen (He.ga K "_law_pen") fd__law_pen := F__law_pen'
  have b__law_pen : Binds K fd__law_pen ["_law_script"] [] := F__law_pen.binds (ps := ["_law_script"]) fun _ _ _ _ _ _ us hl => match us, hl with | [_], _ => rfl
  obtain ⟨fd__law_draw, F__law_draw'⟩ := di 15 _ rfl
  have F__law_draw : Fun K "_law_draw" "_law_draw" s__law_draw (He.ga K "_law_draw") fd__law_draw := F__law_draw'
  have b__law_draw : Binds K fd__law_draw ["_law_pen_here", "_law_many"] [] := F__law_draw.binds (ps := ["_law_pen_here", "_law_many"]) fun _ _ _ _ _ _ us hl => match us, hl with | [_, _], _ => rfl
  obtain ⟨fd__law_pick, F__law_pick'⟩ := di 16 _ rfl
  have F__law_pick : Fun K "_law_pick" "_law_pick" s__law_pick (He.ga K "_law_pick") fd__law_pick := F__law_pick'
  have b__law_pick : Binds K fd__law_pick ["_law_pen_here", "_law_some"] [] := F__law_pick.binds (ps := ["_law_pen_here", "_law_some"]) fun _ _ _ _ _ _ us hl => match us, hl with | [_, _], _ => rfl
  obtain ⟨fd__law_heard, F__law_heard'⟩ := di 17 _ rfl
  have F__law_heard : Fun K "_law_heard" "_law_heard" s__law_heard (He.ga K "_law_heard") fd__law_heard := F__law_heard'
  have b__law_heard : Binds K fd__law_heard ["_law_ask"] [] := F__law_heard.binds (ps := ["_law_ask"]) fun _ _ _ _ _ _ us hl => match us, hl with | [_], _ => rfl
  obtain ⟨fd__law_places, F__law_places'⟩ := di 18 _ rfl
  have F__law_places : Fun K "_law_places" "_law_places" s__law_places (He.ga K "_law_places") fd__law_places := F__law_places'
  have b__law_places : Binds K fd__law_places ["_law_weights", "_law_ahead"] [] := F__law_places.binds (ps := ["_law_weights", "_law_ahead"]) fun _ _ _ _ _ _ us hl => match us, hl with | [_, _], _ => rfl
  obtain ⟨fd__law_folded, F__law_folded'⟩ := di 19 _ rfl
  have F__law_folded : Fun K "_law_folded" "_law_folded" s__law_folded (He.ga K "_law_folded") fd__law_folded := F__law_folded'
  have b__law_folded : Binds K fd__law_folded ["_law_address", "_law_bits", "_law_folds"] [] := F__law_folded.binds (ps := ["_law_address", "_law_bits", "_law_folds"]) fun _ _ _ _ _ _ us hl => match us, hl with | [_, _, _], _ => rfl
  obtain ⟨fd__law_modulo_right, F__law_modulo_right'⟩ := di 20 _ rfl
  have F__law_modulo_right : Fun K "_law_modulo_right" "_law_modulo_right" s__law_modulo_right (He.ga K "_law_modulo_right") fd__law_modulo_right := F__law_modulo_right'
  have b__law_modulo_right : Binds K fd__law_modulo_right ["_law_pen_here", "_law_banks"] [] := F__law_modulo_right.binds (ps := ["_law_pen_here", "_law_banks"]) fun _ _ _ _ _ _ us hl => match us, hl with | [_, _], _ => rfl
  obtain ⟨fd__law_folds_right, F__law_folds_right'⟩ := di 21 _ rfl
  have F__law_folds_right : Fun K "_law_folds_right" "_law_folds_right" s__law_folds_right (He.ga K "_law_folds_right") fd__law_folds_right := F__law_folds_right'
  have b__law_folds_right : Binds K fd__law_folds_right ["_law_pen_here"] [] := F__law_folds_right.binds (ps := ["_law_pen_here"]) fun _ _ _ _ _ _ us hl => match us, hl with | [_], _ => rfl
  obtain ⟨fd__law_padded_right, F__law_padded_right'⟩ := di 22 _ rfl
  have F__law_padded_right : Fun K "_law_padded_right" "_law_padded_right" s__law_padded_right (He.ga K "_law_padded_right") fd__law_padded_right := F__law_padded_right'
  have b__law_padded_right : Binds K fd__law_padded_right ["_law_pen_here"] [] := F__law_padded_right.binds (ps := ["_law_pen_here"]) fun _ _ _ _ _ _ us hl => match us, hl with | [_], _ => rfl
  obtain ⟨fd_law, F_law'⟩ := di 23 _ rfl
  have F_law : Fun K "law" "law" s_law (He.ga K "law") fd_law := F_law'
  have b_law : Binds K fd_law ["_law_script"] [] := F_law.binds (ps := ["_law_script"]) fun _ _ _ _ _ _ us hl => match us, hl with | [_], _ => rfl
  obtain ⟨fd_BadRule___init__, F_BadRule___init__'⟩ := di 24 _ rfl
  have F_BadRule___init__ : Fun K "__init__" "BadRule.__init__" s_BadRule (He.ma K (He.ga K "BadRule") "__init__") fd_BadRule___init__ := F_BadRule___init__'
  have b_BadRule___init__ : Binds K fd_BadRule___init__ ["self", "part"] [] := F_BadRule___init__.binds (ps := ["self", "part"]) fun _ _ _ _ _ _ us hl => match us, hl with | [_, _], _ => rfl
  obtain ⟨fd_BadNumber___init__, F_BadNumber___init__'⟩ := di 25 _ rfl
  have F_BadNumber___init__ : Fun K "__init__" "BadNumber.__init__" s_BadNumber (He.ma K (He.ga K "BadNumber") "__init__") fd_BadNumber___init__ := F_BadNumber___init__'
  have b_BadNumber___init__ : Binds K fd_BadNumber___init__ ["self", "value"] [] := F_BadNumber___init__.binds (ps := ["self", "value"]) fun _ _ _ _ _ _ us hl => match us, hl with | [_, _], _ => rfl
  obtain ⟨fd_TooMany___init__, F_TooMany___init__'⟩ := di 26 _ rfl
  have F_TooMany___init__ : Fun K "__init__" "TooMany.__init__" s_TooMany (He.ma K (He.ga K "TooMany") "__init__") fd_TooMany___init__ := F_TooMany___init__'
  have b_TooMany___init__ : Binds K fd_TooMany___init__ ["self", "what", "most"] [] := F_TooMany___init__.binds (ps := ["self", "what", "most"]) fun _ _ _ _ _ _ us hl => match us, hl with | [_, _, _], _ => rfl
  obtain ⟨fd_Rule___init__, F_Rule___init__'⟩ := di 27 _ rfl
  have F_Rule___init__ : Fun K "__init__" "Rule.__init__" s_Rule_init (He.ma K (He.ga K "Rule") "__init__") fd_Rule___init__ := F_Rule___init__'
  have b_Rule___init__ : Binds K fd_Rule___init__ ["self", "moduli", "ahead", "turn"] [] := F_Rule___init__.binds (ps := ["self", "moduli", "ahead", "turn"]) fun _ _ _ _ _ _ us hl => match us, hl with | [_, _, _, _], _ => rfl
  obtain ⟨fd_Rule___call__, F_Rule___call__'⟩ := di 28 _ rfl
  have F_Rule___call__ : Fun K "__call__" "Rule.__call__" s_Rule_call (He.ma K (He.ga K "Rule") "__call__") fd_Rule___call__ := F_Rule___call__'
  have b_Rule___call__ : Binds K fd_Rule___call__ ["self", "address"] [] := F_Rule___call__.binds (ps := ["self", "address"]) fun _ _ _ _ _ _ us hl => match us, hl with | [_, _], _ => rfl
  obtain ⟨fd_Rule___eq__, F_Rule___eq__'⟩ := di 29 _ rfl
  have F_Rule___eq__ : Fun K "__eq__" "Rule.__eq__" s_Rule_eq (He.ma K (He.ga K "Rule") "__eq__") fd_Rule___eq__ := F_Rule___eq__'
  have b_Rule___eq__ : Binds K fd_Rule___eq__ ["self", "other"] [] := F_Rule___eq__.binds (ps := ["self", "other"]) fun _ _ _ _ _ _ us hl => match us, hl with | [_, _], _ => rfl
  obtain ⟨fd_Rule___str__, F_Rule___str__'⟩ := di 30 _ rfl
  have F_Rule___str__ : Fun K "__str__" "Rule.__str__" s_Rule___str__ (He.ma K (He.ga K "Rule") "__str__") fd_Rule___str__ := F_Rule___str__'
  have b_Rule___str__ : Binds K fd_Rule___str__ ["self"] [] := F_Rule___str__.binds (ps := ["self"]) fun _ _ _ _ _ _ us hl => match us, hl with | [_], _ => rfl
  obtain ⟨fd_Rule_classes, F_Rule_classes'⟩ := di 31 _ rfl
  have F_Rule_classes : Fun K "classes" "Rule.classes" s_Rule_classes (getterOf K (He.ma K (He.ga K "Rule") "classes")) fd_Rule_classes := F_Rule_classes'
  have b_Rule_classes : Binds K fd_Rule_classes ["self"] [] := F_Rule_classes.binds (ps := ["self"]) fun _ _ _ _ _ _ us hl => match us, hl with | [_], _ => rfl
  obtain ⟨fd_Rule_banks, F_Rule_banks'⟩ := di 32 _ rfl
  have F_Rule_banks : Fun K "banks" "Rule.banks" s_Rule_banks (getterOf K (He.ma K (He.ga K "Rule") "banks")) fd_Rule_banks := F_Rule_banks'
  have b_Rule_banks : Binds K fd_Rule_banks ["self"] [] := F_Rule_banks.binds (ps := ["self"]) fun _ _ _ _ _ _ us hl => match us, hl with | [_], _ => rfl
  obtain ⟨fd_Rule_modulo, F_Rule_modulo'⟩ := di 33 _ rfl
  have F_Rule_modulo : Fun K "modulo" "Rule.modulo" s_Rule_modulo (He5.wf K (He.ga K "Rule") "classmethod" "modulo") fd_Rule_modulo := F_Rule_modulo'
  have b_Rule_modulo : Binds K fd_Rule_modulo ["cls", "banks"] [] := F_Rule_modulo.binds (ps := ["cls", "banks"]) fun _ _ _ _ _ _ us hl => match us, hl with | [_, _], _ => rfl
  obtain ⟨fd_Rule_padded, F_Rule_padded'⟩ := di 34 _ rfl
  have F_Rule_padded : Fun K "padded" "Rule.padded" s_Rule_padded (He5.wf K (He.ga K "Rule") "classmethod" "padded") fd_Rule_padded := F_Rule_padded'
  have b_Rule_padded : Binds K fd_Rule_padded ["cls", "banks", "every", "pad"] [] := F_Rule_padded.binds (ps := ["cls", "banks", "every", "pad"]) fun _ _ _ _ _ _ us hl => match us, hl with | [_, _, _, _], _ => rfl
  have ddi : ∀ (i : Nat) (d : He5.DefA), dd[i]? = some d → ∃ fd, FunD K d.name d.qual d.params d.body d.scope (d.dvs K) (d.kws K) (d.at_ K) fd := fun i d hd => c.defd d (List.mem_of_getElem? hd)
  have g_is_integer := He.glo_ok X G (fi 0 (.glo "is_integer") rfl)
  have g_is_within := He.glo_ok X G (fi 1 (.glo "is_within") rfl)
  have g_is_number := He.glo_ok X G (fi 2 (.glo "is_number") rfl)
  have g_banks_by := He.glo_ok X G (fi 3 (.glo "banks_by") rfl)
  have g_are_moduli := He.glo_ok X G (fi 4 (.glo "are_moduli") rfl)
  have g_are_banks := He.glo_ok X G (fi 5 (.glo "are_banks") rfl)
  have g_parts_of := He.glo_ok X G (fi 6 (.glo "parts_of") rfl)
  have g_bank_with := He.glo_ok X G (fi 7 (.glo "bank_with") rfl)
  have g_bank_sum := He.glo_ok X G (fi 8 (.glo "bank_sum") rfl)
  have g_ones_of := He.glo_ok X G (fi 9 (.glo "ones_of") rfl)
  have g_shortest_weights := He.glo_ok X G (fi 10 (.glo "shortest_weights") rfl)
  have g_doubled_weights := He.glo_ok X G (fi 11 (.glo "doubled_weights") rfl)
  have g_check_padding := He.glo_ok X G (fi 12 (.glo "check_padding") rfl)
  have g_spaced := He.glo_ok X G (fi 13 (.glo "spaced") rfl)
  have g__law_pen := He.glo_ok X G (fi 14 (.glo "_law_pen") rfl)
  have g__law_draw := He.glo_ok X G (fi 15 (.glo "_law_draw") rfl)
  have g__law_pick := He.glo_ok X G (fi 16 (.glo "_law_pick") rfl)
  have g__law_heard := He.glo_ok X G (fi 17 (.glo "_law_heard") rfl)
  have g__law_places := He.glo_ok X G (fi 18 (.glo "_law_places") rfl)
  have g__law_folded := He.glo_ok X G (fi 19 (.glo "_law_folded") rfl)
  have g__law_modulo_right := He.glo_ok X G (fi 20 (.glo "_law_modulo_right") rfl)
  have g__law_folds_right := He.glo_ok X G (fi 21 (.glo "_law_folds_right") rfl)
  have g__law_padded_right := He.glo_ok X G (fi 22 (.glo "_law_padded_right") rfl)
  have g_law := He.glo_ok X G (fi 23 (.glo "law") rfl)
  have g_BankError := He.glo_ok X G (fi 24 (.glo "BankError") rfl)
  have g_BadRule := He.glo_ok X G (fi 25 (.glo "BadRule") rfl)
  have g_BadNumber := He.glo_ok X G (fi 26 (.glo "BadNumber") rfl)
  have g_TooMany := He.glo_ok X G (fi 27 (.glo "TooMany") rfl)
  have g_Rule := He.glo_ok X G (fi 28 (.glo "Rule") rfl)
  have m_isinstance := He.free_ok X G (fi 29 (.free "isinstance") rfl)
  have m_int := He.free_ok X G (fi 30 (.free "int") rfl)
  have m_bool := He.free_ok X G (fi 31 (.free "bool") rfl)
  have m_len := He.free_ok X G (fi 32 (.free "len") rfl)
  have m_all := He.free_ok X G (fi 33 (.free "all") rfl)
  have m_list := He.free_ok X G (fi 34 (.free "list") rfl)
  have m_tuple := He.free_ok X G (fi 35 (.free "tuple") rfl)
  have m_range := He.free_ok X G (fi 36 (.free "range") rfl)
  have m_abs := He.free_ok X G (fi 37 (.free "abs") rfl)
  have m_repr := He.free_ok X G (fi 38 (.free "repr") rfl)
  have m_sum := He.free_ok X G (fi 39 (.free "sum") rfl)
  have m_zip := He.free_ok X G (fi 40 (.free "zip") rfl)
  have m_enumerate := He.free_ok X G (fi 41 (.free "enumerate") rfl)
  have m_str := He.free_ok X G (fi 42 (.free "str") rfl)
  have c_MOST_MODULI := He.int_ok X G (fi 43 (.int "MOST_MODULI" 5) rfl)
  have c_MOST_BANKS := He.int_ok X G (fi 44 (.int "MOST_BANKS" 32) rfl)
  have c_MOST_PLACES := He.int_ok X G (fi 45 (.int "MOST_PLACES" 24) rfl)
  have e := hfa.symm.trans g_law
  cases e
  have xl_BadRule := xl_of xBadRule
  have xc_BadRule := xc_of xl_BadRule yBadRule
  obtain ⟨n_BadRule, t_BadRule⟩ := He.ba iBadRule
  have n_BadRule' := of_decide_eq_true n_BadRule
  have t_BadRule' := of_decide_eq_true t_BadRule
  have xl_BadNumber := xl_of xBadNumber
  have xc_BadNumber := xc_of xl_BadNumber yBadNumber
  obtain ⟨n_BadNumber, t_BadNumber⟩ := He.ba iBadNumber
  have n_BadNumber' := of_decide_eq_true n_BadNumber
  have t_BadNumber' := of_decide_eq_true t_BadNumber
  have xl_TooMany := xl_of xTooMany
  have xc_TooMany := xc_of xl_TooMany yTooMany
  obtain ⟨n_TooMany, t_TooMany⟩ := He.ba iTooMany
  have n_TooMany' := of_decide_eq_true n_TooMany
  have t_TooMany' := of_decide_eq_true t_TooMany
  have T : TR mg := ⟨m_isinstance, m_int, m_bool, m_len, m_all, m_list, m_tuple, m_range, m_sum, m_zip, m_enumerate, c_MOST_MODULI, c_MOST_BANKS, c_MOST_PLACES⟩
  have TBo : TB mg := ⟨m_int, m_abs, m_len, m_list⟩
  have TE : TErr K mg (He.ga K "BadRule") (He.ga K "BadNumber") (He.ga K "TooMany") (He.ma K (He.ga K "BadRule") "__init__") (He.ma K (He.ga K "BadNumber") "__init__") (He.ma K (He.ga K "TooMany") "__init__") fd_BadRule___init__ fd_BadNumber___init__ fd_TooMany___init__ := ⟨g_BadRule, ⟨xc_BadRule, n_BadRule', t_BadRule'⟩, F_BadRule___init__, He.noat_ok (fi 50 (.noat "BadRule" "part") rfl), b_BadRule___init__, g_BadNumber, ⟨xc_BadNumber, n_BadNumber', t_BadNumber'⟩, F_BadNumber___init__, He.noat_ok (fi 51 (.noat "BadNumber" "value") rfl), b_BadNumber___init__, g_TooMany, ⟨xc_TooMany, n_TooMany', t_TooMany'⟩, F_TooMany___init__, He.noat_ok (fi 52 (.noat "TooMany" "what") rfl), He.noat_ok (fi 53 (.noat "TooMany" "most") rfl), b_TooMany___init__⟩
  have TU : TRule K mg (He.ga K "Rule") _ _ _ _ := ⟨He.cls_ok (fi 46 (.cls "Rule") rfl), He.noat_ok (fi 47 (.noat "Rule" "moduli") rfl), He.noat_ok (fi 48 (.noat "Rule" "ahead") rfl), He.noat_ok (fi 49 (.noat "Rule" "turn") rfl), g_Rule, prop_of p1, prop_of p2⟩
  have THd : THeard K mg (He.ga K "BadRule") (He.ga K "BadNumber") (He.ga K "TooMany") (He.ga K "BankError") := ⟨g_BankError, TE.gBadRule, TE.gBadNumber, TE.gTooMany, xc_BadRule, xc_BadNumber, xc_TooMany, TE.nBadRule, TE.nBadNumber, TE.nWhat, TE.nMost, He.exm_ok (fi 55 (.exm "BadRule" "BankError" true) rfl), He.exm_ok (fi 56 (.exm "BadNumber" "BankError" true) rfl), He.exm_ok (fi 57 (.exm "TooMany" "BankError" true) rfl), of_decide_eq_true kBadRuleBadRule, of_decide_eq_true kBadRuleBadNumber, of_decide_eq_true kBadRuleTooMany, of_decide_eq_true kBadNumberBadRule, of_decide_eq_true kBadNumberBadNumber, of_decide_eq_true kBadNumberTooMany, of_decide_eq_true kTooManyBadRule, of_decide_eq_true kTooManyBadNumber, of_decide_eq_true kTooManyTooMany, m_isinstance, m_repr, m_len⟩
  have MRI := He.mkr_ok (fi 54 (.mkr "Rule") rfl)
  obtain ⟨och, odh, kVh, doch, pmh, anh, cdvh, cth, oslh, eh, lkHe, hcHe⟩ := id F__law_heard.ex
  subst eh
  have cO := callO_of co
  have OC := own_of ow
  have RC := rcls_of TU.cl rc
  obtain ⟨nSt, nSt2⟩ := str_of st
  have rcR := cread_of cr
  have cmM := cm_of cm_modulo
  have cmX := cm_of cm_xor
  have cmP := cm_of cm_padded
  obtain ⟨fd_xor, F_xor⟩ := ddi 0 _ rfl
  obtain ⟨dsx, dvx, b_xor⟩ : ∃ ds, Vals ([V.int 0].drop 1) ds ∧ Binds K fd_xor ["cls", "bits", "folds"] ds := FunD.binds1 (dvs := [V.int 0]) (kws := []) F_xor 3 1 (by simp) rfl fun T kV doc pm an cdv ct us its l1 l2 => match us, its, l1, l2 with | [_, _, _], [_], _, _ => ⟨_, rfl, rfl⟩
  obtain ⟨dsx1, dvx1, b_xor1⟩ : ∃ ds, Vals ([V.int 0].drop 0) ds ∧ Binds K fd_xor ["cls", "bits", "folds"] ds := FunD.binds1 (dvs := [V.int 0]) (kws := []) F_xor 2 0 (by simp) rfl fun T kV doc pm an cdv ct us its l1 l2 => match us, its, l1, l2 with | [_, _], [_], _, _ => ⟨_, rfl, rfl⟩
  have kXr : KBn K fd_xor ["cls", "bits", "folds"] 1 ["bits", "folds"] (fun us ws => us ++ ws) (fun vs zs => vs ++ zs) := by
    obtain ⟨oc, od, dV, kV, doc, pm, an, cdv, ct, osl, rfl, lk, hcd, hD, hK⟩ := F_xor.ex
    rcases hD with ⟨e, _⟩ | ⟨_, T, o, its, m, rfl, lT, oT, rT⟩
    · cases e
    · refine ⟨fun s us ws X l1 l2 => ?_, fun r q => r.append q⟩
      refine BindsTo.of_looks fun M => ?_
      match us, ws, l1, l2, its, rT.length with
      | [c1], [b1, f1], _, _, [i1], _ =>
        obtain ⟨k, e1, e2⟩ := xor_bind T kV doc pm an cdv ct c1 b1 f1 i1
        exact (show PySem.W.Looks M s.heap (bindArgs (PySem.W.fnOf "xor" "Rule.xor" (defArgs s_Rule_xor) (defBody s_Rule_xor) (defScope s_Rule_xor) (.ref T) kV doc pm an cdv ct) ⟨[c1], [(("bits" : Str), b1), (("folds" : Str), f1)]⟩) [(("cls" : Str), c1), (("bits" : Str), b1), (("folds" : Str), f1)] by rw [e1]; exact looks_items X lT oT (.of_pure e2))
  have kMd : KBn K fd_Rule_modulo ["cls", "banks"] 1 ["banks"] (fun us ws => us ++ ws) (fun vs zs => vs ++ zs) := F_Rule_modulo.kbn 1 ["banks"] _ _ (fun _ _ _ _ _ _ us ws l1 l2 => match us, ws, l1, l2 with | [_], [_], _, _ => rfl) fun r q => r.append q
  have kPd : KBn K fd_Rule_padded ["cls", "banks", "every", "pad"] 1 ["pad", "every", "banks"] (fun us ws => us ++ ws.reverse) (fun vs zs => vs ++ zs.reverse) := F_Rule_padded.kbn 1 ["pad", "every", "banks"] _ _ (fun _ _ _ _ _ _ us ws l1 l2 => match us, ws, l1, l2 with | [_], [_, _, _], _, _ => rfl) fun r q => r.append q.reverse
  obtain ⟨ocM, odM, kVM, docM, pmM, anM, cdvM, ctM, oslM, eM, lkM, hcM⟩ := id F__law_modulo_right.ex
  obtain ⟨ocF, odF, kVF, docF, pmF, anF, cdvF, ctF, oslF, eF, lkF, hcF⟩ := id F__law_folds_right.ex
  obtain ⟨ocP, odP, kVP, docP, pmP, anP, cdvP, ctP, oslP, eP, lkP, hcP⟩ := id F__law_padded_right.ex
  obtain ⟨ocl, odl, kVl, docl, pml, anl, cdvl, ctl, osll, el, lkL, hcL⟩ := id F_law.ex
  subst eM eF eP el
  obtain ⟨c0, rfl⟩ := He.codeIn_ref hcM
  obtain ⟨c1, rfl⟩ := He.codeIn_ref hcF
  obtain ⟨c2, rfl⟩ := He.codeIn_ref hcP
  obtain ⟨c3, rfl⟩ := He.codeIn_ref hcL
  have ec0 : He.codeOf K ("_law_modulo_right", none) = c0 := He.codeOf_eq lkM rfl
  have ec1 : He.codeOf K ("_law_folds_right", none) = c1 := He.codeOf_eq lkF rfl
  have ec2 : He.codeOf K ("_law_padded_right", none) = c2 := He.codeOf_eq lkP rfl
  have ec3 : He.codeOf K ("law", none) = c3 := He.codeOf_eq lkL rfl
  have dis : Dis (He.cT K ("_law_modulo_right", none)).2 (He.cT K ("_law_folds_right", none)).2 (He.cT K ("_law_padded_right", none)).2 (He.cT K ("law", none)).2 := ⟨of_decide_eq_true pp01, of_decide_eq_true pp02, of_decide_eq_true pp03, of_decide_eq_true pp12, of_decide_eq_true pp13, of_decide_eq_true pp23⟩
  refine ⟨PySem.W.fnOf "law" "law" (defArgs s_law) (defBody s_law) (defScope s_law) .none kVl docl pml anl (.ref c3) ctl, fun s v => .of_eq rfl, fun base _ _ tb => ?_⟩
  have TBM : TabB base mg c0 (He.cT K ("_law_modulo_right", none)).2 := by
    rw [← ec0]
    exact tb _ List.mem_cons_self
  have TBF : TabB base mg c1 (He.cT K ("_law_folds_right", none)).2 := by
    rw [← ec1]
    exact tb _ (List.mem_cons_of_mem _ List.mem_cons_self)
  have TBP : TabB base mg c2 (He.cT K ("_law_padded_right", none)).2 := by
    rw [← ec2]
    exact tb _ (List.mem_cons_of_mem _ (List.mem_cons_of_mem _ List.mem_cons_self))
  have TBl : TabB base mg c3 (He.cT K ("law", none)).2 := by
    rw [← ec3]
    exact tb _ (List.mem_cons_of_mem _ (List.mem_cons_of_mem _ (List.mem_cons_of_mem _ List.mem_cons_self)))
  have GD : FnOk P w K mg base CX0 1 _ fd__law_draw ["_law_pen_here", "_law_many"] spDraw := ok__law_draw F__law_draw TBo
  have GPk : FnOk P w K mg base CX0 2 _ fd__law_pick ["_law_pen_here", "_law_some"] (spPick K) := ok__law_pick F__law_pick TBo F__law_draw g__law_draw b__law_draw
  have GPn : FnOk P w K mg base CX0 1 _ fd__law_pen ["_law_script"] (spPen K) := ok__law_pen F__law_pen TBo
  have GRI := ok_Rule_init (P := P) (w := w) (base := base) F_Rule___init__ T TE TU F_is_integer g_is_integer b_is_integer F_is_within g_is_within b_is_within F_banks_by g_banks_by b_banks_by F_are_moduli g_are_moduli b_are_moduli F_are_banks g_are_banks b_are_banks F_shortest_weights g_shortest_weights b_shortest_weights F_Rule_classes b_Rule_classes
  have GC := ok_Rule_classes (P := P) (w := w) (base := base) F_Rule_classes T TU
  have GEq := ok_Rule_eq (P := P) (w := w) (base := base) F_Rule___eq__ T TU RC
  have GPa := ok_parts_of (P := P) (w := w) (base := base) F_parts_of T
  have GBw := ok_bank_with (P := P) (w := w) (base := base) F_bank_with T
  have GBs := ok_bank_sum (P := P) (w := w) (base := base) F_bank_sum T F_parts_of g_parts_of b_parts_of F_bank_with g_bank_with b_bank_with
  have GOn := ok_ones_of (P := P) (w := w) (base := base) F_ones_of T
  have GCl := ok_Rule_call (P := P) (w := w) (base := base) F_Rule___call__ T TE TU F_is_integer g_is_integer b_is_integer F_is_number g_is_number b_is_number GBs g_bank_sum F_bank_sum.kp b_bank_sum GOn g_ones_of F_ones_of.kp b_ones_of
  have GClR : FnR P w K mg base (L2.CX P w) 3 _ (spCall (He.ga K "BadNumber") (He.ga K "Rule") K) := (FnOk.raw GCl b_Rule___call__ .nil).imp fun vs H Q E h => by
    show spCall _ _ K (vs ++ []) H Q E
    rw [List.append_nil]
    exact h
  have GSp : FnOk P w K mg base CX0 1 _ fd_spaced ["numbers"] spSpaced := ok_spaced F_spaced T m_str
  have GSt := ok_Rule_str (P := P) (w := w) (base := base) F_Rule___str__ TU GSp g_spaced F_spaced.kp b_spaced
  have GDb := ok_doubled_weights (P := P) (w := w) (mg := mg) (base := base) F_doubled_weights
  have GMdO := ok_Rule_modulo (P := P) (w := w) (base := base) F_Rule_modulo T TE F_is_integer g_is_integer b_is_integer F_is_within g_is_within b_is_within GDb g_doubled_weights F_doubled_weights.kp b_doubled_weights MRI GRI b_Rule___init__
  have GMd : FnR P w K mg base (L2.CX P w) 6 _ (spModulo (He.ga K "BadRule") (He.ga K "TooMany") (He.ga K "Rule") K) := (FnOk.raw GMdO b_Rule_modulo .nil).imp fun vs H Q E h => by rw [List.append_nil]; exact h
  have GCp := ok_check_padding (P := P) (w := w) (mg := mg) (base := base) F_check_padding T TE F_is_integer g_is_integer b_is_integer F_is_within g_is_within b_is_within
  have GPdO := ok_Rule_padded (P := P) (w := w) (base := base) F_Rule_padded T TE F_is_integer g_is_integer b_is_integer F_is_within g_is_within b_is_within GDb g_doubled_weights F_doubled_weights.kp b_doubled_weights GCp g_check_padding F_check_padding.kp b_check_padding MRI GRI b_Rule___init__
  have GPd : FnR P w K mg base (L2.CX P w) 6 _ (spPadded (He.ga K "BadRule") (He.ga K "TooMany") (He.ga K "Rule") K) := (FnOk.raw GPdO b_Rule_padded .nil).imp fun vs H Q E h => by rw [List.append_nil]; exact h
  have GXrO := ok_Rule_xor (P := P) (w := w) (base := base) F_xor T TE F_is_integer g_is_integer b_is_integer F_is_within g_is_within b_is_within MRI GRI b_Rule___init__
  have GXr : FnR P w K mg base (L2.CX P w) 6 (He5.wf K (He.ga K "Rule") "classmethod" "xor") (spXor (He.ga K "BadRule") (He.ga K "TooMany") (He.ga K "Rule") K) := (FnOk.raw GXrO b_xor dvx).imp fun vs H Q E h => by
    show spXor _ _ _ K (vs ++ []) H Q E
    rw [List.append_nil]
    exact h
  have GXr1 : FnR P w K mg base (L2.CX P w) 6 (He5.wf K (He.ga K "Rule") "classmethod" "xor") (spXor1 (He.ga K "BadRule") (He.ga K "TooMany") (He.ga K "Rule") K) := (FnOk.raw GXrO b_xor1 dvx1).imp fun vs H Q E h => h
  have GLp := ok__law_places (P := P) (w := w) (base := base) F__law_places T
  have GLf := ok__law_folded (P := P) (w := w) (base := base) F__law_folded T
  have GTM := ok__law_modulo_right (P := P) (w := w) (base := base) lkM hcM TBM dis T TU THd GD g__law_draw F__law_draw.kp b__law_draw GPk g__law_pick F__law_pick.kp b__law_pick GLp g__law_places F__law_places.kp b__law_places rcR cmM GMdO kMd cO GClR GC b_Rule_classes g__law_heard F__law_heard.kp lkHe hcHe b__law_heard
  have GTF := ok__law_folds_right (P := P) (w := w) (base := base) lkF hcF TBF dis T TU THd GD g__law_draw F__law_draw.kp b__law_draw GPk g__law_pick F__law_pick.kp b__law_pick GLf g__law_folded F__law_folded.kp b__law_folded rcR cmX GXr GXrO kXr MRI GRI b_Rule___init__ OC GEq b_Rule___eq__ cO GClR g__law_heard F__law_heard.kp lkHe hcHe b__law_heard
  have GTP := ok__law_padded_right (P := P) (w := w) (base := base) lkP hcP TBP dis T TU THd GD g__law_draw F__law_draw.kp b__law_draw GPk g__law_pick F__law_pick.kp b__law_pick GLp g__law_places F__law_places.kp b__law_places rcR cmP GPdO kPd cO GClR GC b_Rule_classes g__law_heard F__law_heard.kp lkHe hcHe b__law_heard
  exact ok_law lkL hcL TBl dis T m_str TU THd GPn g__law_pen F__law_pen.kp b__law_pen GD g__law_draw F__law_draw.kp b__law_draw GTM g__law_modulo_right F__law_modulo_right.kp b__law_modulo_right GTF g__law_folds_right F__law_folds_right.kp b__law_folds_right GTP g__law_padded_right F__law_padded_right.kp b__law_padded_right rcR cmM GMd cmX GXr GXr1 cmP GPd nSt nSt2 GSt b_Rule___str__ GC b_Rule_classes g__law_heard F__law_heard.kp lkHe hcHe b__law_heard

end Toy
open PySem PySem.W PySem.Calls PyProof.Rows
set_option maxRecDepth 100000 in
set_option maxHeartbeats 0 in
theorem PySem.Challenge.cw_lanebanks_k24_whole_rules_of_kinds_holds : PySem.Challenge.rw_lanebanks_k24_whole_rules_of_kinds.Holds := by
  w_on; o_law
  refine HandSHeadRun.head_imp (r := OpenLaw.row PySem.Challenge.rw_lanebanks_k24_whole_rules_of_kinds) (q := view (OpenLaw.row PySem.Challenge.rw_lanebanks_k24_whole_rules_of_kinds).prog [0, 47]) (H := Toy.hk) (ob := Toy.ob) (M := 4000) (loose := Toy.names ++ Toy.names2) (d := HandSHeadRun.topDef (OpenLaw.row PySem.Challenge.rw_lanebanks_k24_whole_rules_of_kinds).prog 47) (kwd := []) Toy.ob_eq
    Toy.run (by kernel_rfl) (by kernel_rfl) (by kernel_rfl) (by rfl) (by first | assumption | decide +kernel) (by decide +kernel) ⟨rfl, rfl, rfl, rfl, rfl, by decide +kernel⟩ ?hw ?hc
  case hw => w_witness2
  case hc =>
    refine L2.walk_tabs (l := PySem.Challenge.rw_lanebanks_k24_whole_rules_of_kinds) (n := 63) (k := 10) (x := "_law_script") (sp := fun K ts => Toy.spTabs K ts) rfl (by decide) (by kernel_rfl) ⟨rfl, by decide, by decide⟩ ?F (fun K ts H a ns hl hb hT hS => ⟨a, ns, rfl, hS, hl, hb, hT, fun _ => rfl⟩)
    intro w mg fa h Y G hmg0
    obtain ⟨K, KX, c⟩ := Y
    have hmg : mg ("law" : PySem.Str) = some (.ref fa) := by
      have e : (HandSHeadRun.topDef (OpenLaw.row PySem.Challenge.rw_lanebanks_k24_whole_rules_of_kinds).prog 47).name = ("law" : PySem.Str) := by kernel_rfl
      rw [← e]
      exact hmg0
    obtain ⟨fd, hb, hF⟩ := Toy.facts (P := (PySem.Challenge.rw_lanebanks_k24_whole_rules_of_kinds).prog) (w := w) KX G hmg c
    refine ⟨K, Toy.tabsOf.map (He.cT K), fd, KX, fun p hp => ?_, fun p hp => ?_, fun p hp => ?_, hb, hF⟩
    all_goals
      obtain ⟨d, hd, rfl⟩ := List.mem_map.mp hp
    · exact c.empty d hd
    · exact c.out d hd
    · exact PySem.W.codeHd_of_K KX (c.hd d hd)
