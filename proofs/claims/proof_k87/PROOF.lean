import PyProof.Rows.All
import Wide.All
import OpenK.AllK
import Wide.FinOn
import HandS.ForMost
import HandS.ForExc
import HandS.ExcInit
import HandS.IsInst
import HandS.Wide
import HandS.EndBits
import HandS.Conv
import HandS.Defaults
import KE.KExcIs
import HandS.MakeKw
import HandS.Codes
import HandS.ExcValue
import HandS.Walk
import HandS.Style
import HandS.TupMul
import HandS.TupAny
import HandS.ExcOwn
import HandS.WordsExc
import HandS.Property
import KE.KAssignIn
import HandS.OwnEq
import HandS.More
import HandS.HeadHook2
import KE.GoesEnum
import KE.KDictZip
import HandS.Zip
import HandS.ListItems
import HandS.Star
import HandS.Words
import PyProof.FString
import PyProof.FString3
import HandS.Small
import PyProof.Rows.StrIntSpec
import HandS.FStr
import HandS.Text
import PyProof.Rows.StrStep
import KE.KOpsOwn
import KE.KMathGC
import HandS.Gcd
import KE.KCallOwn
import HandS.ClsMeth
import HandS.IterVal
import KE.KOwnIter
import OpenK.KOps
import OpenK.KMeth
import HandS.SetFor
import HandS.Strs
import HandS.Exc
import HandS.Comp
import KE.GoesRaise
import HandS.Lambda
import HandS.EndTab
import HandS.HeadHook4
import HandS.HeadNt
import KE.KTupTruth
import PyProof.Rows.RegReprOcc
import PyProof.Rows.StrRev
import PyProof.StrBlock2
import HandS.Dict
import HandS.Head3
import KE.KStateDown
import Lean
import HandS.Head0
import HandS.Head1
import HandS.Head2
import HandS.HeadEnd
import PySem.Challenge.RW_lanebanks_k87_texts_that_are_no_papers_o
set_option Elab.async false
set_option linter.all false
set_option maxRecDepth 100000
namespace L2
open PySem PySem.Spec PyProof.Rows
/-! exceptions of the program's own as values -/
structure XvC (K : PySem.W.Frag) (C : Addr) : Prop where
  oex : OexC K C
  ga : PySem.W.findIn K (.ref C) "__getattribute__" = some (some (.builtin "BaseException.__getattribute__"))
  gg : PySem.W.findIn K (.ref C) "__getattr__" = some none
  dd : PySem.W.hasDictIn K C = true
  ic : (PySem.W.clsIn K C).isSome = true
  ca : PySem.W.findIn K (.ref C) "__class__" = some (some (.builtin "object.__class__"))
  gs : PySem.W.specialIn K (.builtin "object.__class__") "__get__" = some (some (.builtin "getset_descriptor.__get__"))
  tk : PySem.W.takesIn K (.builtin "object.__class__") = some true
  mo : PySem.W.mroIn K C (.type "object") = some true
/-- an exception object with (some) dict -/
def XvD (H : Hp) (d : Option Addr) : Prop := ∀ b, d = some b → ∃ fs, H b = some (exd b fs)
section
variable {X : Cx} {pins : List (Addr × Obj)} {σ : St} {H : Hp} {s : Shared}
theorem xv_inst {a C : Addr} {d : Option Addr} (I : Inv X pins σ H s) (e : H a = some (exo a C d)) (hd : XvD H d) : ∃ oe od, PySem.W.InstAt s.heap a oe C od := by
  obtain ⟨t1, ho⟩ := exo_at I.hok e
  cases d with
  | none => exact ⟨_, none, ho, rfl, rfl, trivial⟩
  | some b =>
    obtain ⟨fs, eb⟩ := hd b rfl
    obtain ⟨mA, hns, hr⟩ := exd_at I.hok eb
    obtain ⟨od, hod, hl⟩ := lookIn_ns hns
    exact ⟨_, some od, ho, rfl, rfl, hod⟩
/-- e.f off such a value -/
def tXat (K : PySem.W.Frag) (te : TE) (f : Str) : TE := fun σ H Q => te σ H fun x H1 => ∃ (a C d : Addr) (fs : List (Str × V)) (v : V), x = .ref a ∧ H1 a = some (exo a C (some d)) ∧ H1 d = some (exd d fs) ∧ XvC K C ∧ PySem.W.findIn K (.ref C) f = some none ∧ fs.lookup f = some v ∧ Q v H1
theorem pe_xat {e : Expr} {te : TE} {f : Str} {pos : Pos} (he : PE X e te) (hb : attributeBase e f X.env (eval e X.env) = eval e X.env := by rfl) : PE X (.Attribute e f pos) (tXat X.K te f) := by
  refine ⟨fun pins s σ H Q I h => ?_⟩
  refine attr_of hb (thn (he.run pins s σ H _ I h) fun u s1 hh => ?_)
  obtain ⟨x, H1, I1, rx, a, C, d, fs, v, ex, ea, ed, T, no, l, q⟩ := hh
  subst ex
  obtain rfl : u = Value.ref a := rx
  obtain ⟨t1, ho⟩ := exo_at I1.hok ea
  obtain ⟨mA, hns, hr⟩ := exd_at I1.hok ed
  obtain ⟨od, hod, hl⟩ := lookIn_ns hns
  obtain ⟨u, hu, ru⟩ := RelO.some_of (v := v) (o := mA f) (by rw [← l]; exact hr f)
  have J : PySem.W.InstAt s1.heap a _ C (some od) := ⟨ho, rfl, rfl, hod⟩
  exact HandSPX.exc_get I1.kIn J T.ga T.gg T.oex.exC (PySem.W.findObj_own T.dd no rfl (by rw [hl, hu])) (handed_of ru) ⟨v, H1, I1.tok _, ru, q⟩
/-- isinstance(e, c) -/
def rIsX (K : PySem.W.Frag) : List V → Hp → VK → Prop := fun xs H Q => ∃ (a C : Addr) (d : Option Addr) (c : V) (cv : Value) (b : Bool), xs = [.ref a, c] ∧ H a = some (exo a C d) ∧ XvD H d ∧ XvC K C ∧ ClsV c cv ∧ PySem.W.kitOne K (.ref C) cv = some b ∧ Q (.bl b) H
theorem call_isx : CallR X (.builtin "isinstance") (rIsX X.K) := by
  intro pins s σ H xs us Q I r h
  obtain ⟨a, C, d, c, cv, b, rfl, ea, hd, T, k, e, q⟩ := h
  obtain ⟨u1, u2, rfl, r1, r2⟩ := vals2 r
  have e2 := k.eq r2
  subst e2
  obtain rfl : u1 = Value.ref a := r1
  obtain ⟨oe, od, J⟩ := xv_inst I ea hd
  exact PySem.W.kia_one (PySem.W.kitx_exc T.ic T.ga T.gg T.oex.exC T.ca T.gs T.tk T.mo) I.kIn J e (fun z => nomatch z) fun tk => ⟨.bl b, H, I.tok tk, rfl, q⟩
end
end L2
set_option maxRecDepth 100000
namespace PySem
namespace XKw
open Builtin Builtin.ObjectAttr PySem.HandSPX
section
variable {M : Model} {A : Around} {E : Value → Shared → Prop} {hh : Heap} {gg : Array GenState} {dr : Drawn} {tt : Nat} {oss : OsState}
variable {nm q : Str} {C N : Addr} {bs bm bmB : List Value} {hdct : Bool} {sn : List Str} {sub : List Value} {ab : Bool} {col : Option Bool} {dd : Option Addr} {k0 k1 k2 k3 k5 : Option Value} {B nid iid : String}
theorem chk_new (FF : ExcBaseFacts B nid iid bmB) (hT : ∀ Y : String, bm.contains (.type Y) = bmB.contains (.type Y)) {us : List Value} {kw : List (Str × Value)} {Q : Unit → Shared → Prop}
    (hC : hh.get? C = some (excClassObj nm q C N bs bm hdct sn sub ab col dd k0 k1 k2 k3 k5 nid))
    (hq : Q () ⟨hh, gg, dr, tt, oss⟩) : wpAny M A (checkBuiltinCall nid ⟨.ref C :: us, kw⟩) Q E ⟨hh, gg, dr, tt, oss⟩ := by
  have hc : (Value.ref C :: bm).contains (.type B) = true := by rw [List.contains_cons, hT, FF.hasB]; exact Bool.or_true _
  have hs := FF.noStar
  simp only [checkBuiltinCall, FF.newKind, FF.newSplit, FF.newRow]
  repeat (first
    | refine wpAny_loadPart_at hC ?_
    | (refine wpAny_isSubtype_exc hC ?_; rw [hc])
    | refine wpAny_staticBase_exc hC ?_
    | refine wpAny_madeBy_exc hC ?_
    | simp only [bne_self_eq_false, Bool.false_eq_true, if_false]
    | wp_step)
  exact hq
end
section
variable {prog : Program} {w : World} {A : Around} {E : Value → Shared → Prop} {R : Result → Shared → Prop} {hh : Heap} {gg : Array GenState} {dr : Drawn} {tt : Nat} {oss : OsState}
variable {nm q : Str} {C N : Addr} {bs bm bmB : List Value} {hdct : Bool} {sn : List Str} {sub : List Value} {ab : Bool} {col : Option Bool} {dd : Option Addr} {k0 k1 k2 k3 k5 : Option Value} {B nid iid : String} {kw : List (Str × Value)}
theorem mk_new (FF : ExcBaseFacts B nid iid bmB) (hT : ∀ Y : String, bm.contains (.type Y) = bmB.contains (.type Y)) {us : List Value}
    (hC : hh.get? C = some (excClassObj nm q C N bs bm hdct sn sub ab col dd k0 k1 k2 k3 k5 nid))
    (hq : R (.ok (.ret (.ref (hh.objs.size + 1)))) ⟨(hh.push (W.kdv_tup us)).push (excO C hh.objs.size), gg, dr, tt, oss⟩) (hu : us.length ≤ sizeLine) :
    codeAny (model prog w) A (.builtin nid ⟨.ref C :: us, kw⟩) R ⟨hh, gg, dr, tt, oss⟩ := by
  have he := FF.ends
  have c1 : (Value.ref C :: bm).contains (.type B) = true := by rw [List.contains_cons, hT, FF.hasB]; exact Bool.or_true _
  have c2 : (Value.ref C :: bm).contains (.type "AttributeError") = false := by rw [List.contains_cons, hT, FF.noAttr]; exact Bool.or_false _
  have c3 : (Value.ref C :: bm).contains (.type "NameError") = false := by rw [List.contains_cons, hT, FF.noName]; exact Bool.or_false _
  refine codeAny_builtinAt FF.entry ?_
  unfold Builtin.«BaseException.__new__»
  refine wpAt_bind ?_
  show wpAt _ _ _ (PySem.stack >>= _) _ _ _
  refine wpAt_bind (wpAt_stack fun _ _ => wpAt_of_wpAny ?_)
  wp_walk
  refine wpAt_of_wpAny ?_
  rw [FF.owner]
  repeat (first
    | with_reducible refine wpAny_madeHere_exc FF.canon hC ?_
    | with_reducible refine wpAny_loadPart_at hC ?_
    | (with_reducible refine wpAny_isSubtype_exc hC ?_; first | rw [c1] | rw [c2] | rw [c3])
    | wp_step)
  show R _ _
  rw [Heap.size_push]
  exact hq
theorem mk_type (FF : ExcBaseFacts B nid iid bmB) (hT : ∀ Y : String, bm.contains (.type Y) = bmB.contains (.type Y)) {us : List Value} {fI : Addr} {Q : Fin → Shared → Prop}
    (hC : hh.get? C = some (excClassObj nm q C N bs bm hdct sn sub ab col dd k0 k1 k2 k3 k5 nid))
    (hi : W.Looks (model prog w) hh (typeLookup (.ref C) "__init__") (some (.ref fI)))
    (hb : ∀ y, W.Looks (model prog w) hh (bindSpecial (.ref fI) y) (.ref fI, [y])) (hu : us.length ≤ sizeLine)
    (hq : codeAny (model prog w) A (.call (.ref fI) ⟨.ref (hh.objs.size + 1) :: us, kw⟩)
      (fun r z => match r with
        | .ok (.ret v) => v = .none ∧ Q (.done (.ret (.ref (hh.objs.size + 1)))) z
        | .ok _ => False
        | .error e => E e z)
      ⟨(hh.push (W.kdv_tup us)).push (excO C hh.objs.size), gg, dr, tt, oss⟩) :
    wpAny (model prog w) A (Builtin.«type.__call__» ⟨.ref C :: us, kw⟩) Q E ⟨hh, gg, dr, tt, oss⟩ := by
  repeat (first
    | with_reducible refine wpAny_loadPart_at hC ?_
    | with_reducible refine wpAny_madeBy_exc hC ?_
    | wp_step)
  refine codeAny_call_builtin_code (Code.quiet_builtin _ FF.quiet) (chk_new FF hT hC ?_)
  refine mk_new FF hT hC ?_ hu
  show wpAny _ _ _ _ _ _
  have k : ∀ b o, hh.get? b = some o → ((hh.push (W.kdv_tup us)).push (excO C hh.objs.size)).get? b = some o :=
    fun _ _ e => Heap.get?_push_of_some _ (Heap.get?_push_of_some _ e)
  have hC1 := k _ _ hC
  have hg : ((hh.push (W.kdv_tup us)).push (excO C hh.objs.size)).get? (hh.objs.size + 1) = some (excO C hh.objs.size) := by
    heap_get
  have cC : (Value.ref C :: bm).contains (.ref C) = true := by simp
  have i1 := hi.keeps k
  have b1 := (hb (.ref (hh.objs.size + 1))).keeps k
  unfold isInstance
  repeat (first
    | with_reducible refine wpAny_loadPart_at hg ?_
    | (with_reducible refine wpAny_isSubtype_exc hC1 ?_; rw [cC])
    | wp_step)
  show wpAny _ _ (typeLookup (.ref C) _) _ _ _
  refine i1.at ?_
  refine wpAny_holding (wpAny_bind (b1.at ?_))
  refine wpAny_bind (wpAny_call (codeAny_mono hq fun r z y => ?_))
  cases r with
  | error e => exact y
  | ok fl =>
    cases fl with
    | ret v =>
      obtain ⟨rfl, y⟩ := y
      first
        | exact wpAny_pure (wpAny_pure y)
        | (wp_walk; done)
        | (wp_walk; exact y)
    | next => exact y.elim
    | brk => exact y.elim
    | cont => exact y.elim
theorem mk_call (FF : ExcBaseFacts B nid iid bmB) (hT : ∀ Y : String, bm.contains (.type Y) = bmB.contains (.type Y)) {us : List Value} {fI : Addr}
    (hC : hh.get? C = some (excClassObj nm q C N bs bm hdct sn sub ab col dd k0 k1 k2 k3 k5 nid))
    (hi : W.Looks (model prog w) hh (typeLookup (.ref C) "__init__") (some (.ref fI)))
    (hb : ∀ y, W.Looks (model prog w) hh (bindSpecial (.ref fI) y) (.ref fI, [y])) (hu : us.length ≤ sizeLine)
    (hq : codeAny (model prog w) (A.under (.builtin "type.__call__" ⟨.ref C :: us, kw⟩)) (.call (.ref fI) ⟨.ref (hh.objs.size + 1) :: us, kw⟩) (W.InitBack (hh.objs.size + 1) R)
      ⟨(hh.push (W.kdv_tup us)).push (excO C hh.objs.size), gg, dr, tt, oss⟩) :
    codeAny (model prog w) A (.call (.ref C) ⟨us, kw⟩) R ⟨hh, gg, dr, tt, oss⟩ := by
  have f1 := tc_lookup
  have f2 := tc_bind (.ref C)
  have hTy : (⟨hh, gg, dr, tt, oss⟩ : Shared).TypeIs (.ref C) "type" := ⟨_, hC, rfl⟩
  refine codeAny_of_tree ?_
  show wpAny _ _ (callAny (.ref C) _) _ _ _
  repeat (any_goals (first
    | assumption
    | with_reducible refine wpAny_loadPart_at hC ?_
    | wp_step))
  refine ⟨rfl, ?_⟩
  refine codeAny_call_builtin_at (Code.quiet_builtin _ (by decide +kernel)) entry_typeCall (wpAny_check_type_call_sub hC (mk_type FF hT hC hi hb hu ?_))
  refine codeAny_mono hq fun r z y => ?_
  rcases r with e | (v | _ | _ | _) <;> exact y
end
end XKw
end PySem
set_option maxRecDepth 100000
namespace L2
open PySem PySem.Spec PyProof.Rows
/-- a def's promise where nothing is being shown around it (repr asks that) -/
structure FnG (P : Program) (w : World) (K : PySem.W.Frag) (mg : Str → Option Value) (base : Heap) (CX : CXT) (k : Nat) (f : Addr) (fd : FuncData) (ps : List Str) (sp : Sp) : Prop where
  len : ∀ vs H Q E, sp vs H Q E → vs.length = ps.length
  run : ∀ (A : Around) (outer : List Env) (s : Shared) (H : Hp) (args : Args) (us : List Value) (vs : List V) (Q : VK) (E : XK), A.guards = some [] → Room k A →
    Env0 P w K mg base A outer s H → BindsTo s fd args (ps.zip us) → Vals vs us → sp vs H Q E →
    codeAny (model P w) A (.call (.ref f) args) (CR CX outer P w H s Q E) s
section
variable {P : Program} {w : World} {K : PySem.W.Frag} {mg : Str → Option Value} {base : Heap} {CX : CXT} {k : Nat} {f : Addr} {fd : FuncData} {ps : List Str} {sp : Sp}
theorem FnOk.g (F : FnOk P w K mg base CX k f fd ps sp) : FnG P w K mg base CX k f fd ps sp :=
  ⟨F.len, fun A o s H a us vs Q E _ => F.run A o s H a us vs Q E⟩
theorem FnG.mono {j : Nat} (F : FnG P w K mg base CX j f fd ps sp) (h : j ≤ k) : FnG P w K mg base CX k f fd ps sp :=
  ⟨F.len, fun A o s H a us vs Q E g r => F.run A o s H a us vs Q E g (r.mono h)⟩
end
/-- a def by its body -/
theorem Fun.okG {P : Program} {w : World} {K : PySem.W.Frag} {mg : Str → Option Value} {base : Heap} {x qual : Str} {st : Stmt} {f : Addr} {fd : FuncData} {N ps : List Str} {k : Nat} {sp : Sp}
    (F : Fun K x qual st f fd) (S : FnScope N ps (defScope st)) (len : ∀ vs H Q E, sp vs H Q E → vs.length = ps.length)
    (body : ∀ (cdv : Value) (A : Around) (outer : List Env) (s : Shared) (H : Hp) (vs : List V) (Q : VK) (E : XK), A.guards = some [] →
      Room k (A.deeper (envOfC qual (defScope st) s.heap.objs.size f cdv)) → sp vs H Q E →
      ∃ t, PSs (cxOf CX0 P w K mg base N qual (defScope st) f cdv A outer s H E).nox (defBody st) t ∧
        t { nx := fun _ H' => Q .non H', rt := Q } (start N vs) H) :
    FnG P w K mg base CX0 (k + 1) f fd ps sp := by
  obtain ⟨oc, od, kV, doc, pm, an, cdv, ct, osl, rfl, lk, hcd⟩ := F.ex
  refine ⟨len, fun A outer s H args us vs Q E hgd hr e0 hb r hsp => ?_⟩
  have hn := len _ _ _ _ hsp
  have bk : ∀ b o, base.get? b = some o → s.heap.get? b = some o := fun b o e => (e0.bs b o e).1
  have kin := e0.mod.kin.keeps bk
  have lim := e0.mod.nolimit.keeps bk
  have kinds : ∀ y ∈ ps.zip us, (defScope st).names.lookup y.1 = some .local ∨
      ((defScope st).names.lookup y.1 = some .cell ∧ ((cellsFrom (s.heap.objs.size + 1) (defScope st).names []).lookup y.1).isSome = true) := by
    rintro ⟨n, v⟩ hy
    cases S.par n (List.of_mem_zip hy).1 with
    | inl q => exact .inl q
    | inr q => exact .inr ⟨q, PySem.W.cellsFrom_some _ _ _ (.inl q)⟩
  refine codeAny_call_function hr.depth (kin _ _ lk) rfl S.co S.gen rfl (PySem.W.codeRec_of kin hcd) (hb _ _ _ _ ?_)
  refine wpAny_newFunctionEnv_cells S.kind kinds fun env he s1 x => ?_
  subst he
  refine ⟨lim.keeps x.toInCall.keep, codeAny_func ?_⟩
  obtain ⟨t, ht, hq⟩ := body cdv A outer s H vs Q E hgd (hr.deeper _) hsp
  have I := inv_start (CX := CX0) (P := P) (w := w) (K := K) (mg := mg) (base := base) (E := E) S hr.hd e0 hn r x
  refine wpAny_mono (ht.nox.run [] s1 (start N vs) H _ I hq) (fun fl s' hs => ?_) fun _ _ hs => hs
  cases fl with
  | brk =>
    obtain ⟨_, _, _, q⟩ := hs
    exact q.elim
  | cont =>
    obtain ⟨_, _, _, q⟩ := hs
    exact q.elim
  | next =>
    obtain ⟨σ', H', J, q⟩ := hs
    exact ⟨V.non, H', J.os, J.bare, J.base, J.hok, rfl, q⟩
  | ret u =>
    obtain ⟨v, σ', H', J, rv, q⟩ := hs
    exact ⟨v, H', J.os, J.bare, J.base, J.hok, rv, q⟩
section
variable {X : Cx} {CX : CXT} {k : Nat} {f : Addr} {fd : FuncData} {ps ks : List Str} {sp : Sp} {dvs : List V} {ds : List Value} {E : XK} {x : Str} {p pos : Pos} {e : Expr} {es : List Expr} {t : TA}
theorem run_g {pins : List (Addr × Obj)} {σ : St} {H : Hp} {s : Shared} {Q : VK} {us : List Value} {vs : List V} (F : FnG X.prog X.w X.K X.mg X.base CX k f fd ps sp) (gd : X.A.guards = some []) (hr : Room k X.A)
    (hb : Binds X.K fd ps ds) (hd : Vals dvs ds) (hx : Passes CX X E) (I : Inv X pins σ H s) (r : Vals vs us) (h : sp (vs ++ dvs) H Q E) :
    wpAny (model X.prog X.w) X.A (call (.ref f) us) (EP X pins σ Q) X.xe s := by
  have rr := Vals.append r hd
  have hl : (us ++ ds).length = ps.length := (rr.length.symm).trans (F.len _ _ _ _ h)
  refine wpAny_call (codeAny_mono (F.run X.A X.stack s H _ _ _ Q E gd hr I.env0 (hb s us I.kIn hl) rr h) fun r s' hq => ?_)
  cases r with
  | error er => exact hx pins σ H s er s' I hq
  | ok fl =>
    cases fl with
    | ret u => exact I.after hq
    | next => exact hq.elim
    | brk => exact hq.elim
    | cont => exact hq.elim
theorem pe_callG (F : FnG X.prog X.w X.K X.mg X.base CX k f fd ps sp) (gd : X.A.guards = some []) (hr : Room k X.A) (hg : Gl X x) (hm : X.mg x = some (.ref f)) (hk : PySem.W.keepIn X.K (.ref f) = true)
    (hb : Binds X.K fd ps ds) (hd : Vals dvs ds) (hx : Passes CX X E) (ha : PA X (e :: es) t) (hdb : (x == ("__debug__" : Str)) = false := by decide)
    (he : starEach (e :: es) X.env = (false, eval e X.env) :: starEach es X.env := by rfl) (hpl : (backTo pos (starEach es X.env)).any (·.1) = false := by rfl) :
    PE X (.Call (.Name x p) (e :: es) [] pos) (tCall sp dvs E t) := by
  refine ⟨fun pins s σ H Q I h => wpAny_Call_Name_kw (ld_glob I hg hm ?_ hdb)⟩
  refine PySem.W.callWith_K (h₀ := X.base) I.ok.mod.kin hk (thn (ha.run pos pins s σ H _ I h) fun us s1 hh => ?_) he hpl
  obtain ⟨vs, H1, I1, r, q⟩ := hh
  exact ⟨I1.kIn, run_g F gd hr hb hd hx I1 r q⟩
/-! repr -/
/-- x reads as d, in every state over H -/
def RdV (X : Cx) (H : Hp) (x : V) (d : PyData) : Prop := ∀ (pins : List (Addr × Obj)) (σ : St) (s : Shared) (u : Value), Inv X pins σ H s → RelV x u → ∃ as, Reads s.heap u d as ∧ (d.hasDict = true → sysModules ∉ as)
def rRepr (X : Cx) : List V → Hp → VK → Prop := fun xs H Q => ∃ (x : V) (d : PyData), xs = [x] ∧ RdV X H x d ∧ d.showable = true ∧ d.depth ≤ 20 ∧ d.shown.length ≤ sizeLine ∧ Q (.str d.shown) H
theorem call_reprG (gd : X.A.guards = some []) (hu : X.A.units + 64 < cLine) : CallR X (.builtin "repr") (rRepr X) := by
  intro pins s σ H xs us Q I r h
  obtain ⟨x, d, rfl, rd, sh, dp, sz, q⟩ := h
  obtain ⟨u, rfl, ru⟩ : ∃ u, us = [u] ∧ RelV x u := by
    cases r with
    | cons a b =>
      cases b
      exact ⟨_, rfl, a⟩
  obtain ⟨as, rr, hsm⟩ := rd pins σ s u I ru
  have fin : ∀ (h' : Heap) (t : Tok) (tk : Nat), (∀ b o, s.heap.get? b = some o → h'.get? b = some o) → EP X pins σ Q (.str d.shown t) { s with heap := h', toks := tk } :=
    fun h' t tk k => ⟨.str d.shown, H, I.kept (t' := tk) k, ⟨t, rfl⟩, q⟩
  cases rr with
  | none => exact PySem.P.repr_of_none (fin s.heap s.toks _ fun _ _ z => z)
  | bool b => exact PySem.P.repr_of_bool (fin s.heap s.toks _ fun _ _ z => z)
  | int i t =>
    have hb : i.natAbs.log2 < 1920 := by simpa [PyData.showable] using sh
    exact PySem.P.repr_of_int hb (fin s.heap s.toks _ fun _ _ z => z)
  | str y t => exact PySem.P.repr_of_str (fin s.heap s.toks _ fun _ _ z => z) sz
  | list h1 h2 h3 h4 => exact repr_of_reads' (.list h1 h2 h3 h4) sh hsm gd (by omega) (fun _ _ z => z) (fun h' u tk k => fin h' u tk k) sz
  | tuple h1 h2 h3 h4 => exact repr_of_reads' (.tuple h1 h2 h3 h4) sh hsm gd (by omega) (fun _ _ z => z) (fun h' u tk k => fin h' u tk k) sz
  | dict h1 h2 h3 h4 h5 => exact repr_of_reads' (.dict h1 h2 h3 h4 h5) sh hsm gd (by omega) (fun _ _ z => z) (fun h' u tk k => fin h' u tk k) sz
end
end L2
set_option maxRecDepth 100000
namespace L2
open PySem PySem.Spec PyProof.Rows
/-- the law's call, by a promise that holds where nothing is being shown -/
theorem end_core {P : Program} {w : World} {K : PySem.W.Frag} {mg mb : Str → Option Value} {k : Nat} {fa a : Addr} {fd : FuncData} {x : Str} {sp : Sp} {s₁ : Shared} {vs : List Value} {H : Hp}
    (KX : K.In s₁.heap) (hns : s₁.heap.Ns mainGlobals mg) (hb : s₁.heap.Ns builtinsNs mb) (hbb : ∀ y : Str, y ≠ "__name__" → mb y = bootBuiltins y)
    (lim : s₁.heap.NoLimit) (hg : s₁.gens = #[]) (ha : s₁.heap.get? a = some { cls := .type "list", data := .seq vs.toArray }) (hr : Room k callerA)
    (F : ∀ base : Heap, K.In base → base.Ns mainGlobals mg → FnG P w K mg base CX0 k fa fd [x] sp) (bind : ∀ (s : Shared) (u : Value), BindsTo s fd ⟨[u], []⟩ [(x, u)])
    (hO : Only H) (hok : HOk P w H s₁.heap) (hA : ∀ b, H b ≠ none → b = a) (hK : H a ≠ none → K.lookup a = none)
    (hsp : sp [.ref a] H (fun v _ => v = .bl true) fun _ _ _ => False) :
    codeAny (model P w) callerA (.call (.ref fa) ⟨[.ref a], []⟩) (fun r s' => r = .ok (.ret (.bool true)) ∧ OldK s₁.heap s'.heap ∧ s'.os = s₁.os ∧ AllBare s'.gens) s₁ := by
  have free : ∀ {b : Addr} {o : Obj} {es : Array DictEntry} {ep : Nat}, s₁.heap.get? b = some o → o.data = .dict es ep → H b = none := by
    intro b o es ep e d
    refine Classical.byContradiction fun n => ?_
    have eb := hA b n
    subst eb
    have eo := Option.some.inj (e.symm.trans ha)
    subst eo
    cases d
  have ns' : ∀ {b : Addr} {m : Str → Option Value}, s₁.heap.Ns b m → (hidT s₁.heap H).Ns b m := by
    rintro b m ⟨o, es, ep, e, d, r⟩
    exact ⟨o, es, ep, hidT_get e (free e d), d, r⟩
  have kb : K.In (hidT s₁.heap H) := by
    intro b o e
    refine hidT_get (KX b o e) (Classical.byContradiction fun n => ?_)
    have eb := hA b n
    subst eb
    rw [hK n] at e
    cases e
  have md : Mod K mg (hidT s₁.heap H) := by
    obtain ⟨mc, h1, h2⟩ := lim
    exact ⟨kb, ns' hns, ⟨mb, ns' hb, hbb⟩, ⟨mc, ns' h1, h2⟩⟩
  have ev : Env0 P w K mg (hidT s₁.heap H) callerA [] s₁ H :=
    ⟨rfl, md, fun b o e => of_hidT e, Nat.le_of_eq (hidT_size _ _), trivial, fun b hb => (nomatch hb), hok, .of_eq hg⟩
  refine codeAny_mono ((F _ kb (ns' hns)).run callerA [] s₁ H _ [.ref a] [.ref a] _ _ rfl hr ev (bind s₁ (.ref a)) (.cons rfl .nil) hsp) fun r s' h => ?_
  cases r with
  | error e => exact (h : False).elim
  | ok fl =>
    cases fl with
    | next => exact (h : False).elim
    | brk => exact (h : False).elim
    | cont => exact (h : False).elim
    | ret u =>
      obtain ⟨v, H', os, bare, un, hok', r', q⟩ := h
      have q' : v = .bl true := q
      subst q'
      obtain rfl : u = Value.bool true := r'
      refine ⟨rfl, OldK.of_keep fun b o e => ?_, os, bare⟩
      rcases hO b with z | ⟨ob, xs, z⟩
      · exact un.keep b o e z (fun m => nomatch m) (fun m => nomatch m)
      · have e1 := (hok b _ z).1
        have e2 := (hok' b _ (un.frzs b ob _ z)).1
        exact (Option.some.inj (e.symm.trans e1)) ▸ e2
theorem end_call {P : Program} {w : World} {K : PySem.W.Frag} {mg mb : Str → Option Value} {k : Nat} {fa a : Addr} {fd : FuncData} {x : Str} {sp : Sp} {s₁ : Shared} {vs : List Value} {ns : List Int}
    (KX : K.In s₁.heap) (hns : s₁.heap.Ns mainGlobals mg) (hb : s₁.heap.Ns builtinsNs mb) (hbb : ∀ y : Str, y ≠ "__name__" → mb y = bootBuiltins y)
    (lim : s₁.heap.NoLimit) (hg : s₁.gens = #[]) (ha : s₁.heap.get? a = some { cls := .type "list", data := .seq vs.toArray }) (hi : IntsAre vs ns) (hl : ns.length ≤ sizeLine) (hr : Room k callerA)
    (F : ∀ base : Heap, K.In base → base.Ns mainGlobals mg → FnG P w K mg base CX0 k fa fd [x] sp) (bind : ∀ (s : Shared) (u : Value), BindsTo s fd ⟨[u], []⟩ [(x, u)])
    (hsp : ∀ H : Hp, Only H → SqL K H a (ns.map V.int) → sp [.ref a] H (fun v _ => v = .bl true) fun _ _ _ => False) :
    codeAny (model P w) callerA (.call (.ref fa) ⟨[.ref a], []⟩) (fun r s' => r = .ok (.ret (.bool true)) ∧ OldK s₁.heap s'.heap ∧ s'.os = s₁.os ∧ AllBare s'.gens) s₁ := by
  have rv := vals_ints hi
  cases hk : K.lookup a with
  | some o =>
    have eo := Option.some.inj ((KX a o hk).symm.trans ha)
    subst eo
    refine end_core (H := fun _ => none) KX hns hb hbb lim hg ha hr F bind (fun _ => .inl rfl) (fun _ _ z => nomatch z) (fun _ z => (z rfl).elim) (fun z => (z rfl).elim) (hsp _ (fun _ => .inl rfl) ?_)
    exact .inr ⟨_, vs.toArray, _, hk, rfl, rfl, rfl, by rw [List.size_toArray, hi.length]; exact hl, by simpa using rv⟩
  | none =>
    have at_ : ∀ b, (if b = a then some (HO.frz { cls := .type "list", data := .seq vs.toArray } (.lst (ns.map V.int))) else none) ≠ none → b = a := by
      intro b n
      refine Classical.byContradiction fun z => n (if_neg z)
    have on : Only (fun b => if b = a then some (HO.frz { cls := .type "list", data := .seq vs.toArray } (.lst (ns.map V.int))) else none) := by
      intro b
      by_cases eb : b = a
      · exact .inr ⟨_, _, if_pos eb⟩
      · exact .inl (if_neg eb)
    refine end_core KX hns hb hbb lim hg ha hr F bind on (fun b u z => ?_) at_ (fun _ => hk) (hsp _ on (.inl (.inr ⟨_, if_pos rfl⟩)))
    have eb := at_ b (fun n => nomatch z.symm.trans n)
    subst eb
    have eu := Option.some.inj ((if_pos rfl).symm.trans z)
    subst eu
    exact ⟨ha, by rw [List.length_map]; exact hl, vs, _, rv, ha⟩
theorem walk_ofG {l : PySem.W.OpenLaw} {n k : Nat} {q : Program} {loose : List Str} {XP : (Str → Option Value) → Heap → Prop} {YP : World → Heap → Prop} {d : DefRec} {K : Params → PySem.W.Frag} {sp : World → Sp} {x : Str}
    (hn : l.most = some n) (hn2 : n ≤ sizeLine) (hdf : d.params.defaults = []) (hr : Room k callerA)
    (hY : ∀ (w : World) (h : Heap), YP w h → (K w.params).In h)
    (F : ∀ (w : World) (mg : Str → Option Value) (fa : Addr) (h : Heap), (K w.params).In h → h.Ns mainGlobals mg → mg d.name = some (.ref fa) →
      ∃ fd : FuncData, (∀ (s : Shared) (u : Value), BindsTo s fd ⟨[u], []⟩ [(x, u)]) ∧
        ∀ base : Heap, (K w.params).In base → base.Ns mainGlobals mg → FnG l.prog w (K w.params) mg base CX0 k fa fd [x] (sp w))
    (hsp : ∀ (w : World) (H : Hp) (a : Addr) (ns : List Int), ns.length ≤ n → (∀ z ∈ ns, Builtin.Int.intBits z ≤ 1048576) → Only H → SqL (K w.params) H a (ns.map V.int) →
      sp w [.ref a] H (fun v _ => v = .bl true) fun _ _ _ => False) :
    PySem.W.WalkO q loose XP YP l.row.toRowW d [] (fun f vs => PySem.call f vs) := by
  refine Att.attach_callB hn hdf fun w s₀ s₁ mg mb fa o pm cd doc a vs ns G Y ho hd hcd hmg hobj hints hlen hbits hg => ?_
  obtain ⟨fd, b, f⟩ := F w mg fa _ (hY w _ Y) G.T.g hmg
  exact end_call (hY w _ Y) G.T.g G.T.b G.T.builtins G.T.nolimit hg hobj hints (Nat.le_trans hlen hn2) hr f b fun H hO hS => hsp w H a ns hlen hbits hO hS
end L2
set_option maxRecDepth 100000
namespace L2
open PySem PySem.Spec PyProof.Rows
/-- an own exception class with an own __init__ -/
structure XvI (K : PySem.W.Frag) (C fI : Addr) : Prop where
  cls : XvC K C
  ini : PySem.W.findIn K (.ref C) "__init__" = some (some (.ref fI))
  ty : PySem.W.typeIn K (.ref fI) = some (.type "function")
theorem Vals.rev : ∀ {xs : List V} {us : List Value}, Vals xs us → Vals xs.reverse us.reverse
  | _, _, .nil => .nil
  | _, _, .cons r t => by
    rw [List.reverse_cons, List.reverse_cons]
    exact Vals.append (Vals.rev t) (.cons r .nil)
theorem Fun.kbn {K : PySem.W.Frag} {x qual : Str} {st : Stmt} {f : Addr} {fd : FuncData} {ps : List Str} (F : Fun K x qual st f fd) (n : Nat) (ks : List Str) (g : List Value → List Value → List Value) (gV : List V → List V → List V)
    (h : ∀ (kV doc pm : Value) (an : Option Addr) (cdv ct : Value) (us ws : List Value), us.length = n → ws.length = ks.length →
      bindArgs (PySem.W.fnOf x qual (defArgs st) (defBody st) (defScope st) .none kV doc pm an cdv ct) ⟨us, ks.zip ws⟩ = pure (ps.zip (g us ws)))
    (rel : ∀ {vs : List V} {us : List Value} {zs : List V} {ws : List Value}, Vals vs us → Vals zs ws → Vals (gV vs zs) (g us ws)) : KBn K fd ps n ks g gV := by
  obtain ⟨oc, od, kV, doc, pm, an, cdv, ct, osl, rfl, lk, hcd⟩ := F.ex
  exact ⟨fun s us ws _ l1 l2 => BindsTo.of_eq (h kV doc pm an cdv ct us ws l1 l2), rel⟩
section
variable {X : Cx} {k n : Nat} {fI C : Addr} {fd : FuncData} {ps ks : List Str} {sp : Sp} {x : Str} {p pos : Pos} {e : Expr} {es : List Expr} {kws : List Keyword} {t tk : TA} {g : List Value → List Value → List Value} {gV : List V → List V → List V}
theorem run_mkx {pins : List (Addr × Obj)} {σ : St} {H : Hp} {s : Shared} {Q : VK} {us ws : List Value} {vs zs : List V} (T : XvI X.K C fI) (F : FnOk X.prog X.w X.K X.mg X.base CX0 k fI fd ps sp) (hr : Room (k + 1) X.A)
    (hb : KBn X.K fd ps (n + 1) ks g gV) (hn : n ≤ 1000) (I : Inv X pins σ H s) (r : Vals vs us) (rz : Vals zs ws) (l1 : vs.length = n) (l2 : zs.length = ks.length)
    (h : ∀ a, H a = none → sp (gV (.ref a :: vs) zs) (upd H a (exo a C none)) (fun v H2 => v = .non ∧ Q (.ref a) H2) E0) :
    wpAny (model X.prog X.w) X.A (call (.ref C) us (ks.zip ws)) (EP X pins σ Q) X.xe s := by
  obtain ⟨nm, q, N, bs, bm, sn, sub, ab, col, dd, k0, k1, k2, k3, k5, hC, hbm⟩ := T.cls.oex.cls
  obtain ⟨hp, gn, dr, tt, oss⟩ := s
  have sz : hp.objs.size ≤ hp.objs.size + 1 := Nat.le_succ _
  have keep : ∀ b o, hp.get? b = some o → ((hp.push (PySem.W.kdv_tup us)).push (PySem.HandSPX.excO C hp.objs.size)).get? b = some o :=
    fun _ _ e => Heap.get?_push_of_some _ (Heap.get?_push_of_some _ e)
  have at_ : ((hp.push (PySem.W.kdv_tup us)).push (PySem.HandSPX.excO C hp.objs.size)).get? (hp.objs.size + 1) = some (PySem.HandSPX.excO C hp.objs.size) := by
    heap_get
  have I2 := I.laid (t' := tt) (a := hp.objs.size + 1) (o := exo (hp.objs.size + 1) C none) keep sz (exo_ok at_)
  have hq := h (hp.objs.size + 1) (I.hok.fresh sz)
  have rs : Vals (V.ref (hp.objs.size + 1) :: vs) (Value.ref (hp.objs.size + 1) :: us) := .cons rfl r
  have ln : (Value.ref (hp.objs.size + 1) :: us).length = n + 1 := by rw [List.length_cons, ← r.length, l1]
  have hus : us.length ≤ sizeLine := by
    rw [← r.length, l1, sizeLine_eq]
    omega
  refine wpAny_call (PySem.XKw.mk_call PySem.F.excBase_ValueError (fun Y => PySem.HandSPX.refsVE_contains Y bm hbm) (I.kIn _ _ hC) (PySem.W.looks_findIn I.kIn T.ini)
    (fun y => PySem.W.bind_fn I.kIn y T.ty) hus ?_)
  refine codeAny_mono (F.run _ X.stack _ _ _ _ _ _ _ (hr.make C us (ks.zip ws)) (I2.env0.make C us (ks.zip ws)) (hb.to _ _ ws I2.kIn ln (rz.length.symm.trans l2)) (hb.rel rs rz) hq) fun r s' hq' => ?_
  cases r with
  | error er => exact (hq' : False).elim
  | ok fl =>
    cases fl with
    | ret u =>
      obtain ⟨v, H3, I3, rv, ev, q3⟩ := I2.after hq'
      subst ev
      exact ⟨rv, V.ref (hp.objs.size + 1), H3, I3, rfl, q3⟩
    | next => exact (hq' : False).elim
    | brk => exact (hq' : False).elim
    | cont => exact (hq' : False).elim
/-- C(e, ..) -/
def tMkX (C : Addr) (n : Nat) (sp : Sp) (gV : List V → List V → List V) (t : TA) : TE := fun σ H Q => t σ H fun vs H1 => vs.length = n ∧ ∀ a, H1 a = none → sp (gV (.ref a :: vs) []) (upd H1 a (exo a C none)) (fun v H2 => v = .non ∧ Q (.ref a) H2) E0
theorem pe_mkx (T : XvI X.K C fI) (F : FnOk X.prog X.w X.K X.mg X.base CX0 k fI fd ps sp) (hr : Room (k + 1) X.A) (hb : KBn X.K fd ps (n + 1) [] g gV) (hg : Gl X x) (hm : X.mg x = some (.ref C)) (ha : PA X (e :: es) t)
    (hn : n ≤ 1000 := by decide) (hdb : (x == ("__debug__" : Str)) = false := by decide)
    (he : starEach (e :: es) X.env = (false, eval e X.env) :: starEach es X.env := by rfl) (hpl : (backTo pos (starEach es X.env)).any (·.1) = false := by rfl) :
    PE X (.Call (.Name x p) (e :: es) [] pos) (tMkX C n sp gV t) := by
  refine ⟨fun pins s σ H Q I h => wpAny_Call_Name_kw (ld_glob I hg hm ?_ hdb)⟩
  refine PySem.W.callWith_K (h₀ := X.base) I.ok.mod.kin T.cls.oex.kC (thn (ha.run pos pins s σ H _ I h) fun us s1 hh => ?_) he hpl
  obtain ⟨vs, H1, I1, r, l1, q⟩ := hh
  exact ⟨I1.kIn, run_mkx (ws := []) (zs := []) T F hr hb hn I1 r .nil l1 rfl q⟩
/-- C(k = v, ..) -/
def tMkXK (C : Addr) (m : Nat) (sp : Sp) (gV : List V → List V → List V) (tk : TA) : TE := fun σ H Q => tk σ H fun zs H1 => zs.length = m ∧ ∀ a, H1 a = none → sp (gV [.ref a] zs) (upd H1 a (exo a C none)) (fun v H2 => v = .non ∧ Q (.ref a) H2) E0
theorem pe_mkxK (T : XvI X.K C fI) (F : FnOk X.prog X.w X.K X.mg X.base CX0 k fI fd ps sp) (hr : Room (k + 1) X.A) (hb : KBn X.K fd ps 1 ks g gV) (hg : Gl X x) (hm : X.mg x = some (.ref C)) (hkw : PK X kws tk)
    (hall : (backToKw pos (keywordEach kws X.env)).all (·.1.isSome) = true := by rfl) (hks : (backToKw pos (keywordEach kws X.env)).filterMap (·.1) = ks := by rfl) (hdb : (x == ("__debug__" : Str)) = false := by decide)
    (hpl : ((backTo pos (starEach [] X.env)).any (·.1) || (backToKw pos (keywordEach kws X.env)).any (·.1.isNone)) = false := by rfl) :
    PE X (.Call (.Name x p) [] kws pos) (tMkXK C ks.length sp gV tk) := by
  refine ⟨fun pins s σ H Q I h => wpAny_Call_Name_kw (ld_glob I hg hm ?_ hdb)⟩
  refine PySem.W.callWith_KW0 (h₀ := X.base) I.ok.mod.kin T.cls.oex.kC hall ?_ hpl
  refine thn (hkw.run pos pins s σ H _ I h) fun ws s2 hh => ?_
  obtain ⟨zs, H2, I2, rz, l2, q2⟩ := hh
  refine ⟨I2.kIn, ?_⟩
  rw [hks]
  exact run_mkx (n := 0) (us := []) (vs := []) T F hr hb (Nat.zero_le _) I2 .nil rz rfl l2 q2
/-- C(), no __init__ of its own -/
theorem pe_mkx0 {bmB : List Value} {B newId initId : String} (FF : ExcBaseFacts B newId initId bmB) (q : PySem.W.excIn X.K C bmB newId = true) (kC : PySem.W.keepIn X.K (.ref C) = true) (hg : Gl X x) (hm : X.mg x = some (.ref C))
    (hdb : (x == ("__debug__" : Str)) = false := by decide) : PE X (.Call (.Name x p) [] [] pos) (fun _ H Q => ∀ a, H a = none → Q (.ref a) (upd H a (exo a C none))) := by
  refine ⟨fun pins s σ H Q I h => wpAny_Call_Name_kw (ld_glob I hg hm ?_ hdb)⟩
  refine PySem.W.callWith_K0 I.kIn kC ?_
  obtain ⟨bm, N, nm, qn, bs, hdct, sn, sub, ab, col, dd, k0, k1, k2, k3, k5, mN, hC, hN, hni, T⟩ := exc_obj I.kIn q
  refine wpAny_call_exc_subT FF T hC hN hni (fun h' a hm => ?_) (Nat.zero_le _)
  have hn : H a = none := I.hok.gone hm.new
  obtain ⟨t, ht, _⟩ := hm.there
  exact ⟨V.ref a, upd H a (exo a C none), I.laidN hm.keeps hm.new hn (exo_ok ht), rfl, h a hn⟩
end
end L2
set_option maxRecDepth 100000
namespace Toy
open PySem L2
def top (i : Nat) : Stmt := PySem.Challenge.pw_lanebanks_k87_texts_that_are_no_papers_o.main.body.getD i (.Pass ⟨0, 0, 0, 0⟩)
abbrev s__law_pen : Stmt := top 41
abbrev s__law_draw : Stmt := top 42
abbrev s__law_pick : Stmt := top 43
/-- the built-ins' names stand for themselves -/
structure TB (mg : Str → Option Value) : Prop where
  m_int : mg "int" = none
  m_abs : mg "abs" = none
  m_len : mg "len" = none
  m_list : mg "list" = none
/-- the pen at p: the cells ns at l, how many were drawn, what is left of a great one -/
structure PenAt (H : Hp) (p l : Addr) (ns : List Int) (at_ left : Int) : Prop where
  pen : H p = some (.lst [.ref l, .int at_, .int left])
  cells : H l = some (.lst (ns.map V.int))
  few : ns.length ≤ 63
  bits : ∀ z ∈ ns, Builtin.Int.intBits z ≤ 1048576
  low : 0 ≤ at_
theorem PenAt.ne {H : Hp} {p l : Addr} {ns : List Int} {a b : Int} (P : PenAt H p l ns a b) : l ≠ p := fun e => by
  have h1 := P.cells
  rw [e, P.pen] at h1
  cases ns with
  | nil => cases h1
  | cons z r => cases r with
    | nil => cases h1
    | cons y r => cases h1
theorem PenAt.put {H : Hp} {p l : Addr} {ns : List Int} {a b : Int} (P : PenAt H p l ns a b) (c d : Int) (h : 0 ≤ c) : PenAt (upd H p (.lst [.ref l, .int c, .int d])) p l ns c d :=
  ⟨upd_same, by rw [upd_ne P.ne]; exact P.cells, P.few, P.bits, h⟩
/-- all that was tracked but p is as it was -/
def But (p : Addr) (H H' : Hp) : Prop := ∀ b o, b ≠ p → H b = some o → H' b = some o
theorem But.refl (p : Addr) (H : Hp) : But p H H := fun _ _ _ h => h
theorem But.of {p : Addr} {H H' : Hp} (h : Same H H') : But p H H' := fun b o _ e => h b o e
theorem But.trans {p : Addr} {H H1 H2 : Hp} (a : But p H H1) (b : But p H1 H2) : But p H H2 := fun c o n h => b c o n (a c o n h)
theorem But.put {p : Addr} {H H1 : Hp} {o : HO} (a : But p H H1) : But p H (upd H1 p o) := fun c u n h => by
  rw [upd_ne n]
  exact a c u n h
theorem But.new {p q : Addr} {H H1 : Hp} {o : HO} (a : But p H H1) (hq : H1 q = none) : But p H (upd H1 q o) := fun c u n h => by
  rw [upd_ne (ne_of_none (a c u n h) hq)]
  exact a c u n h
theorem But.free {p q : Addr} {H H1 : Hp} (a : But p H H1) (hq : H1 q = none) (n : q ≠ p) : H q = none := by
  cases e : H q with
  | none => rfl
  | some o =>
    rw [a q o n e] at hq
    cases hq
theorem PenAt.new {H : Hp} {p l q : Addr} {ns : List Int} {a b : Int} {o : HO} (P : PenAt H p l ns a b) (hq : H q = none) : PenAt (upd H q o) p l ns a b :=
  ⟨by rw [upd_ne (ne_of_none P.pen hq)]; exact P.pen, by rw [upd_ne (ne_of_none P.cells hq)]; exact P.cells, P.few, P.bits, P.low⟩
theorem atI_of {α : Type} {xs : List α} {i : Int} {v : α} (h0 : 0 ≤ i) (h : xs[i.toNat]? = some v) : atI xs i = some v := by
  have e : i = ((i.toNat : Nat) : Int) := (Int.toNat_of_nonneg h0).symm
  rw [e]
  exact atI_nat h
theorem dp_ints {K : PySem.W.Frag} {H : Hp} : ∀ ns : List Int, DpAll K H (ns.map V.int) (ns.map PyData.int)
  | [] => .nil
  | z :: r => .cons (.int z) (dp_ints r)
theorem shaped_ints (ns : List Int) : SeqAt.shaped (.list (ns.map PyData.int)) = true := by
  have h : ∀ ns : List Int, PyData.canLayAll0 (ns.map PyData.int) = true ∧ PyData.depthAll (ns.map PyData.int) = 0 := by
    intro ns
    induction ns with
    | nil => exact ⟨rfl, rfl⟩
    | cons z r ih => exact ⟨by simp [PyData.canLayAll0, PyData.canLay0, ih.1], by simp [PyData.depthAll, PyData.depth, ih.2]⟩
  simp [SeqAt.shaped, PyData.canLay0, PyData.depth, h ns]
/-- _law_pen(script) -/
def spPen (K : PySem.W.Frag) : Sp := fun vs H Q _ => ∃ (a : Addr) (ns : List Int), vs = [.ref a] ∧ SqL K H a (ns.map V.int) ∧ ns.length ≤ 63 ∧ (∀ z ∈ ns, Builtin.Int.intBits z ≤ 1048576) ∧
  ∀ (H' : Hp) (p l : Addr), Same H H' → H p = none → PenAt H' p l ns 0 0 → Q (.ref p) H'
/-- _law_draw(pen, many): some digit below many; the pen goes on -/
def spDraw : Sp := fun vs H Q _ => ∃ (p l : Addr) (ns : List Int) (a b many : Int), vs = [.ref p, .int many] ∧ PenAt H p l ns a b ∧ a ≤ 1000000 ∧ 0 < many ∧ many.natAbs.log2 < 9000 ∧
  ∀ (H' : Hp) (d a' b' : Int), 0 ≤ d → d < many → a ≤ a' → a' ≤ a + 1 → But p H H' → PenAt H' p l ns a' b' → Q (.int d) H'
/-- _law_pick(pen, some): one of a list's items -/
def spPick (K : PySem.W.Frag) : Sp := fun vs H Q _ => ∃ (p l q : Addr) (ns : List Int) (a b : Int) (xs : List V), vs = [.ref p, .ref q] ∧ PenAt H p l ns a b ∧ a ≤ 1000000 ∧ SqL K H q xs ∧ q ≠ p ∧ 0 < xs.length ∧ xs.length ≤ 1000 ∧
  ∀ (H' : Hp) (i : Nat) (v : V) (a' b' : Int), xs[i]? = some v → a ≤ a' → a' ≤ a + 1 → But p H H' → PenAt H' p l ns a' b' → Q v H'
theorem sq_lt {a : Int} (h0 : 0 ≤ a) (h : a ≤ 1000000) : 0 ≤ a * a ∧ a * a ≤ 1000000000000 := by
  refine ⟨Int.mul_nonneg h0 h0, ?_⟩
  have := Int.mul_le_mul h h h0 (by decide)
  omega
theorem mul_lt_of {x y m n : Int} (h0 : 0 ≤ x) (h1 : x ≤ m) (h2 : 0 ≤ y) (h3 : y ≤ n) : 0 ≤ x * y ∧ x * y ≤ m * n :=
  ⟨Int.mul_nonneg h0 h2, Int.mul_le_mul h1 h3 h2 (Int.le_trans h0 h1)⟩
theorem mix_ok {x a c d : Int} (h0 : 0 ≤ x) (h1 : x < 2147483489) (a0 : 0 ≤ a) (a1 : a ≤ 1000000) (c0 : 0 ≤ c) (c1 : c ≤ 1000000) (d0 : 0 ≤ d) (d1 : d ≤ 1000000) :
    0 ≤ x * (2 * a + c) + d * a * a + 209 ∧ x * (2 * a + c) + d * a * a + 209 < 18446744073709551616 := by
  have h2 := mul_lt_of (m := 2147483489) (n := 3000000) h0 (by omega) (show 0 ≤ 2 * a + c by omega) (by omega)
  have h3 := mul_lt_of (m := 1000000) (n := 1000000000000) d0 d1 (sq_lt a0 a1).1 (sq_lt a0 a1).2
  rw [Int.mul_assoc d a a]
  omega
theorem natAbs_lt_of {x : Int} (h0 : 0 ≤ x) (h : x < 18446744073709551616) : x.natAbs < 2 ^ 64 := by
  have e : (2 : Nat) ^ 64 = 18446744073709551616 := by decide
  rw [e]
  omega
section
variable {P : Program} {w : World} {K : PySem.W.Frag} {mg : Str → Option Value} {base : Heap}
abbrev N__law_pen : List Str := ["_law_script"]
theorem sc__law_pen : FnScope N__law_pen ["_law_script"] (defScope s__law_pen) := ⟨rfl, rfl, rfl, by decide +kernel, rfl, by decide +kernel, by decide +kernel⟩
theorem ok__law_pen {f : Addr} {fd : FuncData} (F : Fun K "_law_pen" "_law_pen" s__law_pen f fd) (T : TB mg) : FnOk P w K mg base CX0 1 f fd ["_law_script"] (spPen K) := by
  refine F.ok sc__law_pen (fun vs H Q E h => ?_) (fun cdv A outer s H vs Q E hr h => ?_)
  · obtain ⟨a, ns, rfl, _⟩ := h
    rfl
  · obtain ⟨a, ns, rfl, hS, hl, hb, k⟩ := h
    refine ⟨_, (pss_one (ps_ret (pe_lst (pa_cons (pe_callTy call_list_of (by rfl) T.m_list (by decide +kernel) (pa_cons (pe_slice sl_list (pv 0) po_none (po_some pe_int)) pa_nil)) (pa_cons pe_int (pa_cons pe_int pa_nil)))))), ?_⟩
    refine ⟨_, rfl, _, rfl, _, _, rfl, hS, fun q hq => ?_⟩
    have e : cutV (ns.map V.int) none (some 63) = ns.map V.int := by
      show ((ns.map V.int).drop 0).take (HT.sIx _ _ _ - 0) = _
      have h2 : (ns.map V.int).length ≤ HT.sIx (ns.map V.int).length (ns.map V.int).length (some 63) - 0 := by
        rw [List.length_map]
        simp [HT.sIx]
        omega
      rw [List.drop_zero, List.take_of_length_le h2]
    refine ⟨q, _, rfl, .inl (SqL.of upd_same), fun l hl2 => ?_⟩
    have nlq : l ≠ q := fun e => by
      rw [e, upd_same] at hl2
      cases hl2
    refine ⟨(by show 3 ≤ sizeLine; decide), fun p hp => ?_⟩
    have npl : p ≠ l := fun e => by
      rw [e, upd_same] at hp
      cases hp
    rw [upd_ne npl] at hp
    have npq : p ≠ q := fun e => by
      rw [e, upd_same] at hp
      cases hp
    rw [upd_ne npq] at hp
    refine k _ p l (fun b o e2 => ?_) hp ⟨upd_same, ?_, hl, hb, Int.le_refl 0⟩
    · rw [upd_ne (ne_of_none e2 hp)]
      have hl3 := hl2
      rw [upd_ne nlq] at hl3
      rw [upd_ne (ne_of_none e2 hl3), upd_ne (ne_of_none e2 hq)]
      exact e2
    · rw [upd_ne npl.symm, upd_same, e]
abbrev N__law_draw : List Str := ["_law_pen_here", "_law_many", "_law_digit", "_law_step", "_law_cell", "_law_great", "_law_mixed"]
theorem sc__law_draw : FnScope N__law_draw ["_law_pen_here", "_law_many"] (defScope s__law_draw) := ⟨rfl, rfl, rfl, by decide +kernel, rfl, by decide +kernel, by decide +kernel⟩
set_option maxHeartbeats 4000000 in
theorem ok__law_draw {f : Addr} {fd : FuncData} (F : Fun K "_law_draw" "_law_draw" s__law_draw f fd) (T : TB mg) : FnOk P w K mg base CX0 1 f fd ["_law_pen_here", "_law_many"] spDraw := by
  refine F.ok sc__law_draw (fun vs H Q E h => ?_) (fun cdv A outer s H vs Q E hr h => ?_)
  · obtain ⟨p, l, ns, a, b, m, rfl, _⟩ := h
    rfl
  · obtain ⟨p, l, ns, a, b, m, rfl, hP, ha, hm, hml, k⟩ := h
    have hp := hP.pen
    have hc := hP.cells
    have h0 := hP.low
    refine ⟨_, (pss_cons (ps_if (pt_cmpR op_gt (pe_ix ix_list (pv 0) pe_int (fun _ _ => rfl)) pe_int (nomark _)) (pss_cons (ps_set (i := 2) sc__law_draw.nd rfl (Or.inl rfl) (pe_op op_mod (pe_callTy call_int1 (by rfl) T.m_int (by decide +kernel) (pa_cons (pe_ix ix_list (pv 0) pe_int (fun _ _ => rfl)) pa_nil)) (pv 1)))
 (pss_cons (ps_asg (pe_op op_fdivW (pe_callTy call_int1 (by rfl) T.m_int (by decide +kernel) (pa_cons (pe_ix ix_list (pv 0) pe_int (fun _ _ => rfl)) pa_nil)) (pv 1)) (pg_sub (pv 0) pe_int set_list))
 (pss_one (ps_ret (pv 2))))) pss_nil)
 (pss_cons (ps_set (i := 3) sc__law_draw.nd rfl (Or.inl rfl) (pe_ix ix_list (pv 0) pe_int (fun _ _ => rfl)))
 (pss_cons (ps_asg (pe_op op_add (pv 3) pe_int) (pg_sub (pv 0) pe_int set_list))
 (pss_cons (ps_set (i := 4) sc__law_draw.nd rfl (Or.inl rfl) (pe_op op_add (pe_op op_mul pe_int (pv 3)) pe_int))
 (C8.pss_cut (ps_if (pt_cmpR (op_neD hr.units) (pe_ix ix_list (pv 0) pe_int (fun _ _ => rfl)) (pe_lst pa_nil) (nomark _)) (pss_one (ps_set (i := 4) sc__law_draw.nd rfl (Or.inl rfl) (pe_ix ix_list (pe_ix ix_list (pv 0) pe_int (fun _ _ => rfl)) (pe_op op_mod (pe_callTy call_int1 (by rfl) T.m_int (by decide +kernel) (pa_cons (pv 3) pa_nil)) (pe_callB call_len_seq (by rfl) T.m_len (by decide +kernel) (pa_cons (pe_ix ix_list (pv 0) pe_int (fun _ _ => rfl)) pa_nil))) (fun _ _ => rfl)))) pss_nil)
 (C8.pss_cut (ps_if (PW.pt (pw_and (pt_cmpR op_lt (pv 3) (pe_callB call_len_seq (by rfl) T.m_len (by decide +kernel) (pa_cons (pe_ix ix_list (pv 0) pe_int (fun _ _ => rfl)) pa_nil)) (nomark _)) (pw_and1 (pt_cmpR op_ge (pe_callB call_abs (by rfl) T.m_abs (by decide +kernel) (pa_cons (pv 4) pa_nil)) (pe_op op_pow pe_int pe_int) (nomark _))))) (pss_cons (ps_set (i := 5) sc__law_draw.nd rfl (Or.inl rfl) (pe_op op_add (pe_op op_mul pe_int (pe_op op_sub (pe_callB call_abs (by rfl) T.m_abs (by decide +kernel) (pa_cons (pv 4) pa_nil)) (pe_op op_pow pe_int pe_int))) (pe_callTy call_int1 (by rfl) T.m_int (by decide +kernel) (pa_cons (pe_cmpR op_lt (pv 4) pe_int (nomark _)) pa_nil))))
 (pss_cons (ps_asg (pe_op op_fdivW (pe_callTy call_int1 (by rfl) T.m_int (by decide +kernel) (pa_cons (pv 5) pa_nil)) (pv 1)) (pg_sub (pv 0) pe_int set_list))
 (pss_one (ps_ret (pe_op op_mod (pe_callTy call_int1 (by rfl) T.m_int (by decide +kernel) (pa_cons (pv 5) pa_nil)) (pv 1)))))) pss_nil)
 (pss_cons (ps_set (i := 6) sc__law_draw.nd rfl (Or.inl rfl) (pe_op op_mod (pe_callTy call_int1 (by rfl) T.m_int (by decide +kernel) (pa_cons (pe_op op_pow (pe_op op_add (pe_op op_add (pe_op op_mod (pe_callTy call_int1 (by rfl) T.m_int (by decide +kernel) (pa_cons (pv 4) pa_nil)) pe_int) (pe_op op_mul pe_int (pv 3))) pe_int) pe_int) pa_nil)) pe_int))
 (pss_cons (ps_set (i := 6) sc__law_draw.nd rfl (Or.inl rfl) (pe_op op_mod (pe_callTy call_int1 (by rfl) T.m_int (by decide +kernel) (pa_cons (pe_op op_pow (pe_op op_add (pe_op op_add (pe_op op_mul (pv 6) (pe_op op_add (pe_op op_mul pe_int (pv 3)) pe_int)) (pe_op op_mul (pe_op op_mul pe_int (pv 3)) (pv 3))) pe_int) pe_int) pa_nil)) pe_int))
 (pss_one (ps_ret (pe_op op_mod (pe_callTy call_int1 (by rfl) T.m_int (by decide +kernel) (pa_cons (pe_op op_fdivW (pv 6) pe_int) pa_nil)) (pv 1)))))))))))), ?_⟩
    refine ⟨_, rfl, p, _, _, _, rfl, rfl, SqL.of hp, rfl, _, _, rfl, rfl, _, rfl, ?_⟩
    refine ite2 (fun c1 => ?_) (fun c1 => ?_)
    · -- a digit of what is left
      refine ⟨_, rfl, p, _, _, _, rfl, rfl, SqL.of hp, rfl, .inl ⟨_, rfl, _, rfl, _, _, rfl, rfl, hm, ?_⟩⟩
      refine ⟨_, rfl, p, _, _, _, rfl, rfl, SqL.of hp, rfl, .inl ⟨_, rfl, _, rfl, _, _, rfl, rfl, ⟨hm, hml⟩, ?_⟩⟩
      refine ⟨_, rfl, p, _, _, _, rfl, rfl, hp, rfl, ?_⟩
      refine ⟨_, rfl, ?_⟩
      exact k _ _ _ _ (Int.emod_nonneg _ (Int.ne_of_gt hm)) (Int.emod_lt_of_pos _ hm) (Int.le_refl _) (by omega) (But.refl _ _).put (hP.put _ _ h0)
    · refine ⟨_, rfl, p, _, _, _, rfl, rfl, SqL.of hp, rfl, ?_⟩
      refine ⟨_, rfl, _, _, rfl, rfl, _, rfl, p, _, _, _, rfl, rfl, hp, rfl, ?_⟩
      have hP1 : PenAt (upd H p (.lst [.ref l, .int (a + 1), .int b])) p l ns (a + 1) b := hP.put _ _ (by omega)
      have hB1 : But p H (upd H p (.lst [.ref l, .int (a + 1), .int b])) := (But.refl _ _).put
      refine ⟨_, rfl, _, _, rfl, rfl, .inl ⟨by omega, by omega⟩, _, _, rfl, rfl, ?_⟩
      refine ⟨fun σ H' => ∃ cell : Int, σ = [some (.ref p), some (.int m), none, some (.int a), some (.int cell), none, none] ∧ PenAt H' p l ns (a + 1) b ∧ But p H H', ?_, ?_⟩
      · refine ⟨_, rfl, p, _, _, _, rfl, rfl, SqL.of hP1.pen, rfl, Nat.zero_le _, fun q hq => ?_⟩
        have hP2 := hP1.new (o := .lst []) hq
        have hB2 := hB1.new (o := .lst []) hq
        refine ⟨.list (ns.map .int), .list [], .lst (SqL.of hP2.cells) (dp_ints ns), .lst (SqL.of upd_same) .nil, shaped_ints ns, rfl, _, rfl, ?_⟩
        refine ite2 (fun c2 => ?_) (fun c2 => ?_)
        · have hne : ns ≠ [] := by
            rintro rfl
            exact absurd c2 (by decide +kernel)
          have hpos : 0 < ns.length := List.length_pos_iff.mpr hne
          have hm1 := Int.emod_nonneg a (b := (ns.length : Int)) (by omega)
          have hm2 := Int.emod_lt_of_pos a (b := (ns.length : Int)) (by omega)
          have hi : (a % (ns.length : Int)).toNat < ns.length := by omega
          have hat : atI (ns.map V.int) (a % (ns.length : Int)) = some (.int ns[(a % (ns.length : Int)).toNat]) := atI_of hm1 (by
            rw [List.getElem?_map, List.getElem?_eq_getElem hi]
            rfl)
          refine ⟨_, rfl, p, _, _, _, rfl, rfl, SqL.of hP2.pen, rfl, ?_⟩
          refine ⟨_, rfl, .inl ⟨_, rfl, _, rfl, p, _, _, _, rfl, rfl, SqL.of hP2.pen, rfl, l, _, rfl, .inl (SqL.of hP2.cells), _, _, rfl, rfl, by rw [List.length_map]; omega, ?_⟩⟩
          refine ⟨l, _, _, _, rfl, rfl, SqL.of hP2.cells, by rw [List.length_map]; exact hat, ?_⟩
          exact ⟨_, rfl, hP2, hB2⟩
        · exact ⟨_, rfl, hP2, hB2⟩
      · rintro σ H' ⟨cell, rfl, hQ, hB⟩
        have hpw : CPow 10 18 := ⟨by decide, by decide, by decide⟩
        refine ⟨fun σ H3 => σ = [some (.ref p), some (.int m), none, some (.int a), some (.int cell), none, none] ∧ PenAt H3 p l ns (a + 1) b ∧ But p H H3, ?_, ?_⟩
        rotate_left
        · rintro σ H3 ⟨rfl, hR, hC⟩
          have b1 := Int.emod_nonneg cell (b := 2147483587) (by decide)
          have b2 := Int.emod_lt_of_pos cell (b := 2147483587) (by decide)
          refine ⟨_, rfl, .inl ⟨_, rfl, _, _, rfl, rfl, (by show (0 : Int) < 2147483587; decide), _, rfl, _, _, rfl, rfl, .inl ⟨by decide, by decide⟩, _, _, rfl, rfl, _, _, rfl, rfl, _, _, rfl, rfl, ⟨by decide, by decide, natAbs_lt_of (by omega) (by omega)⟩, ?_⟩⟩
          refine .inl ⟨_, rfl, _, _, rfl, rfl, (by show (0 : Int) < 2147483489; decide), ?_⟩
          have x1 := Int.emod_nonneg ((cell % 2147483587 + 78621 * a + 893) ^ 5) (b := 2147483489) (by decide)
          have x2 := Int.emod_lt_of_pos ((cell % 2147483587 + 78621 * a + 893) ^ 5) (b := 2147483489) (by decide)
          have mx := mix_ok (c := 189) (d := 40475) x1 x2 h0 ha (by decide) (by decide) (by decide) (by decide)
          refine ⟨_, rfl, _, rfl, _, _, rfl, rfl, .inl ⟨by decide, by decide⟩, _, _, rfl, rfl, _, _, rfl, rfl, .inl ⟨Int.lt_of_lt_of_le (by decide) x1, Int.lt_trans x2 (by decide)⟩, ?_⟩
          refine ⟨_, rfl, _, _, rfl, rfl, .inl ⟨by decide, by decide⟩, _, rfl, _, _, rfl, rfl, .inl ⟨by omega, by omega⟩, _, _, rfl, rfl, _, _, rfl, rfl, _, _, rfl, rfl, ⟨by decide, by decide, natAbs_lt_of mx.1 mx.2⟩, ?_⟩
          refine .inl ⟨_, rfl, _, _, rfl, rfl, (by show (0 : Int) < 2147483563; decide), ?_⟩
          refine ⟨_, rfl, _, _, rfl, rfl, ⟨by decide, by decide⟩, .inl ⟨_, rfl, _, rfl, _, _, rfl, rfl, hm, ?_⟩⟩
          exact k _ _ _ _ (Int.emod_nonneg _ (Int.ne_of_gt hm)) (Int.emod_lt_of_pos _ hm) (by omega) (Int.le_refl _) hC hR
        refine ⟨_, rfl, _, rfl, p, _, _, _, rfl, rfl, SqL.of hQ.pen, rfl, l, _, rfl, .inl (SqL.of hQ.cells), _, _, rfl, rfl, _, rfl, ?_⟩
        refine ite2 (fun c2 => ?_) (fun c2 => ?_)
        · refine ⟨_, rfl, _, rfl, _, _, rfl, rfl, hpw, _, _, rfl, rfl, _, rfl, ?_⟩
          refine ite2 (fun c3 => ?_) (fun c3 => ?_)
          · refine ⟨_, rfl, _, rfl, _, _, rfl, rfl, hpw, _, _, rfl, rfl, _, _, rfl, rfl, .inl ⟨by decide, by decide⟩, _, rfl, _, _, rfl, rfl, .inr ⟨_, rfl, _, _, rfl, rfl, ?_⟩⟩
            refine ⟨_, rfl, .inl ⟨_, rfl, _, rfl, _, _, rfl, rfl, ⟨hm, hml⟩, _, rfl, p, _, _, _, rfl, rfl, hQ.pen, rfl, ?_⟩⟩
            refine ⟨_, rfl, .inl ⟨_, rfl, _, rfl, _, _, rfl, rfl, hm, ?_⟩⟩
            exact k _ _ _ _ (Int.emod_nonneg _ (Int.ne_of_gt hm)) (Int.emod_lt_of_pos _ hm) (by omega) (Int.le_refl _) hB.put (hQ.put _ _ (by omega))
          · exact ⟨rfl, hQ, hB⟩
        · exact ⟨rfl, hQ, hB⟩
abbrev N__law_pick : List Str := ["_law_pen_here", "_law_some"]
theorem sc__law_pick : FnScope N__law_pick ["_law_pen_here", "_law_some"] (defScope s__law_pick) := ⟨rfl, rfl, rfl, by decide +kernel, rfl, by decide +kernel, by decide +kernel⟩
theorem ok__law_pick {f fD : Addr} {fd fdD : FuncData} (F : Fun K "_law_pick" "_law_pick" s__law_pick f fd) (T : TB mg) (FD : Fun K "_law_draw" "_law_draw" s__law_draw fD fdD) (gD : mg "_law_draw" = some (.ref fD)) (bD : Binds K fdD ["_law_pen_here", "_law_many"] []) :
    FnOk P w K mg base CX0 2 f fd ["_law_pen_here", "_law_some"] (spPick K) := by
  have GD : FnOk P w K mg base CX0 1 fD fdD ["_law_pen_here", "_law_many"] spDraw := ok__law_draw FD T
  have kD := FD.kp
  refine F.ok sc__law_pick (fun vs H Q E h => ?_) (fun cdv A outer s H vs Q E hr h => ?_)
  · obtain ⟨p, l, q, ns, a, b, xs, rfl, _⟩ := h
    rfl
  · obtain ⟨p, l, q, ns, a, b, xs, rfl, hP, ha, hq, nq, x0, x1, k⟩ := h
    refine ⟨_, (pss_one (ps_ret (pe_ix ix_list (pv 1) (pe_call GD hr rfl gD kD bD .nil pass0 (pa_cons (pv 0) (pa_cons (pe_callB call_len_seq (by rfl) T.m_len (by decide +kernel) (pa_cons (pv 1) pa_nil)) pa_nil))) (fun _ _ => rfl)))), ?_⟩
    refine ⟨_, rfl, _, rfl, _, rfl, q, _, rfl, .inl hq, p, l, ns, a, b, _, rfl, hP, ha, by omega, ?_, fun H' d a' b' d0 d1 e1 e2 hB hR => ?_⟩
    · have h2 : (xs.length : Int).natAbs < 2 ^ 10 := by
        have e : (2 : Nat) ^ 10 = 1024 := by decide
        rw [e]
        omega
      exact Nat.lt_of_lt_of_le (PySem.Flt.log2_lt_of (by decide) h2) (by decide)
    · have hi : d.toNat < xs.length := by omega
      refine ⟨q, xs, d, xs[d.toNat], rfl, rfl, ?_, atI_of d0 (List.getElem?_eq_getElem hi), k H' d.toNat _ a' b' (List.getElem?_eq_getElem hi) e1 e2 hB hR⟩
      rcases hq with (h | ⟨o, h⟩) | h
      · exact .inl (.inl (hB _ _ nq h))
      · exact .inl (.inr ⟨o, hB _ _ nq h⟩)
      · exact .inr h
end
end Toy
set_option maxRecDepth 100000
namespace L2
open PySem PySem.Spec PyProof.Rows
section
variable {X : Cx} {CX : CXT} {k n : Nat} {f : Addr} {fd : FuncData} {ps ks : List Str} {sp : Sp} {E : XK} {x : Str} {p pos : Pos} {kws : List Keyword} {tk : TA} {g : List Value → List Value → List Value} {gV : List V → List V → List V}
/-- f(k = v, ..) -/
def tCallK0 (m : Nat) (sp : Sp) (gV : List V → List V → List V) (E : XK) (tk : TA) : TE := fun σ H Q => tk σ H fun zs H1 => zs.length = m ∧ sp (gV [] zs) H1 Q E
theorem pe_callK0 (F : FnOk X.prog X.w X.K X.mg X.base CX k f fd ps sp) (hr : Room k X.A) (hg : Gl X x) (hm : X.mg x = some (.ref f)) (hk : PySem.W.keepIn X.K (.ref f) = true) (hb : KBn X.K fd ps 0 ks g gV) (hx : Passes CX X E) (hkw : PK X kws tk)
    (hall : (backToKw pos (keywordEach kws X.env)).all (·.1.isSome) = true := by rfl) (hks : (backToKw pos (keywordEach kws X.env)).filterMap (·.1) = ks := by rfl) (hdb : (x == ("__debug__" : Str)) = false := by decide)
    (hpl : ((backTo pos (starEach [] X.env)).any (·.1) || (backToKw pos (keywordEach kws X.env)).any (·.1.isNone)) = false := by rfl) :
    PE X (.Call (.Name x p) [] kws pos) (tCallK0 ks.length sp gV E tk) := by
  refine ⟨fun pins s σ H Q I h => wpAny_Call_Name_kw (ld_glob I hg hm ?_ hdb)⟩
  refine PySem.W.callWith_KW0 (h₀ := X.base) I.ok.mod.kin hk hall ?_ hpl
  refine thn (hkw.run pos pins s σ H _ I h) fun ws s2 hh => ?_
  obtain ⟨zs, H2, I2, rz, l2, q2⟩ := hh
  refine ⟨I2.kIn, ?_⟩
  rw [hks]
  exact run_fnN (n := 0) (us := []) (vs := []) F hr hb hx I2 .nil rz rfl l2 q2
end
/-- kinds of plain values -/
inductive Plain (K : PySem.W.Frag) (H : Hp) : V → String → Prop where
  | non : Plain K H .non "NoneType"
  | bl (b : Bool) : Plain K H (.bl b) "bool"
  | int (i : Int) : Plain K H (.int i) "int"
  | str (z : Str) : Plain K H (.str z) "str"
  | lst {a : Addr} {xs : List V} (e : H a = some (.lst xs)) : Plain K H (.ref a) "list"
  | tup {a : Addr} {xs : List V} (e : H a = some (.tup xs)) : Plain K H (.ref a) "tuple"
  | dK {a : Addr} {kvs : List (Key × V)} (e : H a = some (.dK kvs)) : Plain K H (.ref a) "dict"
theorem Plain.ty {K : PySem.W.Frag} {H : Hp} {x : V} {T : String} (h : Plain K H x T) : TyX K H x (.type T) := by
  cases h with
  | non => exact .base .non
  | bl b => exact .base (.bl b)
  | int i => exact .base (.int i)
  | str z => exact .base (.str z)
  | lst e => exact .base (.lst e)
  | tup e => exact .base (.tup e)
  | dK e => exact .base (.dK e)
def isI : V → Bool
  | .int _ => true
  | _ => false
def isB : V → Bool
  | .bl _ => true
  | _ => false
def isS : V → Bool
  | .str _ => true
  | _ => false
theorem Plain.kInt {K : PySem.W.Frag} {H : Hp} {x : V} {T : String} (h : Plain K H x T) : PySem.W.kitOne K (.type T) (.type "int") = some (isI x || isB x) := by
  cases h <;> first
    | exact kit_ty (show kitB _ _ = some true by decide +kernel)
    | exact kit_ty (show kitB _ _ = some false by decide +kernel)
theorem Plain.kBool {K : PySem.W.Frag} {H : Hp} {x : V} {T : String} (h : Plain K H x T) : PySem.W.kitOne K (.type T) (.type "bool") = some (isB x) := by
  cases h <;> first
    | exact kit_ty (show kitB _ _ = some true by decide +kernel)
    | exact kit_ty (show kitB _ _ = some false by decide +kernel)
theorem Plain.kStr {K : PySem.W.Frag} {H : Hp} {x : V} {T : String} (h : Plain K H x T) : PySem.W.kitOne K (.type T) (.type "str") = some (isS x) := by
  cases h <;> first
    | exact kit_ty (show kitB _ _ = some true by decide +kernel)
    | exact kit_ty (show kitB _ _ = some false by decide +kernel)
end L2
set_option maxRecDepth 100000
namespace L2
open PySem PySem.Spec PyProof.Rows
theorem PE.imp {X : Cx} {e : Expr} {t t' : TE} (h : PE X e t) (i : ∀ σ H Q, t' σ H Q → t σ H Q) : PE X e t' :=
  ⟨fun pins s σ H Q I q => h.run pins s σ H Q I (i σ H Q q)⟩
/-- an own exception's __init__ of n arguments that stores fields -/
def spX (C : Addr) (n : Nat) (fs : List V → List (Str × V)) : Sp := fun vs H Q _ => ∃ (a : Addr) (ys : List V), vs = .ref a :: ys ∧ ys.length = n ∧ H a = some (exo a C none) ∧
  ∀ (dx : Addr) (H' : Hp), H dx = none → dx ≠ a → H' a = some (exo a C (some dx)) → H' dx = some (exd dx (fs ys)) → (∀ b, b ≠ a → b ≠ dx → H' b = H b) → Q .non H'
/-- an exception of the class at C with these fields -/
def ErrAt (H : Hp) (a C : Addr) (fs : List (Str × V)) : Prop := ∃ d, H a = some (exo a C (some d)) ∧ H d = some (exd d fs)
theorem ErrAt.same {H H' : Hp} {a C : Addr} {fs : List (Str × V)} (s : Same H H') (h : ErrAt H a C fs) : ErrAt H' a C fs :=
  let ⟨d, h1, h2⟩ := h
  ⟨d, s _ _ h1, s _ _ h2⟩
theorem Same.new {H H' : Hp} {q : Addr} {o : HO} (s : Same H H') (hq : H' q = none) : Same H (upd H' q o) := fun b u e => by
  rw [upd_ne (ne_of_none (s b u e) hq)]
  exact s b u e
theorem spX_new {C : Addr} {n : Nat} {fs : List V → List (Str × V)} {H : Hp} {Q : VK} {a : Addr} {ys : List V} (ha : H a = none) (hn : ys.length = n)
    (h : ∀ H', Same H H' → ErrAt H' a C (fs ys) → Q (.ref a) H') : spX C n fs (.ref a :: ys) (upd H a (exo a C none)) (fun v H2 => v = .non ∧ Q (.ref a) H2) E0 := by
  refine ⟨a, ys, rfl, hn, upd_same, fun dx H' hd nd h1 h2 h3 => ⟨rfl, h H' (fun b o e => ?_) ⟨dx, h1, h2⟩⟩⟩
  have hd' : H dx = none := by
    rw [upd_ne nd] at hd
    exact hd
  rw [h3 b (ne_of_none e ha) (ne_of_none e hd'), upd_ne (ne_of_none e ha)]
  exact e
section
variable {X : Cx} {k n : Nat} {fI C : Addr} {fd : FuncData} {ps ks : List Str} {fs : List V → List (Str × V)} {x : Str} {p pos : Pos} {e : Expr} {es : List Expr} {kws : List Keyword} {t tk : TA} {g : List Value → List Value → List Value} {gV : List V → List V → List V}
/-- C(e, ..) where __init__ stores fields -/
def tNewX (C : Addr) (n : Nat) (fs : List V → List (Str × V)) (t : TA) : TE := fun σ H Q => t σ H fun vs H1 => vs.length = n ∧ ∀ a H', H1 a = none → Same H1 H' → ErrAt H' a C (fs vs) → Q (.ref a) H'
end
/-- the readings of argument lists go on with what follows -/
def Mono (t : TA) : Prop := ∀ σ H (Q Q' : List V → Hp → Prop), (∀ vs H', Q vs H' → Q' vs H') → t σ H Q → t σ H Q'
theorem mono_nil : Mono tNil := fun _ _ _ _ h q => h _ _ q
theorem mono_var {i : Nat} {t : TA} (h : Mono t) : Mono (tCons (tVar i) t) := fun σ H Q Q' i q => by
  obtain ⟨v, e, q⟩ := q
  exact ⟨v, e, h _ _ _ _ (fun vs H' z => i _ _ z) q⟩
section
variable {X : Cx} {k n : Nat} {fI C : Addr} {fd : FuncData} {ps ks : List Str} {fs : List V → List (Str × V)} {x : Str} {p pos : Pos} {e : Expr} {es : List Expr} {kws : List Keyword} {t tk : TA} {g : List Value → List Value → List Value} {gV : List V → List V → List V}
theorem pe_newX (T : XvI X.K C fI) (F : FnOk X.prog X.w X.K X.mg X.base CX0 k fI fd ps (spX C n fs)) (hr : Room (k + 1) X.A) (hb : KBn X.K fd ps (n + 1) [] g fun vs zs => vs ++ zs) (hg : Gl X x) (hm : X.mg x = some (.ref C)) (mo : Mono t) (ha : PA X (e :: es) t)
    (hn : n ≤ 1000 := by decide) (hdb : (x == ("__debug__" : Str)) = false := by decide)
    (he : starEach (e :: es) X.env = (false, eval e X.env) :: starEach es X.env := by rfl) (hpl : (backTo pos (starEach es X.env)).any (·.1) = false := by rfl) :
    PE X (.Call (.Name x p) (e :: es) [] pos) (tNewX C n fs t) := by
  refine (pe_mkx T F hr hb hg hm ha hn hdb he hpl).imp fun σ H Q q => mo _ _ _ _ (fun vs H1 z => ⟨z.1, fun a ha => ?_⟩) q
  show spX C n fs ((V.ref a :: vs) ++ []) _ _ _
  rw [List.append_nil]
  exact spX_new ha z.1 (z.2 a · ha)
/-- C(k = v, ..): the fields by all the values, in the parameters' order -/
def tNewXK (C : Addr) (m : Nat) (fs : List V → List (Str × V)) (tk : TA) : TE := fun σ H Q => tk σ H fun zs H1 => zs.length = m ∧ ∀ a H', H1 a = none → Same H1 H' → ErrAt H' a C (fs zs) → Q (.ref a) H'
theorem pe_newXK (T : XvI X.K C fI) (F : FnOk X.prog X.w X.K X.mg X.base CX0 k fI fd ps (spX C n fs)) (hr : Room (k + 1) X.A) (ord : List V → List V) (hb : KBn X.K fd ps 1 ks g fun vs zs => vs ++ ord zs) (ho : ∀ zs, (ord zs).length = zs.length) (hl : ks.length = n) (hg : Gl X x) (hm : X.mg x = some (.ref C)) (mo : Mono tk) (hkw : PK X kws tk)
    (hall : (backToKw pos (keywordEach kws X.env)).all (·.1.isSome) = true := by rfl) (hks : (backToKw pos (keywordEach kws X.env)).filterMap (·.1) = ks := by rfl) (hdb : (x == ("__debug__" : Str)) = false := by decide)
    (hpl : ((backTo pos (starEach [] X.env)).any (·.1) || (backToKw pos (keywordEach kws X.env)).any (·.1.isNone)) = false := by rfl) :
    PE X (.Call (.Name x p) [] kws pos) (tNewXK C ks.length (fun zs => fs (ord zs)) tk) := by
  refine (pe_mkxK T F hr hb hg hm hkw hall hks hdb hpl).imp fun σ H Q q => mo _ _ _ _ (fun zs H1 z => ⟨z.1, fun a ha => ?_⟩) q
  show spX C n fs (V.ref a :: ord zs) _ _ _
  exact spX_new ha ((ho zs).trans (z.1.trans hl)) (z.2 a · ha)
/-- e.f off an error -/
theorem xat_err {K : PySem.W.Frag} {f : Str} {H : Hp} {a C : Addr} {fs : List (Str × V)} {v : V} {Q : VK} (h : ErrAt H a C fs) (T : XvC K C) (no : PySem.W.findIn K (.ref C) f = some none) (l : fs.lookup f = some v) (q : Q v H) :
    ∃ (a' C' d : Addr) (fs' : List (Str × V)) (v' : V), V.ref a = .ref a' ∧ H a' = some (exo a' C' (some d)) ∧ H d = some (exd d fs') ∧ XvC K C' ∧ PySem.W.findIn K (.ref C') f = some none ∧ fs'.lookup f = some v' ∧ Q v' H :=
  let ⟨d, h1, h2⟩ := h
  ⟨a, C, d, fs, v, rfl, h1, h2, T, no, l, q⟩
/-- (C(e, ..), C(k = v, ..).f): the pair -/
def tRow (K : PySem.W.Frag) (C : Addr) (n m : Nat) (fs fs' : List V → List (Str × V)) (f : Str) (t tk : TA) : TE := fun σ H Q => ∃ (vs zs : List V) (v : V), (∀ H Q, Q vs H → t σ H Q) ∧ (∀ H Q, Q zs H → tk σ H Q) ∧ vs.length = n ∧ zs.length = m ∧
  XvC K C ∧ PySem.W.findIn K (.ref C) f = some none ∧ (fs' zs).lookup f = some v ∧ ∀ (p a : Addr) (H' : Hp), Same H H' → H p = none → H' p = some (.tup [.ref a, v]) → ErrAt H' a C (fs vs) → Q (.ref p) H'
theorem pe_row {m : Nat} {fs' : List V → List (Str × V)} {e1 e2 : Expr} {f : Str} {b : Nat} {p1 p2 : Pos} (h1 : PE X e1 (tNewX C n fs t)) (h2 : PE X e2 (tNewXK C m fs' tk)) (hb : attributeBase e2 f X.env (eval e2 X.env) = eval e2 X.env := by rfl)
    (hs : starEach [e1, .Attribute e2 f p1] X.env = (false, eval e1 X.env) :: starEach [.Attribute e2 f p1] X.env := by rfl) :
    PE X (.Tuple [e1, .Attribute e2 f p1] b p2) (tRow X.K C n m fs fs' f t tk) := by
  refine (pe_tup (pa_cons h1 (hs := hs) (pa_cons (pe_xat h2 hb) pa_nil))).imp fun σ H Q q => ?_
  obtain ⟨vs, zs, v, a1, a2, l1, l2, T, no, lk, q⟩ := q
  refine a1 _ _ ⟨l1, fun a Ha na sa ea => a2 _ _ ⟨l2, fun c Hc nc sc ec => ?_⟩⟩
  refine xat_err ec T no lk ⟨(by show 2 ≤ sizeLine; decide), fun p hp => ?_⟩
  have s2 : Same H Hc := sa.trans sc
  refine q p a _ (s2.new hp) (s2.free hp) upd_same ((ea.same sc).same ((Same.refl _).new hp))
end
end L2
set_option maxRecDepth 100000
namespace L2
open PySem PySem.Spec PyProof.Rows
/-! try: .. except X as n: suite, where the error outlives the suite by another name: it is tracked from then on -/
/-- at a: an error of the class cls that has been caught, its dict at d -/
def exz (a : Addr) (cls : Value) (d : Option Addr) : HO := .ext fun h => ∃ (oe : Obj) (vs : Array Value), h.get? a = some oe ∧ Zc cls d oe ∧ oe.data = .fields vs
theorem exz_ok {P : Program} {w : World} {H : Hp} {h : Heap} {a : Addr} {cls : Value} {d : Option Addr} {oe : Obj} {vs : Array Value} (e : h.get? a = some oe) (z : Zc cls d oe) (f : oe.data = .fields vs) : ObjOk P w H h a (exz a cls d) :=
  ⟨⟨oe, vs, e, z, f⟩, ⟨oe, e⟩, fun _ _ ⟨o, ws, e1, z1, f1⟩ k => ⟨o, ws, k _ e1, z1, f1⟩⟩
theorem exz_at {P : Program} {w : World} {H : Hp} {h : Heap} {a : Addr} {cls : Value} {d : Option Addr} (hok : HOk P w H h) (e : H a = some (exz a cls d)) : ∃ (oe : Obj) (vs : Array Value), h.get? a = some oe ∧ Zc cls d oe ∧ oe.data = .fields vs := by
  have x : ObjOk P w H h a (.ext fun h => ∃ (oe : Obj) (vs : Array Value), h.get? a = some oe ∧ Zc cls d oe ∧ oe.data = .fields vs) := hok a _ e
  exact x.1
theorem exz_ne_own {a x : Addr} {cls : Value} {d : Option Addr} : exz a cls d ≠ .own x := fun z => by
  have z2 : HO.ext _ = HO.own x := z
  cases z2
section
variable {X : Cx} {pins : List (Addr × Obj)} {σ : St} {H : Hp} {s : Shared}
/-- what was not tracked, is not of the entry and no cell, is tracked from now on -/
theorem Inv.track {a : Addr} {o : HO} (I : Inv X pins σ H s) (na : H a = none) (n0 : X.s_0.heap.get? a = none) (nl : a ≠ X.env.locals) (nc : ∀ x c, X.env.cells.lookup x = some c → c ≠ a) (np : ∀ p ∈ X.pn ++ pins, p.1 ≠ a)
    (new : ObjOk X.prog X.w (upd H a o) s.heap a o) : Inv X pins σ (upd H a o) s := by
  have old : ∀ {b : Addr} {u : Obj}, X.s_0.heap.get? b = some u → b ≠ a := fun {b u} e z => by
    rw [z, n0] at e
    cases e
  have tr : ∀ {b : Addr} {u : HO}, H b = some u → b ≠ a := fun e => ne_of_none e na
  refine ⟨I.ok, I.os, I.bare, ⟨I.base.keep, I.base.slot, fun b u e n x => ?_, I.base.there, fun b xs e => ?_, fun b u v e => ?_, fun b ps e => ?_⟩, I.loc, I.cell, ?_, fun x c e => ?_, fun p hp => ?_, fun b u e => ?_, I.len⟩
  · rw [upd_ne (old e)]
    exact I.base.free b u e n x
  · have q := I.base.tups b xs e
    rw [upd_ne (tr q)]
    exact q
  · have q := I.base.frzs b u v e
    rw [upd_ne (tr q)]
    exact q
  · obtain ⟨more, q⟩ := I.base.tbls b ps e
    exact ⟨more, by rw [upd_ne (tr q)]; exact q⟩
  · rw [upd_ne nl.symm]
    exact I.free
  · rw [upd_ne (nc x c e)]
    exact I.freeC x c e
  · obtain ⟨h1, h2, h3⟩ := I.pin p hp
    exact ⟨h1, by rw [upd_ne (np p hp)]; exact h2, h3⟩
  · by_cases hb : b = a
    · subst hb
      rw [upd_same] at e
      cases e
      exact new
    · rw [upd_ne hb] at e
      exact (I.hok b u e).stay (fun _ _ _ z => z) (fun _ z => by rw [upd_ne (tr z)]; exact z) fun _ _ z => by rw [upd_ne (tr z)]; exact z
/-- fewer pins -/
theorem Inv.unpin {q : Addr × Obj} (I : Inv X (q :: pins) σ H s) : Inv X pins σ H s :=
  ⟨I.ok, I.os, I.bare, I.base, I.loc, I.cell, I.free, I.freeC, fun p hp => I.pin p ((List.mem_append.mp hp).elim (fun z => List.mem_append_left _ z) fun z => List.mem_append_right _ (List.mem_cons_of_mem _ z)), I.hok, I.len⟩
/-- out of a suite, the error's object still pinned -/
theorem Inv.offSuite {a : Addr} {q : Addr × Obj} (I : Inv (X.suite a (q :: (X.pn ++ pins))) [] σ H s) (ok : X.Ok) : Inv X (q :: pins) σ H s := by
  refine ⟨ok, I.os, I.bare, I.base, I.loc, I.cell, I.free, I.freeC, fun p hp => I.pin p (List.mem_append_left _ ?_), I.hok, I.len⟩
  rcases List.mem_append.mp hp with z | z
  · exact List.mem_cons_of_mem _ (List.mem_append_left _ z)
  · rcases List.mem_cons.mp z with z | z
    · rw [z]
      exact List.mem_cons_self ..
    · exact List.mem_cons_of_mem _ (List.mem_append_right _ z)
end
/-- what the clause wishes: at the suite's end the error is tracked -/
def wKeep (K : PySem.W.Frag) (c : Value) (i m : Nat) (ts : Addr → Value → Option Addr → TS) (Wout : WX) (D : Ends) : WX := fun cls d σ H => ∃ b, PySem.W.exmOne K cls c = some b ∧
  (b = true → σ.length = m → ∀ a, H a = none → ts a cls d { nx := fun τ G => D.nx (τ.set i none) (upd G a (exz a cls d)), rt := fun _ _ => False, bk := fun _ _ => False, ct := fun _ _ => False } (σ.set i (some (.ref a))) H) ∧ (b = false → Wout cls d σ H)
section
variable {X : Cx} {x n : Str} {c : Value} {i : Nat} {body rest : List Stmt} {first : Stmt} {p1 p2 p3 : Pos} {tb : WX → TS} {ts : Addr → Value → Option Addr → TS} {Wout : WX}
theorem ps_try_keep (st : X.stack = X.env :: X.outer) (fr : X.env.frame = some X.env.locals) (nd : X.N.Nodup) (hi : X.N[i]? = some n) (kd : X.env.kindOf n = some .local) (nm : Names X x c) (tk : Takes X Wout) (nx : X.ex = [])
    (hb : ∀ (W : WX) (pn : List (Addr × Obj)) (xe : Value → Shared → Prop), Takes (X.tr pn xe) W → PassesOwn (model X.prog X.w) X.A X.env xe → PSs (X.tr pn xe) body (tb W))
    (hsu : ∀ (a : Addr) (oe : Obj) (cls : Value) (d : Option Addr) (pn : List (Addr × Obj)), Zc cls d oe → (∃ vs, oe.data = .fields vs) → PSs (X.suite a ((a, oe) :: pn)) (first :: rest) (ts a cls d)) :
    PS X (.Try body [.ExceptHandler (some (.Name x p1)) (some n) (first :: rest) p2] [] [] p3) (fun D σ H => tb (wKeep X.K c i X.N.length ts Wout D) D σ H) := by
  refine ⟨fun pins s σ H D I h => wpAny_Try_except ?_⟩
  have ok := I.ok
  have afr : X.A.frames = some (X.env :: X.outer) := by
    rw [ok.frames, st]
  let nxt : Value → Shared → Prop := fun e s₁ => wpAny (model X.prog X.w) X.A (noteFrame e X.env) (fun _ s₂ => wpAny (model X.prog X.w) X.A (setFlight e none)
    (fun _ s₃ => wpAny (model X.prog X.w) X.A (handleBy e X.env [.ExceptHandler (some (.Name x p1)) (some n) (first :: rest) p2]) (SP X pins D) X.xe s₃) X.xe s₂) X.xe s₁
  have caught : ∀ u s', XE (X.tr (X.pn ++ pins) nxt) (wKeep X.K c i X.N.length ts Wout D) u s' → nxt u s' := by
    rintro u s' ⟨a, B, sI, pinsI, σ1, H1, cls, d, rfl, J0, gb, us, sky, na, eo, ab, b, hm, yes, no⟩
    have J : Inv X pins σ1 H1 sI := J0.ofTry ok
    rw [show (X.tr (X.pn ++ pins) nxt).stack = X.env :: X.outer from st] at sky
    refine Sky.land Zc.steady afr fr sky fun hA flA uA => ?_
    have JA : Inv X pins σ1 H1 { s' with heap := hA } := J.landed gb flA.1 (us.trans uA) eo ab
    have off : ∀ {g : Heap} {o : Obj} {ws : Array Value}, g.FunFrames B (X.env :: X.outer) → g.get? a = some o → o.data = .fields ws → a ∉ frs (X.env :: X.outer) := by
      intro g o ws ff e dd z
      obtain ⟨_, o2, e2, k⟩ := ff.mem z
      rw [e] at e2
      cases e2
      exact k _ dd
    obtain ⟨o3, w3, a3, z3, d3⟩ := flA.there
    have nfr := off flA.2.2.1 a3 d3
    have nL : a ≠ X.env.locals := fun z => nfr (List.mem_filterMap.mpr ⟨X.env, List.mem_cons_self, by rw [fr, z]⟩)
    have nF : a ∉ X.fs := fun z => by
      obtain ⟨e, he, q⟩ := List.mem_filterMap.mp z
      exact nfr (List.mem_filterMap.mpr ⟨e, List.mem_cons_of_mem _ he, q⟩)
    have new : sI.heap.get? a = none := by
      cases q : sI.heap.get? a with
      | none => rfl
      | some o =>
        have z := gb a o q (by rw [show (X.tr (X.pn ++ pins) nxt).stack = X.env :: X.outer from st]; exact nfr)
        rw [flA.2.1] at z
        cases z
    have n0 : X.s_0.heap.get? a = none := by
      cases q : X.s_0.heap.get? a with
      | none => rfl
      | some o =>
        obtain ⟨o2, z⟩ := J.base.there a o q (by rw [nx]; simp)
        rw [new] at z
        cases z
    have np : ∀ p ∈ X.pn ++ pins, p.1 ≠ a := fun p hp z => by
      have q := (J.pin p hp).1
      rw [z, new] at q
      cases q
    have SA := JA.suite a3 d3 na nL nF
    have look : PySem.W.Looks (model X.prog X.w) hA (typeOf (.ref a)) cls := fun A Q E s k q => wpAny_typeOf_ref (k _ _ a3) (by rw [z3.1]; exact q)
    have which := PySem.W.exm_one (M := model X.prog X.w) JA.kIn look hm
    have name : ∀ {Q E : Value → Shared → Prop}, Q c { s' with heap := hA } → wpAny (model X.prog X.w) (X.A.mark (some (.ref a))) (eval (.Name x p1) X.env) Q E { s' with heap := hA } := by
      intro Q E q
      obtain ⟨g, db, g2⟩ := nm
      rcases g2 with g2 | ⟨g2, bv, nn⟩
      · exact ld_glob (X := X.suite a ((a, o3) :: (X.pn ++ pins))) SA g g2 q db
      · exact ld_blt (X := X.suite a ((a, o3) :: (X.pn ++ pins))) SA g g2 bv q nn db
    refine wpAny_handleBy_cons (codeAny_handlers_test (name (which.here ?_))) (by intro q; cases q)
    cases b with
    | true =>
      refine codeAny_handlers_suite_as (HandSPX.lands_againZ flA fun hB flB uB => ?_)
      have JB : Inv X pins σ1 H1 { s' with heap := hB } := J.landed gb flB.1 ((us.trans uA).trans uB) eo ab
      obtain ⟨o4, w4, a4, z4, d4⟩ := flB.there
      have SB := JB.suite a4 d4 na nL nF
      refine store_ok (X := X.suite a ((a, o4) :: (X.pn ++ pins))) (v := .ref a) SB nd hi (.inl kd) rfl (fun s5 S5 => ?_) (.inr kd)
      refine wpAny_mono ((hsu a o4 cls d (X.pn ++ pins) z4 ⟨_, d4⟩).run [] s5 _ H1 _ S5 (yes rfl J.len a na)) (fun f s6 sp => ?_) fun _ _ z => z.elim
      cases f with
      | next =>
        obtain ⟨σ6, H6, S6, q6⟩ := sp
        refine gone_ok (S6.offSuite ok) nd hi kd fun s7 J7 => ?_
        obtain ⟨at7, n7, _⟩ := J7.pin (a, o4) (List.mem_append_right _ (List.mem_cons_self ..))
        have cells : ∀ y c', X.env.cells.lookup y = some c' → c' ≠ a := fun y c' e z => by
          obtain ⟨v, o, ho, hd⟩ := J7.cell y c' e
          rw [z, at7] at ho
          cases ho
          rw [d4] at hd
          cases hd
        exact ⟨_, _, J7.unpin.track n7 n0 nL cells np (exz_ok at7 z4 d4), q6⟩
      | brk =>
        obtain ⟨_, _, _, q6⟩ := sp
        exact q6.elim
      | cont =>
        obtain ⟨_, _, _, q6⟩ := sp
        exact q6.elim
      | ret u =>
        obtain ⟨_, _, _, _, _, q6⟩ := sp
        exact q6.elim
    | false =>
      refine wpAny_handleBy_nil ?_
      obtain ⟨f1, f2, f3, oe, vs, T, oT, tr, e1, e2, e3, e4, e5⟩ := id flA
      have out : wpAny (model X.prog X.w) X.A (setFlight (.ref a) X.env.frame) (fun _ s4 => wpAny (model X.prog X.w) X.A (throw (.ref a) : Sem Flow) (SP X pins D) X.xe s4) X.xe { s' with heap := hA } := by
        rw [fr]
        refine HandSPX.setFlight_upZ flA fun hB up uB => wpAny_throw (tk _ _ ⟨a, B, sI, pins, σ1, H1, cls, d, rfl, J, gb, (us.trans uA).trans uB, .inr (.inr (by rw [st]; exact up)), na, eo, ab, no rfl⟩)
      unfold PySem.passOn
      refine wpAny_bind (wpAny_field e1 e3 e4 ?_)
      rw [if_neg (show ¬ (Value.ref T == Value.none) = true by simp)]
      first
        | exact wpAny_bind (wpAny_pure (wpAny_bind out))
        | exact wpAny_bind out
  refine wpAny_mono ((hb _ (X.pn ++ pins) nxt caught PassesOwn.looking).run [] s σ H D (I.toTry _) h) (fun f s1 sp => ?_) fun _ _ z => z
  cases f with
  | next =>
    obtain ⟨σ2, H2, J, q⟩ := sp
    exact wpAny_execs_nil ⟨σ2, H2, J.ofTry ok, q⟩
  | brk =>
    obtain ⟨σ2, H2, J, q⟩ := sp
    exact ⟨σ2, H2, J.ofTry ok, q⟩
  | cont =>
    obtain ⟨σ2, H2, J, q⟩ := sp
    exact ⟨σ2, H2, J.ofTry ok, q⟩
  | ret u =>
    obtain ⟨v, σ2, H2, J, r, q⟩ := sp
    exact ⟨v, σ2, H2, J.ofTry ok, r, q⟩
end
end L2
set_option maxRecDepth 100000
namespace L2
open PySem PySem.Spec PyProof.Rows
/-! a caught error by another name: its class asked, its fields read -/
/-- at a: a caught error of the class at C, with these fields -/
def Caught (H : Hp) (a C : Addr) (fs : List (Str × V)) : Prop := ∃ d, H a = some (exz a (.ref C) (some d)) ∧ H d = some (.xd fs)
theorem xd_at {P : Program} {w : World} {H : Hp} {h : Heap} {d : Addr} {fs : List (Str × V)} (hok : HOk P w H h) (e : H d = some (.xd fs)) : ∃ mA, h.Ns1 d mA ∧ ∀ f, RelO (fs.lookup f) (mA f) := by
  have x : ObjOk P w H h d (.xd fs) := hok d _ e
  exact x
theorem Caught.same {H H' : Hp} {a C : Addr} {fs : List (Str × V)} (s : Same H H') (h : Caught H a C fs) : Caught H' a C fs :=
  let ⟨d, h1, h2⟩ := h
  ⟨d, s _ _ h1, s _ _ h2⟩
section
variable {X : Cx} {pins : List (Addr × Obj)} {σ : St} {H : Hp} {s : Shared}
theorem caught_inst {a C : Addr} {fs : List (Str × V)} (I : Inv X pins σ H s) (h : Caught H a C fs) : ∃ (oe od : Obj) (mA : Str → Option Value), PySem.W.InstAt s.heap a oe C (some od) ∧ (∀ f, PySem.W.lookIn f od = some (mA f)) ∧ ∀ f, RelO (fs.lookup f) (mA f) := by
  obtain ⟨d, ea, ed⟩ := h
  obtain ⟨oe, vs, e1, z, e2⟩ := exz_at I.hok ea
  obtain ⟨mA, hns, hr⟩ := xd_at I.hok ed
  obtain ⟨od, hod, hl⟩ := lookIn_ns hns
  refine ⟨oe, od, mA, ⟨e1, z.1, ?_, ?_⟩, hl, hr⟩
  · unfold PySem.W.notCls
    rw [e2]
  · rw [z.2]
    exact hod
/-- isinstance(e, c) -/
def rIsZ (K : PySem.W.Frag) : List V → Hp → VK → Prop := fun xs H Q => ∃ (a C : Addr) (fs : List (Str × V)) (c : V) (cv : Value) (b : Bool), xs = [.ref a, c] ∧ Caught H a C fs ∧ XvC K C ∧ ClsV c cv ∧ PySem.W.kitOne K (.ref C) cv = some b ∧ Q (.bl b) H
theorem call_isz : CallR X (.builtin "isinstance") (rIsZ X.K) := by
  intro pins s σ H xs us Q I r h
  obtain ⟨a, C, fs, c, cv, b, rfl, ea, T, k, e, q⟩ := h
  obtain ⟨u1, u2, rfl, r1, r2⟩ := vals2 r
  have e2 := k.eq r2
  subst e2
  obtain rfl : u1 = Value.ref a := r1
  obtain ⟨oe, od, mA, J, _⟩ := caught_inst I ea
  exact PySem.W.kia_one (PySem.W.kitx_exc T.ic T.ga T.gg T.oex.exC T.ca T.gs T.tk T.mo) I.kIn J e (fun z => nomatch z) fun tk => ⟨.bl b, H, I.tok tk, rfl, q⟩
/-- e.f -/
def tZat (K : PySem.W.Frag) (te : TE) (f : Str) : TE := fun σ H Q => te σ H fun x H1 => ∃ (a C : Addr) (fs : List (Str × V)) (v : V), x = .ref a ∧ Caught H1 a C fs ∧ XvC K C ∧ PySem.W.findIn K (.ref C) f = some none ∧ fs.lookup f = some v ∧ Q v H1
theorem pe_zat {e : Expr} {te : TE} {f : Str} {pos : Pos} (he : PE X e te) (hb : attributeBase e f X.env (eval e X.env) = eval e X.env := by rfl) : PE X (.Attribute e f pos) (tZat X.K te f) := by
  refine ⟨fun pins s σ H Q I h => attr_of hb (thn (he.run pins s σ H _ I h) fun u s1 hh => ?_)⟩
  obtain ⟨x, H1, I1, rx, a, C, fs, v, ex, ea, T, no, l, q⟩ := hh
  subst ex
  obtain rfl : u = Value.ref a := rx
  obtain ⟨oe, od, mA, J, hl, hr⟩ := caught_inst I1 ea
  obtain ⟨u, hu, ru⟩ : ∃ u, mA f = some u ∧ RelV v u := RelO.some_of (v := v) (o := mA f) (by rw [← l]; exact hr f)
  exact HandSPX.exc_get I1.kIn J T.ga T.gg T.oex.exC (PySem.W.findObj_own T.dd no rfl (by rw [hl, hu])) (handed_of ru) ⟨v, H1, I1.tok _, ru, q⟩
end
end L2
set_option maxRecDepth 100000
set_option maxHeartbeats 4000000
namespace L2
open PySem PySem.Spec PyProof.Rows
/-! a tuple taken once: t * 1 is t itself -/
theorem tuple_mul_one (l : Addr) (its : Array Value) (n : Nat) (dd : Option Addr) (sl : Array (Option Value)) (u : Tok) :
    Meets (Builtin.«tuple.__mul__» ⟨[.ref l, .int 1 u], []⟩) (fun _ R s => s.heap.get? l = some { cls := .type "tuple", dict := dd, data := .seq its n, slots := sl } ∧ R (.ok (.ret (.ref l))) s) :=
  .of_wp fun prog w A R s h => by
    obtain ⟨hp, g, d, tk, os⟩ := s
    obtain ⟨hl, h⟩ := h
    have f1 := AutoSeq1.idx_int
    have c1 : (its.isEmpty || (1 : Int) == 1) = true := by simp
    wp_walk using wpAny_loadPart' hl
    repeat (first
      | (refine wpAny_ite_true (decide_eq_true c1) ?_; wp_walk using wpAny_loadPart' hl)
      | (refine wpAny_ite_false (decide_eq_false (by decide)) ?_; wp_walk using wpAny_loadPart' hl))
    exact ⟨_, rfl, h⟩
def rRep1 (K : PySem.W.Frag) : R2 := fun x y H Q => ∃ l xs, x = .ref l ∧ y = .int 1 ∧ SqT K H l xs ∧ Q (.ref l) H
theorem op_rep1 {X : Cx} : OpR X (binaryOp .Mult) (rRep1 X.K) := by
  intro pins s σ H x y v u Q I rx ry h
  obtain ⟨l, xs, rfl, rfl, hT, q⟩ := h
  cases rx
  obtain ⟨t, rfl⟩ := ry
  obtain ⟨its, r, ⟨⟨cls, dd, data, sl⟩, ho, hc, n, hd⟩, hs⟩ := I.tuple hT
  simp only at hc hd
  subst hc hd
  exact wpAny_binaryOp_repeat_ref (T := "tuple") (U := "int") (by decide) ⟨_, ho, rfl⟩ (fun s' => typeIs_int s' 1 t) noFill_tuple_mul F.fills_int_mul F.slot_int_rmul repeat_tuple F.slot_int_index.lookup
    (call_meets F.slot_int_rmul (typeIs_int s 1 t) F.entry_int_rmul (F.args_int_rmul_2 _ _) (int_rmul_tuple 1 t l its.toArray n dd sl)
      ⟨ho, rfl, ⟨_, ho, rfl⟩, call_meets F.slot_tuple_mul ⟨_, ho, rfl⟩ F.entry_tuple_mul (F.args_tuple_mul_2 _ _) (tuple_mul_one l its.toArray n dd sl t) ⟨ho, ⟨.ref l, H, I, rfl, q⟩⟩⟩)
/-- t * k -/
theorem op_repA {X : Cx} : OpR X (binaryOp .Mult) (fun x y H Q => rRep1 X.K x y H Q ∨ rRepT X.K x y H Q) := by
  intro pins s σ H x y v u Q I rx ry h
  rcases h with h | h
  · exact op_rep1 pins s σ H x y v u Q I rx ry h
  · exact op_repT pins s σ H x y v u Q I rx ry h
end L2
set_option maxRecDepth 100000
namespace L2
open PySem PySem.Spec PyProof.Rows
/-! a list or a tuple, walked -/
def Seq (K : PySem.W.Frag) (H : Hp) (a : Addr) (xs : List V) : Prop := SqL K H a xs ∨ SqT K H a xs
def iSeq (K : PySem.W.Frag) (tl : TE) : TI := fun σ H R => tl σ H fun x H1 => ∃ (a : Addr) (xs : List V), x = .ref a ∧ ((SqL K H1 a xs ∧ R (Itl K a) H1) ∨ (SqT K H1 a xs ∧ R (Itt K a) H1))
theorem pi_seq {X : Cx} {tg l : Expr} {tl : TE} (hl : PE X l tl) : PI X tg l (iSeq X.K tl) := by
  constructor
  intro pins s σ H R I h
  refine thn (hl.run pins s σ H _ I h) ?_
  rintro v s1 ⟨x, G, J, r, a, xs, rfl, q⟩
  obtain rfl : v = Value.ref a := r
  have fresh : ∀ b ∈ [s1.heap.objs.size], b = s1.heap.objs.size := fun b hb => List.mem_singleton.mp hb
  have nw := J.hok.fresh (Nat.le_refl s1.heap.objs.size)
  rcases q with ⟨hq, q⟩ | ⟨hq, q⟩
  · obtain ⟨_, _, p, _⟩ := J.list hq
    exact wpAny_pyIter_list p.isList ⟨_, [s1.heap.objs.size], _, _, G, rfl, J.kept (t' := s1.toks) (fun _ _ z => Heap.get?_push_of_some _ z), turn_list a _, ⟨_, Heap.get?_push_size _ rfl, rfl, rfl⟩, fun b hb => by rw [fresh b hb]; exact J.fpOk (Nat.le_refl _) nw, q⟩
  · obtain ⟨_, _, p, _⟩ := J.tuple hq
    exact wpAny_pyIter_tuple (show Heap.IsTuple s1.heap a _ from p) ⟨_, [s1.heap.objs.size], _, _, G, rfl, J.kept (t' := s1.toks) (fun _ _ z => Heap.get?_push_of_some _ z), turn_tuple a _, ⟨_, Heap.get?_push_size _ rfl, rfl, rfl⟩, fun b hb => by rw [fresh b hb]; exact J.fpOk (Nat.le_refl _) nw, q⟩
theorem Same.seqT {K : PySem.W.Frag} {H H' : Hp} {a : Addr} {xs : List V} (e : Same H H') (h : SqT K H a xs) : SqT K H' a xs := by
  rcases h with (z | ⟨o, z⟩) | z
  · exact .inl (.inl (e a _ z))
  · exact .inl (.inr ⟨o, e a _ z⟩)
  · exact .inr z
theorem Seq.same {K : PySem.W.Frag} {H H' : Hp} {a : Addr} {xs : List V} (s : Same H H') (h : Seq K H a xs) : Seq K H' a xs := h.elim (fun z => .inl (s.seq z)) fun z => .inr (s.seqT z)
end L2
set_option maxRecDepth 100000
namespace L2
open PySem PySem.Spec PyProof.Rows
/-! operations of tuples, whether the result is a new tuple or an old one -/
section
variable {X : Cx}
theorem OpR.imp {f : Value → Value → Sem Value} {r r' : R2} (h : OpR X f r) (i : ∀ x y H Q, r' x y H Q → r x y H Q) : OpR X f r' := fun pins s σ H x y v u Q I rx ry q => h pins s σ H x y v u Q I rx ry (i x y H Q q)
theorem SlR.imp {r r' : V → Option Int → Option Int → Hp → VK → Prop} (h : SlR X r) (i : ∀ x lo hi H Q, r' x lo hi H Q → r x lo hi H Q) : SlR X r' := fun pins s σ H x v vl vu lo hi sl Q I rx hs pl pu q => h pins s σ H x v vl vu lo hi sl Q I rx hs pl pu (i x lo hi H Q q)
theorem Same.lay {H : Hp} {p : Addr} {o : HO} (h : H p = none) : Same H (upd H p o) := (Same.refl H).new h
theorem cutV_all {xs : List V} {lo hi : Option Int} (h : HT.sIx xs.length 0 lo = 0 ∧ HT.sIx xs.length xs.length hi = xs.length) : cutV xs lo hi = xs := by
  unfold cutV
  rw [h.1, h.2]
  simp
/-- t[i:j] -/
def rSlP : V → Option Int → Option Int → Hp → VK → Prop := fun x lo hi H Q => ∃ (a : Addr) (xs : List V), x = .ref a ∧ H a = some (.tup xs) ∧ ∀ p H', Same H H' → H' p = some (.tup (cutV xs lo hi)) → Q (.ref p) H'
theorem sl_tupP : SlR X rSlP := sl_tupA.imp fun x lo hi H Q ⟨a, xs, e, h, q⟩ => ⟨a, xs, e, SqT.of h, fun z => q a H (Same.refl H) (by rw [cutV_all z]; exact h), fun _ p hp => q p _ (Same.lay hp) upd_same⟩
/-- t * k -/
def rRepP : R2 := fun x y H Q => ∃ (a : Addr) (k : Int) (xs : List V), x = .ref a ∧ y = .int k ∧ H a = some (.tup xs) ∧ xs ≠ [] ∧ 1 ≤ k ∧ k ≤ 1000 ∧ xs.length ≤ 1000 ∧ ∀ p H', Same H H' → H' p = some (.tup (List.replicate k.toNat xs).flatten) → Q (.ref p) H'
theorem op_repP : OpR X (binaryOp .Mult) rRepP := op_repA.imp fun x y H Q ⟨a, k, xs, e1, e2, h, ne, h1, h2, h3, q⟩ => by
  by_cases hk : k = 1
  · subst hk
    exact .inl ⟨a, xs, e1, e2, SqT.of h, q a H (Same.refl H) (by simpa using h)⟩
  · exact .inr ⟨a, k, xs, e1, e2, SqT.of h, ne, by omega, h2, h3, fun p hp => q p _ (Same.lay hp) upd_same⟩
/-- t + u -/
def rCatP : R2 := fun x y H Q => ∃ (a b : Addr) (xs ys : List V), x = .ref a ∧ y = .ref b ∧ H a = some (.tup xs) ∧ H b = some (.tup ys) ∧ xs.length + ys.length ≤ 1000 ∧ ∀ p H', Same H H' → H' p = some (.tup (xs ++ ys)) → Q (.ref p) H'
theorem op_catP : OpR X (binaryOp .Add) rCatP := op_catA.imp fun x y H Q ⟨a, b, xs, ys, e1, e2, h1, h2, l, q⟩ =>
  ⟨a, b, xs, ys, e1, e2, SqT.of h1, SqT.of h2, Nat.le_of_lt (small1000 (by omega)), fun z => q b H (Same.refl H) (by rw [z]; exact h2), fun _ z => q a H (Same.refl H) (by rw [z, List.append_nil]; exact h1), fun _ _ p hp => q p _ (Same.lay hp) upd_same⟩
end
/-! whole numbers in tuples, compared -/
theorem eqvAll_ints : ∀ a b : List Int, PyData.eqvAll (a.map .int) (b.map .int) = decide (a = b)
  | [], [] => rfl
  | [], _ :: _ => rfl
  | _ :: _, [] => rfl
  | x :: xs, y :: ys => by
    have ih := eqvAll_ints xs ys
    show (PyData.eqv (.int x) (.int y) && PyData.eqvAll (xs.map .int) (ys.map .int)) = _
    rw [ih]
    show ((x == y) && decide (xs = ys)) = decide (x :: xs = y :: ys)
    by_cases h : x = y
    · subst h
      simp
    · have h2 : (x == y) = false := by simpa using h
      rw [h2]
      simp [h]
theorem eqv_tups (a b : List Int) : PyData.eqv (.tuple (a.map .int)) (.tuple (b.map .int)) = decide (a = b) := by
  rw [← eqvAll_ints a b]
  rfl
theorem dp_ints' {K : PySem.W.Frag} {H : Hp} : ∀ ns : List Int, DpAll K H (ns.map V.int) (ns.map PyData.int)
  | [] => .nil
  | z :: r => .cons (.int z) (dp_ints' r)
theorem shaped_tup (ns : List Int) : PySem.SeqAt.shaped (.tuple (ns.map PyData.int)) = true := by
  have h : ∀ ns : List Int, PyData.canLayAll0 (ns.map PyData.int) = true ∧ PyData.depthAll (ns.map PyData.int) = 0 := by
    intro ns
    induction ns with
    | nil => exact ⟨rfl, rfl⟩
    | cons z r ih => exact ⟨by simp [PyData.canLayAll0, PyData.canLay0, ih.1], by simp [PyData.depthAll, PyData.depth, ih.2]⟩
  simp [PySem.SeqAt.shaped, PyData.canLay0, PyData.depth, h ns]
/-- t == u of whole numbers -/
def rEqP : R2 := fun x y H Q => ∃ (a b : Addr) (ns ms : List Int), x = .ref a ∧ y = .ref b ∧ H a = some (.tup (ns.map V.int)) ∧ H b = some (.tup (ms.map V.int)) ∧ Q (.bl (decide (ns = ms))) H
theorem op_eqP {X : Cx} (hu : X.A.units + 64 < cLine) : OpR X (compareOp .Eq) rEqP := (op_eqD hu).imp fun x y H Q ⟨a, b, ns, ms, e1, e2, h1, h2, q⟩ =>
  ⟨.tuple (ns.map .int), .tuple (ms.map .int), by rw [e1]; exact .tup (SqT.of h1) (dp_ints' ns), by rw [e2]; exact .tup (SqT.of h2) (dp_ints' ms), shaped_tup ns, shaped_tup ms, by rw [eqv_tups]; exact q⟩
theorem op_neP {X : Cx} (hu : X.A.units + 64 < cLine) : OpR X (compareOp .NotEq) (fun x y H Q => ∃ (a b : Addr) (ns ms : List Int), x = .ref a ∧ y = .ref b ∧ H a = some (.tup (ns.map V.int)) ∧ H b = some (.tup (ms.map V.int)) ∧ Q (.bl (decide (ns ≠ ms))) H) := (op_neD hu).imp fun x y H Q ⟨a, b, ns, ms, e1, e2, h1, h2, q⟩ =>
  ⟨.tuple (ns.map .int), .tuple (ms.map .int), by rw [e1]; exact .tup (SqT.of h1) (dp_ints' ns), by rw [e2]; exact .tup (SqT.of h2) (dp_ints' ms), shaped_tup ns, shaped_tup ms, by rw [eqv_tups, ← decide_not]; exact q⟩
/-- len, its reading by name -/
def rLenS (K : PySem.W.Frag) : List V → Hp → VK → Prop := fun xs H Q => ∃ p ys, xs = [V.ref p] ∧ (SqL K H p ys ∨ SqT K H p ys) ∧ Q (V.int (ys.length : Int)) H
theorem call_lenS {X : Cx} : CallR X (.builtin "len") (rLenS X.K) := call_len_seq
end L2
set_option maxRecDepth 100000
namespace L2
open PySem PySem.Spec PyProof.Rows
/-- a target o.f among several -/
def gFld (K : PySem.W.Frag) (to : TE) (f : Str) : TG := fun v σ H Q => to σ H fun x H1 => ∃ a C dx fs, x = .ref a ∧ H1 a = some (.ins C dx fs) ∧ Cls K C ∧ NoAttr K C f ∧ fs.length < 1000 ∧ Q σ (upd H1 a (.ins C dx (putF f v fs)))
theorem pg_fld {X : Cx} {o : Expr} {f : Str} {p : Pos} {to : TE} (ho : PE X o to) : PG X (.Attribute o f p) (gFld X.K to f) := by
  constructor
  intro pins s σ H v u Q I r h
  refine PySem.W.kas_attr (thn (ho.run pins s σ H _ I h) ?_)
  rintro ov s1 ⟨x, H1, J, rx, a, C, dx, fs, rfl, ea, c, n, l, q⟩
  obtain rfl : ov = Value.ref a := rx
  exact setattr_ok J ea c n l r fun s2 J2 => ⟨σ, _, J2, q⟩
/-- raise C(e, ..), where C's __init__ stores fields -/
def tRaiseX (C : Addr) (n : Nat) (fs : List V → List (Str × V)) (t : TA) : St → Hp → XK → Prop := fun σ H Q => t σ H fun vs H1 => vs.length = n ∧ ∀ d H', H1 d = none → Same H1 H' → H' d = some (.xd (fs vs)) → Q (.ref C) (some d) H'
theorem pmk_x {X : Cx} {k n : Nat} {fI C : Addr} {fd : FuncData} {ps : List Str} {fs : List V → List (Str × V)} {x : Str} {p pos : Pos} {e : Expr} {es : List Expr} {t : TA} (T : XvI X.K C fI) (F : FnOk X.prog X.w X.K X.mg X.base CX0 k fI fd ps (spX C n fs)) (hr : Room (k + 1) X.A) (hb : Binds X.K fd ps []) (hn : n ≤ 1000)
    (hg : Gl X x) (hm : X.mg x = some (.ref C)) (mo : Mono t) (ha : PA X (e :: es) t) (hdb : (x == ("__debug__" : Str)) = false := by decide)
    (he : starEach (e :: es) X.env = (false, eval e X.env) :: starEach es X.env := by rfl) (hpl : (backTo pos (starEach es X.env)).any (·.1) = false := by rfl) : PMk X (.Call (.Name x p) (e :: es) [] pos) (tRaiseX C n fs t) := by
  intro pins s σ H Q I h
  refine pmk_oex T.cls.oex T.ini T.ty F hr hb .nil pass0 hg hm ha hdb he hpl pins s σ H Q I (mo _ _ _ _ (fun vs H1 z => ⟨by rw [z.1]; exact hn, fun a ha => ?_⟩) h)
  refine ⟨a, vs, by rw [List.append_nil], z.1, upd_same, fun dx H' hd nd h1 h2 h3 => ⟨rfl, dx, _, h1, h2, ?_, z.2 dx _ ?_ ?_ upd_same⟩⟩
  · rw [upd_ne nd] at hd
    exact hd
  · rw [upd_ne nd] at hd
    exact hd
  · intro b o eb
    have hd' : H1 dx = none := by
      rw [upd_ne nd] at hd
      exact hd
    have n1 := ne_of_none eb ha
    have n2 := ne_of_none eb hd'
    rw [upd_ne n2, del_ne n1, h3 b n1 n2, upd_ne n1]
    exact eb
end L2
set_option maxRecDepth 100000
namespace L2
open PySem PySem.Spec PyProof.Rows
section
variable {X : Cx} {CX : CXT} {k : Nat} {f C : Addr} {fd : FuncData} {ps ks : List Str} {sp : Sp} {E : XK} {m : Str} {apos pos : Pos} {o : Expr} {kws : List Keyword} {ta : TE} {tk : TA} {g : List Value → List Value → List Value} {gV : List V → List V → List V}
/-- o.m(k = v, ..) -/
def tMethK0 (C : Addr) (m : Str) (n : Nat) (sp : Sp) (gV : List V → List V → List V) (E : XK) (ta : TE) (tk : TA) : TE := fun σ H Q => ta σ H fun x H1 => ∃ a dx fs, x = .ref a ∧ H1 a = some (.ins C dx fs) ∧ fs.lookup m = none ∧ tk σ H1 fun zs H2 => zs.length = n ∧ sp (gV [x] zs) H2 Q E
theorem pe_methK0 {pl : Sem Bool} (he : PE X o ta) (c : Cls X.K C) (hm : Meth X.K C m f) (F : FnOk X.prog X.w X.K X.mg X.base CX k f fd ps sp) (hr : Room k X.A) (hb : KBn X.K fd ps 1 ks g gV) (hx : Passes CX X E) (hkw : PK X kws tk)
    (hall : (backToKw pos (keywordEach kws X.env)).all (·.1.isSome) = true := by rfl) (hks : (backToKw pos (keywordEach kws X.env)).filterMap (·.1) = ks := by rfl)
    (hpl : ((backTo pos (starEach [] X.env)).any (·.1) || (backToKw pos (keywordEach kws X.env)).any (·.1.isNone)) = false := by rfl)
    (ht : eval (.Call (.Attribute o m apos) [] kws pos) X.env = (do
      let ov ← eval o X.env
      standAt apos.atName
      let (f, first) ← holding [ov] (getMethod ov m pl)
      callWith pos f first (backTo pos (starEach [] X.env)) (backToKw pos (keywordEach kws X.env))) := by rfl) :
    PE X (.Call (.Attribute o m apos) [] kws pos) (tMethK0 C m ks.length sp gV E ta tk) := by
  constructor
  intro pins s σ H Q I h
  refine PySem.W.methodCall_KW (pl := pl) (thn (he.run pins s σ H _ I h) ?_) ht
  rintro u s1 ⟨x, H1, J, rx, a, dx, fs, rfl, ea, l, q⟩
  obtain rfl : u = Value.ref a := rx
  refine getmeth_ok J ea c hm l (PySem.W.callWith_KW0 (first := [.ref a]) (h₀ := X.base) J.ok.mod.kin hm.kp hall (thn (hkw.run pos pins s1 σ H1 _ J q) ?_) hpl)
  rintro ws s2 ⟨zs, H2, J2, rz, l2, q2⟩
  rw [hks]
  exact ⟨J2.kIn, run_fnN (n := 1) (us := [.ref a]) (vs := [.ref a]) F hr hb hx J2 (.cons rfl .nil) rz rfl l2 q2⟩
end
end L2
set_option maxRecDepth 100000
namespace L2
open PySem PySem.Spec PyProof.Rows
/-! == and != of instances with the text's own __eq__ -/
section
variable {M : Model} {prog : Program} {w : World} {A : Around} {E : Value → Shared → Prop} {s : Shared} {K : PySem.W.Frag} {x C f : Addr} {ox : Obj} {od : Option Obj}
theorem ifBound_objNe {args : List Value} {Q : Option Value → Shared → Prop} (X : K.In s.heap) (I : PySem.W.InstAt s.heap x ox C od) (hs : PySem.W.findIn K (.ref C) "__ne__" = some (some (.builtin "object.__ne__")))
    (h : wpAny M A (call (.builtin "object.__ne__") (.ref x :: args)) (fun v => Q (some v)) E s) : wpAny M A (callSpecialIfBound? (.ref x) "__ne__" args) Q E s := by
  simp only [callSpecialIfBound?, bindSpecialIfBound?]
  refine wpAny_holding (wpAny_bind (wpAny_bind (wpAny_bind (I.type.here ((PySem.W.looks_findIn X hs).here ?_)))))
  refine wpAny_bind (wpAny_askSetting (wpAny_ite ?_))
  have fin : wpAny M A (call (.builtin "object.__ne__") ([.ref x] ++ args) >>= fun v => pure (some v)) Q E s := wpAny_bind (wpAny_mono h (fun v s' h' => wpAny_pure h') fun _ _ h' => h')
  split
  · exact wpAny_bind (wpAny_of_eq (PySem.F.cmp_object.ne.bind _) (wpAny_pure (by exact fin)))
  · exact wpAny_tryCatch (wpAny_bind (wpAny_of_eq (PySem.F.cmp_object.ne.bind _) (wpAny_pure (by exact fin))))
/-- how a call ends that hands back a bool -/
def BoolOut (Q : Bool → Shared → Prop) (E : Value → Shared → Prop) : Result → Shared → Prop := fun r s' => match r with
  | .ok (.ret v) => ∃ z : Bool, v = .bool z ∧ Q z s'
  | .ok _ => False
  | .error e => E e s'
theorem entry_ne {b : Value} {Q : Fin → Shared → Prop} (hu : A.units < cLine) (X : K.In s.heap) (I : PySem.W.InstAt s.heap x ox C od) (hs : PySem.W.findIn K (.ref C) "__eq__" = some (some (.ref f))) (hf : PySem.W.isFn K (.ref f) = true)
    (h : codeAny M A (.call (.ref f) ⟨[.ref x, b], []⟩) (BoolOut (fun r s' => Q (.done (.ret (.bool (!r)))) s') E) s) : wpAny M A (Builtin.«object.__ne__» ⟨[.ref x, b], []⟩) Q E s := by
  unfold Builtin.«object.__ne__»
  repeat (first | with_reducible refine wpAny_cRoomFor hu ?_ | with_reducible refine PySem.W.ifBound_K X I hs hf ?_ | wp_step)
  refine codeAny_mono h fun r s' hr => ?_
  cases r with
  | error e => exact hr
  | ok fl =>
    cases fl with
    | ret v =>
      obtain ⟨z, rfl, q⟩ := hr
      show wpAny M A (do let r ← truthy (.bool z); ret (.bool (!r))) Q E s'
      repeat (first | with_reducible refine wpAny_truthy_bool ?_ | wp_step)
      exact q
    | next => exact hr.elim
    | brk => exact hr.elim
    | cont => exact hr.elim
theorem call_ne {b : Value} {Q : Value → Shared → Prop} (hu : A.in1.units < cLine) (X : K.In s.heap) (I : PySem.W.InstAt s.heap x ox C od) (hm : PySem.W.mroIn K C (.type "object") = some true) (hs : PySem.W.findIn K (.ref C) "__eq__" = some (some (.ref f))) (hf : PySem.W.isFn K (.ref f) = true)
    (h : codeAny (model prog w) A.in1 (.call (.ref f) ⟨[.ref x, b], []⟩) (BoolOut (fun r s' => Q (.bool (!r)) s') E) s) : wpAny (model prog w) A (call (.builtin "object.__ne__") [.ref x, b]) Q E s :=
  wpAny_call (codeAny_call_builtin PySem.F.cmp_object.ne.plain PySem.F.cmpEntry_ne (PySem.W.check_slot PySem.F.cmpKind_ne PySem.F.cmpSplit_ne (I.type.andThen (PySem.W.looks_mroIn X hm)) (PySem.F.cmpArgs_ne _ _) (entry_ne hu X I hs hf h)))
theorem ne_K {b tb : Value} {Q : Value → Shared → Prop} (hu : A.units + 1 < cLine) (X : K.In s.heap) (I : PySem.W.InstAt s.heap x ox C od) (hb : PySem.W.Looks (model prog w) s.heap (typeOf b) tb) (hn : PySem.W.notFirst K C tb = true)
    (hm : PySem.W.mroIn K C (.type "object") = some true) (hne : PySem.W.findIn K (.ref C) "__ne__" = some (some (.builtin "object.__ne__"))) (hs : PySem.W.findIn K (.ref C) "__eq__" = some (some (.ref f))) (hf : PySem.W.isFn K (.ref f) = true)
    (h : codeAny (model prog w) A.in1 (.call (.ref f) ⟨[.ref x, b], []⟩) (BoolOut (fun r s' => Q (.bool (!r)) s') E) s) : wpAny (model prog w) A (richCompare .NotEq (.ref x) b) Q E s := by
  have one : wpAny (model prog w) A (tryCompare (.ref x) (cmpInfo .NotEq).2.1 b) (fun r s' => ∃ v : Bool, r = some (.bool v) ∧ Q (.bool v) s') E s := by
    unfold tryCompare
    refine wpAny_bind (ifBound_objNe X I hne (call_ne (by show A.units + 1 < cLine; exact hu) X I hm hs hf (codeAny_mono h fun r s' hr => ?_)))
    cases r with
    | error e => exact hr
    | ok fl =>
      cases fl with
      | ret v =>
        obtain ⟨z, rfl, q⟩ := hr
        exact ⟨z, rfl, wpAny_pure ⟨_, rfl, q⟩⟩
      | next => exact hr.elim
      | brk => exact hr.elim
      | cont => exact hr.elim
  unfold richCompare
  simp only [oneThing_ref]
  refine wpAny_holding (wpAny_bind (wpAny_cRoomFor (Nat.lt_of_succ_lt hu) ?_))
  refine wpAny_bind (I.type.here (wpAny_bind (hb.here ?_)))
  split
  · rename_i q
    have e : PySem.W.subIn K tb (.ref C) = some false := by
      rcases Bool.or_eq_true_iff.mp hn with e | e
      · rw [beq_iff_eq.mp e] at q; simp at q
      · exact beq_iff_eq.mp e
    refine wpAny_bind ((PySem.W.looks_subIn X e).here ?_)
    simp only [Bool.false_eq_true, if_false]
    refine wpAny_bind (wpAny_mono one (fun r s' z => ?_) fun _ _ e => e)
    obtain ⟨v, rfl, hq⟩ := z
    exact wpAny_pure hq
  · refine wpAny_bind (wpAny_pure ?_)
    simp only [Bool.false_eq_true, if_false]
    refine wpAny_bind (wpAny_mono one (fun r s' z => ?_) fun _ _ e => e)
    obtain ⟨v, rfl, hq⟩ := z
    exact wpAny_pure hq
end
/-- the class has its own == and object's != -/
structure OwnCmp (K : PySem.W.Frag) (C f : Addr) : Prop where
  eq : PySem.W.findIn K (.ref C) "__eq__" = some (some (.ref f))
  fn : PySem.W.isFn K (.ref f) = true
  ne : PySem.W.findIn K (.ref C) "__ne__" = some (some (.builtin "object.__ne__"))
  ob : PySem.W.mroIn K C (.type "object") = some true
/-- what the second thing may be: an instance of C, a tuple -/
inductive Snd (C : Addr) (H : Hp) : V → Prop where
  | ins {b dx : Addr} {fs : List (Str × V)} (h : H b = some (.ins C dx fs)) : Snd C H (.ref b)
  | tup {b : Addr} {xs : List V} (h : H b = some (.tup xs)) : Snd C H (.ref b)
def rOwn (C : Addr) (sp : Sp) (E : XK) (neg : Bool) : R2 := fun x y H Q => ∃ (a dx : Addr) (fs : List (Str × V)), x = .ref a ∧ H a = some (.ins C dx fs) ∧ Snd C H y ∧ sp [x, y] H (fun v H' => ∃ b : Bool, v = .bl b ∧ Q (.bl (if neg then !b else b)) H') E
section
variable {X : Cx} {CX : CXT} {n : Nat} {C f : Addr} {fd : FuncData} {ps : List Str} {sp : Sp} {E : XK}
theorem snd_looks {pins : List (Addr × Obj)} {σ : St} {H : Hp} {s : Shared} {y : V} {u : Value} (I : Inv X pins σ H s) (r : RelV y u) (h : Snd C H y) : ∃ t, (∀ M : Model, PySem.W.Looks M s.heap (typeOf u) t) ∧ PySem.W.notFirst X.K C t = true := by
  cases h with
  | ins h =>
    cases r
    obtain ⟨mA, J, _⟩ := ins_get I.hok h
    obtain ⟨od, J, _⟩ := J.look
    exact ⟨_, fun M => J.type, by simp [PySem.W.notFirst]⟩
  | @tup b xs h =>
    cases r
    obtain ⟨its, rr, e, z⟩ := I.tuple (SqT.of h)
    obtain ⟨o, e2, ec, _⟩ := e
    refine ⟨.type "tuple", fun M => by rw [← ec]; exact (PySem.W.Looks.ld e2).andThen .now, ?_⟩
    have q : fastBuiltinMro "tuple" = some [.type "tuple", .type "object"] := by decide +kernel
    have q2 : PySem.W.subIn X.K (.type "tuple") (.ref C) = some false := by
      show (fastBuiltinMro "tuple").map (·.contains (.ref C)) = some false
      rw [q]
      first | rfl | simp
    unfold PySem.W.notFirst
    rw [q2]
    simp
theorem own_code {A : Around} {pins : List (Addr × Obj)} {σ : St} {H : Hp} {s : Shared} {a : Addr} {y : V} {u : Value} {Q : VK} (F : FnOk X.prog X.w X.K X.mg X.base CX n f fd ps sp) (hb : Binds X.K fd ps []) (hr : Room n A) (fr : A.frames = X.A.frames) (hx : Passes CX X E) (I : Inv X pins σ H s) (r : RelV y u)
    (h : sp [.ref a, y] H Q E) : codeAny (model X.prog X.w) A (.call (.ref f) ⟨[.ref a, u], []⟩) (fun r s' => match r with
      | .ok (.ret v) => EP X pins σ Q v s'
      | .ok _ => False
      | .error e => X.xe e s') s := by
  have e0 : Env0 X.prog X.w X.K X.mg X.base A X.stack s H := by
    have e := I.env0
    exact ⟨by rw [fr]; exact e.frames, e.mod, e.bs, e.bsz, e.funs, e.frf, e.hok, e.bare⟩
  have hl := F.len _ _ _ _ h
  have r2 : Vals [V.ref a, y] [Value.ref a, u] := .cons rfl (.cons r .nil)
  refine codeAny_mono (F.run A X.stack s H ⟨[.ref a, u], []⟩ [.ref a, u] [.ref a, y] _ E hr e0 (by
    have := hb s [.ref a, u] I.kIn (by simpa using hl)
    simpa using this) r2 h) fun r s' hq => ?_
  cases r with
  | error e => exact hx pins σ H s e s' I hq
  | ok fl =>
    cases fl with
    | ret w => exact I.after hq
    | next => exact False.elim hq
    | brk => exact False.elim hq
    | cont => exact False.elim hq
theorem op_eqOwn (F : FnOk X.prog X.w X.K X.mg X.base CX n f fd ps sp) (k : OwnCmp X.K C f) (hb : Binds X.K fd ps []) (hr : Room n X.A) (hx : Passes CX X E) : OpR X (compareOp .Eq) (rOwn C sp E false) := by
  intro pins s σ H x y v u Q I rx ry hq
  obtain ⟨a, dx, fs, rfl, ha, hy, hsp⟩ := hq
  cases rx
  obtain ⟨mA, J, _⟩ := ins_get I.hok ha
  obtain ⟨od, J, _⟩ := J.look
  obtain ⟨t, ht, hn⟩ := snd_looks I ry hy
  obtain ⟨m, hF⟩ := I.fr
  show wpAny (model X.prog X.w) X.A (richCompare .Eq (.ref a) u) (EP X pins σ Q) X.xe s
  refine PySem.W.cmp_K (op := .Eq) (tb := t) hr.units0 hF I.ok.mod.kin J (ht _) hn k.eq k.fn ?_
  refine wpAny_call (codeAny_mono (own_code F hb hr rfl hx I ry hsp) fun r s' z => ?_)
  cases r with
  | error e => exact z
  | ok fl =>
    cases fl with
    | ret w =>
      obtain ⟨v, H', I', rz, b, rfl, q⟩ := z
      obtain rfl : w = Value.bool b := rz
      exact ⟨.bl b, H', I', rfl, q⟩
    | next => exact z.elim
    | brk => exact z.elim
    | cont => exact z.elim
theorem op_neOwn (F : FnOk X.prog X.w X.K X.mg X.base CX n f fd ps sp) (k : OwnCmp X.K C f) (hb : Binds X.K fd ps []) (hr : Room (n + 1) X.A) (hx : Passes CX X E) : OpR X (compareOp .NotEq) (rOwn C sp E true) := by
  intro pins s σ H x y v u Q I rx ry hq
  obtain ⟨a, dx, fs, rfl, ha, hy, hsp⟩ := hq
  cases rx
  obtain ⟨mA, J, _⟩ := ins_get I.hok ha
  obtain ⟨od, J, _⟩ := J.look
  obtain ⟨t, ht, hn⟩ := snd_looks I ry hy
  show wpAny (model X.prog X.w) X.A (richCompare .NotEq (.ref a) u) (EP X pins σ Q) X.xe s
  have hu := hr.units
  refine ne_K (tb := t) (by omega) I.kIn J (ht _) hn k.ob k.ne k.eq k.fn ?_
  refine codeAny_mono (own_code F hb hr.in1 rfl hx I ry hsp) fun r s' z => ?_
  cases r with
  | error e => exact z
  | ok fl =>
    cases fl with
    | ret w =>
      obtain ⟨v, H', I', rz, b, rfl, q⟩ := z
      obtain rfl : w = Value.bool b := rz
      exact ⟨b, rfl, .bl (!b), H', I', rfl, q⟩
    | next => exact z.elim
    | brk => exact z.elim
    | cont => exact z.elim
end
/-- .. as a Bool -/
def ownB (K : PySem.W.Frag) (C : Addr) : Bool := He.eqO (PySem.W.findIn K (.ref C) "__eq__") (some (some (.ref (He.ma K C "__eq__")))) && (PySem.W.isFn K (.ref (He.ma K C "__eq__")) && (He.eqO (PySem.W.findIn K (.ref C) "__ne__") (some (some (.builtin "object.__ne__"))) && decide (PySem.W.mroIn K C (.type "object") = some true)))
theorem own_of {K : PySem.W.Frag} {C : Addr} (h : ownB K C = true) : OwnCmp K C (He.ma K C "__eq__") := by
  obtain ⟨h1, h⟩ := He.ba h
  obtain ⟨h2, h⟩ := He.ba h
  obtain ⟨h3, h4⟩ := He.ba h
  exact ⟨He.eqO_ok h1, h2, He.eqO_ok h3, of_decide_eq_true h4⟩
end L2
set_option maxRecDepth 100000
set_option maxHeartbeats 1000000
/-! list(zip(a, b)): zip's next while its pair is held, the list's loop. -/
namespace Lz
open PySem
section
variable {prog : Program} {w : World} {A : Around} {E : Value → Shared → Prop} {s : Shared} {z TI TO i1 i2 : Addr} {fp1 fp2 : List Addr} {n1 n2 i : Nat} {P1 P2 : Nat → Value → Prop} {St1 St2 : Nat → Heap → Prop} {a1 a2 : Value}

theorem held_item {T : Addr} {f : Bool} {oT : Obj} {Q : Value → Shared → Prop} (S : ZipSep2 z TI TO i1 i2 fp1 fp2) (D1 : Draws prog w A i1 fp1 n1 P1 St1) (D2 : Draws prog w A i2 fp2 n2 P2 St2)
    (hz : IsZipHeld s.heap z TI TO T f) (hT : s.heap.get? T = some oT) (hTI : IsTupOf2 s.heap TI (.ref i1) (.ref i2)) (st1 : St1 i s.heap) (st2 : St2 i s.heap) (hlt1 : i < n1) (hlt2 : i < n2)
    (hQ : ∀ x1 x2 h' tk, P1 i x1 → P2 i x2 → IsZipHeld h' z TI TO T true → St1 (i + 1) h' → St2 (i + 1) h' → IsTupOf2 h' s.heap.objs.size x1 x2 → h'.objs.size = s.heap.objs.size + 1 →
      (∀ c o, c ≠ z → c ≠ TO → c ≠ i1 → c ≠ i2 → s.heap.get? c = some o → h'.get? c = some o) → (∀ o, s.heap.get? TO = some o → h'.get? TO = some o) → Q (.ref s.heap.objs.size) { s with heap := h', toks := tk }) :
    wpAny (model prog w) A (Builtin.«zip.__next__» ⟨[.ref z], []⟩) (fun fin s' => ∃ v, fin = .done (.ret v) ∧ Q v s') E s := by
  obtain ⟨hp, g, d, tk0, os⟩ := s
  show wpAny _ _ (field (.ref z) 2 >>= _) _ _ _
  refine wpAny_bind (wpAny_field hz rfl (x := .bool false) rfl ?_)
  show wpAny _ _ (field (.ref z) 3 >>= _) _ _ _
  refine wpAny_bind (wpAny_field hz rfl (x := .ref TI) rfl ?_)
  refine wpAny_bind (wpAny_seqItems hTI rfl ?_)
  show wpAny _ _ (Builtin.SmallTypes.ownedTupleIsFree (.ref z) >>= _) _ _ _
  refine wpAny_bind (wpAny_tupleHeld_zip hz hT fun g0 hz0 hs0 => ?_)
  simp only [Bool.false_eq_true, if_false]
  replace hs0 : Heap.SameBut z hp g0 := hs0
  refine wpAny_bind ?_
  rw [← Array.forIn_toList]
  simp only [List.forIn_cons, List.forIn_nil]
  refine wpAny_bind (wpAny_bind (wpAny_holding ?_))
  show wpAny _ _ (Builtin.SmallTypes.nextOf (.ref i1) >>= _) _ _ ⟨g0, g, d, tk0, os⟩
  refine wpAny_bind (D1.item i _ _ _ hlt1 (D1.over st1 hs0 S.zf1) fun x1 p1 tk1 hx1 sn1 hp1 => wpAny_pure ?_)
  replace hp1 : Heap.SameBut i1 g0 p1 := hp1
  refine wpAny_pure ?_
  refine wpAny_bind (wpAny_bind (wpAny_holding ?_))
  show wpAny _ _ (Builtin.SmallTypes.nextOf (.ref i2) >>= _) _ _ ⟨p1, g, d, tk1, os⟩
  refine wpAny_bind (D2.item i _ _ _ hlt2 (D2.over (D2.over st2 hs0 S.zf2) hp1 S.sep1_2) fun x2 p2 tk2 hx2 sn2 hp2 => wpAny_pure ?_)
  replace hp2 : Heap.SameBut i2 p1 p2 := hp2
  refine wpAny_pure (wpAny_pure ?_)
  show wpAny _ _ (newTuple [x1, x2] >>= _) _ _ ⟨p2, g, d, tk2, os⟩
  refine wpAny_bind (wpAny_newTuple ?_)
  have hsz : p2.objs.size = hp.objs.size := by rw [hp2.1, hp1.1, hs0.1]
  have hz2 : IsZipHeld p2 z TI TO T true := hp2.extBut _ _ S.zi2 (hp1.extBut _ _ S.zi1 hz0)
  have hk : ∀ c o, c ≠ z → c ≠ i1 → c ≠ i2 → hp.get? c = some o → p2.get? c = some o := fun c o c1 c2 c3 e => hp2.extBut _ _ c3 (hp1.extBut _ _ c2 (hs0.extBut _ _ c1 e))
  refine wpAny_pure ⟨_, rfl, ?_⟩
  show Q (.ref p2.objs.size) ⟨p2.push { cls := .type "tuple", data := .seq #[x1, x2] }, g, d, tk2, os⟩
  have hT' : IsTupOf2 (p2.push { cls := .type "tuple", data := .seq #[x1, x2] }) p2.objs.size x1 x2 := Heap.get?_push_size _ rfl
  have hz4 : (p2.push { cls := .type "tuple", data := .seq #[x1, x2] }).objs.size = p2.objs.size + 1 := Heap.size_push ..
  have up : ∀ c o, p2.get? c = some o → (p2.push { cls := .type "tuple", data := .seq #[x1, x2] }).get? c = some o := fun c o e => Heap.get?_push_of_some _ e
  generalize p2.push { cls := .type "tuple", data := .seq #[x1, x2] } = q2 at hT' hz4 up ⊢
  rw [hsz] at hT' hz4 ⊢
  exact hQ x1 x2 q2 tk2 hx1 hx2 (up _ _ hz2) (D1.frame _ _ _ (D1.over sn1 hp2 S.sep2_1) fun b _ o e => up b o e) (D2.frame _ _ _ sn2 fun b _ o e => up b o e) hT' hz4
    (fun c o c1 _ c3 c4 e => up c o (hk c o c1 c3 c4 e)) fun o e => up _ o (hk _ o S.TOz S.Ti1 S.Ti2 e)

theorem held_end {T : Addr} {f : Bool} {oT : Obj} {Q : Fin → Shared → Prop} (S : ZipSep2 z TI TO i1 i2 fp1 fp2) (D1 : Draws prog w A i1 fp1 n1 P1 St1) (D2 : Draws prog w A i2 fp2 n2 P2 St2)
    (hz : IsZipHeld s.heap z TI TO T f) (hT : s.heap.get? T = some oT) (hTI : IsTupOf2 s.heap TI (.ref i1) (.ref i2)) (st1 : St1 i s.heap) (st2 : St2 i s.heap) (hle1 : i ≤ n1) (hle2 : i ≤ n2) (hend : i = n1 ∨ i = n2)
    (hE : ∀ h' tk e, (∀ c o, c ≠ z → c ≠ TO → c ≠ i1 → c ≠ i2 → s.heap.get? c = some o → h'.get? c = some o) → (∃ o, h'.get? e = some o ∧ o.cls = .type "StopIteration") → E (.ref e) { s with heap := h', toks := tk }) :
    wpAny (model prog w) A (Builtin.«zip.__next__» ⟨[.ref z], []⟩) Q E s := by
  obtain ⟨hp, g, d, tk0, os⟩ := s
  show wpAny _ _ (field (.ref z) 2 >>= _) _ _ _
  refine wpAny_bind (wpAny_field hz rfl (x := .bool false) rfl ?_)
  show wpAny _ _ (field (.ref z) 3 >>= _) _ _ _
  refine wpAny_bind (wpAny_field hz rfl (x := .ref TI) rfl ?_)
  refine wpAny_bind (wpAny_seqItems hTI rfl ?_)
  show wpAny _ _ (Builtin.SmallTypes.ownedTupleIsFree (.ref z) >>= _) _ _ _
  refine wpAny_bind (wpAny_tupleHeld_zip hz hT fun g0 hz0 hs0 => ?_)
  simp only [Bool.false_eq_true, if_false]
  replace hs0 : Heap.SameBut z hp g0 := hs0
  refine wpAny_bind ?_
  rw [← Array.forIn_toList]
  simp only [List.forIn_cons, List.forIn_nil]
  refine wpAny_bind (wpAny_bind (wpAny_holding ?_))
  show wpAny _ _ (Builtin.SmallTypes.nextOf (.ref i1) >>= _) _ _ ⟨g0, g, d, tk0, os⟩
  by_cases hlt1 : i < n1
  · refine wpAny_bind (D1.item i _ _ _ hlt1 (D1.over st1 hs0 S.zf1) fun x1 p1 tk1 hx1 sn1 hp1 => wpAny_pure ?_)
    replace hp1 : Heap.SameBut i1 g0 p1 := hp1
    have hi2 : i = n2 := by omega
    refine wpAny_pure ?_
    refine wpAny_bind (wpAny_bind (wpAny_holding ?_))
    show wpAny _ _ (Builtin.SmallTypes.nextOf (.ref i2) >>= _) _ _ ⟨p1, g, d, tk1, os⟩
    refine wpAny_bind (D2.done ⟨p1, g, d, tk1, os⟩ _ _ (by rw [← hi2]; exact (D2.over (D2.over st2 hs0 S.zf2) hp1 S.sep1_2)) fun q e hq he => ?_)
    replace hq : Heap.ExtBut i2 p1 q := hq
    exact hE q tk1 e (fun c o cz _ c1 c2 x => hq _ _ c2 (hp1.extBut _ _ c1 (hs0.extBut _ _ cz x))) he
  · have hi1 : i = n1 := by omega
    refine wpAny_bind (D1.done ⟨g0, g, d, tk0, os⟩ _ _ (by rw [← hi1]; exact (D1.over st1 hs0 S.zf1)) fun q e hq he => ?_)
    replace hq : Heap.ExtBut i1 g0 q := hq
    exact hE q tk0 e (fun c o cz _ c1 _ x => hq _ _ c1 (hs0.extBut _ _ cz x)) he

/-- a zip on its way, its pair out or not -/
def ZlSt (z TI TO i1 i2 S : Addr) (St1 St2 : Nat → Heap → Prop) (i : Nat) (h : Heap) : Prop :=
  IsTupOf2 h TI (.ref i1) (.ref i2) ∧ (∃ a1 a2, IsTupOf2 h TO a1 a2) ∧ St1 i h ∧ St2 i h ∧
    (IsZip h z TI TO .none ∨ ∃ T f oT, IsZipHeld h z TI TO T f ∧ h.get? T = some oT ∧ T ≠ z ∧ T ≠ TO ∧ T ≠ i1 ∧ T ≠ i2 ∧ T ≠ S)
theorem zl_item {LS : Addr} {Q : Option Value → Shared → Prop} (S : ZipSep2 z TI TO i1 i2 fp1 fp2) (D1 : Draws prog w A.in1 i1 fp1 n1 P1 St1) (D2 : Draws prog w A.in1 i2 fp2 n2 P2 St2)
    (st : ZlSt z TI TO i1 i2 LS St1 St2 i s.heap) (hLS : LS < s.heap.objs.size) (hlt1 : i < n1) (hlt2 : i < n2)
    (hQ : ∀ x1 x2 h' tk, P1 i x1 → P2 i x2 → ZlSt z TI TO i1 i2 LS St1 St2 (i + 1) h' → IsTupOf2 h' s.heap.objs.size x1 x2 → h'.objs.size = s.heap.objs.size + 1 →
      (∀ c o, c ≠ z → c ≠ TO → c ≠ i1 → c ≠ i2 → s.heap.get? c = some o → h'.get? c = some o) → Q (some (.ref s.heap.objs.size)) { s with heap := h', toks := tk }) :
    wpAny (model prog w) A (pyNext (.ref z)) Q E s := by
  obtain ⟨hTI, ⟨a1, a2, hTO⟩, st1, st2, hz⟩ := st
  have ne1 : ∃ o, s.heap.get? i1 = some o := D1.live _ _ st1
  have ne2 : ∃ o, s.heap.get? i2 = some o := D2.live _ _ st2
  have gt : ∀ {c : Addr} {o : Obj}, s.heap.get? c = some o → s.heap.objs.size ≠ c := fun e => Nat.ne_of_gt (Heap.lt_size e)
  rcases hz with hz | ⟨T, f, oT, hz, hT, t1, t2, t3, t4, t5⟩
  · refine wpAny_pyNext_zipD2_item S D1 D2 hz hTI hTO st1 st2 hlt1 hlt2 fun x1 x2 h' tk y1 y2 b1 b2 d1 d2 b5 b6 hk => ?_
    obtain ⟨o1, e1⟩ := ne1
    obtain ⟨o2, e2⟩ := ne2
    exact hQ x1 x2 h' tk y1 y2 ⟨hk _ _ S.TIz S.TITO S.TIi1 S.TIi2 hTI, ⟨_, _, b2⟩, d1, d2, .inr ⟨s.heap.objs.size, false, _, b1, b5, gt hz, gt hTO, gt e1, gt e2, Nat.ne_of_gt hLS⟩⟩ b5 b6 hk
  · have hTy : s.TypeIs (.ref z) "zip" := ⟨_, hz, rfl⟩
    unfold pyNext
    refine wpAny_bind (wpAny_attempt (wpAny_callSpecial?_slot (name := Str.ofString "__next__") hTy F.slot_zip_next
      (wpAny_call_entry F.slot_zip_next hTy F.entry_zip_next (held_item S D1 D2 hz hT hTI st1 st2 hlt1 hlt2 fun x1 x2 h' tk y1 y2 b1 d1 d2 b5 b6 hk hO => wpAny_pure ?_) (F.args_zip_next_1 _))))
    exact hQ x1 x2 h' tk y1 y2 ⟨hk _ _ S.TIz S.TITO S.TIi1 S.TIi2 hTI, ⟨_, _, hO _ hTO⟩, d1, d2, .inr ⟨T, true, oT, b1, hk T oT t1 t2 t3 t4 hT, t1, t2, t3, t4, t5⟩⟩ b5 b6 hk
theorem zl_done {LS : Addr} {Q : Option Value → Shared → Prop} (S : ZipSep2 z TI TO i1 i2 fp1 fp2) (D1 : Draws prog w A.in1 i1 fp1 n1 P1 St1) (D2 : Draws prog w A.in1 i2 fp2 n2 P2 St2)
    (st : ZlSt z TI TO i1 i2 LS St1 St2 i s.heap) (hle1 : i ≤ n1) (hle2 : i ≤ n2) (hend : i = n1 ∨ i = n2)
    (hQ : ∀ h' tk, (∀ c o, c ≠ z → c ≠ TO → c ≠ i1 → c ≠ i2 → s.heap.get? c = some o → h'.get? c = some o) → Q none { s with heap := h', toks := tk }) : wpAny (model prog w) A (pyNext (.ref z)) Q E s := by
  obtain ⟨hTI, ⟨a1, a2, hTO⟩, st1, st2, hz⟩ := st
  rcases hz with hz | ⟨T, f, oT, hz, hT, t1, t2, t3, t4, t5⟩
  · exact wpAny_pyNext_zipD2_end S D1 D2 hz hTI hTO st1 st2 hle1 hle2 hend hQ
  · have hTy : s.TypeIs (.ref z) "zip" := ⟨_, hz, rfl⟩
    unfold pyNext
    refine wpAny_bind (wpAny_attempt (wpAny_callSpecial?_slot (name := Str.ofString "__next__") hTy F.slot_zip_next
      (wpAny_call_entry F.slot_zip_next hTy F.entry_zip_next (held_end S D1 D2 hz hT hTI st1 st2 hle1 hle2 hend fun h' tk e hk he => ?_) (F.args_zip_next_1 _))))
    obtain ⟨o, ho, hc⟩ := he
    refine wpAny_bind (wpAny_isInstance (T := "StopIteration") (b := true) ⟨o, ho, hc⟩ isSubtype_stop ?_)
    exact wpAny_pure (hQ _ _ hk)

/-- the pairs made so far, at rising addresses -/
structure ZlG (P1 P2 : Nat → Value → Prop) (lo : Addr) (h : Heap) (as : List Addr) : Prop where
  rise : as.Pairwise (· < ·)
  above : ∀ a ∈ as, lo < a
  pairs : ∀ (j : Nat) (a : Addr), as[j]? = some a → ∃ x1 x2, P1 j x1 ∧ P2 j x2 ∧ IsTupOf2 h a x1 x2
theorem ZlG.there {lo : Addr} {h : Heap} {as : List Addr} (g : ZlG P1 P2 lo h as) {a : Addr} (ha : a ∈ as) : a < h.objs.size := by
  obtain ⟨j, hj⟩ := List.mem_iff_getElem?.mp ha
  obtain ⟨_, _, _, _, e⟩ := g.pairs j a hj
  exact Heap.lt_size e
end
section
variable {prog : Program} {w : World} {A : Around} {s : Shared} {R : Result → Shared → Prop} {z TI TO i1 i2 : Addr} {fp1 fp2 : List Addr} {n1 n2 : Nat} {P1 P2 : Nat → Value → Prop} {St1 St2 : Nat → Heap → Prop}
theorem ZlSt.keep {h h' : Heap} {LS : Addr} {i : Nat} (D1 : Draws prog w A i1 fp1 n1 P1 St1) (D2 : Draws prog w A i2 fp2 n2 P2 St2) (st : ZlSt z TI TO i1 i2 LS St1 St2 i h) (k : ∀ b o, b ≠ LS → h.get? b = some o → h'.get? b = some o)
    (e1 : z ≠ LS) (e2 : TI ≠ LS) (e3 : TO ≠ LS) (f1 : LS ∉ fp1) (f2 : LS ∉ fp2) : ZlSt z TI TO i1 i2 LS St1 St2 i h' := by
  obtain ⟨hTI, ⟨a1, a2, hTO⟩, st1, st2, hz⟩ := st
  refine ⟨k _ _ e2 hTI, ⟨a1, a2, k _ _ e3 hTO⟩, D1.frame _ _ _ st1 fun b hb o e => k b o (fun q => f1 (q ▸ hb)) e, D2.frame _ _ _ st2 fun b hb o e => k b o (fun q => f2 (q ▸ hb)) e, ?_⟩
  rcases hz with hz | ⟨T, f, oT, hz, hT, t1, t2, t3, t4, t5⟩
  · exact .inl (k _ _ e1 hz)
  · exact .inr ⟨T, f, oT, k _ _ e1 hz, k _ _ t5 hT, t1, t2, t3, t4, t5⟩
theorem zl_loop {LS : Addr} (S : ZipSep2 z TI TO i1 i2 fp1 fp2) (D1 : Draws prog w A.in1.in1 i1 fp1 n1 P1 St1) (D2 : Draws prog w A.in1.in1 i2 fp2 n2 P2 St2) (b1 : z < LS) (b2 : TI < LS) (b3 : TO < LS) (b4 : i1 < LS) (b5 : i2 < LS) (f1 : LS ∉ fp1) (f2 : LS ∉ fp2) (hn : min n1 n2 ≤ sizeLine) (res : Value) {h₁ : Heap}
    (hR : ∀ h' tk acc c as, (∀ b o, b ≠ LS → b ≠ z → b ≠ TO → b ≠ i1 → b ≠ i2 → h₁.get? b = some o → h'.get? b = some o) → h'.get? LS = some { cls := .type "list", dict := none, data := .seq acc c, slots := #[] } → as.length = min n1 n2 → ZlG P1 P2 LS h' as →
      acc.toList = as.map Value.ref → R (.ok (.ret res)) { s with heap := h', toks := tk }) :
    ∀ (k i : Nat) (h : Heap) (tk c : Nat) (acc : Array Value) (as : List Addr), min n1 n2 - i = k → i ≤ min n1 n2 → ZlSt z TI TO i1 i2 LS St1 St2 i h → (∀ b o, b ≠ LS → b ≠ z → b ≠ TO → b ≠ i1 → b ≠ i2 → h₁.get? b = some o → h.get? b = some o) →
      h.get? LS = some { cls := .type "list", dict := none, data := .seq acc c, slots := #[] } → acc.toList = as.map Value.ref → as.length = i → ZlG P1 P2 LS h as →
      codeAny (model prog w) A (.builtin "list.extend.loop" ⟨[.ref LS, .ref z, res], []⟩) R { s with heap := h, toks := tk } := by
  intro k
  induction k with
  | zero =>
    intro i h tk c acc as hk hi hst hkeep hS hacc hal hG
    have hin : i = min n1 n2 := by omega
    refine codeAny_builtin PySem.F.entry_extend_loop ?_
    rw [Around.under_plainId PySem.F.plain_extend_loop _]
    show wpAny _ A.in1 (pyNext (.ref z) >>= _) _ _ _
    refine wpAny_bind (zl_done (s := { s with heap := h, toks := tk }) (A := A.in1) S D1 D2 hst (by omega) (by omega) (by omega) fun h' tk' he => ?_)
    refine wpAny_pure (hR h' tk' acc c as (fun b o q1 q2 q3 q4 q5 e => he b o q2 q3 q4 q5 (hkeep b o q1 q2 q3 q4 q5 e)) (he LS _ (Nat.ne_of_gt b1) (Nat.ne_of_gt b3) (Nat.ne_of_gt b4) (Nat.ne_of_gt b5) hS) (by omega) ⟨hG.rise, hG.above, fun j a hj => ?_⟩ hacc)
    obtain ⟨x1, x2, e1, e2, e3⟩ := hG.pairs j a hj
    have hb := hG.above a (List.mem_of_getElem? hj)
    exact ⟨x1, x2, e1, e2, he a _ (Nat.ne_of_gt (Nat.lt_trans b1 hb)) (Nat.ne_of_gt (Nat.lt_trans b3 hb)) (Nat.ne_of_gt (Nat.lt_trans b4 hb)) (Nat.ne_of_gt (Nat.lt_trans b5 hb)) e3⟩
  | succ k ih =>
    intro i h tk c acc as hk hi hst hkeep hS hacc hal hG
    have hsz : acc.size = i := by rw [← Array.length_toList, hacc, List.length_map, hal]
    have hSl : LS < h.objs.size := Heap.lt_size hS
    refine codeAny_builtin PySem.F.entry_extend_loop ?_
    rw [Around.under_plainId PySem.F.plain_extend_loop _]
    show wpAny _ A.in1 (pyNext (.ref z) >>= _) _ _ _
    refine wpAny_bind (zl_item (s := { s with heap := h, toks := tk }) (A := A.in1) S D1 D2 hst hSl (by omega) (by omega) fun x1 x2 h' tk' y1 y2 hst' ht hz hkp => ?_)
    dsimp only at ht hz hkp ⊢
    have hS' := hkp LS _ (Nat.ne_of_gt b1) (Nat.ne_of_gt b3) (Nat.ne_of_gt b4) (Nat.ne_of_gt b5) hS
    have up : ∀ b o, b ≠ LS → h'.get? b = some o → (h'.update LS (Obj.mapSeq (·.push (Value.ref h.objs.size)))).get? b = some o := fun b o hb e => (Heap.get?_update_other _ _ (Ne.symm hb)).trans e
    show wpAny _ A.in1 (updateSeq LS (·.push (Value.ref h.objs.size)) >>= _) _ _ _
    refine wpAny_bind ?_
    refine wpAny_updateSeq hS' rfl (wpAny_pure ⟨plainId_quiet PySem.F.plain_extend_loop _, ih (i + 1) _ tk' _ (acc.push (Value.ref h.objs.size)) (as ++ [h.objs.size]) (by omega) (by omega)
      (hst'.keep D1 D2 up (Nat.ne_of_lt b1) (Nat.ne_of_lt b2) (Nat.ne_of_lt b3) f1 f2)
      (fun b o q1 q2 q3 q4 q5 e => up b o q1 (hkp b o q2 q3 q4 q5 (hkeep b o q1 q2 q3 q4 q5 e))) (Heap.get?_update_self _ hS' rfl) (by rw [Array.toList_push, hacc, List.map_append]; rfl) (by rw [List.length_append, hal]; rfl) ⟨?_, ?_, ?_⟩⟩) (by rw [hsz]; omega) (by show (acc.push (Value.ref h.objs.size)).size ≤ sizeLine + 1; rw [Array.size_push, hsz]; omega)
    · refine List.pairwise_append.mpr ⟨hG.rise, List.pairwise_singleton _ _, fun a ha b hb => ?_⟩
      rw [List.mem_singleton.mp hb]
      exact hG.there ha
    · intro a ha
      rcases List.mem_append.mp ha with ha | ha
      · exact hG.above a ha
      · rw [List.mem_singleton.mp ha]; exact hSl
    · intro j b hj
      rcases Nat.lt_trichotomy j as.length with q1 | q1 | q1
      · rw [List.getElem?_append_left q1] at hj
        obtain ⟨x1', x2', e1, e2, e3⟩ := hG.pairs j b hj
        have hb := hG.above b (List.mem_of_getElem? hj)
        exact ⟨x1', x2', e1, e2, up b _ (Nat.ne_of_gt hb) (hkp b _ (Nat.ne_of_gt (Nat.lt_trans b1 hb)) (Nat.ne_of_gt (Nat.lt_trans b3 hb)) (Nat.ne_of_gt (Nat.lt_trans b4 hb)) (Nat.ne_of_gt (Nat.lt_trans b5 hb)) e3)⟩
      · subst q1
        have hb : h.objs.size = b := by simpa using hj
        subst hb
        exact ⟨x1, x2, by rw [hal]; exact y1, by rw [hal]; exact y2, up _ _ (Nat.ne_of_gt hSl) ht⟩
      · have hnone : (as ++ [h.objs.size])[j]? = none := List.getElem?_eq_none (by rw [List.length_append, List.length_singleton]; omega)
        rw [hnone] at hj; cases hj
end
theorem zl_no_len : typeLookup (.type "zip") "__len__" = pure none := am_miss_of_fast (by decide +kernel)
theorem zl_no_hint : typeLookup (.type "zip") "__length_hint__" = pure none := am_miss_of_fast (by decide +kernel)
section
variable {prog : Program} {w : World} {A : Around} {E : Value → Shared → Prop} {s : Shared} {z TI TO i1 i2 : Addr} {fp1 fp2 : List Addr} {n1 n2 : Nat} {P1 P2 : Nat → Value → Prop} {St1 St2 : Nat → Heap → Prop}
theorem zl_hint {r : Addr} (hT : s.TypeIs (.ref r) "zip") {Q : Bool → Shared → Prop} (h : Q true s) : wpAny (model prog w) A (Builtin.List.listLengthHint (.ref r)) Q E s := by
  unfold Builtin.List.listLengthHint
  show wpAny _ A (specialOf (Value.ref r) (Str.ofString "__len__") >>= _) _ _ _
  refine wpAny_bind (wpAny_specialOf hT zl_no_len ?_)
  show wpAny _ A (specialOf (Value.ref r) (Str.ofString "__length_hint__") >>= _) _ _ _
  refine wpAny_bind (wpAny_specialOf hT zl_no_hint ?_)
  exact wpAny_pure h
theorem zl_extend {R : Result → Shared → Prop} {LS : Addr} (S : ZipSep2 z TI TO i1 i2 fp1 fp2) (D1 : Draws prog w A.in1.in1 i1 fp1 n1 P1 St1) (D2 : Draws prog w A.in1.in1 i2 fp2 n2 P2 St2) (b1 : z < LS) (b2 : TI < LS) (b3 : TO < LS) (b4 : i1 < LS) (b5 : i2 < LS) (f1 : LS ∉ fp1) (f2 : LS ∉ fp2) (hn : min n1 n2 ≤ sizeLine)
    (hz : IsZip s.heap z TI TO .none) (hst : ZlSt z TI TO i1 i2 LS St1 St2 0 s.heap) (res : Value) (c₀ : Nat) (hS : s.heap.get? LS = some { cls := .type "list", data := .seq #[] c₀ })
    (hR : ∀ h' tk acc c as, (∀ b o, b ≠ LS → b ≠ z → b ≠ TO → b ≠ i1 → b ≠ i2 → s.heap.get? b = some o → h'.get? b = some o) → h'.get? LS = some { cls := .type "list", dict := none, data := .seq acc c, slots := #[] } → as.length = min n1 n2 → ZlG P1 P2 LS h' as →
      acc.toList = as.map Value.ref → R (.ok (.ret res)) { s with heap := h', toks := tk }) :
    wpAny (model prog w) A.in1 (Builtin.List.listExtendWith (.ref LS) (.ref z) res)
      (fun fin s' => match fin with | .done f => R (.ok f) s' | .again c' => c'.quiet = true ∧ codeAny (model prog w) A c' R s') (fun e s' => R (.error e) s') s := by
  have hTy : s.TypeIs (.ref z) "zip" := ⟨_, hz, rfl⟩
  unfold Builtin.List.listExtendWith
  refine wpAny_bind (wpAny_typeOf (T := "zip") hTy ?_)
  have h1 : Builtin.List.listSameRef (.ref LS) (.ref z) = false := by simp [Builtin.List.listSameRef, Nat.ne_of_gt b1]
  have h2 : (Value.type "zip" == Value.type "list") = false := by decide
  have h3 : (Value.type "zip" == Value.type "tuple") = false := by decide
  simp only [h1, h2, h3, Bool.or_false, Bool.false_eq_true, if_false]
  refine wpAny_bind (wpAny_pyIter_zip hz ?_)
  refine wpAny_bind (wpAny_holding (zl_hint hTy ?_))
  refine wpAny_ite_split (fun _ => ?_) (fun hab => absurd rfl hab)
  refine wpAny_bind (wpAny_rule ?_)
  refine wpAny_bind ?_
  show wpAny _ _ (updateSeq LS (·.push .none) >>= fun _ => updateSeq LS (·.pop)) _ _ _
  refine wpAny_bind (wpAny_updateSeq hS rfl ?_)
  have hS₂ := Heap.get?_update_self (Obj.mapSeq (·.push Value.none)) hS rfl
  refine wpAny_updateSeq (hz := by seq_fits) hS₂ rfl ?_
  have hS₃ := Heap.get?_update_self (Obj.mapSeq (·.pop)) hS₂ rfl
  have oth : ∀ b o, b ≠ LS → s.heap.get? b = some o → ((s.heap.update LS (Obj.mapSeq (·.push Value.none))).update LS (Obj.mapSeq (·.pop))).get? b = some o := fun b o hb e => (Heap.get?_update_other _ _ (Ne.symm hb)).trans ((Heap.get?_update_other _ _ (Ne.symm hb)).trans e)
  refine wpAny_pure ⟨plainId_quiet PySem.F.plain_extend_loop _, ?_⟩
  exact zl_loop (s := s) (h₁ := s.heap) S D1 D2 b1 b2 b3 b4 b5 f1 f2 hn res hR (min n1 n2) 0 _ s.toks _ #[] [] (Nat.sub_zero _) (Nat.zero_le _)
    (hst.keep D1 D2 oth (Nat.ne_of_lt b1) (Nat.ne_of_lt b2) (Nat.ne_of_lt b3) f1 f2) (fun b o q1 _ _ _ _ e => oth b o q1 e) hS₃ rfl rfl ⟨List.Pairwise.nil, (fun _ ha => nomatch ha), (fun j a hj => by simp at hj)⟩
theorem zl_call {Q : Value → Shared → Prop} (S : ZipSep2 z TI TO i1 i2 fp1 fp2) (D1 : ∀ A' : Around, A'.handled = none → Draws prog w A' i1 fp1 n1 P1 St1) (D2 : ∀ A' : Around, A'.handled = none → Draws prog w A' i2 fp2 n2 P2 St2) (hh : A.handled = none) (hn : min n1 n2 ≤ sizeLine)
    (g1 : ∀ b ∈ fp1, b < s.heap.objs.size) (g2 : ∀ b ∈ fp2, b < s.heap.objs.size) (hz : IsZip s.heap z TI TO .none) (hTI : IsTupOf2 s.heap TI (.ref i1) (.ref i2)) (hTO : ∃ a1 a2, IsTupOf2 s.heap TO a1 a2) (st1 : St1 0 s.heap) (st2 : St2 0 s.heap)
    (hQ : ∀ h' tk acc c as, (∀ b o, b ≠ z → b ≠ TO → b ≠ i1 → b ≠ i2 → s.heap.get? b = some o → h'.get? b = some o) → h'.get? s.heap.objs.size = some { cls := .type "list", dict := none, data := .seq acc c, slots := #[] } → as.length = min n1 n2 → ZlG P1 P2 s.heap.objs.size h' as →
      acc.toList = as.map Value.ref → Q (.ref s.heap.objs.size) { s with heap := h', toks := tk }) :
    wpAny (model prog w) A (call (.type "list") [.ref z]) Q E s := by
  refine callType_codes (Q₁ := fun obj s₁ => obj = .ref s.heap.objs.size ∧ s₁ = { s with heap := s.heap.push { cls := .type "list", data := .seq #[] } }) PySem.F.called_list (PySem.F.typeCall_list_1 _) PySem.F.entry_list_init
    (code_list_new _ ⟨rfl, rfl⟩) fun obj s₁ h₁ => ?_
  obtain ⟨rfl, rfl⟩ := h₁
  obtain ⟨a1, a2, hTO⟩ := hTO
  have hS : (s.heap.push { cls := .type "list", data := .seq #[] }).get? s.heap.objs.size = some { cls := .type "list", data := .seq #[] } := Heap.get?_push_size _ rfl
  have lz : z < s.heap.objs.size := Heap.lt_size hz
  have lI : TI < s.heap.objs.size := Heap.lt_size hTI
  have lO : TO < s.heap.objs.size := Heap.lt_size hTO
  have l1 : i1 < s.heap.objs.size := g1 _ S.mem1
  have l2 : i2 < s.heap.objs.size := g2 _ S.mem2
  refine ⟨⟨_, hS, rfl⟩, PySem.F.args_list_init_2 _ _, ?_⟩
  have oth₁ : ∀ b o, s.heap.get? b = some o → (s.heap.push { cls := .type "list", data := .seq #[] }).get? b = some o := fun b o e => Heap.get?_push_of_some _ e
  show wpAny _ _ (do let old ← Builtin.List.listItems (.ref s.heap.objs.size); Builtin.List.listUpdate (.ref s.heap.objs.size) (fun _ => #[]); letGo old.toList.reverse; Builtin.List.listExtendWith (.ref s.heap.objs.size) (.ref z) .none) _ _ _
  refine wpAny_bind ?_
  unfold Builtin.List.listItems
  refine wpAny_bind (wpAny_seqItems hS rfl (wpAny_pure ?_))
  show wpAny _ _ (updateSeq s.heap.objs.size (fun _ => #[]) >>= fun _ => letGo (#[] : Array Value).toList.reverse >>= fun _ => Builtin.List.listExtendWith (.ref s.heap.objs.size) (.ref z) .none) _ _ _
  refine wpAny_bind (wpAny_updateSeq hS rfl ?_)
  have hS₂ := Heap.get?_update_self (Obj.mapSeq (fun _ => (#[] : Array Value))) hS rfl
  have oth : ∀ b o, b ≠ s.heap.objs.size → s.heap.get? b = some o → ((s.heap.push { cls := .type "list", data := .seq #[] }).update s.heap.objs.size (Obj.mapSeq (fun _ => (#[] : Array Value)))).get? b = some o :=
    fun b o hb e => (Heap.get?_update_other _ _ (Ne.symm hb)).trans (oth₁ b o e)
  refine wpAny_bind (wpAny_letGo ?_)
  have f1 : s.heap.objs.size ∉ fp1 := fun q => Nat.lt_irrefl _ (g1 _ q)
  have f2 : s.heap.objs.size ∉ fp2 := fun q => Nat.lt_irrefl _ (g2 _ q)
  have d1 := D1 A.in1.in1.in1 hh
  have d2 := D2 A.in1.in1.in1 hh
  have st : ZlSt z TI TO i1 i2 s.heap.objs.size St1 St2 0 s.heap := ⟨hTI, ⟨a1, a2, hTO⟩, st1, st2, .inl hz⟩
  refine zl_extend (A := A.in1) S d1 d2 lz lI lO l1 l2 f1 f2 hn (oth _ _ (Nat.ne_of_lt lz) hz) (st.keep d1 d2 oth (Nat.ne_of_lt lz) (Nat.ne_of_lt lI) (Nat.ne_of_lt lO) f1 f2) .none _ hS₂ fun h' tk acc c as hk hS' hl hG hacc => ?_
  exact ⟨rfl, hQ h' tk acc c as (fun b o q1 q2 q3 q4 e => hk b o (Nat.ne_of_lt (Heap.lt_size e)) q1 q2 q3 q4 (oth b o (Nat.ne_of_lt (Heap.lt_size e)) e)) hS' hl hG hacc⟩
end
end Lz
set_option maxRecDepth 100000
set_option maxHeartbeats 2000000
namespace L2
open PySem PySem.Spec PyProof.Rows
/-! lists and tuples alike: zip, enumerate of both, list(zip(..)) -/
/-- a tuple (true) or a list (false) -/
def SqB (K : PySem.W.Frag) (t : Bool) (H : Hp) (a : Addr) (xs : List V) : Prop := match t with | true => SqT K H a xs | false => SqL K H a xs
def seqAtB (t : Bool) (h : Heap) (a : Addr) (its : Array Value) : Prop := match t with | true => h.IsTuple a its | false => h.IsList a its
def itB (t : Bool) (h : Heap) (it a : Addr) (i : Nat) : Prop := match t with | true => h.IsTupleIter it a i | false => h.IsListIter it a i
def oB (t : Bool) (a : Addr) : Obj := match t with | true => { cls := .type "tuple_iterator", data := .fields #[.ref a, .int 0 0] } | false => { cls := .type "list_iterator", data := .fields #[.ref a, .int 0 0] }
theorem SqB.tup {K : PySem.W.Frag} {H : Hp} {a : Addr} {xs : List V} (h : H a = some (.tup xs)) : SqB K true H a xs := SqT.of h
theorem SqB.lst {K : PySem.W.Frag} {H : Hp} {a : Addr} {xs : List V} (h : H a = some (.lst xs)) : SqB K false H a xs := SqL.of h
theorem drawsB {prog : Program} {w : World} {A : Around} (t : Bool) (hh : A.handled = none) (it a : Addr) (hne : a ≠ it) (its : Array Value) :
    Draws prog w A it [it, a] its.size (fun i v => its[i]? = some v) (fun i h => itB t h it a i ∧ seqAtB t h a its) := by
  cases t
  · exact Draws.list hh it a hne its
  · exact Draws.tuple hh it a hne its
theorem beginsB (t : Bool) (a : Addr) (its : Array Value) : Begins (.ref a) (oB t a) (fun h => seqAtB t h a its) := by
  cases t
  · exact begins_list a its
  · exact begins_tuple a its
theorem itB_new {t : Bool} {h : Heap} {it a : Addr} (e : h.get? it = some (oB t a)) : itB t h it a 0 := by
  cases t
  · exact ⟨_, e, rfl, rfl⟩
  · exact ⟨_, e, rfl, rfl⟩
theorem itB.live {t : Bool} {h : Heap} {it a : Addr} {i : Nat} (x : itB t h it a i) : ∃ o, h.get? it = some o ∧ ∀ v, o.data ≠ .cell v := by
  cases t
  · obtain ⟨o, e, _, d⟩ := x
    exact ⟨o, e, fun v q => by rw [d] at q; cases q⟩
  · obtain ⟨o, e, _, d⟩ := x
    exact ⟨o, e, fun v q => by rw [d] at q; cases q⟩
theorem itB.at {t : Bool} {h h' : Heap} {it a : Addr} {i : Nat} (x : itB t h it a i) (k : ∀ o, h.get? it = some o → h'.get? it = some o) : itB t h' it a i := by
  cases t
  · exact Heap.IsListIter.at x k
  · exact Heap.IsTupleIter.at x k
section
variable {X : Cx} {pins : List (Addr × Obj)} {σ : St} {H : Hp} {s : Shared}
theorem Inv.sqB {t : Bool} {a : Addr} {xs : List V} (I : Inv X pins σ H s) (h : SqB X.K t H a xs) : ∃ its : List Value, Vals xs its ∧ seqAtB t s.heap a its.toArray ∧ xs.length ≤ sizeLine ∧ a < s.heap.objs.size := by
  cases t
  · obtain ⟨its, rv, p, z⟩ := I.list h
    exact ⟨its, rv, p.isList, z, p.lt⟩
  · obtain ⟨its, rv, p, z⟩ := I.tuple h
    exact ⟨its, rv, p, z, by obtain ⟨o, e, _⟩ := id p; exact Heap.lt_size e⟩
theorem Inv.sqB_inj {t : Bool} {a : Addr} {xs ys : List V} (I : Inv X pins σ H s) (h : SqB X.K t H a xs) (h' : SqB X.K t H a ys) : xs = ys := by
  cases t
  · exact I.list_inj h h'
  · exact I.tuple_inj h h'
end
/-- a and b as they stand at each turn, the items in new pairs -/
def ItzB (K : PySem.W.Frag) (t u : Bool) (a b : Addr) : It :=
  ⟨fun i H => ∃ (xs ys : List V) (x y : V), SqB K t H a xs ∧ SqB K u H b ys ∧ xs[i]? = some x ∧ ys[i]? = some y,
    fun i H v H' => ∃ T x y, v = .ref T ∧ H T = none ∧ H' = upd H T (.tup [x, y]) ∧ (∀ xs, SqB K t H a xs → xs[i]? = some x) ∧ ∀ ys, SqB K u H b ys → ys[i]? = some y,
    fun i H => ∃ xs ys : List V, SqB K t H a xs ∧ SqB K u H b ys ∧ (xs.length = i ∨ ys.length = i) ∧ i ≤ xs.length ∧ i ≤ ys.length⟩
theorem turn_zipB {P : Program} {w : World} {K : PySem.W.Frag} {elts : List Expr} {kk : Nat} {tpos : Pos} {t u : Bool} {a b z TI TO i1 i2 : Addr} (D : ZipSep2 z TI TO i1 i2 [i1, a] [i2, b]) (d1 : a ≠ i1) (d2 : b ≠ i2) :
    Turn P w K (.Tuple elts kk tpos) (ItzB K t u a b) [z, TI, TO, i1, i2] z (fun i h => IsZip h z TI TO .none ∧ IsTupOf2 h TI (.ref i1) (.ref i2) ∧ (∃ x y, IsTupOf2 h TO x y) ∧ itB t h i1 a i ∧ itB u h i2 b i) where
  mem := by simp
  obj := fun i h st c hc => by
    obtain ⟨hz, hTI, ⟨x, y, hTO⟩, l1, l2⟩ := st
    have e' : c = z ∨ c = TI ∨ c = TO ∨ c = i1 ∨ c = i2 := by simpa using hc
    rcases e' with q | q | q | q | q
    · rw [q]; exact ⟨_, hz, fun v q => nomatch q⟩
    · rw [q]; exact ⟨_, hTI, fun v q => nomatch q⟩
    · rw [q]; exact ⟨_, hTO, fun v q => nomatch q⟩
    · rw [q]; exact l1.live
    · rw [q]; exact l2.live
  keep := fun i h h' st k => by
    obtain ⟨hz, hTI, ⟨x, y, hTO⟩, h1, h2⟩ := st
    exact ⟨k z (by simp) _ hz, k TI (by simp) _ hTI, ⟨x, y, k TO (by simp) _ hTO⟩, h1.at fun o q => k i1 (by simp) o q, h2.at fun o q => k i2 (by simp) o q⟩
  item := by
    intro X hP hw hK hc i pins s σ H E I hf st hg
    subst hP hw hK
    obtain ⟨hz, hTI, ⟨x0, y0, hTO⟩, h1, h2⟩ := st
    obtain ⟨xs, ys, x, y, hqx, hqy, hx, hy⟩ := hg
    obtain ⟨its, rv, p, _⟩ := I.sqB hqx
    obtain ⟨its2, rv2, p2, _⟩ := I.sqB hqy
    obtain ⟨v1, hu, ru⟩ := rv.get hx
    obtain ⟨v2, hu2, ru2⟩ := rv2.get hy
    have hzl : z < s.heap.objs.size := Heap.lt_size hz
    have k1 : i < its.toArray.size := by have := (List.getElem?_eq_some_iff.mp hu).1; simpa using this
    have k2 : i < its2.toArray.size := by have := (List.getElem?_eq_some_iff.mp hu2).1; simpa using this
    refine wpAny_pyNext_zipD2_item D (drawsB (prog := X.prog) (w := X.w) (A := X.A.in1) t (I.ok.hd hc) i1 a d1 its.toArray) (drawsB (prog := X.prog) (w := X.w) (A := X.A.in1) u (I.ok.hd hc) i2 b d2 its2.toArray) hz hTI hTO ⟨h1, p⟩ ⟨h2, p2⟩ k1 k2 fun x1 x2 h' tk y1 y2 z' TO' g1 g2 hT hsz hk => ?_
    have ex1 : x1 = v1 := by simpa [hu, eq_comm] using y1
    have ex2 : x2 = v2 := by simpa [hu2, eq_comm] using y2
    subst ex1 ex2
    refine ⟨_, rfl, wpAny_letOwnedTupleGo_zip (s := { s with heap := h', toks := tk }) z' fun h'' z'' sb => ?_⟩
    have hT2 : h''.get? s.heap.objs.size = some { cls := .type "tuple", data := .seq #[x1, x2] } := (sb.2 _ (Nat.ne_of_gt hzl)).trans hT
    have new : ObjOk X.prog X.w (upd H s.heap.objs.size (.tup [x, y])) h'' s.heap.objs.size (.tup [x, y]) :=
      ⟨by show 2 ≤ sizeLine; decide, [x1, x2], .cons ru (.cons ru2 .nil), ⟨_, hT2, rfl, _, rfl⟩⟩
    have I1 : Inv X pins σ (upd H s.heap.objs.size (.tup [x, y])) { s with heap := h'', toks := tk } :=
      I.turnedNew (t' := tk) (ch := [z, TI, TO, i1, i2]) (fun c o hb q => (sb.2 c (fun q' => hb (by simp [q']))).trans (hk c o (fun q' => hb (by simp [q'])) (fun q' => hb (by simp [q'])) (fun q' => hb (by simp [q'])) (fun q' => hb (by simp [q'])) q)) hf (Nat.le_refl _) new
    have n1 : i1 ≠ z := Ne.symm D.zi1
    have n2 : i2 ≠ z := Ne.symm D.zi2
    refine ⟨.ref s.heap.objs.size, _, I1, rfl, ⟨_, x, y, rfl, I.hok.fresh (Nat.le_refl _), rfl, fun l hl => by rw [I.sqB_inj hl hqx]; exact hx, fun l hl => by rw [I.sqB_inj hl hqy]; exact hy⟩, ⟨z'', ?_, ⟨x1, x2, ?_⟩, ?_, ?_⟩, fun c hcm => ?_⟩
    · exact (sb.2 _ D.TIz).trans (hk _ _ D.TIz D.TITO D.TIi1 D.TIi2 hTI)
    · exact (sb.2 _ D.TOz).trans TO'
    · exact g1.1.at fun o q => (sb.2 _ n1).trans q
    · exact g2.1.at fun o q => (sb.2 _ n2).trans q
    · have hlt : c < s.heap.objs.size := by
        have e' : c = z ∨ c = TI ∨ c = TO ∨ c = i1 ∨ c = i2 := by simpa using hcm
        rcases e' with q | q | q | q | q
        · rw [q]; exact hzl
        · rw [q]; exact Heap.lt_size hTI
        · rw [q]; exact Heap.lt_size hTO
        · rw [q]; obtain ⟨_, e1, _⟩ := h1.live; exact Heap.lt_size e1
        · rw [q]; obtain ⟨_, e2, _⟩ := h2.live; exact Heap.lt_size e2
      rw [upd_ne (Nat.ne_of_lt hlt)]
      exact (hf c hcm).1
  done := by
    intro X hP hw hK hc i pins s σ H E I hf st hg
    subst hP hw hK
    obtain ⟨hz, hTI, ⟨x0, y0, hTO⟩, h1, h2⟩ := st
    obtain ⟨xs, ys, hqx, hqy, hend, k1, k2⟩ := hg
    obtain ⟨its, rv, p, _⟩ := I.sqB hqx
    obtain ⟨its2, rv2, p2, _⟩ := I.sqB hqy
    have l1 := rv.length
    have l2 := rv2.length
    have s1 : its.toArray.size = its.length := by simp
    have s2 : its2.toArray.size = its2.length := by simp
    exact wpAny_pyNext_zipD2_end D (drawsB (prog := X.prog) (w := X.w) (A := X.A.in1) t (I.ok.hd hc) i1 a d1 its.toArray) (drawsB (prog := X.prog) (w := X.w) (A := X.A.in1) u (I.ok.hd hc) i2 b d2 its2.toArray) hz hTI hTO ⟨h1, p⟩ ⟨h2, p2⟩ (by omega) (by omega) (by omega) fun h' tk hk => ⟨rfl, I.turnedL (t' := tk) (ch := [z, TI, TO, i1, i2]) (fun c o hb q =>
      hk c o (fun q' => hb (by simp [q'])) (fun q' => hb (by simp [q'])) (fun q' => hb (by simp [q'])) (fun q' => hb (by simp [q'])) q) hf⟩
  self := fun A i s Q E st h => wpAny_pyIter_zip st.1 h
def iZipB (K : PySem.W.Frag) (ta : TA) : TI := fun σ H R => ta σ H fun vs H1 => ∃ (t u : Bool) (a b : Addr) (xs ys : List V), vs = [.ref a, .ref b] ∧ SqB K t H1 a xs ∧ SqB K u H1 b ys ∧ R (ItzB K t u a b) H1
theorem pi_zipB {X : Cx} {e e2 : Expr} {ta : TA} {p pos tpos : Pos} {elts : List Expr} {kk : Nat} (hg : Gl X "zip") (hm : X.mg "zip" = none) (ha : PA X [e, e2] ta)
    (hs : starEach [e, e2] X.env = (false, eval e X.env) :: starEach [e2] X.env := by rfl) (hpl : (backTo pos (starEach [e2] X.env)).any (·.1) = false := by rfl) :
    PI X (.Tuple elts kk tpos) (.Call (.Name "zip" p) [e, e2] [] pos) (iZipB X.K ta) := by
  refine ⟨fun pins s σ H R I h => ?_⟩
  refine Call_ (ld_blt I hg hm PyProof.Rows.boot_zip (PyProof.Rows.callWith_type1 (thn (ha.run pos pins s σ H _ I h) fun us s1 ⟨vs, H1, I1, r1, q1⟩ => ?_) hs hpl))
  obtain ⟨t, u, a, b, xs, ys, ex, hqx, hqy, q⟩ := q1
  subst ex
  cases r1 with
  | cons r rr =>
    cases rr with
    | cons r' rr =>
      cases rr
      cases r
      cases r'
      obtain ⟨its, rv, p1, _, la⟩ := I1.sqB hqx
      obtain ⟨its2, rv2, p2, _, lb⟩ := I1.sqB hqy
      refine zip_begins2 (beginsB t a its.toArray) (beginsB u b its2.toArray) p1 p2 fun h' hz hTI hTO g1 g2 hsz hk => wpAny_pyIter_zip hz ?_
      have I2 : Inv X pins σ H1 { s1 with heap := h' } := I1.kept (t' := s1.toks) hk
      have sep := zip_sep2 (N := s1.heap.objs.size) (fp1 := [a]) (fp2 := [b]) (fun b' hb => by rw [List.mem_singleton.mp hb]; exact la) (fun b' hb => by rw [List.mem_singleton.mp hb]; exact lb)
      refine ⟨s1.heap.objs.size + 4, [s1.heap.objs.size + 4, s1.heap.objs.size + 2, s1.heap.objs.size + 3, s1.heap.objs.size, s1.heap.objs.size + 1], _, _, H1, rfl, I2, turn_zipB (t := t) (u := u) sep (Nat.ne_of_lt la) (Nat.ne_of_lt (Nat.lt_succ_of_lt lb)), ⟨hz, hTI, ⟨_, _, hTO⟩, itB_new g1, itB_new g2⟩, fun c hcm => ?_, q⟩
      have e' : c = s1.heap.objs.size + 4 ∨ c = s1.heap.objs.size + 2 ∨ c = s1.heap.objs.size + 3 ∨ c = s1.heap.objs.size ∨ c = s1.heap.objs.size + 1 := by simpa using hcm
      have hle : s1.heap.objs.size ≤ c := by
        rcases e' with z | z | z | z | z
        · rw [z]; exact Nat.le_add_right _ _
        · rw [z]; exact Nat.le_add_right _ _
        · rw [z]; exact Nat.le_add_right _ _
        · rw [z]; exact Nat.le_refl _
        · rw [z]; exact Nat.le_add_right _ _
      exact I1.fpOk hle (I1.hok.fresh hle)
theorem walk_zipB {K : PySem.W.Frag} {t u : Bool} {a b : Addr} {xs ys : List V} {n : Nat} (hn : n = min xs.length ys.length) : Walk (ItzB K t u a b) n (fun H => SqB K t H a xs ∧ SqB K u H b ys) (YPair (fun i => xs[i]?) (fun i => ys[i]?)) := by
  subst hn
  refine ⟨fun i _ hi q => ?_, fun _ q => ⟨xs, ys, q.1, q.2, by omega, by omega, by omega⟩, fun i H v H' _ q y => ?_⟩
  · have h1 : i < xs.length := by omega
    have h2 : i < ys.length := by omega
    exact ⟨xs, ys, xs[i], ys[i], q.1, q.2, by simp [h1], by simp [h2]⟩
  · obtain ⟨T, x, z, h1, h2, h3, h4, h5⟩ := y
    exact ⟨T, x, z, h1, h2, h3, h4 xs q.1, h5 ys q.2⟩

/-! ### enumerate of both -/
theorem meets_enumB {v : Value} {o : Obj} {H : Heap → Prop} (B : Begins v o H) :
    Meets (Builtin.«enumerate.__new__» ⟨[.type "enumerate", v], []⟩) (fun _ R s => H s.heap ∧
      R (.ok (.ret (.ref (s.heap.push o).objs.size))) { s with heap := (s.heap.push o).push { cls := .type "enumerate", data := .fields #[.none, .bool false, .ref s.heap.objs.size, rawInt 0, .none, .none] } }) :=
  .of_wp fun prog w A R s h => by
    obtain ⟨hp, g, d, tk, os⟩ := s; obtain ⟨h1, h⟩ := h
    have hsub := sub_enumerate
    have q1 : ∀ {A' : Around} {E : Value → Shared → Prop} {Q : Value → Shared → Prop}, Q (.ref hp.objs.size) ⟨hp.push o, g, d, tk, os⟩ → wpAny (model prog w) A' (pyIter v) Q E ⟨hp, g, d, tk, os⟩ :=
      fun q => B.iter prog w _ _ ⟨hp, g, d, tk, os⟩ _ h1 q
    wp_walk using q1
    refine wpAny_stack_any fun st => wpAny_pure ?_
    split
    · rename_i c _ _ _ _ _
      cases (c == Value.type "enumerate")
      · wp_walk using q1
        exact ⟨_, rfl, h⟩
      · wp_walk using q1
        exact ⟨_, rfl, h⟩
    · wp_walk using q1
      exact ⟨_, rfl, h⟩
theorem enum_beginsB {prog : Program} {w : World} {A : Around} {E : Value → Shared → Prop} {s : Shared} {v : Value} {o : Obj} {H : Heap → Prop} {Q : Value → Shared → Prop} (B : Begins v o H) (h1 : H s.heap)
    (h : ∀ h', IsEnum h' (s.heap.objs.size + 1) s.heap.objs.size 0 .none → h'.get? s.heap.objs.size = some o → h'.objs.size = s.heap.objs.size + 2 →
      (∀ b o, s.heap.get? b = some o → h'.get? b = some o) → Q (.ref (s.heap.objs.size + 1)) { s with heap := h' }) :
    wpAny (model prog w) A (call (.type "enumerate") [v]) Q E s := by
  refine callType_new F.called_enumerate (by decide) (F.typeCall_enumerate_1 _) (F.newCall_enumerate_1 _) (fun obj => F.args_object_init_2 obj _) F.entry_enumerate_new
    (meets_enumB B) ⟨h1, ?_⟩
  have hz : (s.heap.push o).objs.size = s.heap.objs.size + 1 := Heap.size_push ..
  show _ ∧ _
  rw [hz]
  have he : IsEnum ((s.heap.push o).push { cls := .type "enumerate", data := .fields #[.none, .bool false, .ref s.heap.objs.size, rawInt 0, .none, .none] }) (s.heap.objs.size + 1) s.heap.objs.size 0 .none := by
    have := Heap.get?_push_size (s.heap.push o) (o := { cls := .type "enumerate", data := .fields #[.none, .bool false, .ref s.heap.objs.size, rawInt 0, .none, .none] }) rfl
    rw [hz] at this; exact this
  exact ⟨⟨_, he, rfl⟩, h _ he (Heap.get?_push_of_some _ (Heap.get?_push_size _ B.free)) (by rw [Heap.size_push, hz]) fun b o x => Heap.get?_push_of_some _ (Heap.get?_push_of_some _ x)⟩
def IteB (K : PySem.W.Frag) (t : Bool) (a : Addr) : It :=
  ⟨fun i H => ∃ (xs : List V) (x : V), SqB K t H a xs ∧ xs[i]? = some x, fun i H v H' => ∃ T x, v = .ref T ∧ H T = none ∧ H' = upd H T (.tup [.int (i : Nat), x]) ∧ ∀ xs, SqB K t H a xs → xs[i]? = some x, fun i H => ∃ xs : List V, SqB K t H a xs ∧ xs.length = i⟩
theorem turn_enumB {P : Program} {w : World} {K : PySem.W.Frag} {elts : List Expr} {kk : Nat} {tpos : Pos} {t : Bool} (a e it : Addr) (d1 : a ≠ it) (d2 : e ≠ a) :
    Turn P w K (.Tuple elts kk tpos) (IteB K t a) [e, it] e (fun i h => (∃ old, IsEnum h e it ((i : Nat) : Int) old) ∧ itB t h it a i ∧ e ≠ it) where
  mem := by simp
  obj := fun i h st b hb => by
    obtain ⟨⟨old, he⟩, hi, _⟩ := st
    have e' : b = e ∨ b = it := by simpa using hb
    rcases e' with z | z
    · rw [z]; exact ⟨_, he, fun v q => nomatch q⟩
    · rw [z]; exact hi.live
  keep := fun i h h' st k => let ⟨⟨old, he⟩, hi, hne⟩ := st; ⟨⟨old, k e (by simp) _ he⟩, hi.at fun o q => k it (by simp) o q, hne⟩
  item := by
    intro X hP hw hK hc i pins s σ H E I hf st hg
    subst hP hw hK
    obtain ⟨⟨old, he⟩, hit, hne⟩ := st
    obtain ⟨xs, x, hq, hx⟩ := hg
    obtain ⟨its, rv, p, hz, la⟩ := I.sqB hq
    obtain ⟨v1, hu, ru⟩ := rv.get hx
    have hel : e < s.heap.objs.size := Heap.lt_size he
    have hil : it < s.heap.objs.size := by obtain ⟨_, q, _⟩ := hit.live; exact Heap.lt_size q
    have k1 : i < its.toArray.size := by have := (List.getElem?_eq_some_iff.mp hu).1; simpa using this
    refine wpAny_pyNext_enum_itemC (drawsB (prog := X.prog) (w := X.w) (A := X.A.in1) t (I.ok.hd hc) it a d1 its.toArray) he ⟨hit, p⟩ k1 hne (by simp; exact ⟨hne, d2⟩) fun x1 h' tk y1 ho hit' hT hsz hk => ?_
    have ex1 : x1 = v1 := by simpa [hu, eq_comm] using y1
    subst ex1
    refine ⟨_, rfl, wpAny_letOwnedTupleGo_enum (s := { s with heap := h', toks := tk + 1 }) ho fun h'' he' sb => ?_⟩
    have hT2 : h''.get? s.heap.objs.size = some { cls := .type "tuple", data := .seq #[.int i tk, x1] } := (sb.2 _ (Nat.ne_of_gt hel)).trans hT
    have new : ObjOk X.prog X.w (upd H s.heap.objs.size (.tup [.int (i : Nat), x])) h'' s.heap.objs.size (.tup [.int (i : Nat), x]) :=
      ⟨by show 2 ≤ sizeLine; decide, [.int i tk, x1], .cons ⟨_, rfl⟩ (.cons ru .nil), ⟨_, hT2, rfl, _, rfl⟩⟩
    have I1 : Inv X pins σ (upd H s.heap.objs.size (.tup [.int (i : Nat), x])) { s with heap := h'', toks := tk + 1 } :=
      I.turnedNew (ch := [e, it]) (fun b ob hb q => (sb.2 b (fun z => hb (by simp [z]))).trans (hk b ob (fun z => hb (by simp [z])) (fun z => hb (by simp [z])) q)) hf (Nat.le_refl _) new
    refine ⟨.ref s.heap.objs.size, _, I1, rfl, ⟨_, x, rfl, I.hok.fresh (Nat.le_refl _), rfl, fun ys hy => by rw [I.sqB_inj hy hq]; exact hx⟩, ⟨⟨x1, ?_⟩, hit'.1.at fun o q => (sb.2 it (Ne.symm hne)).trans q, hne⟩, fun b hb => ?_⟩
    · have e1 : ((i + 1 : Nat) : Int) = (i : Int) + 1 := by omega
      rw [e1]; exact he'
    · have hb' : b < s.heap.objs.size := by
        have e' : b = e ∨ b = it := by simpa using hb
        rcases e' with z | z
        · rw [z]; exact hel
        · rw [z]; exact hil
      rw [upd_ne (Nat.ne_of_lt hb')]
      exact (hf b hb).1
  done := by
    intro X hP hw hK hc i pins s σ H E I hf st hg
    subst hP hw hK
    obtain ⟨⟨old, he⟩, hit, hne⟩ := st
    obtain ⟨xs, hq, hx⟩ := hg
    obtain ⟨its, rv, p, hz, la⟩ := I.sqB hq
    have hl := rv.length
    have e0 : i = its.toArray.size := by simp; omega
    subst e0
    exact wpAny_pyNext_enum_endD (drawsB (prog := X.prog) (w := X.w) (A := X.A.in1) t (I.ok.hd hc) it a d1 its.toArray) he ⟨hit, p⟩ fun h' hx => ⟨rfl, I.turnedL (t' := s.toks) (ch := [e, it]) (fun b o hb q => hx b o (fun z => hb (by simp [z])) q) hf⟩
  self := fun A i s Q E st h => let ⟨⟨_, he⟩, _⟩ := st; wpAny_pyIter_enum he h
def iEnumB (K : PySem.W.Frag) (ta : TA) : TI := fun σ H R => ta σ H fun vs H1 => ∃ (t : Bool) (a : Addr) (xs : List V), vs = [.ref a] ∧ SqB K t H1 a xs ∧ R (IteB K t a) H1
theorem pi_enumB {X : Cx} {e : Expr} {ta : TA} {p pos tpos : Pos} {elts : List Expr} {kk : Nat} (hg : Gl X "enumerate") (hm : X.mg "enumerate" = none) (ha : PA X [e] ta) (hs : starEach [e] X.env = [(false, eval e X.env)] := by rfl) :
    PI X (.Tuple elts kk tpos) (.Call (.Name "enumerate" p) [e] [] pos) (iEnumB X.K ta) := by
  refine ⟨fun pins s σ H R I h => ?_⟩
  refine Call_ (ld_blt I hg hm boot_enumerate (PyProof.Rows.callWith_type1 (thn (ha.run pos pins s σ H _ I h) fun us s1 ⟨vs, H1, I1, r1, q1⟩ => ?_) hs rfl))
  obtain ⟨t, a, xs, ex, hq, q⟩ := q1
  subst ex
  cases r1 with
  | cons r rr =>
    cases rr
    cases r
    obtain ⟨its, rv, p', hz, la⟩ := I1.sqB hq
    refine enum_beginsB (beginsB t a its.toArray) p' fun h' he hit hsz hk => wpAny_pyIter_enum he ?_
    have I2 : Inv X pins σ H1 { s1 with heap := h' } := I1.kept (t' := s1.toks) hk
    refine ⟨s1.heap.objs.size + 1, [s1.heap.objs.size + 1, s1.heap.objs.size], _, _, H1, rfl, I2, turn_enumB (t := t) a (s1.heap.objs.size + 1) s1.heap.objs.size (Nat.ne_of_lt la) (Nat.ne_of_gt (Nat.lt_succ_of_lt la)), ⟨⟨.none, he⟩, itB_new hit, Nat.succ_ne_self _⟩, fun b hb => ?_, q⟩
    have e' : b = s1.heap.objs.size + 1 ∨ b = s1.heap.objs.size := by simpa using hb
    have hle : s1.heap.objs.size ≤ b := by
      rcases e' with z | z
      · rw [z]; exact Nat.le_add_right _ _
      · rw [z]; exact Nat.le_refl _
    exact I1.fpOk hle (I1.hok.fresh hle)
theorem walk_enumB {K : PySem.W.Frag} {t : Bool} {a : Addr} {xs : List V} : Walk (IteB K t a) xs.length (fun H => SqB K t H a xs) (YPair (fun i => some (.int (i : Nat))) (fun i => xs[i]?)) := by
  refine ⟨fun i _ hi q => ⟨xs, xs[i], q, by simp [hi]⟩, fun _ q => ⟨xs, q, rfl⟩, fun i H v H' _ q y => ?_⟩
  obtain ⟨T, x, h1, h2, h3, h4⟩ := y
  exact ⟨T, .int (i : Nat), x, h1, h2, h3, rfl, h4 xs q⟩

/-! ### list(zip(a, b)) -/
/-- the pairs tracked at their addresses -/
def putP : Hp → List Addr → List (V × V) → Hp
  | H, a :: as, p :: ps => putP (upd H a (.tup [p.1, p.2])) as ps
  | H, _, _ => H
theorem putP_off {b : Addr} : ∀ (as : List Addr) (ps : List (V × V)) (H : Hp), b ∉ as → putP H as ps b = H b
  | [], _, _, _ => rfl
  | _ :: _, [], _, _ => rfl
  | a :: as, p :: ps, H, h => by
    show putP (upd H a (.tup [p.1, p.2])) as ps b = H b
    rw [putP_off as ps _ (fun z => h (List.mem_cons_of_mem _ z)), upd_ne (fun z => h (by rw [z]; exact List.mem_cons_self))]
theorem putP_at : ∀ (as : List Addr) (ps : List (V × V)) (H : Hp), as.length = ps.length → as.Nodup → Paired (fun (t : Addr) (p : V × V) => putP H as ps t = some (.tup [p.1, p.2])) as ps
  | [], [], _, _, _ => .nil
  | [], _ :: _, _, h, _ => by cases h
  | _ :: _, [], _, h, _ => by cases h
  | a :: as, p :: ps, H, h, hn => by
    have hn' := List.nodup_cons.mp hn
    have ih := putP_at as ps (upd H a (.tup [p.1, p.2])) (Nat.succ.inj h) hn'.2
    refine .cons ?_ ih
    show putP (upd H a (.tup [p.1, p.2])) as ps a = some (.tup [p.1, p.2])
    rw [putP_off as ps _ hn'.1, upd_same]
theorem pairs_laid {X : Cx} {pins : List (Addr × Obj)} {σ : L2.St} {H : Hp} {s : Shared} {h' : Heap} {tk : Nat} {ps : List (V × V)} {acc : Array Value} {c : Nat} {as : List Addr} {q : Addr} (I : Inv X pins σ H s) (hz : ps.length ≤ sizeLine)
    (hk : ∀ b o, s.heap.get? b = some o → h'.get? b = some o) (hq : s.heap.objs.size ≤ q) (hS : h'.get? q = some { cls := .type "list", dict := none, data := .seq acc c, slots := #[] }) (hl : as.length = ps.length) (rise : as.Pairwise (· < ·)) (above : ∀ a ∈ as, q < a)
    (prs : ∀ (j : Nat) (a : Addr), as[j]? = some a → ∃ (p : V × V) (x1 x2 : Value), ps[j]? = some p ∧ RelV p.1 x1 ∧ RelV p.2 x2 ∧ h'.get? a = some { cls := .type "tuple", data := .seq #[x1, x2] }) (hacc : acc.toList = as.map Value.ref) :
    ∃ H' : Hp, (∀ b o, H b = some o → H' b = some o) ∧ H q = none ∧ (∀ t ∈ as, H t = none) ∧ q ∉ as ∧ H' q = some (.lst (as.map V.ref)) ∧ Paired (fun (t : Addr) (p : V × V) => H' t = some (.tup [p.1, p.2])) as ps ∧ Inv X pins σ H' { s with heap := h', toks := tk } := by
  have hSn : q ∉ as := fun z => Nat.lt_irrefl _ (above _ z)
  have nd : as.Nodup := List.Pairwise.imp (fun {a b} (h : a < b) => Nat.ne_of_lt h) rise
  have lo : ∀ t ∈ as, s.heap.objs.size ≤ t := fun t ht => Nat.le_trans hq (Nat.le_of_lt (above t ht))
  have new : ∀ t ∈ as, H t = none := fun t ht => I.hok.fresh (lo t ht)
  have newS : H q = none := I.hok.fresh hq
  have atP := putP_at as ps (upd H q (.lst (as.map V.ref))) hl nd
  have off : ∀ b, b ∉ as → b ≠ q → putP (upd H q (.lst (as.map V.ref))) as ps b = H b := fun b h1 h2 => by rw [putP_off as ps _ h1, upd_ne h2]
  have low : ∀ b o, s.heap.get? b = some o → b ∉ as ∧ b ≠ q := fun b o e => ⟨fun z => absurd (Heap.lt_size e) (Nat.not_lt.mpr (lo b z)), Nat.ne_of_lt (Nat.lt_of_lt_of_le (Heap.lt_size e) hq)⟩
  have kp : ∀ b u, H b = some u → (putP (upd H q (.lst (as.map V.ref))) as ps) b = some u := fun b u e => by
    rw [off b (fun z => by rw [new b z] at e; cases e) (fun z => by rw [z, newS] at e; cases e)]
    exact e
  have eS : putP (upd H q (.lst (as.map V.ref))) as ps q = some (.lst (as.map V.ref)) := by rw [putP_off as ps _ hSn, upd_same]
  refine ⟨putP (upd H q (.lst (as.map V.ref))) as ps, kp, newS, new, hSn, eS, atP, ?_⟩
  refine I.call' (ch := []) rfl ⟨fun b o q _ _ _ => hk b o q, fun b o q _ _ _ => ⟨o.slots, hk b o q⟩, fun b o q n _ => ?_, fun b o q _ => ⟨o, hk b o q⟩, fun b xs q => kp b _ q, fun b o u q => kp b _ q, fun b ps q => ⟨#[], by rw [kp b _ q]; simp⟩⟩ (fun b u g => ?_) I.bare fun b z => by simp at z
  · obtain ⟨z1, z2⟩ := low b o q
    rw [off b z1 z2]
    exact n
  · by_cases hb : b ∈ as
    · obtain ⟨j, pk, e1, e2, e3⟩ := LiI.paired_ix atP hb
      rw [e3] at g
      cases g
      obtain ⟨p, x1, x2, f1, f2, f3, f4⟩ := prs j b e1
      rw [e2] at f1
      cases f1
      exact ⟨by show 2 ≤ sizeLine; decide, [x1, x2], .cons f2 (.cons f3 .nil), ⟨_, f4, rfl, _, rfl⟩⟩
    · by_cases hb2 : b = q
      · rw [hb2] at g ⊢
        rw [eS] at g
        cases g
        refine ⟨by rw [List.length_map]; omega, acc.toList, c, by rw [hacc]; exact LiI.vals_refs as, ?_⟩
        rw [Array.toArray_toList]
        exact hS
      · rw [off b hb hb2] at g
        exact (I.hok b u g).stay (fun d v _ y => hk d v y) (fun d y => kp d _ y) fun d xs y => kp d _ y
def rLz (K : PySem.W.Frag) : List V → Hp → VK → Prop := fun vs H Q => ∃ (t u : Bool) (a b : Addr) (xs ys : List V), vs = [.ref a, .ref b] ∧ SqB K t H a xs ∧ SqB K u H b ys ∧
  ∀ (H' : Hp) (p : Addr) (ts : List Addr), (∀ c o, H c = some o → H' c = some o) → H p = none → (∀ t ∈ ts, H t = none) → p ∉ ts → H' p = some (.lst (ts.map V.ref)) → Paired (fun (t : Addr) (q : V × V) => H' t = some (.tup [q.1, q.2])) ts (xs.zip ys) → Q (.ref p) H'
def tLz (K : PySem.W.Frag) (ta : TA) : TE := fun σ H Q => ta σ H fun vs H1 => rLz K vs H1 Q
theorem pe_listZip {X : Cx} {e e2 : Expr} {ta : TA} {p p2 pos2 pos : Pos} (hc : X.calm = true) (ha : PA X [e, e2] ta) (hg : Gl X "list") (hm : X.mg "list" = none) (hg2 : Gl X "zip") (hm2 : X.mg "zip" = none) (hv : bootBuiltins "list" = some (.type "list") := by rfl)
    (hs2 : starEach [e, e2] X.env = (false, eval e X.env) :: starEach [e2] X.env := by rfl) (hpl2 : (backTo pos2 (starEach [e2] X.env)).any (·.1) = false := by rfl)
    (hs : starEach [.Call (.Name "zip" p2) [e, e2] [] pos2] X.env = (false, eval (.Call (.Name "zip" p2) [e, e2] [] pos2) X.env) :: starEach [] X.env := by rfl) :
    PE X (.Call (.Name "list" p) [.Call (.Name "zip" p2) [e, e2] [] pos2] [] pos) (tLz X.K ta) := by
  refine ⟨fun pins s σ H Q I hq => ?_⟩
  refine wpAny_Call_Name_kw (ld_blt I hg hm hv ?_)
  refine PyProof.Rows.callWith_type1 ?_ hs rfl
  rw [hs]
  show wpAny _ _ (spliced ((false, eval (.Call (.Name "zip" p2) [e, e2] [] pos2) X.env) :: backTo pos (starEach [] X.env))) _ _ s
  refine Calls.spliced_cons ?_
  refine Call_ (ld_blt I hg2 hm2 PyProof.Rows.boot_zip (PyProof.Rows.callWith_type1 (thn (ha.run pos2 pins s σ H _ I hq) fun us s1 ⟨vs, H1, I1, r1, q1⟩ => ?_) hs2 hpl2))
  obtain ⟨t, u, a, b, xs, ys, ex, hqx, hqy, q⟩ := q1
  subst ex
  cases r1 with
  | cons r rr =>
    cases rr with
    | cons r' rr =>
      cases rr
      cases r
      cases r'
      obtain ⟨its, rv, p1, z1, la⟩ := I1.sqB hqx
      obtain ⟨its2, rv2, p2', z2, lb⟩ := I1.sqB hqy
      refine zip_begins2 (beginsB t a its.toArray) (beginsB u b its2.toArray) p1 p2' fun h' hz hTI hTO g1 g2 hsz hk => ?_
      have sep := zip_sep2 (N := s1.heap.objs.size) (fp1 := [a]) (fp2 := [b]) (fun b' hb => by rw [List.mem_singleton.mp hb]; exact la) (fun b' hb => by rw [List.mem_singleton.mp hb]; exact lb)
      have l1 := rv.length
      have l2 := rv2.length
      have s1' : its.toArray.size = its.length := by simp
      have s2' : its2.toArray.size = its2.length := by simp
      refine Calls.spliced_nil ?_
      have N := hsz
      have lt1 : ∀ b' ∈ [s1.heap.objs.size, a], b' < h'.objs.size := fun b' hb => by
        rcases List.mem_cons.mp hb with e | hb
        · rw [e, hsz]; exact Nat.lt_add_of_pos_right (by decide : 0 < 5)
        · rw [List.mem_singleton.mp hb, hsz]; exact Nat.lt_of_lt_of_le la (Nat.le_add_right _ _)
      have lt2 : ∀ b' ∈ [s1.heap.objs.size + 1, b], b' < h'.objs.size := fun b' hb => by
        rcases List.mem_cons.mp hb with e | hb
        · rw [e, hsz]; exact Nat.add_lt_add_left (by decide : 1 < 5) _
        · rw [List.mem_singleton.mp hb, hsz]; exact Nat.lt_of_lt_of_le lb (Nat.le_add_right _ _)
      have k1 : seqAtB t h' a its.toArray := (beginsB t a its.toArray).keeps _ _ p1 hk
      have k2 : seqAtB u h' b its2.toArray := (beginsB u b its2.toArray).keeps _ _ p2' hk
      refine Lz.zl_call (s := { s1 with heap := h' }) (fp1 := [s1.heap.objs.size, a]) (fp2 := [s1.heap.objs.size + 1, b]) sep (fun A' hh => drawsB t hh _ a (Nat.ne_of_lt la) its.toArray) (fun A' hh => drawsB u hh _ b (Nat.ne_of_lt (Nat.lt_succ_of_lt lb)) its2.toArray) (I1.ok.hd hc) (by omega) lt1 lt2 hz hTI ⟨_, _, hTO⟩ ⟨itB_new g1, k1⟩ ⟨itB_new g2, k2⟩ fun h'' tk acc c as hk' hS hl hG hacc => ?_
      have old : ∀ b' o, s1.heap.get? b' = some o → h''.get? b' = some o := fun b' o e => by
        have lt := Heap.lt_size e
        exact hk' b' o (Nat.ne_of_lt (Nat.lt_of_lt_of_le lt (Nat.le_add_right _ _))) (Nat.ne_of_lt (Nat.lt_of_lt_of_le lt (Nat.le_add_right _ _))) (Nat.ne_of_lt lt) (Nat.ne_of_lt (Nat.lt_of_lt_of_le lt (Nat.le_add_right _ _))) (hk b' o e)
      have lz : (xs.zip ys).length = min xs.length ys.length := List.length_zip
      have prs : ∀ (j : Nat) (a' : Addr), as[j]? = some a' → ∃ (p : V × V) (x1 x2 : Value), (xs.zip ys)[j]? = some p ∧ RelV p.1 x1 ∧ RelV p.2 x2 ∧ h''.get? a' = some { cls := .type "tuple", data := .seq #[x1, x2] } := fun j a' hj => by
        obtain ⟨x1, x2, y1, y2, y3⟩ := hG.pairs j a' hj
        have hx : its[j]? = some x1 := by simpa using y1
        have hy : its2[j]? = some x2 := by simpa using y2
        have j1 : j < xs.length := by have := (List.getElem?_eq_some_iff.mp hx).1; omega
        have j2 : j < ys.length := by have := (List.getElem?_eq_some_iff.mp hy).1; omega
        obtain ⟨w1, e1, r1⟩ := rv.get (List.getElem?_eq_getElem j1)
        obtain ⟨w2, e2, r2⟩ := rv2.get (List.getElem?_eq_getElem j2)
        rw [hx] at e1
        rw [hy] at e2
        cases e1
        cases e2
        exact ⟨(xs[j], ys[j]), x1, x2, by rw [List.getElem?_eq_getElem (by omega)]; simp, r1, r2, y3⟩
      obtain ⟨H', f1, f2, f3, f4, f5, f6, J⟩ := pairs_laid (tk := tk) (ps := xs.zip ys) I1 (by omega) old (by show s1.heap.objs.size ≤ h'.objs.size; omega) hS (by rw [hl]; omega) hG.rise hG.above prs hacc
      exact ⟨.ref _, H', J, rfl, q H' _ as f1 f2 f3 f4 f5 f6⟩
end L2
set_option maxRecDepth 100000
namespace L2
open PySem PySem.Spec PyProof.Rows
/-! defs f(a, *r), their calls -/
theorem cxNew {P : Program} {w : World} : CXNew (L2.CX P w) := fun outer s H h2 p rest E e s' kp hle hn h =>
  StX.cxUp outer s H { s with heap := h2 } _ E e s' (Un.laid kp hle hn) kp rfl h
/-- how f(a, *r) binds -/
def BindV (fd : FuncData) (pa pv : Str) (n : Nat) : Prop := ∀ (u : Value) (rest : List Value), rest.length ≤ n → bindArgs fd ⟨u :: rest, []⟩ = (newTuple rest >>= fun t => pure [(pa, u), (pv, t)])
section
variable {P : Program} {w : World} {K : PySem.W.Frag} {mg : Str → Option Value} {base : Heap}
/-- THE RULE for a def with a star parameter -/
theorem Fun.okV {x qual : Str} {st : Stmt} {f : Addr} {fd : FuncData} {N : List Str} {pa pv : Str} {k n : Nat} {sp : Sp} (F : Fun K x qual st f fd) (S : FnScope N [pa, pv] (defScope st)) (hb : BindV fd pa pv n) (hn : n ≤ 5)
    (hbody : ∀ (cdv : Value) (A : Around) (outer : List Env) (s : Shared) (H : Hp) (vs : List V) (Q : VK) (E : XK), Room k (A.deeper (envOfC qual (defScope st) s.heap.objs.size f cdv)) → sp vs H Q E →
      ∃ t, PSs (cxOf (L2.CX P w) P w K mg base N qual (defScope st) f cdv A outer s H E) (defBody st) t ∧ t { nx := fun _ H' => Q .non H', rt := Q } (start N vs) H) :
    FnR P w K mg base (L2.CX P w) (k + 1) f (fun vs H Q E => ∃ v rest, vs = v :: rest ∧ rest.length ≤ n ∧ ∀ p, H p = none → sp [v, .ref p] (upd H p (.tup rest)) Q E) := by
  obtain ⟨oc, od, kV, doc, pm, an, cdv, ct, osl, rfl, lk, hcd⟩ := F.ex
  exact fn_ofV lk hcd S (Nat.le_trans hn (by decide)) hb cxNew fun A outer s H vs Q E hr hsp => hbody cdv A outer s H vs Q E hr hsp
end
section
variable {X : Cx} {CX : CXT} {k : Nat} {C f : Addr} {m : Str} {sp : Sp} {E : XK} {o : Expr} {ta : TE} {apos pos : Pos} {pl : Sem Bool}
/-- o.m() by a positional promise -/
theorem pe_methR0 (he : PE X o ta) (c : Cls X.K C) (hm : Meth X.K C m f) (F : FnR X.prog X.w X.K X.mg X.base CX k f sp) (hr : Room k X.A) (hx : Passes CX X E)
    (ht : eval (.Call (.Attribute o m apos) [] [] pos) X.env = (do
      let ov ← eval o X.env
      standAt apos.atName
      let (f, first) ← holding [ov] (getMethod ov m pl)
      callWith pos f first (backTo pos (starEach [] X.env)) (backToKw pos (keywordEach [] X.env))) := by rfl) :
    PE X (.Call (.Attribute o m apos) [] [] pos) (tMethR C m sp E ta tNil) := by
  refine ⟨fun pins s σ H Q I h => ?_⟩
  refine PySem.W.methodCall_KW (pl := pl) (thn (he.run pins s σ H _ I h) fun u s1 ⟨x, H1, I1, rx, a, dx, fs, ex, ea, l, q⟩ => ?_) ht
  subst ex
  obtain rfl : u = Value.ref a := rx
  refine getmeth_ok I1 ea c hm l ?_
  exact PySem.W.callWith_K0 (first := [.ref a]) I1.kIn hm.kp (wpAny_call (run_fnR (us := [.ref a]) (vs := [.ref a]) F hr hx I1 (.cons rfl .nil) q))
end
end L2
set_option maxRecDepth 100000
namespace Fb
open PySem Builtin PyProof.Rows Float
/-! f"{n:b}" -/
def binT (a : Nat) : Str := ⟨((Nat.toDigits 2 a).map (·.toNat)).toArray⟩
section
variable {prog : Program} {w : World} {A : Around} {E : Value → Shared → Prop} {s : Shared}
set_option maxHeartbeats 2000000 in
theorem formatField_b {a : Nat} {t : Tok} {Q : Value → Shared → Prop} (hlen : (binT a).length ≤ sizeLine) (h : Q (.str (binT a) (s.toks + 1)) { s with toks := s.toks + 1 + 1 }) :
    wpAny (model prog w) A (formatField (.int (a : Int) t) "b") Q E s := by
  obtain ⟨f, hp, hty, hpr, hz, hal, hw, hgr, hsg, hfi, hag⟩ : ∃ f : FormatSpec, parseFormatSpec (Str.ofString "b").cps.toList "int" 62 = .ok f ∧ f.type = some 98 ∧ f.precision = none ∧ f.noNeg0 = false ∧ f.alt = false ∧ f.width = none ∧ f.grouping = none ∧ f.sign = none ∧ f.fill = 32 ∧ f.align = 62 := ⟨_, rfl, rfl, rfl, rfl, rfl, rfl, rfl, rfl, rfl, rfl⟩
  have hne : ((Str.ofString "b").length == 0) = false := by rfl
  have hasc : (((Str.ofString "b").cps.toList.drop 1).any (· ≥ 128) || ((Str.ofString "b").cps.getD 0 0 ≥ 128 && !([60, 62, 61, 94] : List Nat).contains ((Str.ofString "b").cps.getD 1 0))) = false := by decide +kernel
  show wpAny _ _ (holding [.int (a : Int) t] (pyFormat (.int (a : Int) t) "b")) Q E s
  refine wpAny_holding ?_
  unfold pyFormat
  refine wpAny_bind (wpAny_mkStr ?_ (by decide))
  refine wpAny_bind (m := callSpecial? (.int (a : Int) t) (Str.ofString "__format__") [.str "b" s.toks]) (wpAny_callSpecial?_slot (name := Str.ofString "__format__") (typeIs_int _ (a : Int) t) PySem.F.slot_int_format ?_)
  refine wpAny_call (codeAny_call_builtin PySem.F.slot_int_format.plain PySem.F.entry_int_format (PySem.F.slot_int_format.check _ _ _ _ _ _ _ _ (typeIs_int _ (a : Int) t) (PySem.F.args_int_format_2 _ _) ?_))
  unfold Builtin.«int.__format__»
  simp only [selfAndOne, noKeywords, Int.intOfSelf, asInt?, asStr?, List.isEmpty_nil, if_true, pure_bind, bind_pure, bind_assoc, hne, hasc, Bool.false_eq_true, if_false,
    show (Value.str (Str.ofString "b") s.toks == Value.none) = false from rfl]
  refine wpAny_bind (wpAny_typeNameOf (T := "str") (typeIs_str _ _ _) (by decide) fun _ => ?_)
  first | refine wpAny_bind (wpAny_typeNameOfCut_int ?_) | refine wpAny_bind (wpAny_typeNameOf_int ?_)
  simp only [hp, hty, Option.getD_some]
  rw [if_pos (by decide)]
  show wpAny _ _ (if _ then _ else _) _ _ _
  rw [if_neg (by simp [hpr])]
  show wpAny _ _ (if _ then _ else _) _ _ _
  rw [if_neg (by simp [hz])]
  show wpAny _ _ (if _ then _ else _) _ _ _
  rw [if_neg (by decide)]
  show wpAny _ _ (if _ then _ else _) _ _ _
  rw [if_neg (by decide)]
  show wpAny _ _ (if _ then _ else _) _ _ _
  rw [if_neg (by simp [hw])]
  show wpAny _ _ (retStr _) _ _ _
  unfold retStr
  have z0 : decide ((a : Int) < 0) = false := decide_eq_false (by omega)
  have z1 : ((a : Int)).natAbs = a := Int.natAbs_natCast a
  simp only [z0, z1, hal, Bool.false_eq_true, if_false, show ((2 : Nat) == 10) = false from rfl, show ((98 : Nat) == 88) = false from rfl]
  clear hp
  cases f
  dsimp only at hty hpr hz hal hw hgr hsg hfi hag
  subst hty hpr hz hal hw hgr hsg hfi hag
  refine wpAny_bind (wpAny_mkStr (wpAny_pure ?_) ?hs2)
  case hs2 =>
    conv => lhs; arg 1; whnf
    simpa [binT] using hlen
  dsimp only
  refine wpAny_bind (wpAny_isInstance (typeIs_str _ _ _) isSubtype_str_str (wpAny_pure ?_))
  conv => arg 1; arg 1; whnf
  simpa [binT] using h
end
end Fb
namespace L2
open PySem PySem.Spec PyProof.Rows
/-- {n:b} of a number that is not below 0 -/
def tFmtB (te : TE) : TE := fun σ H Q => te σ H fun x H1 => ∃ a : Nat, x = .int (a : Int) ∧ (Fb.binT a).length ≤ sizeLine ∧ Q (.str (Fb.binT a)) H1
theorem pe_fmtB {X : Cx} {e : Expr} {te : TE} {k : Nat} {p p2 pos : Pos} (he : PE X e te) : PE X (.FormattedValue e (-1) (some (.JoinedStr [.Constant (.str "b") k p] p2)) pos) (tFmtB te) := by
  refine ⟨fun pins s σ H Q I h => ?_⟩
  refine wpAny_FormattedValue_spec (thn (he.run pins s σ H _ I h) fun v s1 hv => ?_)
  obtain ⟨x, H1, I1, r1, a, rfl, hz, q⟩ := hv
  obtain ⟨t, rfl⟩ := r1
  have hb : PE X (.JoinedStr [.Constant (.str "b") k p] p2) (tC (.str "b")) := pe_fs1 pe_str
  refine thn (hb.run pins s1 σ H1 (fun y H2 => y = .str "b" ∧ H2 = H1) I1 ⟨rfl, rfl⟩) fun w s2 hw => ?_
  obtain ⟨y, H2, I2, r2, ey, eH⟩ := hw
  subst ey eH
  obtain ⟨t2, rfl⟩ := r2
  exact ⟨_, t2, rfl, Fb.formatField_b hz ⟨.str (Fb.binT a), _, I2.tok _, ⟨_, rfl⟩, q⟩⟩
end L2
set_option maxRecDepth 100000
namespace L2
open PySem PySem.Spec PyProof.Rows
/-! z[lo:hi:k] of a text -/
def cutX (z : Str) (lo hi : Option Int) (k : Int) : Str := ⟨((Builtin.Str.strSliceIndices lo hi k z.length).filterMap (z.cps[·]?)).toArray⟩
theorem cutX_len (z : Str) (lo hi : Option Int) (k : Int) (h0 : k ≠ 0) : (cutX z lo hi k).length ≤ z.length := by
  have h1 := PySem.sliceIndicesBy_le lo hi k h0 z.length
  have h2 := List.length_filterMap_le (z.cps[·]?) (Builtin.Str.strSliceIndices lo hi k z.length)
  show (((Builtin.Str.strSliceIndices lo hi k z.length).filterMap (z.cps[·]?)).toArray).size ≤ _
  rw [List.size_toArray]
  exact Nat.le_trans h2 h1
def tSlX (te : TE) (tl th ts : St → Hp → (Option Int → Hp → Prop) → Prop) : TE := fun σ H Q => te σ H fun x H1 => tl σ H1 fun lo H2 => th σ H2 fun hi H3 => ts σ H3 fun o H4 => ∃ (z : Str) (k : Int), x = .str z ∧ o = some k ∧ k ≠ 0 ∧ z.length ≤ sizeLine ∧
  (k = 1 → (Builtin.Str.strSliceIndices lo hi k z.length).length = z.length → cutX z lo hi k = z) ∧ Q (.str (cutX z lo hi k)) H4
theorem pe_slX {X : Cx} {e st : Expr} {lo hi : Option Expr} {te : TE} {tl th ts : St → Hp → (Option Int → Hp → Prop) → Prop} {p3 pos : Pos} (he : PE X e te) (hl : PO X lo tl) (hh : PO X hi th) (hst : PO X (some st) ts)
    (htl : ∀ (v : Value) (a : Addr) (s : Shared), True := by intros; trivial) :
    PE X (.Subscript e (.Slice lo hi (some st) p3) pos) (tSlX te tl th ts) := by
  refine ⟨fun pins s σ H Q I h => ?_⟩
  refine Subscript_ (thn (he.run pins s σ H _ I h) fun v s1 ⟨x, H1, I1, r1, q1⟩ => ?_)
  refine wpAny_Slice (thn (hl.run pins s1 σ H1 _ I1 q1) fun vl s2 ⟨l, H2, I2, pl, q2⟩ => ?_)
  refine thn (hh.run pins s2 σ H2 _ I2 q2) fun vu s3 ⟨u, H3, I3, pu, q3⟩ => ?_
  refine thn (hst.run pins s3 σ H3 _ I3 q3) fun vs s4 ⟨o, H4, I4, ps, q4⟩ => ?_
  obtain ⟨z, k, ex, eo, k0, hz, hw, q⟩ := q4
  subst ex eo
  obtain ⟨t, rfl⟩ := r1
  have I5 : Inv X pins σ H4 { s4 with heap := s4.heap.push { cls := .type "slice", data := .fields #[vl, vu, vs] } } := I4.kept (t' := s4.toks) fun b ob q => Heap.get?_push_of_some _ q
  show wpAny (model X.prog X.w) X.A (subscriptTail e (.Slice lo hi (some st) p3) (.str z t) (.ref s4.heap.objs.size)) (EP X pins σ Q) X.xe { s4 with heap := s4.heap.push { cls := .type "slice", data := .fields #[vl, vu, vs] } }
  refine tail_any (ops := [.str z t, .ref s4.heap.objs.size]) (typeIs_str _ _ _) (PySem.F.slot_str_getitem.lookup) ?_ (by with_unfolding_all rfl)
  obtain ⟨l', rfl, rfl⟩ := IsPart.raw pl
  obtain ⟨u', rfl, rfl⟩ := IsPart.raw pu
  obtain ⟨k', rfl, hk⟩ := IsPart.raw ps
  refine wpAny_getItem_str_slice (l := l') (u := u') (st := k') ⟨_, Heap.get?_push_size _ rfl, rfl, rfl⟩ (by rw [hk]; simpa using k0) ?_
  have hlen : (cutX z (l'.map (·.1)) (u'.map (·.1)) k).length ≤ sizeLine := Nat.le_trans (cutX_len z _ _ k k0) hz
  unfold sliceMade slicePicked
  rw [hk]
  show Made.post (if (k == 1 && (Builtin.Str.strSliceIndices (l'.map (·.1)) (u'.map (·.1)) k z.length).length == z.length) = true then Made.val (.str z t)
    else Made.str (cutX z (l'.map (·.1)) (u'.map (·.1)) k)) (EP X pins σ Q) _
  by_cases c : (k == 1 && (Builtin.Str.strSliceIndices (l'.map (·.1)) (u'.map (·.1)) k z.length).length == z.length) = true
  · rw [if_pos c]
    obtain ⟨c1, c2⟩ := Bool.and_eq_true_iff.mp c
    rw [hw (beq_iff_eq.mp c1) (beq_iff_eq.mp c2)] at q
    exact ⟨.str z, H4, I5, ⟨t, rfl⟩, q⟩
  · rw [if_neg c]
    exact ⟨hlen, .str _, H4, I5.tok _, ⟨_, rfl⟩, q⟩
end L2
set_option maxRecDepth 100000
namespace L2
open PySem PySem.Spec PyProof.Rows
/-! an instance called, by place and by keywords; readings that don't know the context -/
def tCallI (C : Addr) (sp : Sp) (E : XK) (tf : TE) (t : TA) : TE := fun σ H Q => tf σ H fun y H1 => ∃ a, y = V.ref a ∧ t σ H1 fun vs H2 => (∃ dx fs, H2 a = some (.ins C dx fs)) ∧ sp (V.ref a :: vs) H2 Q E
def tCallIK (m : Nat) (C : Addr) (sp : Sp) (gV : List V → List V → List V) (E : XK) (tf : TE) (tk : TA) : TE := fun σ H Q => tf σ H fun y H1 => ∃ a, y = V.ref a ∧ tk σ H1 fun zs H2 => zs.length = m ∧ (∃ dx fs, H2 a = some (.ins C dx fs)) ∧ sp (gV [V.ref a] zs) H2 Q E
section
variable {X : Cx} {CX : CXT} {k n : Nat} {g C : Addr} {fd : FuncData} {ps ks : List Str} {sp : Sp} {E : XK} {e fe : Expr} {es : List Expr} {te tf : TE} {t tk : TA} {pos : Pos} {kws : List Keyword} {gg : List Value → List Value → List Value} {gV : List V → List V → List V}
theorem pe_callI (hf : PE X fe tf) (c : StX.CallO X.K C g) (F : FnR X.prog X.w X.K X.mg X.base CX k g sp) (hr : Room k X.A) (hx : Passes CX X E) (ha : PA X (e :: es) t)
    (ht : eval (.Call fe (e :: es) [] pos) X.env = (do callWith pos (← eval fe X.env) [] (backTo pos (starEach (e :: es) X.env)) (backToKw pos (keywordEach [] X.env))) := by rfl)
    (he : starEach (e :: es) X.env = (false, eval e X.env) :: starEach es X.env := by rfl) (hpl : (backTo pos (starEach es X.env)).any (·.1) = false := by rfl) : PE X (.Call fe (e :: es) [] pos) (tCallI C sp E tf t) := by
  refine ⟨fun pins s σ H Q I h => ?_⟩
  refine Call_ (thn (hf.run pins s σ H _ I h) fun u s1 ⟨y, H1, I1, ry, a, ey, q⟩ => ?_) ht
  subst ey
  obtain rfl : u = Value.ref a := ry
  refine StX.callO_with (thn (ha.run pos pins s1 σ H1 _ I1 q) fun us s2 ⟨vs, H2, I2, r, hi, q2⟩ => ?_) he hpl
  obtain ⟨ox, od, J, hd⟩ := StX.insC_at I2 (.inr hi)
  exact ⟨⟨C, ox, od, J, hd⟩, StX.run_callO c F hr hx I2 (.inr hi) r q2⟩
theorem callOK_of {M : Model} {A : Around} {E : Value → Shared → Prop} {s : Shared} {a : Addr} {pos : Pos} {Q : Value → Shared → Prop} {args : List (Bool × Sem Value)} {keywords : List (Option Str × Sem Value)} (hplain : (args.any (·.1) || keywords.any (·.1.isNone)) = false)
    (h : wpAny M A (evalArgs (.ref a) true args keywords) (fun z s₁ => (∃ C ox od, PySem.W.InstAt s₁.heap a ox C od ∧ ox.data = .plain) ∧ wpAny M A (call (.ref a) ([] ++ z.pos) z.kw) Q E s₁) E s) : wpAny M A (callWith pos (.ref a) [] args keywords) Q E s := by
  unfold callWith
  refine wpAny_bind (wpAny_holding (wpAny_mono h (fun z s₁ h₁ => wpAny_bind (wpAny_standAt ?_)) fun _ _ y => y))
  obtain ⟨⟨C, ox, od, J, hd⟩, h₁⟩ := h₁
  have L := PySem.W.kco_keeper (M := M) J hd
  simp only [hplain]
  refine wpAny_bind (L.here ?_)
  have tail : ∀ {t : Sem Value}, wpAny M A t Q E s₁ → wpAny M A (t >>= fun r => holding [r] point >>= fun _ => pure r) Q E s₁ :=
    fun ht => wpAny_bind (wpAny_mono ht (fun r s₂ hr => wpAny_bind (wpAny_holding (wpAny_point (wpAny_pure hr)))) fun _ _ y => y)
  exact tail (wpAny_operateT h₁)
theorem pe_callIK0 (hf : PE X fe tf) (c : StX.CallO X.K C g) (F : FnOk X.prog X.w X.K X.mg X.base CX k g fd ps sp) (hr : Room k X.A) (hb : KBn X.K fd ps 1 ks gg gV) (hx : Passes CX X E) (hkw : PK X kws tk)
    (ht : eval (.Call fe [] kws pos) X.env = (do callWith pos (← eval fe X.env) [] (backTo pos (starEach [] X.env)) (backToKw pos (keywordEach kws X.env))) := by rfl)
    (hall : (backToKw pos (keywordEach kws X.env)).all (·.1.isSome) = true := by rfl) (hks : (backToKw pos (keywordEach kws X.env)).filterMap (·.1) = ks := by rfl)
    (hpl : ((backTo pos (starEach [] X.env)).any (·.1) || (backToKw pos (keywordEach kws X.env)).any (·.1.isNone)) = false := by rfl) : PE X (.Call fe [] kws pos) (tCallIK ks.length C sp gV E tf tk) := by
  refine ⟨fun pins s σ H Q I h => ?_⟩
  rw [ht]
  refine wpAny_bind (thn (hf.run pins s σ H _ I h) fun u s1 ⟨y, H1, I1, ry, a, ey, q⟩ => ?_)
  subst ey
  obtain rfl : u = Value.ref a := ry
  refine callOK_of hpl (evalArgs_kw2_nil hall (thn (hkw.run pos pins s1 σ H1 _ I1 q) fun ws s2 hh => ?_))
  obtain ⟨zs, H2, I2, rz, l2, hi, q2⟩ := hh
  obtain ⟨ox, od, J, hd⟩ := StX.insC_at I2 (.inr hi)
  refine ⟨⟨C, ox, od, J, hd⟩, ?_⟩
  rw [hks]
  have r : Vals [V.ref a] [Value.ref a] := .cons rfl .nil
  have r2 := hb.rel r rz
  refine wpAny_call (PySem.W.kco_code I2.kIn J hd c.at_ c.fn c.fi (codeAny_mono (F.run X.A X.stack s2 H2 ⟨[.ref a], ks.zip ws⟩ (gg [.ref a] ws) (gV [.ref a] zs) Q E hr I2.env0 (hb.to s2 [.ref a] ws I2.kIn rfl (rz.length.symm.trans l2)) r2 q2) fun r s' hq => ?_))
  cases r with
  | error e => exact hx pins σ H2 s2 e s' I2 hq
  | ok fl =>
    cases fl with
    | ret u => exact I2.after hq
    | next => exact False.elim hq
    | brk => exact False.elim hq
    | cont => exact False.elim hq
end
/-- what the top has written of a class whose instances are called -/
def callOB (K : PySem.W.Frag) (C : Addr) : Bool := decide (PySem.W.findIn K (.ref C) "__call__" = some (some (.ref (He.ma K C "__call__")))) && (PySem.W.isFn K (.ref (He.ma K C "__call__")) && PySem.W.fnIn K (He.ma K C "__call__"))
theorem callO_of {K : PySem.W.Frag} {C : Addr} (h : callOB K C = true) : StX.CallO K C (He.ma K C "__call__") := by
  obtain ⟨h1, h2⟩ := He.ba h
  obtain ⟨h3, h4⟩ := He.ba h2
  exact ⟨of_decide_eq_true h1, h3, h4⟩
end L2
set_option maxRecDepth 100000
namespace L2
open PySem PySem.Spec PyProof.Rows
/-! operators of an own class: a op b, -a; math.lcm -/
section
variable {X : Cx} {pins : List (Addr × Obj)} {σ : St} {H : Hp} {s : Shared}
theorem plain_looks {y : V} {u : Value} {S : String} (I : Inv X pins σ H s) (ry : RelV y u) (h : Plain X.K H y S) (M : Model) : PySem.W.Looks M s.heap (typeOf u) (.type S) := by
  have at_ : ∀ {a : Addr} {o : Obj} {T : String}, s.heap.get? a = some o → o.cls = .type T → PySem.W.Looks M s.heap (typeOf (.ref a)) (.type T) := fun e c => by
    rw [← c]
    exact (PySem.W.Looks.ld e).andThen .now
  cases h with
  | non => cases (show u = Value.none from ry); exact .of_pure rfl
  | bl b => cases (show u = Value.bool b from ry); exact .of_pure rfl
  | int i => obtain ⟨t, rfl⟩ := (show ∃ t, u = Value.int i t from ry); exact .of_pure rfl
  | str z => obtain ⟨t, rfl⟩ := (show ∃ t, u = Value.str z t from ry); exact .of_pure rfl
  | @lst a xs e =>
    cases (show u = Value.ref a from ry)
    obtain ⟨_, _, n, _, h1⟩ := (show ObjOk X.prog X.w H s.heap a (.lst xs) from I.hok a _ e)
    exact at_ h1 rfl
  | @tup a xs e =>
    cases (show u = Value.ref a from ry)
    obtain ⟨_, _, _, o, h1, h2, _⟩ := (show ObjOk X.prog X.w H s.heap a (.tup xs) from I.hok a _ e)
    exact at_ h1 h2
  | @dK a kvs e =>
    cases (show u = Value.ref a from ry)
    obtain ⟨_, _, _, _, o, _, _, h1, h2, _⟩ := (show ObjOk X.prog X.w H s.heap a (.dK kvs) from I.hok a _ e)
    exact at_ h1 h2.1
theorem plain_name {K : PySem.W.Frag} {y : V} {S : String} (h : Plain K H y S) : S ∈ ["NoneType", "bool", "int", "str", "list", "tuple", "dict"] := by cases h <;> decide
end
abbrev plainTys : List String := ["NoneType", "bool", "int", "str", "list", "tuple", "dict"]
theorem mro_none : fastBuiltinMro "NoneType" = some [.type "NoneType", .type "object"] := by decide +kernel
theorem mro_bool : fastBuiltinMro "bool" = some [.type "bool", .type "int", .type "object"] := by decide +kernel
theorem mro_int : fastBuiltinMro "int" = some [.type "int", .type "object"] := by decide +kernel
theorem mro_str : fastBuiltinMro "str" = some [.type "str", .type "object"] := by decide +kernel
theorem mro_list : fastBuiltinMro "list" = some [.type "list", .type "object"] := by decide +kernel
theorem mro_tuple : fastBuiltinMro "tuple" = some [.type "tuple", .type "object"] := by decide +kernel
theorem mro_dict : fastBuiltinMro "dict" = some [.type "dict", .type "object"] := by decide +kernel
theorem sub_no (K : PySem.W.Frag) (C : Addr) : ∀ S ∈ plainTys, PySem.W.subIn K (.type S) (.ref C) = some false := by
  intro S hS
  simp only [List.mem_cons, List.not_mem_nil, or_false] at hS
  rcases hS with rfl | rfl | rfl | rfl | rfl | rfl | rfl <;> simp [PySem.W.subIn, mro_none, mro_bool, mro_int, mro_str, mro_list, mro_tuple, mro_dict]
def opTys (nm : String) : Bool := plainTys.all fun S => (fastLookup S (PySem.dunder nm)).isSome && (fastLookup S (dunderR nm)).isSome
theorem op_tys (K : PySem.W.Frag) (C : Addr) {nm : String} (h : opTys nm = true) : ∀ S ∈ plainTys, (PySem.W.findIn K (.type S) (PySem.dunder nm)).isSome = true ∧ (PySem.W.findIn K (.type S) (dunderR nm)).isSome = true ∧ PySem.W.subIn K (.type S) (.ref C) = some false := fun S hS => by
  have := List.all_eq_true.mp h S hS
  obtain ⟨h1, h2⟩ := Bool.and_eq_true_iff.mp this
  exact ⟨h1, h2, sub_no K C S hS⟩
theorem ot_add : opTys "add" = true := by decide +kernel
theorem ot_mul : opTys "mul" = true := by decide +kernel
theorem ot_lshift : opTys "lshift" = true := by decide +kernel
theorem ot_or : opTys "or" = true := by decide +kernel
theorem ot_and : opTys "and" = true := by decide +kernel
theorem ot_xor : opTys "xor" = true := by decide +kernel
theorem ot_sub : opTys "sub" = true := by decide +kernel
/-- the class has this operator of its own, and none the other way about -/
structure OwnOp (K : PySem.W.Frag) (C f : Addr) (nm : String) : Prop where
  at_ : PySem.W.findIn K (.ref C) (PySem.dunder nm) = some (some (.ref f))
  fn : PySem.W.isFn K (.ref f) = true
  first : PySem.W.selfFirst K C = true
  back : PySem.W.findIn K (.ref C) (dunderR nm) = some none
def ownOpB (K : PySem.W.Frag) (C : Addr) (nm m : Str) (r : Str) : Bool := He.eqO (PySem.W.findIn K (.ref C) m) (some (some (.ref (He.ma K C m)))) && (PySem.W.isFn K (.ref (He.ma K C m)) && (PySem.W.selfFirst K C && He.eqO (PySem.W.findIn K (.ref C) r) (some none)))
theorem ownOp_of {K : PySem.W.Frag} {C : Addr} {nm : String} {z m r : Str} (em : PySem.dunder nm = m) (er : dunderR nm = r) (h : ownOpB K C z m r = true) : OwnOp K C (He.ma K C m) nm := by
  obtain ⟨h1, h⟩ := He.ba h
  obtain ⟨h2, h⟩ := He.ba h
  obtain ⟨h3, h4⟩ := He.ba h
  exact ⟨by rw [em]; exact He.eqO_ok h1, h2, h3, by rw [er]; exact He.eqO_ok h4⟩
/-- the other thing: an instance of C too, or a plain value -/
def Oth (K : PySem.W.Frag) (C : Addr) (H : Hp) (y : V) : Prop := (∃ b dx fs, y = .ref b ∧ H b = some (.ins C dx fs)) ∨ ∃ S, Plain K H y S
def rOwnOp (K : PySem.W.Frag) (C : Addr) (sp : Sp) (E : XK) : R2 := fun x y H Q => ∃ (a dx : Addr) (fs : List (Str × V)), x = .ref a ∧ H a = some (.ins C dx fs) ∧ Oth K C H y ∧ sp [x, y] H Q E
def rOwnUn (C : Addr) (sp : Sp) (E : XK) : V → Hp → VK → Prop := fun x H Q => ∃ (a dx : Addr) (fs : List (Str × V)), x = .ref a ∧ H a = some (.ins C dx fs) ∧ sp [x] H Q E
section
variable {X : Cx} {CX : CXT} {n : Nat} {C f : Addr} {sp : Sp} {E : XK}
theorem no_ni {pins : List (Addr × Obj)} {σ : St} {Q : VK} {v : Value} {s : Shared} (h : EP X pins σ Q v s) : PySem.W.CmpBack (EP X pins σ Q) v s := by
  obtain ⟨x, H', I', r, q⟩ := id h
  cases x <;> first
    | (obtain ⟨t, rfl⟩ := (show ∃ t, v = _ from r); exact h)
    | (cases (show v = _ from r); exact h)
theorem own_bin {prog : Program} {w : World} {A : Around} {Er : Value → Shared → Prop} {s : Shared} {K : PySem.W.Frag} {x C f : Addr} {ox : Obj} {od : Option Obj} {op : Operator} {b : Value} {T : String} {fo ro : Option Value} {Q : Value → Shared → Prop}
    (Y : K.In s.heap) (J : PySem.W.InstAt s.heap x ox C od) (o : OwnOp K C f op.info.2) (hb : PySem.W.Looks (model prog w) s.heap (typeOf b) (.type T))
    (h1 : PySem.W.findIn K (.type T) (PySem.dunder op.info.2) = some fo) (h2 : PySem.W.findIn K (.type T) (dunderR op.info.2) = some ro) (hsub : PySem.W.subIn K (.type T) (.ref C) = some false)
    (h : wpAny (model prog w) A (call (.ref f) [.ref x, b]) (PySem.W.CmpBack Q) Er s) : wpAny (model prog w) A (binaryOp op (.ref x) b) Q Er s := by
  obtain ⟨cd, rest, hcd, hm⟩ := PySem.W.ksp_first o.first
  obtain ⟨o1, o2, _, o4⟩ := o
  rcases hi : op.info with ⟨sy, nm⟩
  simp only [hi] at o1 o4 h1 h2
  have one := PySem.W.ksp_try Y J o1 o2 h
  obtain ⟨hh, g, d, tt, os⟩ := s
  have k1 : PySem.W.Looks (model prog w) hh (typeOf (.ref x)) (.ref C) := J.type
  have k3 := PySem.W.fills_K (M := model prog w) Y hcd hm o1
  have k4 := PySem.W.ksp_fillsT (M := model prog w) Y h1 h2
  have k5 : PySem.W.Looks (model prog w) hh (isSubtype (.type T) (.ref C)) false := PySem.W.looks_subIn Y hsub
  have k6 := PySem.W.ksp_inPy (M := model prog w) Y o1 o4 (.inl rfl)
  have k7 : PySem.W.Looks (model prog w) hh (numberSlotInPython (.type T) nm) false := .of_pure rfl
  have k8 : PySem.W.Looks (model prog w) hh (typeLookup (.type T) (dunderR nm)) ro := PySem.W.looks_findIn Y h2
  have ne : (Value.ref C == Value.type T) = false := Bool.eq_false_iff.mpr fun q => nomatch beq_iff_eq.mp q
  generalize ((fo.isSome && !isSeqSlot fo) || (ro.isSome && !isSeqSlot ro)) = rt at k4
  simp only [binaryOp, hi]
  refine wpAny_holding (wpAny_bind ?_)
  unfold binaryOp1
  refine wpAny_bind (k1.at (wpAny_bind (hb.at (wpAny_bind (k3.at ?_)))))
  simp only [ne, Bool.false_eq_true, if_false]
  cases rt <;>
  · ksp_lk
    refine wpAny_mono one (fun r s' z => ?_) fun _ _ e => e
    obtain ⟨v, rfl, hq⟩ := z
    ksp_lk
    exact hq
theorem op_own {op : Operator} (F : FnR X.prog X.w X.K X.mg X.base CX n f sp) (o : OwnOp X.K C f op.info.2) (hT : opTys op.info.2 = true)
    (hr : Room n X.A) (hx : Passes CX X E) : OpR X (binaryOp op) (rOwnOp X.K C sp E) := by
  intro pins s σ H x y v u Q I rx ry hq
  obtain ⟨a, dx, fs, rfl, ha, hy, hsp⟩ := hq
  cases rx
  obtain ⟨mA, J, _⟩ := ins_get I.hok ha
  obtain ⟨od, J, _⟩ := J.look
  obtain ⟨m, hF⟩ := I.fr
  have run := wpAny_call (run_fnR (us := [.ref a, u]) (vs := [.ref a, y]) F hr hx I (.cons rfl (.cons ry .nil)) hsp)
  have back : wpAny (model X.prog X.w) X.A (call (.ref f) [.ref a, u]) (PySem.W.CmpBack (EP X pins σ Q)) X.xe s := wpAny_mono run (fun _ _ z => no_ni z) fun _ _ z => z
  rcases hy with ⟨b, dx2, fs2, rfl, hb⟩ | ⟨S, hp⟩
  · cases ry
    obtain ⟨mB, JB, _⟩ := ins_get I.hok hb
    obtain ⟨ob, JB, _⟩ := JB.look
    exact PySem.W.binop_K hF I.ok.mod.kin J JB.type o.first o.at_ o.fn back
  · obtain ⟨h1, h2, h3⟩ := op_tys X.K C hT S (plain_name hp)
    obtain ⟨fo, e1⟩ := Option.isSome_iff_exists.mp h1
    obtain ⟨ro, e2⟩ := Option.isSome_iff_exists.mp h2
    exact own_bin I.kIn J o (plain_looks I ry hp _) e1 e2 h3 back
theorem un_own (F : FnR X.prog X.w X.K X.mg X.base CX n f sp) (h1 : PySem.W.findIn X.K (.ref C) "__neg__" = some (some (.ref f))) (h2 : PySem.W.isFn X.K (.ref f) = true) (hr : Room n X.A) (hx : Passes CX X E) : UnR X (unaryOp .USub) (rOwnUn C sp E) := by
  intro pins s σ H x v Q I rx hq
  obtain ⟨a, dx, fs, rfl, ha, hsp⟩ := hq
  cases rx
  obtain ⟨mA, J, _⟩ := ins_get I.hok ha
  obtain ⟨od, J, _⟩ := J.look
  obtain ⟨m, hF⟩ := I.fr
  exact PySem.W.ksp_neg hF I.ok.mod.kin J h1 h2 (wpAny_call (run_fnR (us := [.ref a]) (vs := [.ref a]) F hr hx I (.cons rfl .nil) hsp))
end
def rLcm : List V → Hp → VK → Prop := fun vs H Q => ∃ a b : Nat, vs = [.int (a : Int), .int (b : Int)] ∧ a < 2 ^ 64 ∧ b < 2 ^ 64 ∧ Q (.int ((Nat.lcm a b : Nat) : Int)) H
theorem cr_lcm {X : Cx} : CallR X (.builtin "math.lcm") rLcm := by
  intro pins s σ H vs us Q I r h
  obtain ⟨a, b, rfl, ha, hb, q⟩ := h
  obtain ⟨t, u, rfl⟩ := Vals.int2 r
  refine PySem.W.mc_lcm (by rw [Int.natAbs_natCast]; exact ha) (by rw [Int.natAbs_natCast]; exact hb) fun _ => ?_
  rw [Int.natAbs_natCast, Int.natAbs_natCast]
  exact ⟨.int _, H, I.tok _, ⟨_, rfl⟩, q⟩
/-! a range as a value, walked by its name -/
theorem cr_range1 {X : Cx} : CallR X (.type "range") (fun vs H Q => ∃ j, vs = [V.int j] ∧ ∀ p, H p = none → Q (.ref p) (upd H p (.rng 0 j))) := by
  intro pins s σ H vs us Q I r h
  obtain ⟨j, rfl, q⟩ := h
  cases r with
  | cons r rr =>
    cases rr
    obtain ⟨t, rfl⟩ := r
    refine call_range_1 ⟨.ref s.heap.objs.size, upd H s.heap.objs.size (.rng 0 j), I.laid (t' := _) (fun b o e => Heap.get?_push_of_some _ e) (Nat.le_refl _) ?_, rfl, q _ (I.hok.fresh (Nat.le_refl _))⟩
    exact ⟨_, _, _, Heap.get?_push_size _ rfl⟩
def iRngV (te : TE) : TI := fun σ H R => te σ H fun y H1 => ∃ (a : Addr) (lo hi : Int), y = .ref a ∧ H1 a = some (.rng lo hi) ∧ (-(2 ^ 62) ≤ lo ∧ lo < 2 ^ 62 ∧ -(2 ^ 62) ≤ hi ∧ hi < 2 ^ 62) ∧ R (Itr lo (hi - lo).toNat) H1
theorem pi_rng {X : Cx} {tg e : Expr} {te : TE} (he : PE X e te) : PI X tg e (iRngV te) := by
  refine ⟨fun pins s σ H R I h => thn (he.run pins s σ H _ I h) fun w s1 ⟨y, H1, I1, r1, a, lo, hi, ey, ea, ⟨b1, b2, b3, b4⟩, q⟩ => ?_⟩
  subst ey
  obtain rfl : w = Value.ref a := r1
  obtain ⟨t, u, v, ho⟩ := (show ObjOk X.prog X.w H1 s1.heap a (.rng lo hi) from I1.hok a _ ea)
  refine wpAny_pyIter_range (show IsRange s1.heap a lo hi 1 t u v from ho) (small_one b1 b2 b3 b4) ?_
  refine ⟨s1.heap.objs.size, [s1.heap.objs.size], _, _, H1, rfl, I1.kept (t' := s1.toks) fun b o e => Heap.get?_push_of_some _ e, turn_range _ lo (hi - lo).toNat, ?_, fun b hb => ?_, q⟩
  · have e1 : lo + ((0 : Nat) : Int) * 1 = lo := by simp
    have e2 : (((hi - lo).toNat : Nat) : Int) - ((0 : Nat) : Int) = Builtin.Range.rangeSize lo hi 1 := by
      rw [rangeSize_one]
      split <;> omega
    show IsRangeIter _ _ (lo + ((0 : Nat) : Int) * 1) ((((hi - lo).toNat : Nat) : Int) - ((0 : Nat) : Int)) 1
    rw [e1, e2]
    exact Heap.get?_push_size _ rfl
  · obtain rfl : b = s1.heap.objs.size := by simpa using hb
    exact I1.fpOk (Nat.le_refl _) (I1.hok.fresh (Nat.le_refl _))
end L2
set_option maxRecDepth 100000
namespace L2
open PySem PySem.Spec PyProof.Rows
/-! str of an instance with a text of its own -/
def rStrI (C : Addr) (sp : Sp) (E : XK) : List V → Hp → VK → Prop := fun xs H Q => ∃ (a dx : Addr) (fs : List (Str × V)), xs = [V.ref a] ∧ H a = some (.ins C dx fs) ∧ sp [V.ref a] H (fun v H' => ∃ z, v = V.str z ∧ Q (V.str z) H') E
section
variable {X : Cx} {CX : CXT} {n : Nat} {C f : Addr} {fd : FuncData} {ps : List Str} {sp : Sp} {E : XK}
theorem own_code1 {A : Around} {pins : List (Addr × Obj)} {σ : St} {H : Hp} {s : Shared} {a : Addr} {Q : VK} (F : FnOk X.prog X.w X.K X.mg X.base CX n f fd ps sp) (hb : Binds X.K fd ps []) (hr : Room n A) (fr : A.frames = X.A.frames) (hx : Passes CX X E) (I : Inv X pins σ H s)
    (h : sp [.ref a] H Q E) : codeAny (model X.prog X.w) A (.call (.ref f) ⟨[.ref a], []⟩) (fun r s' => match r with
      | .ok (.ret v) => EP X pins σ Q v s'
      | .ok _ => False
      | .error e => X.xe e s') s := by
  have e0 : Env0 X.prog X.w X.K X.mg X.base A X.stack s H := by
    have e := I.env0
    exact ⟨by rw [fr]; exact e.frames, e.mod, e.bs, e.bsz, e.funs, e.frf, e.hok, e.bare⟩
  have hl := F.len _ _ _ _ h
  have r2 : Vals [V.ref a] [Value.ref a] := .cons rfl .nil
  refine codeAny_mono (F.run A X.stack s H ⟨[.ref a], []⟩ [.ref a] [.ref a] _ E hr e0 (by
    have := hb s [.ref a] I.kIn (by simpa using hl)
    simpa using this) r2 h) fun r s' hq => ?_
  cases r with
  | error e => exact hx pins σ H s e s' I hq
  | ok fl =>
    cases fl with
    | ret w => exact I.after hq
    | next => exact False.elim hq
    | brk => exact False.elim hq
    | cont => exact False.elim hq
theorem call_strI (F : FnOk X.prog X.w X.K X.mg X.base CX n f fd ps sp) (hb : Binds X.K fd ps []) (hr : Room (n + 1) X.A) (h1 : PySem.W.findIn X.K (.ref C) "__str__" = some (some (.ref f))) (h2 : PySem.W.isFn X.K (.ref f) = true) (hx : Passes CX X E) : CallR X (.type "str") (rStrI C sp E) := by
  intro pins s σ H xs us Q I r hq
  obtain ⟨a, dx, fs, rfl, ha, hsp⟩ := hq
  cases r with
  | cons r rr =>
    cases rr
    cases r
    obtain ⟨mA, J, _⟩ := ins_get I.hok ha
    obtain ⟨od, J, _⟩ := J.look
    have hr2 : Room n X.A.in1.in1 := ⟨hr.hd, by have := hr.dp; show X.A.depth + 3 * n + 5 < _; omega, by have := hr.un; show X.A.units + 1 + 1 + 16 * n + 200 < _; omega⟩
    refine PySem.W.kso_call (by have := hr2.un; omega) I.kIn J h1 h2 (wpAny_call (codeAny_mono (own_code1 F hb hr2 rfl hx I hsp) fun r s' z => ?_))
    cases r with
    | error e => exact z
    | ok fl =>
      cases fl with
      | ret w =>
        obtain ⟨v, H', I', rz, y, rfl, q⟩ := z
        obtain ⟨t, rfl⟩ := (show ∃ t, w = Value.str y t from rz)
        exact ⟨.str y, H', I', ⟨t, rfl⟩, q⟩
      | next => exact z.elim
      | brk => exact z.elim
      | cont => exact z.elim
end
/-- what the top has written of a class with a text of its own -/
def strB (K : PySem.W.Frag) (C : Addr) : Bool := He.eqO (PySem.W.findIn K (.ref C) "__str__") (some (some (.ref (He.ma K C "__str__")))) && PySem.W.isFn K (.ref (He.ma K C "__str__"))
theorem str_of {K : PySem.W.Frag} {C : Addr} (h : strB K C = true) : PySem.W.findIn K (.ref C) "__str__" = some (some (.ref (He.ma K C "__str__"))) ∧ PySem.W.isFn K (.ref (He.ma K C "__str__")) = true := by
  obtain ⟨h1, h2⟩ := He.ba h
  exact ⟨He.eqO_ok h1, h2⟩
end L2
set_option maxRecDepth 100000
namespace L2
open PySem PySem.Spec PyProof.Rows ClX
/-! a class method called by keywords -/
def tCMethK (C : Addr) (m : Nat) (sp : Sp) (gV : List V → List V → List V) (E : XK) (ta : TE) (tk : TA) : TE := fun σ H Q => ta σ H fun x H1 => x = .ref C ∧ tk σ H1 fun zs H2 => zs.length = m ∧ sp (gV [.ref C] zs) H2 Q E
section
variable {X : Cx} {CX : CXT} {k : Nat} {p g C : Addr} {mc : Value} {fd : FuncData} {ps ks : List Str} {m : Str} {sp : Sp} {E : XK} {o : Expr} {ta : TE} {tk : TA} {pos apos : Pos} {kws : List Keyword} {gg : List Value → List Value → List Value} {gV : List V → List V → List V}
theorem pe_cmethK {pl : Sem Bool} (he : PE X o ta) (r : CRead X.K C mc) (c : CMet X.K C mc m p g) (F : FnOk X.prog X.w X.K X.mg X.base CX k g fd ps sp) (hr : Room k X.A) (hb : KBn X.K fd ps 1 ks gg gV) (hx : Passes CX X E) (hkw : PK X kws tk)
    (hall : (backToKw pos (keywordEach kws X.env)).all (·.1.isSome) = true := by rfl) (hks : (backToKw pos (keywordEach kws X.env)).filterMap (·.1) = ks := by rfl)
    (hpl : ((backTo pos (starEach [] X.env)).any (·.1) || (backToKw pos (keywordEach kws X.env)).any (·.1.isNone)) = false := by rfl)
    (ht : eval (.Call (.Attribute o m apos) [] kws pos) X.env = (do
      let ov ← eval o X.env
      standAt apos.atName
      let (f, first) ← holding [ov] (getMethod ov m pl)
      callWith pos f first (backTo pos (starEach [] X.env)) (backToKw pos (keywordEach kws X.env))) := by rfl) :
    PE X (.Call (.Attribute o m apos) [] kws pos) (tCMethK C ks.length sp gV E ta tk) := by
  refine ⟨fun pins s σ H Q I h => ?_⟩
  refine PySem.W.methodCall_KW (pl := pl) (thn (he.run pins s σ H _ I h) fun u s1 ⟨x, H1, I1, rx, ex, q⟩ => ?_) ht
  subst ex
  obtain rfl : u = Value.ref C := rx
  refine getmethcm_ok I1 r c fun s2 I2 => ?_
  refine PySem.W.callWith_of hpl (PySem.W.keeps_M (K := X.K) (self := .ref C) c.fi) (evalArgs_kw2_nil hall (thn (hkw.run pos _ s2 σ H1 _ I2 q) fun ws s3 ⟨zs, H2, I3, rz, l2, q2⟩ => ?_))
  refine ⟨⟨pin_at I3, I3.kIn⟩, ?_⟩
  rw [hks]
  have rr : Vals [V.ref C] [Value.ref C] := .cons rfl .nil
  have r2 := hb.rel rr rz
  have z : wpAny (model X.prog X.w) X.A (call (.ref s1.heap.objs.size) [] (ks.zip ws)) (EP X ((s1.heap.objs.size, PySem.W.methodObj (.ref g) (.ref C)) :: pins) σ Q) X.xe s3 := by
    refine wpAny_call (PySem.W.method_call (pin_at I3) (codeAny_mono (F.run X.A X.stack s3 H2 ⟨[.ref C], ks.zip ws⟩ (gg [.ref C] ws) (gV [.ref C] zs) Q E hr I3.env0 (hb.to s3 [.ref C] ws I3.kIn rfl (rz.length.symm.trans l2)) r2 q2) fun r s' hq => ?_))
    cases r with
    | error e => exact hx _ σ H2 s3 e s' I3 hq
    | ok fl =>
      cases fl with
      | ret u => exact I3.after hq
      | next => exact False.elim hq
      | brk => exact False.elim hq
      | cont => exact False.elim hq
  exact thn z fun _ _ y => unpinE y
end
end L2
set_option maxRecDepth 100000
set_option maxHeartbeats 2000000
/-! own classes: __iter__ that gives a tuple's iterator, __len__, __contains__; C(*xs) -/
namespace L2
open PySem PySem.Spec PyProof.Rows
/-! a heap made longer by freed places: nothing else is said of it -/
def hole : Obj := { cls := .none, data := .freed }
def longer (h : Heap) (n : Nat) : Heap := ⟨h.objs ++ Array.replicate (n - h.objs.size) hole, h.life⟩
theorem longer_get (h : Heap) (n : Nat) (b : Addr) : (longer h n).get? b = h.get? b := by
  unfold longer Heap.get?
  by_cases c : b < h.objs.size
  · rw [show (⟨h.objs ++ Array.replicate (n - h.objs.size) hole, h.life⟩ : Heap).objs[b]? = h.objs[b]? from Array.getElem?_append_left c]
  · have c2 : h.objs.size ≤ b := Nat.le_of_not_lt c
    rw [show (⟨h.objs ++ Array.replicate (n - h.objs.size) hole, h.life⟩ : Heap).objs[b]? = (Array.replicate (n - h.objs.size) hole)[b - h.objs.size]? from Array.getElem?_append_right c2]
    rw [Array.getElem?_eq_none (xs := h.objs) c2, Array.getElem?_replicate]
    by_cases c3 : b - h.objs.size < n - h.objs.size
    · rw [if_pos c3]
      rfl
    · rw [if_neg c3]
theorem longer_size {h : Heap} {n : Nat} (l : h.objs.size ≤ n) : (longer h n).objs.size = n := by
  show (h.objs ++ Array.replicate (n - h.objs.size) hole).size = n
  rw [Array.size_append, Array.size_replicate]
  omega
theorem funs_longer {h base : Heap} {n : Nat} : ∀ {l : List Env}, h.FunFrames base l → h.FunFrames (longer base n) l
  | [], _ => trivial
  | _ :: _, ⟨hk, ⟨L, o, hf, hn, ho, hd⟩, hr⟩ => ⟨hk, ⟨L, o, hf, by rw [longer_get]; exact hn, ho, hd⟩, funs_longer hr⟩
section
variable {P : Program} {w : World} {K : PySem.W.Frag} {mg : Str → Option Value} {base : Heap} {A : Around} {outer : List Env} {s : Shared} {H : Hp}
theorem env0_longer (e : Env0 P w K mg base A outer s H) : Env0 P w K mg (longer base s.heap.objs.size) A outer s H := by
  have kp : ∀ b o, base.get? b = some o → (longer base s.heap.objs.size).get? b = some o := fun b o q => by
    rw [longer_get]
    exact q
  obtain ⟨mb, m1, m2⟩ := e.mod.blt
  obtain ⟨mc, n1, n2⟩ := e.mod.nolimit
  exact ⟨e.frames, ⟨e.mod.kin.keeps kp, e.mod.glob.keeps kp, ⟨mb, m1.keeps kp, m2⟩, ⟨mc, n1.keeps kp, n2⟩⟩, fun b o q => e.bs b o (by rw [← longer_get base s.heap.objs.size]; exact q), by rw [longer_size e.bsz]; exact Nat.le_refl _, funs_longer e.funs, e.frf, e.hok, e.bare⟩
end
/-! iter(t) of a tuple -/
/-- at it a fresh iterator over the tuple at t -/
def TiO (t it : Addr) : HO := .ext fun h => h.IsTupleIter it t 0
theorem tiO_ok {P : Program} {w : World} {H : Hp} {h : Heap} {t it : Addr} (e : h.IsTupleIter it t 0) : ObjOk P w H h it (TiO t it) := by
  obtain ⟨o, e1, r⟩ := e
  exact ⟨⟨o, e1, r⟩, ⟨o, e1⟩, fun h1 h2 q k => by
    obtain ⟨o2, f1, f2⟩ := q
    exact ⟨o2, k _ f1, f2⟩⟩
def rIterT (K : PySem.W.Frag) (base : Heap) : List V → Hp → VK → Prop := fun xs H Q => ∃ (t : Addr) (zs : List V), xs = [.ref t] ∧ SqT K H t zs ∧ ∀ it, H it = Option.none → base.objs.size ≤ it → Q (.ref it) (upd H it (TiO t it))
theorem call_iterT {X : Cx} : CallR X (.builtin "iter") (rIterT X.K X.base) := by
  intro pins s σ H xs us Q I r h
  obtain ⟨t, zs, rfl, hq, q⟩ := h
  obtain ⟨u, rfl, ru⟩ := vals1 r
  cases ru
  obtain ⟨its, rv, pl, hz⟩ := I.tuple hq
  refine Calls.call_function_entry (by decide +kernel) (by decide +kernel) PySem.W.kdk_entry_iter (PySem.W.kdk_args_iter _) ?_
  unfold Builtin.«iter»
  refine wpAny_bind (m := someArgs "iter" 1 2 _) (wpAny_of_eq (a := [Value.ref t]) (by first | rfl | kernel_rfl!) ?_)
  show wpAny _ _ (pyIter (.ref t) >>= _) _ _ _
  refine wpAny_bind (wpAny_pyIter_tuple (show s.heap.IsTuple t its.toArray from pl) (wpAny_pure ⟨_, rfl, ?_⟩))
  exact ⟨.ref s.heap.objs.size, _, I.laid (t' := s.toks) (fun b u e => Heap.get?_push_of_some _ e) (Nat.le_refl _) (tiO_ok ⟨_, Heap.get?_push_size _ rfl, rfl, rfl⟩), rfl, q _ (I.hok.fresh (Nat.le_refl _)) I.env0.bsz⟩
section
variable {X : Cx} {CX : CXT} {n : Nat} {C f : Addr} {sp : Sp} {E : XK}
theorem own_codeR {A : Around} {pins : List (Addr × Obj)} {σ : St} {H : Hp} {s : Shared} {vs : List V} {us : List Value} {Q : VK} (F : FnR X.prog X.w X.K X.mg X.base CX n f sp) (hr : Room n A) (fr : A.frames = X.A.frames) (hx : Passes CX X E) (I : Inv X pins σ H s) (rv : Vals vs us)
    (h : sp vs H Q E) : codeAny (model X.prog X.w) A (.call (.ref f) ⟨us, []⟩) (fun r s' => match r with
      | .ok (.ret v) => EP X pins σ Q v s'
      | .ok _ => False
      | .error e => X.xe e s') s := by
  have e1 := I.env0
  have e0 : Env0 X.prog X.w X.K X.mg X.base A X.stack s H := ⟨fr.trans e1.frames, e1.mod, e1.bs, e1.bsz, e1.funs, e1.frf, e1.hok, e1.bare⟩
  refine codeAny_mono (F A X.stack s H us vs Q E hr e0 rv h) fun r s' hq => ?_
  match r, hq with
  | .error e, hq => exact hx pins σ H s e s' I hq
  | .ok (.ret _), hq => exact I.after hq
  | .ok .next, hq => exact hq.elim
  | .ok .brk, hq => exact hq.elim
  | .ok .cont, hq => exact hq.elim
/-! for x in o -/
/-- o.__iter__() hands out an iterator of a tuple; base: how long the heap was -/
def iOwn (K : PySem.W.Frag) (C : Addr) (sp : Heap → Sp) (E : XK) (te : TE) : TI := fun σ H R => te σ H fun y H1 => ∃ (a dx : Addr) (fs : List (Str × V)), y = .ref a ∧ H1 a = some (.ins C dx fs) ∧
  ∀ b : Heap, sp b [.ref a] H1 (fun v H' => ∃ (it t : Addr) (xs : List V), v = .ref it ∧ H1 it = Option.none ∧ b.objs.size ≤ it ∧ H' = upd H1 it (TiO t it) ∧ SqT K H1 t xs ∧ R (Itt K t) H1) E
theorem pi_own {tg e : Expr} {te : TE} (he : PE X e te) (h1 : PySem.W.findIn X.K (.ref C) "__iter__" = some (some (.ref f))) (h2 : PySem.W.isFn X.K (.ref f) = true) {sp : Heap → Sp} (F : ∀ b : Heap, FnR X.prog X.w X.K X.mg b CX n f (sp b)) (hr : Room n X.A) (hx : Passes CX X E) : PI X tg e (iOwn X.K C sp E te) := by
  refine ⟨fun pins s σ H R I h => ?_⟩
  refine thn (he.run pins s σ H _ I h) fun v s1 hh => ?_
  obtain ⟨y, H1, I1, r1, a, dx, fs, ey, ha, q⟩ := hh
  subst ey
  obtain rfl : v = Value.ref a := r1
  obtain ⟨mA, J, _⟩ := ins_get I1.hok ha
  obtain ⟨od, J, _⟩ := J.look
  obtain ⟨m0, hF⟩ := I1.fr
  refine PySem.W.owit_iter hF I1.ok.mod.kin J h1 h2 (wpAny_call ?_)
  have e0 := env0_longer I1.env0
  refine codeAny_mono (F _ X.A X.stack s1 H1 [.ref a] [.ref a] _ E hr e0 (.cons rfl .nil) (q _)) fun r s2 hq => ?_
  match r, hq with
  | .error e, hq => exact hx pins σ H1 s1 e s2 I1 hq
  | .ok .next, hq => exact hq.elim
  | .ok .brk, hq => exact hq.elim
  | .ok .cont, hq => exact hq.elim
  | .ok (.ret u), hq =>
    obtain ⟨v2, H2, I2, r2, it, t, xs, ev, hit, sz, eH, ht, qR⟩ := I1.after hq
    subst ev eH
    obtain rfl : u = Value.ref it := r2
    have x2 : s2.heap.IsTupleIter it t 0 := (I2.hok it _ upd_same).1
    have young : s1.heap.objs.size ≤ it := by
      rw [longer_size I1.env0.bsz] at sz
      exact sz
    have I3 := ItX.inv_drop I2 (φ := fun h => h.IsTupleIter it t 0) upd_same
    rw [ItX.dropH_upd hit] at I3
    unfold PySem.W.OwitIt
    refine wpAny_specialOf (name := Str.ofString "__next__") x2.typeIs PySem.F.slot_tuple_iterator_next.lookup ?_
    refine ⟨it, [it], _, Itt X.K t, H1, rfl, I3, turn_tuple t it, x2, fun b hb => ?_, qR⟩
    rw [List.mem_singleton.mp hb]
    have fo := ItX.inv_fp I2 (a := it) upd_same (Nat.le_trans I1.sz young)
    rw [ItX.dropH_upd hit] at fo
    exact fo
/-! len(o) -/
def rLenI (C : Addr) (sp : Sp) (E : XK) : List V → Hp → VK → Prop := fun xs H Q => ∃ (a dx : Addr) (fs : List (Str × V)), xs = [V.ref a] ∧ H a = some (.ins C dx fs) ∧ sp [V.ref a] H (fun v H' => ∃ i : Int, v = V.int i ∧ 0 ≤ i ∧ i < 2 ^ 63 ∧ Q (V.int i) H') E
theorem call_lenI (F : FnR X.prog X.w X.K X.mg X.base CX n f sp) (hr : Room (n + 1) X.A) (h1 : PySem.W.findIn X.K (.ref C) "__len__" = some (some (.ref f))) (h2 : PySem.W.isFn X.K (.ref f) = true) (hx : Passes CX X E) : CallR X (.builtin "len") (rLenI C sp E) := by
  intro pins s σ H xs us Q I r hq
  obtain ⟨a, dx, fs, rfl, ha, hsp⟩ := hq
  obtain ⟨u, rfl, ru⟩ := vals1 r
  cases ru
  obtain ⟨mA, J, _⟩ := ins_get I.hok ha
  obtain ⟨od, J, _⟩ := J.look
  obtain ⟨m0, hF⟩ := I.fr
  have hr2 : Room n X.A.in1 := ⟨hr.hd, by have := hr.dp; show X.A.depth + 3 * n + 5 < _; omega, by have := hr.un; show X.A.units + 1 + 16 * n + 200 < _; omega⟩
  refine PySem.W.len_K hF I.ok.mod.kin J h1 h2 (wpAny_call (codeAny_mono (own_codeR F hr2 rfl hx I (show Vals [V.ref a] [Value.ref a] from .cons rfl .nil) hsp) fun r s' z => ?_))
  match r, z with
  | .error e, z => exact z
  | .ok .next, z => exact z.elim
  | .ok .brk, z => exact z.elim
  | .ok .cont, z => exact z.elim
  | .ok (.ret u), z =>
    obtain ⟨v, H', I', rz, i, rfl, i0, i1, q⟩ := z
    obtain ⟨t, rfl⟩ := (show ∃ t, u = Value.int i t from rz)
    exact ⟨⟨i0, i1⟩, .int i, H', I'.tok _, ⟨_, rfl⟩, q⟩
/-! x in o -/
def rInI (C : Addr) (sp : Sp) (E : XK) (neg : Bool) : R2 := fun x y H Q => ∃ (a dx : Addr) (fs : List (Str × V)), y = V.ref a ∧ H a = some (.ins C dx fs) ∧ sp [V.ref a, x] H (fun v H' => ∃ b : Bool, v = V.bl b ∧ Q (V.bl (if neg then !b else b)) H') E
theorem op_inI (F : FnR X.prog X.w X.K X.mg X.base CX n f sp) (hr : Room n X.A) (h1 : PySem.W.findIn X.K (.ref C) "__contains__" = some (some (.ref f))) (h2 : PySem.W.isFn X.K (.ref f) = true) (hx : Passes CX X E) : OpR X (compareOp .In) (rInI C sp E false) := by
  intro pins s σ H x y v u Q I rx ry hq
  obtain ⟨a, dx, fs, rfl, ha, hsp⟩ := hq
  obtain rfl : u = Value.ref a := ry
  obtain ⟨mA, J, _⟩ := ins_get I.hok ha
  obtain ⟨od, J, _⟩ := J.look
  obtain ⟨m0, hF⟩ := I.fr
  refine PySem.W.in_K hF I.ok.mod.kin J h1 h2 (wpAny_call (codeAny_mono (own_codeR F hr rfl hx I (show Vals [V.ref a, x] [Value.ref a, v] from .cons rfl (.cons rx .nil)) hsp) fun r s' z => ?_))
  match r, z with
  | .error e, z => exact z
  | .ok .next, z => exact z.elim
  | .ok .brk, z => exact z.elim
  | .ok .cont, z => exact z.elim
  | .ok (.ret u), z =>
    obtain ⟨v, H', I', rz, b, rfl, q⟩ := z
    obtain rfl : u = Value.bool b := rz
    exact wpAny_pure ⟨.bl b, H', I', rfl, q⟩
/-! C(*xs) -/
def tMakeS (K : PySem.W.Frag) (C : Addr) (sp : Sp) (E : XK) (te : TE) : TE := fun σ H Q => te σ H fun y H1 => ∃ (a : Addr) (xs : List V), y = V.ref a ∧ (SqT K H1 a xs ∨ SqL K H1 a xs) ∧
  ∀ x dx, H1 x = Option.none → H1 dx = Option.none → dx ≠ x → sp (V.ref x :: xs) (upd (upd H1 dx (.own x)) x (.ins C dx [])) (fun v H2 => v = .non ∧ Q (.ref x) H2) E
theorem pe_makeS {x : Str} {e : Expr} {te : TE} {p sp_ pos : Pos} (M : Mk X.K C f) (F : FnR X.prog X.w X.K X.mg X.base CX n f sp) (hr : Room (n + 1) X.A) (hg : Gl X x) (hm : X.mg x = some (.ref C)) (hx : Passes CX X E) (he : PE X e te) (hd : (x == ("__debug__" : Str)) = false := by decide)
    (hst : starEach [.Starred e sp_] X.env = [(true, eval e X.env)] := by rfl) : PE X (.Call (.Name x p) [.Starred e sp_] [] pos) (tMakeS X.K C sp E te) := by
  refine ⟨fun pins s σ H Q I h => wpAny_Call_Name_kw (ld_glob I hg hm ?_ hd)⟩
  refine PySem.W.callWith_S (h₀ := X.base) I.ok.mod.kin M.kp (thn (he.run pins s σ H _ I h) fun v s1 hh => ?_) hst
  obtain ⟨y, H1, I1, ry, a, xs, ey, hxs, q⟩ := hh
  subst ey
  obtain rfl : v = Value.ref a := ry
  exact StX.star_any I1 hxs fun us s2 I2 rv => ⟨I2.kIn, StX.run_makeR M F hr hx I2 rv q⟩
/-- cls(*xs), cls a name of the def -/
def tMakeVS (i : Nat) (K : PySem.W.Frag) (C : Addr) (sp : Sp) (E : XK) (te : TE) : TE := fun σ H Q => σ[i]? = some (some (.ref C)) ∧ tMakeS K C sp E te σ H Q
theorem pe_makeVS {x : Str} {e : Expr} {te : TE} {p sp_ pos : Pos} {i : Nat} (M : Mk X.K C f) (F : FnR X.prog X.w X.K X.mg X.base CX n f sp) (hr : Room (n + 1) X.A) (hN : X.N[i]? = some x) (hv : Vis X.env.scope x) (hx : Passes CX X E) (he : PE X e te) (hd : (x == ("__debug__" : Str)) = false := by decide)
    (hcd : (x == ("__classdict__" : Str)) = false := by decide) (hst : starEach [.Starred e sp_] X.env = [(true, eval e X.env)] := by rfl) : PE X (.Call (.Name x p) [.Starred e sp_] [] pos) (tMakeVS i X.K C sp E te) := by
  refine ⟨fun pins s σ H Q I h => ?_⟩
  obtain ⟨hs, h⟩ := h
  refine wpAny_Call_Name_kw (thn ((pe_var (pos := p) (i := i) hN hv hd hcd).run pins s σ H (fun v H1 => v = .ref C ∧ H1 = H) I ⟨.ref C, hs, rfl, rfl⟩) fun u s1 hu => ?_)
  obtain ⟨v, H1, I1, r1, rfl, rfl⟩ := hu
  obtain rfl : u = Value.ref C := r1
  refine PySem.W.callWith_S (h₀ := X.base) I.ok.mod.kin M.kp (thn (he.run pins s1 σ _ _ I1 h) fun v s2 hh => ?_) hst
  obtain ⟨y, H2, I2, ry, a, xs, ey, hxs, q⟩ := hh
  subst ey
  obtain rfl : v = Value.ref a := ry
  exact StX.star_any I2 hxs fun us s3 I3 rv => ⟨I3.kIn, StX.run_makeR M F hr hx I3 rv q⟩
/-- C() -/
def tMakeR0 (C : Addr) (sp : Sp) (E : XK) : TE := fun σ H Q => ∀ x dx, H x = Option.none → H dx = Option.none → dx ≠ x → sp [V.ref x] (upd (upd H dx (.own x)) x (.ins C dx [])) (fun v H2 => v = .non ∧ Q (.ref x) H2) E
theorem pe_makeR0 {x : Str} {p pos : Pos} (M : Mk X.K C f) (F : FnR X.prog X.w X.K X.mg X.base CX n f sp) (hr : Room (n + 1) X.A) (hg : Gl X x) (hm : X.mg x = some (.ref C)) (hx : Passes CX X E) (hd : (x == ("__debug__" : Str)) = false := by decide) : PE X (.Call (.Name x p) [] [] pos) (tMakeR0 C sp E) := by
  refine ⟨fun pins s σ H Q I h => wpAny_Call_Name_kw (ld_glob I hg hm ?_ hd)⟩
  exact PySem.W.callWith_K0 (first := []) I.kIn M.kp (StX.run_makeR (us := []) (vs := []) M F hr hx I .nil h)
end
/-! defs with a star parameter, any number of values -/
theorem bindV_any {fd : FuncData} {pa pv : Str} (h0 : ∀ u, bindArgs fd ⟨[u], []⟩ = (newTuple [] >>= fun t => pure [(pa, u), (pv, t)])) (h1 : ∀ u a, bindArgs fd ⟨[u, a], []⟩ = (newTuple [a] >>= fun t => pure [(pa, u), (pv, t)]))
    (h2 : ∀ u a b r, bindArgs fd ⟨u :: a :: b :: r, []⟩ = (newTuple (a :: b :: r) >>= fun t => pure [(pa, u), (pv, t)])) (m : Nat) : BindV fd pa pv m := fun u rest _ => match rest with
  | [] => h0 u
  | [a] => h1 u a
  | a :: b :: r => h2 u a b r
theorem Fun.okS {P : Program} {w : World} {K : PySem.W.Frag} {mg : Str → Option Value} {base : Heap} {x qual : Str} {st : Stmt} {f : Addr} {fd : FuncData} {N : List Str} {pa pv : Str} {k : Nat} {sp : Sp} (F : Fun K x qual st f fd) (S : FnScope N [pa, pv] (defScope st)) (hb : BindV fd pa pv sizeLine)
    (hbody : ∀ (cdv : Value) (A : Around) (outer : List Env) (s : Shared) (H : Hp) (vs : List V) (Q : VK) (E : XK), Room k (A.deeper (envOfC qual (defScope st) s.heap.objs.size f cdv)) → sp vs H Q E →
      ∃ t, PSs (cxOf (L2.CX P w) P w K mg base N qual (defScope st) f cdv A outer s H E) (defBody st) t ∧ t { nx := fun _ H' => Q .non H', rt := Q } (start N vs) H) :
    FnR P w K mg base (L2.CX P w) (k + 1) f (fun vs H Q E => ∃ v rest, vs = v :: rest ∧ rest.length ≤ sizeLine ∧ ∀ p, H p = none → sp [v, .ref p] (upd H p (.tup rest)) Q E) := by
  obtain ⟨oc, od, kV, doc, pm, an, cdv, ct, osl, rfl, lk, hcd⟩ := F.ex
  exact fn_ofV lk hcd S (Nat.le_refl _) hb cxNew fun A outer s H vs Q E hr hsp => hbody cdv A outer s H vs Q E hr hsp
/-- what the top has written of a class's methods -/
def methB (K : PySem.W.Frag) (C : Addr) (m : Str) : Bool := He.eqO (PySem.W.findIn K (.ref C) m) (some (some (.ref (He.ma K C m)))) && PySem.W.isFn K (.ref (He.ma K C m))
theorem meth_of {K : PySem.W.Frag} {C : Addr} {m : Str} (h : methB K C m = true) : PySem.W.findIn K (.ref C) m = some (some (.ref (He.ma K C m))) ∧ PySem.W.isFn K (.ref (He.ma K C m)) = true := by
  obtain ⟨h1, h2⟩ := He.ba h
  exact ⟨He.eqO_ok h1, h2⟩
end L2
set_option maxRecDepth 100000
set_option maxHeartbeats 4000000
/-! set(xs) of a list of ints, sorted(set(xs)) -/
namespace L2
open PySem PySem.Spec PyProof.Rows
/-! the ascending list of a list's ints -/
def insU (k : Int) : List Int → List Int
  | [] => [k]
  | y :: r => if k < y then k :: y :: r else if k = y then y :: r else y :: insU k r
def sortU : List Int → List Int
  | [] => []
  | k :: r => insU k (sortU r)
theorem mem_insU {k x : Int} : ∀ {l : List Int}, x ∈ insU k l ↔ x = k ∨ x ∈ l
  | [] => by simp [insU]
  | y :: r => by
    have ih := mem_insU (k := k) (x := x) (l := r)
    unfold insU
    split
    · simp
    · split
      · rename_i h1 h2
        subst h2
        simp
      · simp only [List.mem_cons, ih]
        constructor
        · rintro (h | h | h)
          · exact .inr (.inl h)
          · exact .inl h
          · exact .inr (.inr h)
        · rintro (h | h | h)
          · exact .inr (.inl h)
          · exact .inl h
          · exact .inr (.inr h)
theorem mem_sortU {x : Int} : ∀ {l : List Int}, x ∈ sortU l ↔ x ∈ l
  | [] => Iff.rfl
  | k :: r => by
    show x ∈ insU k (sortU r) ↔ _
    rw [mem_insU, mem_sortU, List.mem_cons]
theorem insU_asc {k : Int} : ∀ {l : List Int}, l.Pairwise (· < ·) → (insU k l).Pairwise (· < ·)
  | [], _ => by simp [insU]
  | y :: r, h => by
    obtain ⟨h1, h2⟩ := List.pairwise_cons.mp h
    unfold insU
    split
    · rename_i c
      refine List.pairwise_cons.mpr ⟨fun z hz => ?_, h⟩
      rcases List.mem_cons.mp hz with rfl | hz
      · exact c
      · exact Int.lt_trans c (h1 z hz)
    · split
      · exact h
      · refine List.pairwise_cons.mpr ⟨fun z hz => ?_, insU_asc h2⟩
        rcases mem_insU.mp hz with rfl | hz
        · omega
        · exact h1 z hz
theorem sortU_asc : ∀ (l : List Int), (sortU l).Pairwise (· < ·)
  | [] => .nil
  | _ :: r => insU_asc (sortU_asc r)
/-- two ascending lists of the same ints are one -/
theorem asc_ext : ∀ {a b : List Int}, a.Pairwise (· < ·) → b.Pairwise (· < ·) → (∀ x, x ∈ a ↔ x ∈ b) → a = b
  | [], [], _, _, _ => rfl
  | [], y :: r, _, _, h => absurd ((h y).mpr List.mem_cons_self) (by simp)
  | x :: r, [], _, _, h => absurd ((h x).mp List.mem_cons_self) (by simp)
  | x :: r, y :: t, ha, hb, h => by
    obtain ⟨a1, a2⟩ := List.pairwise_cons.mp ha
    obtain ⟨b1, b2⟩ := List.pairwise_cons.mp hb
    have e : x = y := by
      rcases List.mem_cons.mp ((h x).mp List.mem_cons_self) with q | q
      · exact q
      · rcases List.mem_cons.mp ((h y).mpr List.mem_cons_self) with p | p
        · exact p.symm
        · have := a1 y p
          have := b1 x q
          omega
    subst e
    refine congrArg (x :: ·) (asc_ext a2 b2 fun z => ⟨fun hz => ?_, fun hz => ?_⟩)
    · rcases List.mem_cons.mp ((h z).mp (List.mem_cons_of_mem _ hz)) with q | q
      · have := a1 z hz
        omega
      · exact q
    · rcases List.mem_cons.mp ((h z).mpr (List.mem_cons_of_mem _ hz)) with q | q
      · have := b1 z hz
        omega
      · exact q
theorem sortU_id {l : List Int} (h : l.Pairwise (· < ·)) : sortU l = l := asc_ext (sortU_asc l) h fun _ => mem_sortU
theorem insU_len (k : Int) : ∀ (l : List Int), (insU k l).length ≤ l.length + 1
  | [] => Nat.le_refl _
  | y :: r => by
    have := insU_len k r
    unfold insU
    split
    · simp
    · split
      · simp
      · simp only [List.length_cons]
        omega
theorem sortU_len : ∀ (l : List Int), (sortU l).length ≤ l.length
  | [] => Nat.le_refl _
  | k :: r => by
    have h1 := insU_len k (sortU r)
    have h2 := sortU_len r
    show (insU k (sortU r)).length ≤ r.length + 1
    omega
theorem sortU_ne {l : List Int} (h : l ≠ []) : sortU l ≠ [] := fun z => by
  cases l with
  | nil => exact h rfl
  | cons x r =>
    have m : x ∈ sortU (x :: r) := mem_sortU.mpr List.mem_cons_self
    rw [z] at m
    cases m
theorem asc_nodup {l : List Int} (h : l.Pairwise (· < ·)) : l.Nodup := h.imp fun {a b} z e => by
  rw [e] at z
  exact absurd z (Int.lt_irrefl _)
theorem len_of_same {a b : List Int} (ha : a.Nodup) (hb : b.Nodup) (h : ∀ x, x ∈ a ↔ x ∈ b) : a.length = b.length :=
  ((List.perm_ext_iff_of_nodup ha hb).mpr h).length_eq
section
variable {P : Program} {w : World} {A : Around} {E : Value → Shared → Prop} {s : Shared}
/-- a set just made -/
abbrev emptyS (w : World) : Obj := { cls := .type "set", dict := none, data := .set #[] 0 (.fresh 0 0 (!w.params.followText "set-order")) }
/-- what has become of the state: the set of ns stands at a -/
def SetDone (w : World) (s : Shared) (ns : List Int) (u : Shared) : Prop := ∃ (g : Heap) (tk c : Nat), u = { s with heap := g, toks := tk } ∧ SetR w g s.heap.objs.size (fun j => decide (j ∈ ns)) c ∧ (∀ b o, s.heap.get? b = some o → g.get? b = some o)
set_option maxRecDepth 100000 in
theorem call_set_ints {l : Addr} {xs : Array Value} (ns : List Int) {Q : Value → Shared → Prop} (free : A.handled = none) (isl : s.heap.IsList l xs) (are : IntsAre xs.toList ns) (few : ns.length + 1 < scanBound)
    (h : ∀ u, SetDone w s ns u → Q (.ref s.heap.objs.size) u) : wpAny (model P w) A (call (.type "set") [.ref l]) Q E s := by
  have size : xs.size = ns.length := (Array.length_toList (xs := xs)).symm.trans are.length
  obtain ⟨mc, mt, em⟩ := F.called_set.mro
  have e1 := F.called_set.made
  have e2 := F.called_set.sub
  have e3 := F.called_set.notType
  have e4 := F.called_set.canCreate
  have e5 := F.typeCall_set_1 (.ref l)
  refine wpAny_call (codeAny_of_tree (show wpAny _ _ (callAny (.type "set") _) _ _ _ from wpAny_pure ⟨Code.quiet_builtin _ (by decide +kernel), codeAny_builtin F.entry_type_call ?_⟩))
  rw [Around.under_plain (weight_type_call_type "set" [.ref l] []) rfl]
  repeat (any_goals (first | assumption | wp_step))
  refine codeAny_mono (code_set_led1 (.ref l) (E := E) (Q₁ := fun y u => y = .ref s.heap.objs.size ∧ u = { s with heap := s.heap.push (emptyS w) }) ⟨rfl, rfl⟩) fun r u hr => ?_
  match r, hr with
  | .error e, hr => exact hr
  | .ok .next, hr => exact hr.elim
  | .ok .brk, hr => exact hr.elim
  | .ok .cont, hr => exact hr.elim
  | .ok (.ret y), ⟨ey, eu⟩ =>
    subst ey eu
    have got : (s.heap.push (emptyS w)).get? s.heap.objs.size = some (emptyS w) := Heap.get?_push_size _ rfl
    have isS : Shared.TypeIs { s with heap := s.heap.push (emptyS w) } (.ref s.heap.objs.size) "set" := ⟨_, got, rfl⟩
    have e6 := F.called_set.init.lookup
    have e7 := F.called_set.init.bind (.ref s.heap.objs.size)
    repeat (any_goals (first | assumption | wp_step))
    refine codeAny_mono (codeAny_call_builtin (R := wants (fun r2 u2 => r2 = .none ∧ SetDone w s ns u2) E) F.called_set.init.plain F.entry_set_init (check_set_init_1 isS ?_)) fun r2 u2 hr2 => ?_
    · obtain ⟨⟨oc, od, odt, osl⟩, olk, ocl, on, oda⟩ := isl
      simp only at ocl oda
      subst ocl oda
      have olk1 : (s.heap.push (emptyS w)).get? l = some { cls := .type "list", dict := od, data := .seq xs on, slots := osl } := Heap.get?_push_of_some _ olk
      have f1 := F.sub_list_set
      have f2 := F.sub_list_frozenset
      have f3 : (Value.type "list" == Value.type "dict") = false := by decide
      have isl1 : (s.heap.push (emptyS w)).IsList l xs := ⟨_, olk1, rfl, on, rfl⟩
      have ls : l < s.heap.objs.size := Heap.lt_size olk
      have ls1 : l ≠ (s.heap.push (emptyS w)).objs.size := by
        rw [Heap.size_push]
        exact Nat.ne_of_lt (Nat.lt_succ_of_lt ls)
      have ss1 : s.heap.objs.size ∉ [(s.heap.push (emptyS w)).objs.size, l] := by
        rw [Heap.size_push]
        intro z
        rcases List.mem_cons.mp z with z | z
        · exact absurd z (Nat.ne_of_lt (Nat.lt_succ_self _))
        · exact absurd (List.mem_singleton.mp z) (Nat.ne_of_gt ls)
      unfold Builtin.«set.__init__» noKeywords Builtin.Frozenset.updateFrom
      generalize ePI : pyIter = PI0
      wp_walk
      subst ePI
      refine wpAny_pyIter_list isl1 (wpAny_bind (wpAny_runValue ?_))
      have free3 : A.in1.in1.in1.handled = none := by simp [free]
      refine set_update_ints ((Walks.list free3 _ l ls1 xs).toS) s.heap.objs.size ss1 ns size few (fun i v hv => ?_) (xs.size - 0) 0 _ (by omega) (Nat.zero_le _) ⟨⟨_, Heap.get?_push_size _ rfl, rfl, rfl⟩, isl1.push _⟩ ⟨0, Nat.le_refl 0, setR_new_at (Heap.get?_push_of_some _ got)⟩ fun u3 c hm hc hS => ?_
      · have hi : i < ns.length := by
          rw [← size]
          exact (Array.getElem?_eq_some_iff.mp hv).1
        obtain ⟨t, e⟩ := PyProof.Rows.IntsAre.int_at are i v (by rw [Array.getElem?_toList]; exact hv)
        refine ⟨ns[i], t, List.getElem?_eq_getElem hi, e.trans ?_⟩
        rw [List.getD_eq_getElem?_getD, List.getElem?_eq_getElem hi]
        rfl
      · obtain ⟨h3, g3, d3, t3, o3⟩ := u3
        have q1 : g3 = s.gens := hm.gens
        have q2 : d3 = s.drawn := hm.drawn
        have q3 : o3 = s.os := hm.os
        subst q1 q2 q3
        show wpAny _ _ _ _ _ _
        refine wpAny_pure ?_
        show wpAny _ _ (ret Value.none) _ _ _
        refine wpAny_pure ⟨rfl, h3, t3, c, rfl, hS, fun b o e => ?_⟩
        have hb : b < s.heap.objs.size := Heap.lt_size e
        refine hm.heap b o (fun z => ?_) (Heap.get?_push_of_some _ (Heap.get?_push_of_some _ e))
        rcases List.mem_cons.mp z with z | z
        · exact absurd z (Nat.ne_of_lt hb)
        · have y := List.mem_singleton.mp z
          rw [Heap.size_push] at y
          exact absurd y (Nat.ne_of_lt (Nat.lt_succ_of_lt hb))
    · match r2, hr2 with
      | .error e, hr2 => exact hr2
      | .ok .next, hr2 => exact hr2.elim
      | .ok .brk, hr2 => exact hr2.elim
      | .ok .cont, hr2 => exact hr2.elim
      | .ok (.ret y2), ⟨e8, done⟩ =>
        subst e8
        repeat (any_goals (first | assumption | wp_step))
        exact h _ done
end
section
variable {X : Cx}
/-- set(xs) -/
def rSetInts (K : PySem.W.Frag) (w : World) : List V → Hp → VK → Prop := fun xs H Q => ∃ (l : Addr) (ns : List Int), xs = [V.ref l] ∧ SqL K H l (ns.map V.int) ∧ ns.length ≤ 4000 ∧
  ∀ p, H p = none → Q (.ref p) (upd H p (SetO w p (fun j => decide (j ∈ ns)) (sortU ns).length))
theorem cr_setInts (hc : X.calm = true) : CallR X (.type "set") (rSetInts X.K X.w) := by
  intro pins s σ H xs us Q I r h
  obtain ⟨l, ns, rfl, hq, hl, q⟩ := h
  obtain ⟨u, rfl, ru⟩ := vals1 r
  cases ru
  obtain ⟨its, rv, pl, hz⟩ := I.list hq
  refine call_set_ints ns (I.ok.hd hc) pl.isList (by simpa using ints_of_vals rv) (by unfold scanBound; omega) fun u hu => ?_
  obtain ⟨g, tk, c, rfl, R, kp⟩ := hu
  have ec : c = (sortU ns).length := by
    obtain ⟨o, es, ep, t, ho, hex, hd, gd, nd, hm, hb, hf, hn, hr, hl2⟩ := R
    rw [← hn, ← Array.length_toList (xs := es), ← List.length_map (f := keyOf)]
    exact len_of_same nd (asc_nodup (sortU_asc ns)) fun x => by rw [mem_sortU, ← hm x, decide_eq_true_eq]
  rw [ec] at R
  exact ⟨.ref s.heap.objs.size, _, I.laid (t' := tk) kp (Nat.le_refl _) (setO_new R), rfl, q _ (I.hok.fresh (Nat.le_refl _))⟩
/-- sorted(set(xs)) -/
def rSortS (w : World) : List V → Hp → VK → Prop := fun vs H Q => ∃ (a : Addr) (ns : List Int), vs = [V.ref a] ∧ H a = some (SetO w a (fun j => decide (j ∈ ns)) (sortU ns).length) ∧ (sortU ns).length < 64 ∧
  ∀ p, H p = none → Q (.ref p) (upd H p (.lst ((sortU ns).map V.int)))
theorem cr_sortS (hc : X.calm = true) : CallR X (.builtin "sorted") (rSortS X.w) := fun pins s σ H xs us Q I r h => by
  obtain ⟨a, ns, e1, e2, e3, q⟩ := h
  refine cr_sortedSet hc pins s σ H xs us Q I r ⟨a, _, _, e1, e2, e3, fun ms p asc mem _ hp => ?_⟩
  have e : ms = sortU ns := asc_ext asc (sortU_asc ns) fun x => by rw [mem x, mem_sortU, decide_eq_true_eq]
  rw [e]
  exact q p hp
end
end L2
set_option maxRecDepth 100000
/-! numbers written in words -/
namespace L2
open PySem PySem.NumText TL
def numT (n : Nat) : Str := Str.ofString (toString ((n : Nat) : Int))
theorem tl_numT (n : Nat) : tl (numT n) = numL n := tl_num n
theorem str_ext {a b : Str} (h : tl a = tl b) : a = b := by
  cases a with
  | mk x =>
    cases b with
    | mk y =>
      have e : x.toList = y.toList := h
      rw [show x = y from Array.toList_inj.mp e]
theorem numT_inj {m n : Nat} (h : numT m = numT n) : m = n := numL_inj (by rw [← tl_numT, ← tl_numT, h])
def valT (w : Str) : Nat := digitsVal (tl w)
theorem valT_num (n : Nat) : valT (numT n) = n := by
  unfold valT
  rw [tl_numT]
  exact numL_val n
theorem numL_mono : ∀ (m n : Nat), n ≤ m → (numL n).length ≤ (numL m).length := by
  intro m
  induction m using Nat.strongRecOn with
  | _ m ih =>
    intro n h
    by_cases hn : n < 10
    · rw [numL_lt hn]
      show 1 ≤ _
      exact List.length_pos_iff.mpr (numL_ne m)
    · rw [numL_step (n := n) (by omega), numL_step (n := m) (by omega), List.length_append, List.length_append]
      have := ih (m / 10) (by omega) (n / 10) (Nat.div_le_div_right h)
      simp only [List.length_singleton]
      omega
/-- the number that a word tells, no greater than most -/
def numW (most : Nat) (w : Str) : Option Nat := if numT (valT w) = w ∧ valT w ≤ most then some (valT w) else none
theorem numW_eq {most n : Nat} {w : Str} : numW most w = some n ↔ w = numT n ∧ n ≤ most := by
  unfold numW
  by_cases c : numT (valT w) = w ∧ valT w ≤ most
  · rw [if_pos c]
    constructor
    · intro h
      have e := Option.some.inj h
      rw [← e]
      exact ⟨c.1.symm, c.2⟩
    · rintro ⟨h, _⟩
      rw [h, valT_num]
  · rw [if_neg c]
    constructor
    · intro h
      cases h
    · rintro ⟨h, l⟩
      exact absurd (by rw [h, valT_num]; exact ⟨rfl, l⟩) c
theorem numW_num {most n : Nat} (h : n ≤ most) : numW most (numT n) = some n := numW_eq.mpr ⟨rfl, h⟩
theorem numW_none {most : Nat} {w : Str} (h : ∀ n, n ≤ most → w ≠ numT n) : numW most w = none := by
  cases e : numW most w with
  | none => rfl
  | some n => exact absurd (numW_eq.mp e).1 (h n (numW_eq.mp e).2)
def digB (w : Str) : Bool := (tl w).all fun c => decide (48 ≤ c ∧ c ≤ 57)
theorem digB_num (n : Nat) : digB (numT n) = true := by
  unfold digB
  rw [tl_numT]
  exact List.all_eq_true.mpr fun c hc => decide_eq_true (numL_digits n c hc)
theorem len_numT (n : Nat) : (numT n).length = (numL n).length := by
  rw [len_tl, tl_numT]
theorem pos_numT (n : Nat) : 1 ≤ (numT n).length := by
  rw [len_numT]
  exact List.length_pos_iff.mpr (numL_ne n)
theorem int_dig {w : Str} (h : digB w = true) (h1 : 1 ≤ w.length) (h2 : w.length ≤ 4300) : intText? w = some ((valT w : Nat) : Int) := by
  refine intText_digits (fun c hc => of_decide_eq_true (List.all_eq_true.mp h c hc)) (fun z => ?_) h2
  rw [len_tl, show tl w = [] from z] at h1
  exact absurd h1 (by decide)
theorem dig_in (c : Nat) : decide (c ∈ ("0123456789" : Str).cps.toList) = decide (48 ≤ c ∧ c ≤ 57) := by
  have e : ("0123456789" : Str).cps.toList = [48, 49, 50, 51, 52, 53, 54, 55, 56, 57] := by decide +kernel
  rw [e]
  by_cases h : 48 ≤ c ∧ c ≤ 57
  · rw [decide_eq_true h]
    have : c = 48 ∨ c = 49 ∨ c = 50 ∨ c = 51 ∨ c = 52 ∨ c = 53 ∨ c = 54 ∨ c = 55 ∨ c = 56 ∨ c = 57 := by omega
    rcases this with rfl | rfl | rfl | rfl | rfl | rfl | rfl | rfl | rfl | rfl <;> decide
  · rw [decide_eq_false h]
    refine decide_eq_false fun m => h ?_
    simp only [List.mem_cons, List.not_mem_nil, or_false] at m
    omega
theorem valT_lt {w : Str} (h : digB w = true) : valT w < 10 ^ w.length := by
  have key : ∀ (cs : List Nat) (a : Nat), (∀ c ∈ cs, 48 ≤ c ∧ c ≤ 57) → cs.foldl (fun acc c => acc * 10 + (c - 48)) a < (a + 1) * 10 ^ cs.length := by
    intro cs
    induction cs with
    | nil => intro a _; simp
    | cons c r ih =>
      intro a hh
      have hc := hh c List.mem_cons_self
      have q := ih (a * 10 + (c - 48)) fun d hd => hh d (List.mem_cons_of_mem _ hd)
      rw [List.foldl_cons]
      refine Nat.lt_of_lt_of_le q ?_
      rw [List.length_cons, Nat.pow_succ, Nat.mul_comm (10 ^ r.length) 10, ← Nat.mul_assoc]
      exact Nat.mul_le_mul_right _ (by omega)
  have z := key (tl w) 0 fun c hc => of_decide_eq_true (List.all_eq_true.mp h c hc)
  rw [len_tl]
  simpa [valT, digitsVal] using z
end L2
set_option maxRecDepth 100000
namespace Toy
open PySem L2 TL
abbrev s_is_integer : Stmt := top 1
abbrev s_is_within : Stmt := top 2
abbrev s_whole_in : Stmt := top 12
structure TR (mg : Str → Option Value) : Prop where
  m_isinstance : mg "isinstance" = none
  m_int : mg "int" = none
  m_bool : mg "bool" = none
  m_len : mg "len" = none
  m_all : mg "all" = none
  m_str : mg "str" = none
  m_list : mg "list" = none
  m_tuple : mg "tuple" = none
  m_range : mg "range" = none
  m_zip : mg "zip" = none
  m_repr : mg "repr" = none
  m_enumerate : mg "enumerate" = none
  g_DIGITS : ∃ t, mg "DIGITS" = some (.str "0123456789" t)
  g_GREATEST_STRIDE : ∃ t, mg "GREATEST_STRIDE" = some (.int (10 ^ 40) t)
  g_GREATEST_PART : ∃ t, mg "GREATEST_PART" = some (.int (10 ^ 6) t)
  g_ROW_PARTS : ∃ t, mg "ROW_PARTS" = some (.int 7 t)
  g_MOST_LANES : ∃ t, mg "MOST_LANES" = some (.int 16 t)
def spIsInt (K : PySem.W.Frag) : Sp := fun vs H Q _ => ∃ (x : V) (S : String), vs = [x] ∧ Plain K H x S ∧ Q (.bl (isI x)) H
def withinV (lo hi : Int) : V → Bool
  | .int i => decide (lo ≤ i ∧ i ≤ hi)
  | _ => false
def spWithin (K : PySem.W.Frag) : Sp := fun vs H Q _ => ∃ (x : V) (S : String) (lo hi : Int), vs = [x, .int lo, .int hi] ∧ Plain K H x S ∧ Q (.bl (withinV lo hi x)) H
theorem plain_same {K : PySem.W.Frag} {H H' : Hp} {x : V} {S : String} (s : Same H H') (h : Plain K H x S) : Plain K H' x S := by
  cases h with
  | non => exact .non
  | bl b => exact .bl b
  | int i => exact .int i
  | str z => exact .str z
  | lst e => exact .lst (s _ _ e)
  | tup e => exact .tup (s _ _ e)
  | dK e => exact .dK (s _ _ e)
/-- whole_in(word, most) -/
def numV (most : Nat) (w : Str) : V := match numW most w with
  | some n => .int (n : Int)
  | none => .non
def spWhole : Sp := fun vs H Q _ => ∃ (w : Str) (most : Nat), vs = [.str w, .int (most : Int)] ∧ w.length ≤ PySem.sizeLine ∧ most < 10 ^ 60 ∧ ∀ H', Same H H' → Q (numV most w) H'
theorem numV_bad {m : Nat} {z : Str} (h : ∀ n, n ≤ m → z = numT n → False) : numV m z = .non := by
  unfold numV
  rw [numW_none fun n hn e => h n hn e]
theorem numV_ok {m n : Nat} {z : Str} (e : z = numT n) (h : n ≤ m) : numV m z = .int (n : Int) := by
  unfold numV
  rw [e, numW_num h]
/-- which signs are digits -/
def digs (cs : List Nat) : List Bool := cs.map fun c => decide (48 ≤ c ∧ c ≤ 57)
theorem digs_all (z : Str) : (digs (tl z)).all id = digB z := by
  unfold digs digB
  rw [List.all_map]
  rfl
theorem log_small {n : Nat} (h : n < 10 ^ 70) : ((n : Nat) : Int).natAbs.log2 < 1920 := by
  show n.log2 < 1920
  by_cases c : n = 0
  · rw [c]
    decide
  · have := (Nat.log2_lt (n := n) (k := 240) c).mpr (Nat.lt_trans h (by decide +kernel))
    omega
section
variable {P : Program} {w : World} {K : PySem.W.Frag} {mg : Str → Option Value} {base : Heap}
theorem sc_is_integer : FnScope ["value"] ["value"] (defScope s_is_integer) := ⟨rfl, rfl, rfl, by decide +kernel, rfl, by decide +kernel, by decide +kernel⟩
theorem ok_is_integer {f : Addr} {fd : FuncData} (F : Fun K "is_integer" "is_integer" s_is_integer f fd) (T : TR mg) : FnOk P w K mg base CX0 1 f fd ["value"] (spIsInt K) := by
  refine F.ok sc_is_integer (fun vs H Q E h => ?_) (fun cdv A outer s H vs Q E hr h => ?_)
  · obtain ⟨x, S, rfl, _⟩ := h
    rfl
  · obtain ⟨x, S, rfl, hx, k⟩ := h
    refine ⟨_, (pss_one (ps_ret (pe_and (pe_callB call_isi (by rfl) T.m_isinstance (by decide +kernel) (pa_cons (pv 0) (pa_cons (pe_bltn (v := .ty "int") (u := .type "int") rfl T.m_int (by decide +kernel) rfl) pa_nil))) (pe_one (pe_not (pe_callB call_isi (by rfl) T.m_isinstance (by decide +kernel) (pa_cons (pv 0) (pa_cons (pe_bltn (v := .ty "bool") (u := .type "bool") rfl T.m_bool (by decide +kernel) rfl) pa_nil)))))))), ?_⟩
    refine ⟨_, rfl, _, _, _, _, _, rfl, .ty _, hx.ty, hx.kInt, _, rfl, ?_⟩
    cases hi : isI x with
    | true =>
      refine ⟨_, rfl, _, _, _, _, _, rfl, .ty _, hx.ty, hx.kBool, _, rfl, ?_⟩
      have hb : isB x = false := by
        cases x <;> first | rfl | (cases hi)
      rw [hb]
      rw [hi] at k
      exact k
    | false =>
      cases hb : isB x with
      | true =>
        refine ⟨_, rfl, _, _, _, _, _, rfl, .ty _, hx.ty, hx.kBool, _, rfl, ?_⟩
        rw [hb]
        rw [hi] at k
        exact k
      | false =>
        rw [hi] at k
        exact k
theorem sc_is_within : FnScope ["value", "least", "most"] ["value", "least", "most"] (defScope s_is_within) := ⟨rfl, rfl, rfl, by decide +kernel, rfl, by decide +kernel, by decide +kernel⟩
theorem ok_is_within {f fI : Addr} {fd fdI : FuncData} (F : Fun K "is_within" "is_within" s_is_within f fd) (T : TR mg) (FI : Fun K "is_integer" "is_integer" s_is_integer fI fdI) (gI : mg "is_integer" = some (.ref fI)) (bI : Binds K fdI ["value"] []) :
    FnOk P w K mg base CX0 2 f fd ["value", "least", "most"] (spWithin K) := by
  have GI : FnOk P w K mg base CX0 1 fI fdI ["value"] (spIsInt K) := ok_is_integer FI T
  have kI := FI.kp
  refine F.ok sc_is_within (fun vs H Q E h => ?_) (fun cdv A outer s H vs Q E hr h => ?_)
  · obtain ⟨x, S, lo, hi, rfl, _⟩ := h
    rfl
  · obtain ⟨x, S, lo, hi, rfl, hx, k⟩ := h
    refine ⟨_, (pss_one (ps_ret (pe_and (pe_call GI hr rfl gI kI bI .nil pass0 (pa_cons (pv 0) pa_nil)) (pe_one (pe_chain op_le op_le (pv 1) (pv 0) (pv 2)))))), ?_⟩
    refine ⟨_, rfl, _, _, rfl, hx, _, rfl, ?_⟩
    cases x with
    | int i =>
      refine ⟨_, rfl, _, rfl, _, _, rfl, rfl, _, rfl, ?_⟩
      refine ite2 (fun c1 => ?_) (fun c1 => ?_)
      · refine ⟨_, rfl, _, _, rfl, rfl, ?_⟩
        have e : decide (i ≤ hi) = withinV lo hi (.int i) := by
          have c2 := of_decide_eq_true c1
          simp [withinV, c2]
        show Q (V.bl (decide (i ≤ hi))) H
        rw [e]
        exact k
      · have e : withinV lo hi (.int i) = false := by
          have c2 : ¬ lo ≤ i := fun z => c1 (decide_eq_true z)
          simp [withinV, c2]
        rw [e] at k
        exact k
    | _ => exact k
abbrev N_whole_in : List Str := ["word", "most", "letter", "number"]
theorem sc_whole_in : FnScope N_whole_in ["word", "most"] (defScope s_whole_in) := ⟨rfl, rfl, rfl, by decide +kernel, rfl, by decide +kernel, by decide +kernel⟩
theorem ok_whole_in {f : Addr} {fd : FuncData} (F : Fun K "whole_in" "whole_in" s_whole_in f fd) (T : TR mg) : FnOk P w K mg base CX0 1 f fd ["word", "most"] spWhole := by
  refine F.ok sc_whole_in (fun vs H Q E h => ?_) (fun cdv A outer s H vs Q E hr h => ?_)
  · obtain ⟨z, m, rfl, _⟩ := h
    rfl
  · obtain ⟨z, m, rfl, hz, hm, k⟩ := h
    refine ⟨_, (pss_cons (ps_if (PW.pt (pw_or (pt_not (pt_chain op_le op_le pe_int (pe_callB call_len_str (by rfl) T.m_len (by decide +kernel) (pa_cons (pv 0) pa_nil)) (pe_callB call_len_str (by rfl) T.m_len (by decide +kernel) (pa_cons (pe_callTy call_str_int (by rfl) T.m_str (by decide +kernel) (pa_cons (pv 1) pa_nil)) pa_nil)))) (pw_or1 (pt_not (pt_val (pe_callB (cr_all rfl) (by rfl) T.m_all (by decide +kernel) (pa_cons (pe_lc (own := [("letter", 2)]) (g := (gName 2)) (tt := tYes) rfl sc_whole_in.nd (pi_str (pv 0)) (blkOk_by (N := N_whole_in) (sc := defScope s_whole_in) (by decide +kernel)) (fun _ _ _ _ _ => (pg_name (i := 2) sc_whole_in.nd rfl (Or.inl rfl))) (fun _ _ _ _ _ => pts_nil) (fun _ _ _ _ _ => (pe_cmpR op_in_sign (pv 2) (pe_glob (v := .str "0123456789") rfl T.g_DIGITS.choose_spec ⟨_, rfl⟩) (by rfl)))) pa_nil))))))) (pss_one (ps_ret pe_non)) pss_nil)
 (pss_cons (ps_set (i := 3) sc_whole_in.nd rfl (Or.inl rfl) (by exact (pe_callTy call_int_str (by rfl) T.m_int (by decide +kernel) (pa_cons (pv 0) pa_nil))))
 (pss_cons (ps_if (PW.pt (pw_or (pt_cmpR op_gt (pv 3) (pv 1) (nomark _)) (pw_or1 (pt_cmpR op_ne (pe_callTy call_str_int (by rfl) T.m_str (by decide +kernel) (pa_cons (pv 3) pa_nil)) (pv 0) (nomark _))))) (pss_one (ps_ret pe_non)) pss_nil)
 (pss_one (ps_ret (pv 3)))))), ?_⟩
    have hm2 : ((m : Nat) : Int).natAbs.log2 < 1920 := log_small (Nat.lt_trans hm (by decide +kernel))
    have ml : (Str.ofString (toString ((m : Nat) : Int))).length ≤ 60 := by
      show (numT m).length ≤ 60
      rw [len_numT]
      exact numL_len (by decide) hm
    have bad : (∀ n, n ≤ m → z = numT n → False) → ∀ G, Same H G → Q V.non G := fun h G s => by
      rw [← numV_bad h]
      exact k G s
    refine ⟨_, rfl, _, rfl, hz, _, _, rfl, rfl, _, rfl, ?_⟩
    refine ite2 (fun c1 => ?_) (fun c1 => ?_)
    rotate_left
    · refine ⟨_, rfl, iteT (iteT (bad (fun n _ e => c1 (decide_eq_true ?_)) H (Same.refl H)))⟩
      rw [e]
      have := pos_numT n
      omega
    have c1' : 1 ≤ z.length := by
      have := of_decide_eq_true c1
      omega
    refine ⟨_, rfl, _, rfl, hm2, _, rfl, (by rw [sizeLine_eq]; omega), _, _, rfl, rfl, _, rfl, ?_⟩
    have mb : ∀ n, n ≤ m → z = numT n → z.length ≤ (Str.ofString (toString ((m : Nat) : Int))).length := fun n hn e => by
      rw [e, len_numT, show (Str.ofString (toString ((m : Nat) : Int))).length = (numL m).length from len_numT m]
      exact numL_mono m n hn
    cases c2 : decide ((z.length : Int) ≤ ((Str.ofString (toString ((m : Nat) : Int))).length : Int)) with
    | false => exact iteT (iteT (bad (fun n hn e => of_decide_eq_false c2 (by have := mb n hn e; omega)) H (Same.refl H)))
    | true =>
      have l60 : z.length ≤ 60 := by
        have := of_decide_eq_true c2
        omega
      refine iteF ?_
      refine ⟨_, rfl, z, rfl, fun D hD => ?_⟩
      have sz : z.cps.size = (tl z).length := Array.length_toList.symm
      refine lc_it walk_str (fun i G => G = upd H D (.lst ((digs ((tl z).take i)).map V.bl))) rfl (fun _ _ _ _ => trivial) ?_ ?_
      · rintro i x G G' hi rfl ⟨rfl, c, hc, rfl⟩
        have hc2 : (tl z)[i]? = some c := by
          show z.cps.toList[i]? = _
          rw [Array.getElem?_toList]
          exact hc
        refine ⟨rfl, _, rfl, c, _, rfl, rfl, _, upd_same, small1000 (by unfold digs; rw [List.length_map, List.length_map, List.length_take]; rw [len_tl] at l60; omega), ?_⟩
        rw [upd_upd, dig_in, List.take_add_one, hc2]
        unfold digs
        rw [List.map_append, List.map_append]
        rfl
      · rintro G rfl
        rw [sz, List.take_length]
        have s1 : Same H (upd H D (.lst ((digs (tl z)).map V.bl))) := Same.lay hD
        refine ⟨D, _, rfl, SqL.of upd_same, _, rfl, ?_⟩
        rw [digs_all]
        cases c3 : digB z with
        | false => exact iteT (bad (fun n hn e => by rw [e, digB_num] at c3; cases c3) _ s1)
        | true =>
          refine iteF ⟨_, rfl, _, _, rfl, int_dig c3 c1' (by omega), by omega, ?_⟩
          have v60 : valT z < 10 ^ 60 := Nat.lt_of_lt_of_le (valT_lt c3) (Nat.pow_le_pow_right (by decide) l60)
          refine ⟨_, rfl, _, rfl, _, _, rfl, rfl, _, rfl, ?_⟩
          cases c4 : decide ((m : Int) < ((valT z : Nat) : Int)) with
          | true =>
            refine iteT (iteT (bad (fun n hn e => ?_) _ s1))
            rw [e, valT_num] at c4
            have := of_decide_eq_true c4
            omega
          | false =>
            have le : valT z ≤ m := by
              have := of_decide_eq_false c4
              omega
            refine iteF ⟨_, rfl, _, rfl, log_small (Nat.lt_trans v60 (by decide +kernel)), _, rfl, rfl, _, rfl, ?_⟩
            by_cases c5 : numT (valT z) = z
            · rw [show decide (V.str (Str.ofString (toString ((valT z : Nat) : Int))) = V.str z) = true from decide_eq_true (congrArg V.str c5)]
              refine iteF ⟨_, rfl, ?_⟩
              rw [← numV_ok c5.symm le]
              exact k _ s1
            · rw [show decide (V.str (Str.ofString (toString ((valT z : Nat) : Int))) = V.str z) = false from decide_eq_false fun y => c5 (V.str.inj y)]
              refine iteT (bad (fun n hn e => c5 ?_) _ s1)
              rw [e, valT_num]
end
end Toy
set_option maxRecDepth 100000
set_option maxHeartbeats 2000000
/-! list comprehensions whose element may let an exception out of a call (E, by a promise's own exits): the block is let go, the exception goes on in the def's frame -/
namespace LamX
open PySem L2 PySem.Spec
/-! ### an exception that is held stays held when the block's names go -/
section
variable {M : Model} {A : Around} {E : Value → Shared → Prop} {s' : Shared} {B B1 : Heap} {env cenv : Env} {outer l : List Env} {a L C : Addr} {Z : Obj → Prop} {m : Str → Option Value} {h h' : Heap}
theorem traced_less {fl : Value} (k : ∀ b, B.get? b = none → B1.get? b = none) (t : HandSPX.TracedZ h B a Z fl) : HandSPX.TracedZ h B1 a Z fl := by
  obtain ⟨oe, vs, T, oT, ts, he, hz, hd, h1, hn, hne, hT, hdT, h3⟩ := t
  exact ⟨oe, vs, T, oT, ts, he, hz, hd, h1, k _ hn, hne, hT, hdT, h3⟩
theorem frames_less (k : ∀ b, B.get? b = none → B1.get? b = none) : ∀ {l : List Env}, h.FunFrames B l → h.FunFrames B1 l
  | [], _ => trivial
  | _ :: _, ⟨hk, ⟨L, o, hf, hn, ho, hd⟩, hr⟩ => ⟨hk, ⟨L, o, hf, k _ hn, ho, hd⟩, frames_less k hr⟩
theorem held_less (k : ∀ b o, B1.get? b = some o → B.get? b = some o) (x : HandSPX.HeldZ B l a Z L h) : HandSPX.HeldZ B1 l a Z L h := by
  obtain ⟨h1, h2, h3, h4⟩ := x
  have kn : ∀ b, B.get? b = none → B1.get? b = none := fun b hb => by
    cases e : B1.get? b with
    | none => rfl
    | some o =>
      rw [k b o e] at hb
      cases hb
  exact ⟨fun b o e => h1 b o (k b o e), kn _ h2, frames_less kn h3, traced_less kn h4⟩
theorem traced_but {fl : Value} (hn : h.Ns C m) (hs : Heap.SameBut C h h') (t : HandSPX.TracedZ h B a Z fl) : HandSPX.TracedZ h' B a Z fl := by
  obtain ⟨oe, vs, T, oT, ts, he, hz, hd, h1, hnT, hne, hT, hdT, h3⟩ := t
  obtain ⟨oC, es, ep, hoC, hdC, _⟩ := hn
  have n1 : a ≠ C := fun q => by
    rw [q, hoC] at he
    cases he
    rw [hdC] at hd
    cases hd
  have n2 : T ≠ C := fun q => by
    rw [q, hoC] at hT
    cases hT
    rw [hdC] at hdT
    cases hdT
  exact ⟨oe, vs, T, oT, ts, (hs.2 a n1).trans he, hz, hd, h1, hnT, hne, (hs.2 T n2).trans hT, hdT, h3⟩
theorem fails_held (hf : cenv.frame = some L) (hbC : B.get? cenv.locals = none) (hn : s'.heap.Ns cenv.locals m) (hh : HandSPX.HeldZ B l a Z L s'.heap)
    (hQ : ∀ h', HandSPX.HeldZ B l a Z L h' → (∀ b o, s'.heap.get? b = some o → b ≠ cenv.locals → (∀ vs, o.data ≠ .fields vs) → ∃ sl, h'.get? b = some { o with slots := sl }) → E (.ref a) { s' with heap := h' }) : CompFails M A E cenv (.ref a) s' := by
  refine ⟨m, hn, fun h2 m2 hn2 hs2 => ?_⟩
  obtain ⟨b1, b0, f1, t1⟩ := hh
  have b2 : B.StaysIn h2 := fun b o e => (hs2.2 b fun q => by rw [q, hbC] at e; cases e).trans (b1 b o e)
  have f2 : h2.FunFrames B l := Heap.FunFrames.sameBut hs2 hn2 f1
  have t2 := traced_but hn hs2 t1
  obtain ⟨oe, vs, T, oT, ts, he, hz, hd, h1, r⟩ := id t2
  unfold passOn
  refine wpAny_bind (wpAny_field he hd h1 ?_)
  rw [if_neg (show ¬ ((Value.ref T == Value.none) = true) from by simp)]
  rw [hf]
  refine wpAny_bind (HandSPX.setFlight_anyZ (l := l) b2 f2 t2 fun h3 b3 f3 t3 k3 => ?_)
  refine wpAny_throw (hQ h3 ⟨b3, b0, f3, t3⟩ fun b o hb hbL hnf => ?_)
  exact k3 b o ((hs2.2 b hbL).trans hb) hnf
end
section
variable {X : Cx} {pins : List (Addr × Obj)} {σ : St} {H : Hp} {s s' : Shared} {W : WX} {EB : XK}
/-- noted in the def's own frame -/
theorem XE.noted {u : Value} {Q : Unit → Shared → Prop} {E₁ : Value → Shared → Prop} (hs : X.stack = X.env :: X.outer) (hf : X.env.frame = some X.env.locals) (x : XE X W u s')
    (hQ : ∀ (a : Addr) (B : Heap) (sI : Shared) (pins : List (Addr × Obj)) (σ : St) (H : Hp) (cls : Value) (d : Option Addr) (h' : Heap), u = .ref a → Inv X pins σ H sI → (∀ b o, sI.heap.get? b = some o → b ∉ frs X.stack → B.get? b = some o) → sI.heap.UpToSlots s'.heap → s'.heap.UpToSlots h' →
      HandSPX.HeldZ B X.stack a (Zc cls d) X.env.locals h' → H a = none → s'.os = sI.os → PyProof.Rows.AllBare s'.gens → W cls d σ H → Q () { s' with heap := h' }) :
    wpAny (model X.prog X.w) X.A (noteFrame u X.env) Q E₁ s' := by
  obtain ⟨a, B, sI, pins, σ, H, cls, d, rfl, I, nb, up, sky, na, os, ag, w⟩ := x
  have hfr : X.A.frames = some (X.env :: X.outer) := by rw [I.ok.frames, hs]
  have fin : ∀ h', HandSPX.HeldZ B X.stack a (Zc cls d) X.env.locals h' → s'.heap.UpToSlots h' → Q () { s' with heap := h' } := fun h' hh up' => hQ a B sI pins σ H cls d h' rfl I nb up up' hh na os ag w
  rw [hs] at sky fin
  rcases sky with ⟨hB, hn, hl, oe, vs, he, hz, hd, h1⟩ | fl | hh
  · exact HandSPX.look_newZ Zc.steady hfr hl hf he hB hn hd h1 hz fin
  · exact HandSPX.looks_onZ Zc.steady hfr hf fl fin
  · exact HandSPX.againZ hf hh.2.2.2 (fin s'.heap hh (Heap.UpToSlots.refl _))
end
section
variable {X : Cx} {pins : List (Addr × Obj)} {σ : L2.St} {H H3 : Hp} {s s3 s' : Shared} {W : WX} {EB E : XK} {scope : Scope} {cl : List (Str × Addr)} {fp : List Addr}
/-- the context of a block out of which a call may go by EB -/
abbrev blkE (X : Cx) (s : Shared) (H : Hp) (scope : Scope) (ce : Env) (fp : List Addr) (EB : XK) : Cx :=
  (X.blk s H scope ce fp).wish fun u s' => ∃ (pins : List (Addr × Obj)) (σ : L2.St) (H' : Hp) (s1 : Shared), Inv (X.blk s H scope ce fp) pins σ H' s1 ∧ L2.CX X.prog X.w X.stack H' s1 EB u s'
theorem cx_imp {P : Program} {w : World} {outer : List Env} {u : Value} (hE : ∀ cls d H, E cls d H → EB cls d H) (c : L2.CX P w outer H s E u s') : L2.CX P w outer H s EB u s' := by
  obtain ⟨a, B, H2, cls, d, e, fl, hok, ub, na, os, ag, h⟩ := c
  exact ⟨a, B, H2, cls, d, e, fl, hok, ub, na, os, ag, hE _ _ _ h⟩
theorem passes_blk {ce : Env} (hE : ∀ cls d H, E cls d H → EB cls d H) : Passes (L2.CX X.prog X.w) (blkE X s H scope ce fp EB) E := fun pins σ H' s1 e s2 I c => ⟨pins, σ, H', s1, I.unwish, cx_imp hE c⟩
theorem blk_fails {u : Value} {pb : List (Addr × Obj)} {σb : L2.St} {Hb : Hp} {sb : Shared} (hs : X.stack = X.env :: X.outer) (hf : X.env.frame = some X.env.locals) (tk : Takes X W) (hW : ∀ cls d σ H, EB cls d H → W cls d σ H)
    (I3 : Inv X pins σ H3 s3) (f3 : ∀ b ∈ fp, FpOk X pins H3 b ∧ b < s3.heap.objs.size) (Ib : Inv (X.blk s3 H3 scope (compEnvC scope cl s3.heap.objs.size X.env) fp) pb σb Hb sb)
    (c : L2.CX X.prog X.w X.stack Hb sb EB u s') :
    notedBy (model X.prog X.w) X.A (compEnvC scope cl s3.heap.objs.size X.env) (CompFails (model X.prog X.w) X.A X.xe (compEnvC scope cl s3.heap.objs.size X.env)) u s' := by
  have I1 : Inv X pins σ Hb sb := I3.call' (ch := fp) Ib.os Ib.base Ib.hok Ib.bare fun b hb => ⟨(f3 b hb).1.2.2.2.1, (f3 b hb).1.2.1, (f3 b hb).1.2.2.2.2.1, (f3 b hb).1.2.2.2.2.2⟩
  have nC : Hb s3.heap.objs.size = none := Ib.free
  obtain ⟨m, hn, _⟩ := Ib.loc
  have hn : sb.heap.Ns s3.heap.objs.size m := hn
  obtain ⟨f0, f1, f2, f4, f5, f6⟩ := I3.fpOk (Nat.le_refl _) nC
  generalize hC : s3.heap.objs.size = C at nC hn f0 f1 f2 f4 f5 f6
  have hCs : C ∉ frs X.stack := by
    rw [hs]
    show C ∉ List.filterMap (·.frame) (X.env :: X.outer)
    rw [List.filterMap_cons, hf]
    exact fun z => (List.mem_cons.mp z).elim f1 f2
  obtain ⟨a, B, H2, cls, d, rfl, fl, hok, ub, na, os, ag, hE⟩ := c
  obtain ⟨oC, es, ep, ho, hd, r⟩ := hn
  have hnC : s'.heap.Ns C m := ⟨oC, es, ep, fl.1 _ _ (ub.keep C oC ho nC hCs), hd, r⟩
  have H2C : H2 C = none := ub.free C oC ho nC
  have x : XE X (fun cls d σ H => W cls d σ H ∧ H C = none) (.ref a) s' :=
    XE.of_call (E := fun cls d H => EB cls d H ∧ H C = none) I1 (fun cls d H' h => ⟨hW _ _ _ _ h.1, h.2⟩) ⟨a, B, H2, cls, d, rfl, fl, hok, ub, na, os, ag, hE, H2C⟩
  show wpAny _ _ (noteFrame (.ref a) (compEnvC scope cl C X.env)) _ _ s'
  rw [noteFrame_env (cenv := compEnvC scope cl C X.env) (env := X.env) _ rfl]
  refine XE.noted hs hf x fun a' B' sI pins' σ' H' cls' d' h' e I nb up up' hh na' os' ag' w => ?_
  cases e
  have kn : ∀ {h : Heap} {b : Addr} {o : Obj}, (PySem.W.hideAll h [C]).get? b = some o → b ≠ C := fun {h b o} e q => by
    rw [q, PySem.W.hideAll_none [C] (List.mem_singleton.mpr rfl)] at e
    cases e
  refine fails_held (L := X.env.locals) (B := PySem.W.hideAll B' [C]) hf (PySem.W.hideAll_none [C] (List.mem_singleton.mpr rfl)) (hnC.upToSlots up') (held_less (fun b o e => PySem.W.of_hideAll [C] e) hh) fun h'' hh' k => ?_
  refine tk _ _ ⟨a, PySem.W.hideAll B' [C], { sI with heap := PySem.W.hideAll sI.heap [C] }, [], σ', H', cls', d', rfl, ?_, fun b o e hb => ?_, fun b o e hnf => ?_, .inr (.inr hh'), na', os', ag', w.1⟩
  · have I0 : Inv X [] σ' H' sI := Inv.unpinned (pins := []) I
    exact I0.turned (t' := sI.toks) (it := C) (fun b o hb e => PySem.W.hideAll_get [C] e (fun z => hb (List.mem_singleton.mp z))) w.2 f1 f4 f5 (fun p hp => f6 p (List.mem_append_left _ (by simpa using hp)))
  · exact PySem.W.hideAll_get [C] (nb b o (PySem.W.of_hideAll [C] e) hb) (fun z => kn e (List.mem_singleton.mp z))
  · obtain ⟨sl1, e1⟩ := up b o (PySem.W.of_hideAll [C] e) hnf
    obtain ⟨sl2, e2⟩ := up' b _ e1 hnf
    exact k b { o with slots := sl2 } e2 (kn e) hnf
end
/-! ### the comprehension -/
section
variable {X : Cx} {W : WX} {EB : XK} {elt tg iter : Expr} {ifs : List Expr} {scope : Scope} {own : List (Str × Nat)} {pos pos' : Pos} {wi : TI} {g : TG} {tt : TT} {te : TE}
theorem lc_coreE {pins : List (Addr × Obj)} {s : Shared} {σ : L2.St} {H : Hp} {Q : VK} {use : Option (Value → Sem Unit)} {Qf : Value → Shared → Prop}
    (hc : X.calm = true) (hN : X.N.Nodup) (hst : X.stack = X.env :: X.outer) (hf : X.env.frame = some X.env.locals) (tk : Takes X W) (hW : ∀ cls d σ H, EB cls d H → W cls d σ H)
    (I : Inv X pins σ H s) (hi : PI X tg iter wi) (ok : BlkOk X.N X.env.scope scope own)
    (hg : ∀ (s : Shared) (H : Hp) (C : Addr) (cl : List (Str × Addr)) (fp : List Addr), PG (X.blk s H scope (compEnvC scope cl C X.env) fp) tg g) (ht : ∀ (s : Shared) (H : Hp) (C : Addr) (cl : List (Str × Addr)) (fp : List Addr), PTs (X.blk s H scope (compEnvC scope cl C X.env) fp) ifs tt)
    (he : ∀ (s : Shared) (H : Hp) (C : Addr) (cl : List (Str × Addr)) (fp : List Addr), PE (blkE X s H scope (compEnvC scope cl C X.env) fp EB) elt te) (hs : ∀ x, foldedSetIterable iter X.env x = pure x)
    (h : tLc wi g tt te (own.map (·.2)) σ H Q)
    (hRR : ∀ D ce s' m H', Inv X pins σ H' s' → Q (.ref D) H' → s'.heap.Ns ce.locals m → FpOk X pins H' ce.locals → compEnds (model X.prog X.w) X.A X.xe use Qf (.ref D) ce (.ok .next) s') :
    wpAny (model X.prog X.w) X.A (comprehension (.ListComp elt [⟨tg, iter, ifs, 0⟩] scope pos) scope X.env pos' (newList []) false (eval iter X.env) use) Qf X.xe s := by
  have hfree : ∀ y ∈ scope.names, y.2 = .free → ∃ c, X.env.cells.lookup y.1 = some c := fun y hy e => (ok.free y hy e).elim (fun k => I.ok.has _ (.inl k)) fun k => I.ok.has _ (.inr k)
  refine comprehension_at (use := use) rfl hs (closure_ok hfree) ok.kind (fun y hy e => by rw [ok.uniq y hy, e]) (thn (hi.run pins s σ H _ I h) fun xv s1 hx => thn hx fun itv s2 h2 => ?_)
  obtain ⟨it, fp, tn, J, H2, e, I2, T, st2, f2, q⟩ := h2
  subst e
  refine wpAny_newObj_type (newEnv_comp ?_) (by show 0 ≤ sizeLine; decide)
  generalize hD : s2.heap.objs.size = D
  obtain ⟨Wt, ⟨m0, w0⟩, turn⟩ := q D (I2.hok.fresh (Nat.le_of_eq hD))
  generalize hs3 : ({ s2 with heap := s2.heap.push { cls := .type "list", data := .seq ([] : List Value).toArray } } : Shared) = s3
  have h3 : s3.heap = s2.heap.push { cls := .type "list", data := .seq ([] : List Value).toArray } := by rw [← hs3]
  have old : ∀ b o, s2.heap.get? b = some o → s3.heap.get? b = some o := fun b o e => by
    rw [h3]
    exact Heap.get?_push_of_some _ e
  have I3 : Inv X pins σ (upd H2 D (.lst [])) s3 := by
    rw [← hs3]
    refine I2.laid (t' := s2.toks) (fun b o e => Heap.get?_push_of_some _ e) (Nat.le_of_eq hD) ⟨Nat.zero_le _, [], 0, .nil, ?_⟩
    rw [← hD]
    exact Heap.get?_push_size _ rfl
  have f3 : ∀ b ∈ fp, FpOk X pins (upd H2 D (.lst [])) b ∧ b < s3.heap.objs.size := fun b hb => by
    obtain ⟨o, eo, _⟩ := T.obj _ _ st2 b hb
    have hlt := Heap.lt_size eo
    refine ⟨⟨?_, (f2 b hb).2⟩, by rw [h3, Heap.size_push]; exact Nat.lt_succ_of_lt hlt⟩
    rw [upd_ne (by rw [← hD]; exact Nat.ne_of_lt hlt)]
    exact (f2 b hb).1
  have st3 : tn 0 s3.heap := T.keep _ _ _ st2 fun b _ o e => old b o e
  have I4 := block_start I3 ok hN f3
  obtain ⟨cl, hcl⟩ : ∃ cl, cl = cellsFrom (s3.heap.objs.size + 1) scope.names (cloFrom X.env.cells scope.names []) := ⟨_, rfl⟩
  rw [← hcl] at I4
  have pg := hg s3 (upd H2 D (.lst [])) s3.heap.objs.size cl fp
  have pt := ht s3 (upd H2 D (.lst [])) s3.heap.objs.size cl fp
  have pe := he s3 (upd H2 D (.lst [])) s3.heap.objs.size cl fp
  show codeAny _ _ (.compStart (.ListComp elt [⟨tg, iter, ifs, 0⟩] scope pos) 0 (.ref it) (.ref D) (compEnvC scope (cellsFrom (s3.heap.objs.size + 1) scope.names (cloFrom X.env.cells scope.names [])) s3.heap.objs.size X.env)) (compEnds (model X.prog X.w) X.A X.xe use Qf (.ref D) (compEnvC scope (cellsFrom (s3.heap.objs.size + 1) scope.names (cloFrom X.env.cells scope.names [])) s3.heap.objs.size X.env)) { s3 with heap := pushCells (s3.heap.push { cls := .type "dict", data := .dict #[] }) scope.names }
  rw [← hcl]
  have bad : ∀ {pb σb Hb sb u s'}, Inv (X.blk s3 (upd H2 D (.lst [])) scope (compEnvC scope cl s3.heap.objs.size X.env) fp) pb σb Hb sb → L2.CX X.prog X.w X.stack Hb sb EB u s' →
      notedBy (model X.prog X.w) X.A (compEnvC scope cl s3.heap.objs.size X.env) (fun e s' => compEnds (model X.prog X.w) X.A X.xe use Qf (.ref D) (compEnvC scope cl s3.heap.objs.size X.env) (.error e) s') u s' := fun Ib c => by
    have z := blk_fails (scope := scope) (cl := cl) hst hf tk hW I3 f3 Ib c
    cases use <;> exact z
  generalize hH3 : upd H2 D (.lst []) = H3 at I3 I4 pg pt pe w0 f3 bad
  generalize hce : compEnvC scope cl s3.heap.objs.size X.env = ce at I4 pg pt pe bad ⊢
  have cL : ce.locals = s3.heap.objs.size := by
    subst hce
    rfl
  generalize hs4 : ({ s3 with heap := pushCells (s3.heap.push { cls := .type "dict", data := .dict #[] }) scope.names } : Shared) = s4 at I4 ⊢
  have st4 : tn 0 s4.heap := T.keep _ _ _ st3 fun b _ o e => by
    rw [← hs4]
    exact pushCells_keeps _ _ _ _ (Heap.get?_push_of_some _ e)
  have stat : ∀ {σ' : L2.St} {H' : Hp} {s' : Shared}, Inv (X.blk s3 H3 scope ce fp) [] σ' H' s' → (∀ b ∈ fp, H' b = none) → ∀ b ∈ fp, FpOk (X.blk s3 H3 scope ce fp) [] H' b := fun I' hn b hb =>
    ⟨hn b hb, (I'.ok.exf b hb).1, I'.ok.exfs b hb, .inl hb, fun x c e => (I'.ok.exf b hb).2 x c e, fun p hp => nomatch (show p ∈ ([] : List (Addr × Obj)) ++ [] from hp)⟩
  have loop : codeAny (model X.prog X.w) X.A (.compLoop (.ListComp elt [⟨tg, iter, ifs, 0⟩] scope pos) 0 (.ref it) (.ref D) ce) (compEnds (model X.prog X.w) X.A X.xe use Qf (.ref D) ce) s4 := by
    refine compLoop_any (fun n s' => ∃ i H', Inv (X.blk s3 H3 scope ce fp) [] (wipe σ (own.map (·.2))) H' s' ∧ tn i s'.heap ∧ (∀ b ∈ fp, H' b = none) ∧ Wt i n H') ?_ m0 ⟨0, H3, I4, st4, fun b hb => (f3 b hb).1.1, w0⟩
    rintro n s5 ⟨i, H5, I5, st5, n5, w5⟩
    rcases turn i n H5 w5 with ⟨stop, qq⟩ | ⟨go, Nx, hNx, step⟩
    · refine thnF (T.done (X.blk s3 H3 scope ce fp) rfl rfl rfl hc i [] s5 _ H5 (fun _ _ => False) I5 (stat I5 n5) st5 stop) fun r s6 ⟨hr, I6⟩ => ?_
      subst hr
      have I7 : Inv X pins σ H5 s6 := I3.call' (ch := fp) I6.os I6.base I6.hok I6.bare fun b hb => ⟨(f3 b hb).1.2.2.2.1, (f3 b hb).1.2.1, (f3 b hb).1.2.2.2.2.1, (f3 b hb).1.2.2.2.2.2⟩
      have nC : H5 ce.locals = none := I6.free
      obtain ⟨m, hn, _⟩ := I6.loc
      exact hRR D ce s6 m H5 I7 qq hn (I3.fpOk (by rw [cL]; exact Nat.le_refl _) nC)
    · refine thnF (T.item (X.blk s3 H3 scope ce fp) rfl rfl rfl hc i [] s5 _ H5 (fun _ _ => False) I5 (stat I5 n5) st5 go) fun r s6 ⟨u, hr, h6⟩ => ?_
      subst hr
      refine thnF h6 fun _ s7 ⟨x, H7, I7, r7, y7, st7, n7⟩ => ?_
      refine thnF (pg.run _ s7 _ H7 x u _ (I7.pinned (stat I7 n7) (T.obj _ _ st7)) r7 (step x H7 y7)) fun _ s8 ⟨σ8, H8, I8, hw8, q8⟩ => ?_
      refine thnF (pt.run _ s8 σ8 H8 _ I8 q8) fun b s9 ⟨H9, I9, q9⟩ => ?_
      have fin : ∀ {s' : Shared} {H' : Hp}, Inv (X.blk s3 H3 scope ce fp) ([] ++ pinsAt fp s7.heap) σ8 H' s' → Nx H' → ∃ m, m < n ∧ ∃ i H', Inv (X.blk s3 H3 scope ce fp) [] (wipe σ (own.map (·.2))) H' s' ∧ tn i s'.heap ∧ (∀ b ∈ fp, H' b = none) ∧ Wt i m H' := fun {s' H'} I' nx => by
        obtain ⟨m', hm, w'⟩ := hNx H' nx
        have pin' : ∀ b ∈ fp, ∀ o, s7.heap.get? b = some o → s'.heap.get? b = some o ∧ H' b = none := fun b hb o e =>
          let z := I'.pin (b, o) (List.mem_append_right _ (List.mem_append_right _ (mem_pinsAt hb e)))
          ⟨z.1, z.2.1⟩
        refine ⟨m', hm, i + 1, H', (I'.unpinned (pins := [])).weak (by rw [← hw8, wipe_length]) (fun j v e => ?_), T.keep _ _ _ st7 fun b hb o e => (pin' b hb o e).1, fun b hb => ?_, w'⟩
        · rw [← hw8] at e
          exact (wipe_some e).1
        · obtain ⟨o, e, _⟩ := T.obj _ _ st7 b hb
          exact (pin' b hb o e).2
      cases b with
      | false => exact fin I9 (by simpa using q9)
      | true =>
        have q9 : te σ8 H9 fun y H4 => ∃ acc, H4 D = some (.lst acc) ∧ acc.length < sizeLine ∧ Nx (upd H4 D (.lst (acc ++ [y]))) := by simpa using q9
        show wpAny _ _ _ _ _ _
        refine wpAny_mono (pe.run _ s9 σ8 H9 _ (I9.wish _) q9) (fun z s10 ⟨yv, H10, I10, r10, acc, hD10, hz10, nx⟩ => ?_) fun u s10 ⟨pb, σb, Hb, sb, Ib, c⟩ => bad Ib c
        exact app_ok (X := X.blk s3 H3 scope ce fp) I10.unwish hD10 hz10 r10 fun s11 I11 => fin I11 nx
  exact codeAny_compStart_list loop (T.self X.A 0 _ _ _ st4 loop)
/-- as a value -/
theorem pe_lcE (hc : X.calm = true) (hN : X.N.Nodup) (hst : X.stack = X.env :: X.outer) (hf : X.env.frame = some X.env.locals) (tk : Takes X W) (hW : ∀ cls d σ H, EB cls d H → W cls d σ H) (hi : PI X tg iter wi) (ok : BlkOk X.N X.env.scope scope own)
    (hg : ∀ (s : Shared) (H : Hp) (C : Addr) (cl : List (Str × Addr)) (fp : List Addr), PG (X.blk s H scope (compEnvC scope cl C X.env) fp) tg g) (ht : ∀ (s : Shared) (H : Hp) (C : Addr) (cl : List (Str × Addr)) (fp : List Addr), PTs (X.blk s H scope (compEnvC scope cl C X.env) fp) ifs tt)
    (he : ∀ (s : Shared) (H : Hp) (C : Addr) (cl : List (Str × Addr)) (fp : List Addr), PE (blkE X s H scope (compEnvC scope cl C X.env) fp EB) elt te) (hs : ∀ x, foldedSetIterable iter X.env x = pure x := by intro _; rfl) :
    PE X (.ListComp elt [⟨tg, iter, ifs, 0⟩] scope pos) (tLc wi g tt te (own.map (·.2))) := by
  refine ⟨fun pins s σ H Q I h => ?_⟩
  rw [eval_ListComp]
  refine lc_coreE hc hN hst hf tk hW I hi ok hg ht he hs h fun D ce s' m H' I' q hn f => ⟨m, hn, fun h'' sb => ?_⟩
  obtain ⟨f0, f1, f2, f3, f4, f5⟩ := f
  exact ⟨.ref D, H', I'.turned (t' := s'.toks) (fun b o hb e => (sb.2 b hb).trans e) f0 f1 f3 f4 f5, rfl, q⟩
/-- name = [..] on one line, the name a local -/
theorem ps_setLcE {i : Nat} {y : Str} {py spos : Pos} (hc : X.calm = true) (hN : X.N.Nodup) (hst : X.stack = X.env :: X.outer) (hf : X.env.frame = some X.env.locals) (tk : Takes X W) (hW : ∀ cls d σ H, EB cls d H → W cls d σ H)
    (hy : X.N[i]? = some y) (hyl : X.env.scope.names.lookup y = some .local)
    (hsw : swapsWith (.ListComp elt [⟨tg, iter, ifs, 0⟩] scope pos) (some (.Name y py)) spos.line X.env = pure true) (hi : PI X tg iter wi) (ok : BlkOk X.N X.env.scope scope own)
    (hg : ∀ (s : Shared) (H : Hp) (C : Addr) (cl : List (Str × Addr)) (fp : List Addr), PG (X.blk s H scope (compEnvC scope cl C X.env) fp) tg g) (ht : ∀ (s : Shared) (H : Hp) (C : Addr) (cl : List (Str × Addr)) (fp : List Addr), PTs (X.blk s H scope (compEnvC scope cl C X.env) fp) ifs tt)
    (he : ∀ (s : Shared) (H : Hp) (C : Addr) (cl : List (Str × Addr)) (fp : List Addr), PE (blkE X s H scope (compEnvC scope cl C X.env) fp EB) elt te) (hs : ∀ x, foldedSetIterable iter X.env x = pure x := by intro _; rfl) :
    PS X (.Assign [.Name y py] (.ListComp elt [⟨tg, iter, ifs, 0⟩] scope pos) spos) (tAsg (tLc wi g tt te (own.map (·.2))) (gName i)) := by
  refine ⟨fun pins s σ H D I h => ?_⟩
  rw [exec_Assign_Name_used _ _ _ _ hsw]
  refine wpAny_bind (wpAny_standAt (wpAny_bind ?_))
  show wpAny _ X.A (do let _ ← comprehension (.ListComp elt [⟨tg, iter, ifs, 0⟩] scope pos) scope X.env (firstIterPos [⟨tg, iter, ifs, 0⟩] pos) (newList []) false (eval iter X.env) (some (assign (.Name y py) X.env))) _ _ s
  have h : tLc wi g tt te (own.map (·.2)) σ H (fun x H1 => gName i x σ H1 D.nx) := h
  refine wpAny_bind (thn (lc_coreE (Qf := fun _ s' => SP X pins D .next s') hc hN hst hf tk hW I hi ok hg ht he hs h fun L ce s' m H' I' q hn f => ?_) fun _ s' hq => wpAny_pure (wpAny_pure hq))
  show wpAny _ _ (assign (.Name y py) X.env (.ref L)) _ _ _
  obtain ⟨f0, f1, f2, f3, f4, f5⟩ := f
  refine wpAny_assign_Name (store_ok2 (v := V.ref L) I' hN hy (.inl hyl) rfl (fun s2 I2 ⟨a, sb, ha⟩ => ?_) (.inr hyl))
  have haC : ce.locals ≠ a := ha.elim (fun z => by rw [z]; exact f1) fun z => fun e => f4 y a z e.symm
  exact ⟨m, hn.sameBut sb haC, fun h3 sb3 => ⟨_, H', I2.turned (t' := s2.toks) (fun b o hb e => (sb3.2 b hb).trans e) f0 f1 f3 f4 f5, q⟩⟩
end
end LamX
set_option maxRecDepth 100000
namespace Toy
open PySem L2 TL LamX
abbrev s_BadText : Stmt := (inClass (top 9) 0)
abbrev s_BadUnit : Stmt := (inClass (top 7) 0)
abbrev s_lines_of : Stmt := top 16
abbrev s_words_at : Stmt := top 17
abbrev s_check_no_line : Stmt := top 18
abbrev s_word_in : Stmt := top 19
abbrev s_number_in : Stmt := top 20
abbrev s_check_no_word : Stmt := top 21
/-! errors -/
def fs1 (f : Str) : List V → List (Str × V) := fun ys => match ys with
  | [y] => [(f, y)]
  | _ => []
def fs2 (f g : Str) : List V → List (Str × V) := fun ys => match ys with
  | [y, z] => [(g, z), (f, y)]
  | _ => []
/-- what the top has written of the errors' classes -/
structure TErr (K : PySem.W.Frag) (mg : Str → Option Value) (CW CG uW uG : Addr) (fdW fdG : FuncData) : Prop where
  gBadText : mg "BadText" = some (.ref CW)
  iBadText : XvI K CW uW
  fBadText : Fun K "__init__" "BadText.__init__" s_BadText uW fdW
  nLine : PySem.W.findIn K (.ref CW) "line" = some none
  nWord : PySem.W.findIn K (.ref CW) "word" = some none
  bBadText : Binds K fdW ["self", "line", "word"] []
  gBadUnit : mg "BadUnit" = some (.ref CG)
  iBadUnit : XvI K CG uG
  fBadUnit : Fun K "__init__" "BadUnit.__init__" s_BadUnit uG fdG
  nPart : PySem.W.findIn K (.ref CG) "part" = some none
  bBadUnit : Binds K fdG ["self", "part"] []
theorem mono_c {v : V} {t : TA} (h : Mono t) : Mono (tCons (tC v) t) := fun σ H Q Q' i q => h σ H _ _ (fun vs H' z => i _ _ z) q
theorem mono_len {K : PySem.W.Frag} {t1 t : TA} (h1 : Mono t1) (h : Mono t) : Mono (tCons (tCB (fun xs H Q => ∃ (p : Addr) (ys : List V), xs = [V.ref p] ∧ (SqL K H p ys ∨ SqT K H p ys) ∧ Q (V.int (ys.length : Nat)) H) t1) t) := fun σ H Q Q' i q =>
  h1 σ H _ _ (fun vs H' ⟨p, ys, e, hs, z⟩ => ⟨p, ys, e, hs, h σ H' _ _ (fun vs H' z => i _ _ z) z⟩) q
/-- a text error with its line and word -/
def TextE (CW : Addr) (H : Hp) (E : XK) (ln wd : Int) : Prop := ∀ d H', H d = none → Same H H' → H' d = some (.xd [("word", .int wd), ("line", .int ln)]) → E (.ref CW) (some d) H'
theorem TextE.same {CW : Addr} {H H1 : Hp} {E : XK} {a b : Int} (s : Same H H1) (h : TextE CW H E a b) : TextE CW H1 E a b := fun d H' hd s' e => h d H' (s.free hd) (fun _ _ z => s' _ _ (s _ _ z)) e
def linesT (a : Str) : List Str := Txt.split a "\n"
def wordsT (a : Str) : List Str := Txt.split a " "
def NotStr (K : PySem.W.Frag) (H : Hp) (x : V) : Prop := ∃ t, TyX K H x t ∧ PySem.W.kitOne K t (.type "str") = some false
def spLinesOf (CW : Addr) (K : PySem.W.Frag) : Sp := fun vs H Q E => ∃ x, vs = [x] ∧ ((∃ a, x = .str a ∧ a.length + 2 ≤ PySem.sizeLine ∧ ∀ L, H L = none → Q (.ref L) (upd H L (.lst ((linesT a).map V.str)))) ∨ (NotStr K H x ∧ TextE CW H E 0 0))
def spWordsAt (CW : Addr) (K : PySem.W.Frag) : Sp := fun vs H Q E => ∃ (L : Addr) (ls : List Str) (k : Nat), vs = [.ref L, .int (k : Nat)] ∧ SqL K H L (ls.map V.str) ∧
  (∀ w, ls[k]? = some w → w.length + 2 ≤ PySem.sizeLine ∧ ∀ W, H W = none → Q (.ref W) (upd H W (.lst ((wordsT w).map V.str)))) ∧ (ls.length ≤ k → TextE CW H E (ls.length : Nat) 0)
def spNoLine (CW : Addr) (K : PySem.W.Frag) : Sp := fun vs H Q E => ∃ (L : Addr) (ls : List Str) (k : Nat), vs = [.ref L, .int (k : Nat)] ∧ SqL K H L (ls.map V.str) ∧ (k < ls.length → TextE CW H E (k : Nat) 0) ∧ (ls.length ≤ k → Q .non H)
def spNoWord (CW : Addr) (K : PySem.W.Frag) : Sp := fun vs H Q E => ∃ (W : Addr) (ws : List Str) (ln : Int) (k : Nat), vs = [.ref W, .int ln, .int (k : Nat)] ∧ SqL K H W (ws.map V.str) ∧ (k < ws.length → TextE CW H E ln (k : Nat)) ∧ (ws.length ≤ k → Q .non H)
def spWordIn (CW : Addr) (K : PySem.W.Frag) : Sp := fun vs H Q E => ∃ (W t : Addr) (ws cs : List Str) (ln : Int) (k : Nat), vs = [.ref W, .int ln, .int (k : Nat), .ref t] ∧ SqL K H W (ws.map V.str) ∧ SqT K H t (cs.map V.str) ∧
  (∀ w, ws[k]? = some w → w ∈ cs → Q (.str w) H) ∧ ((∀ w, ws[k]? = some w → w ∉ cs) → TextE CW H E ln (k : Nat))
def spNumIn (CW : Addr) (K : PySem.W.Frag) : Sp := fun vs H Q E => ∃ (W : Addr) (ws : List Str) (ln : Int) (k most : Nat), vs = [.ref W, .int ln, .int (k : Nat), .int 0, .int (most : Nat)] ∧ SqL K H W (ws.map V.str) ∧ most < 10 ^ 60 ∧ (∀ w ∈ ws, w.length ≤ PySem.sizeLine) ∧
  (∀ w n, ws[k]? = some w → numW most w = some n → ∀ H', Same H H' → Q (.int (n : Nat)) H') ∧ ((∀ w, ws[k]? = some w → numW most w = none) → TextE CW H E ln (k : Nat))
theorem inV_strs (z : Str) (ws : List Str) : inV (.str z) (ws.map V.str) = decide (z ∈ ws) := by
  unfold inV
  rw [List.any_map]
  induction ws with
  | nil => rfl
  | cons w r ih =>
    rw [List.any_cons, ih]
    show ((w == z) || decide (z ∈ r)) = decide (z ∈ w :: r)
    by_cases h : w = z
    · subst h
      simp
    · have h2 : ¬ z = w := fun e => h e.symm
      simp [h, h2]
theorem flat_strs (ws : List Str) : (ws.map V.str).all flatV = true := List.all_eq_true.mpr fun y hy => by
  obtain ⟨z, _, rfl⟩ := List.mem_map.mp hy
  rfl
section
variable {P : Program} {w : World} {K : PySem.W.Frag} {mg : Str → Option Value} {base : Heap} {CW CG uW uG : Addr} {fdW fdG : FuncData}
theorem sc_BadText : FnScope ["self", "line", "word"] ["self", "line", "word"] (defScope s_BadText) := ⟨rfl, rfl, rfl, by decide +kernel, rfl, by decide +kernel, by decide +kernel⟩
theorem ok_BadText (T : TErr K mg CW CG uW uG fdW fdG) : FnOk P w K mg base CX0 1 uW fdW ["self", "line", "word"] (spX CW 2 (fs2 "line" "word")) := by
  refine T.fBadText.ok sc_BadText (fun vs H Q E h => ?_) (fun cdv A outer s H vs Q E hr h => ?_)
  · obtain ⟨a, ys, rfl, hl, _⟩ := h
    show ys.length + 1 = 3
    omega
  · obtain ⟨a, ys, rfl, hl, ha, k⟩ := h
    obtain ⟨y, z, rfl⟩ : ∃ y z, ys = [y, z] := by
      match ys, hl with
      | [y, z], _ => exact ⟨y, z, rfl⟩
    refine ⟨_, (pss_cons (ps_ost (pv 0) (pv 1)) (pss_one (ps_ost (pv 0) (pv 2)))), ?_⟩
    refine ⟨_, rfl, _, rfl, a, CW, rfl, T.iBadText.cls.oex, T.nLine, .inl ⟨ha, fun dx hd nd => ?_⟩⟩
    refine ⟨_, rfl, _, rfl, a, CW, rfl, T.iBadText.cls.oex, T.nWord, .inr ⟨dx, _, upd_same, (by rw [upd_ne nd]; exact upd_same), (by show 1 ≤ 900; decide), ?_⟩⟩
    exact k dx _ hd nd (by rw [upd_ne nd.symm]; exact upd_same) upd_same fun b h1 h2 => by rw [upd_ne h2, upd_ne h1, upd_ne h2]
theorem sc_BadUnit : FnScope ["self", "part"] ["self", "part"] (defScope s_BadUnit) := ⟨rfl, rfl, rfl, by decide +kernel, rfl, by decide +kernel, by decide +kernel⟩
theorem ok_BadUnit (T : TErr K mg CW CG uW uG fdW fdG) : FnOk P w K mg base CX0 1 uG fdG ["self", "part"] (spX CG 1 (fs1 "part")) := by
  refine T.fBadUnit.ok sc_BadUnit (fun vs H Q E h => ?_) (fun cdv A outer s H vs Q E hr h => ?_)
  · obtain ⟨a, ys, rfl, hl, _⟩ := h
    show ys.length + 1 = 2
    omega
  · obtain ⟨a, ys, rfl, hl, ha, k⟩ := h
    obtain ⟨y, rfl⟩ : ∃ y, ys = [y] := by
      match ys, hl with
      | [y], _ => exact ⟨y, rfl⟩
    refine ⟨_, (pss_one (ps_ost (pv 0) (pv 1))), ?_⟩
    refine ⟨_, rfl, _, rfl, a, CG, rfl, T.iBadUnit.cls.oex, T.nPart, .inl ⟨ha, fun dx hd nd => ?_⟩⟩
    exact k dx _ hd nd upd_same (by rw [upd_ne nd]; exact upd_same) fun b h1 h2 => by rw [upd_ne h1, upd_ne h2]
abbrev N_lines_of : List Str := ["text"]
theorem sc_lines_of : FnScope N_lines_of ["text"] (defScope s_lines_of) := ⟨rfl, rfl, rfl, by decide +kernel, rfl, by decide +kernel, by decide +kernel⟩
theorem ok_lines_of {f : Addr} {fd : FuncData} (F : Fun K "lines_of" "lines_of" s_lines_of f fd) (T : TR mg) (TE : TErr K mg CW CG uW uG fdW fdG) : FnOk P w K mg base (L2.CX P w) 3 f fd ["text"] (spLinesOf CW K) := by
  refine F.okX sc_lines_of (fun vs H Q E h => ?_) (fun cdv A outer s H vs Q E hrE h => ?_)
  · obtain ⟨x, rfl, _⟩ := h
    rfl
  · obtain ⟨x, rfl, h⟩ := h
    refine ⟨_, (pss_cons (ps_if (pt_not (pt_val (pe_callB call_isi (by rfl) T.m_isinstance (by decide +kernel) (pa_cons (pv 0) (pa_cons (pe_bltn (v := .ty "str") (u := .type "str") rfl T.m_str (by decide +kernel) rfl) pa_nil))))) (pss_one (ps_raise rfl (takes_of rfl rfl rfl rfl) (pmk_x TE.iBadText (ok_BadText TE) hrE TE.bBadText (by decide) rfl TE.gBadText (mono_c (mono_c mono_nil)) (pa_cons pe_int (pa_cons pe_int pa_nil))))) pss_nil)
 (pss_one (ps_ret (pe_split (pv 0) pe_str)))), ?_⟩
    rcases h with ⟨a, rfl, ha, k⟩ | ⟨⟨t, ty, nk⟩, kE⟩
    · exact ⟨_, rfl, _, _, _, _, _, rfl, .ty _, (Plain.str a).ty, rfl, _, rfl, iteF ⟨_, rfl, ⟨_, rfl⟩, a, "\n", rfl, rfl, rfl, ha, fun L hL => k L hL⟩⟩
    · exact ⟨_, rfl, _, _, _, _, _, rfl, .ty _, ty, nk, _, rfl, iteT ⟨rfl, fun d H' hd s1 e => kE d H' hd s1 e⟩⟩
abbrev N_words_at : List Str := ["lines", "line"]
theorem sc_words_at : FnScope N_words_at ["lines", "line"] (defScope s_words_at) := ⟨rfl, rfl, rfl, by decide +kernel, rfl, by decide +kernel, by decide +kernel⟩
theorem ok_words_at {f : Addr} {fd : FuncData} (F : Fun K "words_at" "words_at" s_words_at f fd) (T : TR mg) (TE : TErr K mg CW CG uW uG fdW fdG) : FnOk P w K mg base (L2.CX P w) 3 f fd ["lines", "line"] (spWordsAt CW K) := by
  refine F.okX sc_words_at (fun vs H Q E h => ?_) (fun cdv A outer s H vs Q E hrE h => ?_)
  · obtain ⟨L, ls, k, rfl, _⟩ := h
    rfl
  · obtain ⟨L, ls, k, rfl, hL, kQ, kE⟩ := h
    refine ⟨_, (pss_cons (ps_if (pt_cmpR op_ge (pv 1) (pe_callB call_len_seq (by rfl) T.m_len (by decide +kernel) (pa_cons (pv 0) pa_nil)) (nomark _)) (pss_one (ps_raise rfl (takes_of rfl rfl rfl rfl) (pmk_x TE.iBadText (ok_BadText TE) hrE TE.bBadText (by decide) rfl TE.gBadText (mono_len (mono_var mono_nil) (mono_c mono_nil)) (pa_cons (pe_callB call_len_seq (by rfl) T.m_len (by decide +kernel) (pa_cons (pv 0) pa_nil)) (pa_cons pe_int pa_nil))))) pss_nil)
 (pss_one (ps_ret (pe_split (pe_ix ix_list (pv 0) (pv 1) (fun _ _ => rfl)) pe_str)))), ?_⟩
    refine ⟨_, rfl, _, rfl, L, _, rfl, .inl hL, _, _, rfl, rfl, _, rfl, ?_⟩
    rw [List.length_map]
    by_cases c : ls.length ≤ k
    · rw [decide_eq_true (show ((ls.length : Nat) : Int) ≤ ((k : Nat) : Int) by omega)]
      refine iteT ⟨_, rfl, L, _, rfl, .inl hL, rfl, fun d H' hd s1 e => kE c d H' hd s1 ?_⟩
      rw [List.length_map] at e
      exact e
    · rw [decide_eq_false (show ¬ ((ls.length : Nat) : Int) ≤ ((k : Nat) : Int) by omega)]
      obtain ⟨w, hw⟩ : ∃ w, ls[k]? = some w := ⟨_, List.getElem?_eq_getElem (by omega)⟩
      obtain ⟨h1, h2⟩ := kQ w hw
      exact iteF ⟨_, rfl, _, rfl, L, _, _, .str w, rfl, rfl, hL, atI_nat (by rw [List.getElem?_map, hw]; rfl), ⟨_, rfl⟩, w, " ", rfl, rfl, rfl, h1, fun W hW => h2 W hW⟩
abbrev N_check_no_line : List Str := ["lines", "line"]
theorem sc_check_no_line : FnScope N_check_no_line ["lines", "line"] (defScope s_check_no_line) := ⟨rfl, rfl, rfl, by decide +kernel, rfl, by decide +kernel, by decide +kernel⟩
theorem ok_check_no_line {f : Addr} {fd : FuncData} (F : Fun K "check_no_line" "check_no_line" s_check_no_line f fd) (T : TR mg) (TE : TErr K mg CW CG uW uG fdW fdG) : FnOk P w K mg base (L2.CX P w) 3 f fd ["lines", "line"] (spNoLine CW K) := by
  refine F.okX sc_check_no_line (fun vs H Q E h => ?_) (fun cdv A outer s H vs Q E hrE h => ?_)
  · obtain ⟨L, ls, k, rfl, _⟩ := h
    rfl
  · obtain ⟨L, ls, k, rfl, hL, kE, kQ⟩ := h
    refine ⟨_, (pss_one (ps_if (pt_cmpR op_lt (pv 1) (pe_callB call_len_seq (by rfl) T.m_len (by decide +kernel) (pa_cons (pv 0) pa_nil)) (nomark _)) (pss_one (ps_raise rfl (takes_of rfl rfl rfl rfl) (pmk_x TE.iBadText (ok_BadText TE) hrE TE.bBadText (by decide) rfl TE.gBadText (mono_var (mono_c mono_nil)) (pa_cons (pv 1) (pa_cons pe_int pa_nil))))) pss_nil)), ?_⟩
    refine ⟨_, rfl, _, rfl, L, _, rfl, .inl hL, _, _, rfl, rfl, _, rfl, ?_⟩
    rw [List.length_map]
    by_cases c : k < ls.length
    · rw [decide_eq_true (show ((k : Nat) : Int) < ((ls.length : Nat) : Int) by omega)]
      exact iteT ⟨_, rfl, rfl, fun d H' hd s1 e => kE c d H' hd s1 e⟩
    · rw [decide_eq_false (show ¬ ((k : Nat) : Int) < ((ls.length : Nat) : Int) by omega)]
      exact iteF (kQ (by omega))
abbrev N_check_no_word : List Str := ["words", "line", "at"]
theorem sc_check_no_word : FnScope N_check_no_word ["words", "line", "at"] (defScope s_check_no_word) := ⟨rfl, rfl, rfl, by decide +kernel, rfl, by decide +kernel, by decide +kernel⟩
theorem ok_check_no_word {f : Addr} {fd : FuncData} (F : Fun K "check_no_word" "check_no_word" s_check_no_word f fd) (T : TR mg) (TE : TErr K mg CW CG uW uG fdW fdG) : FnOk P w K mg base (L2.CX P w) 3 f fd ["words", "line", "at"] (spNoWord CW K) := by
  refine F.okX sc_check_no_word (fun vs H Q E h => ?_) (fun cdv A outer s H vs Q E hrE h => ?_)
  · obtain ⟨W, ws, ln, k, rfl, _⟩ := h
    rfl
  · obtain ⟨W, ws, ln, k, rfl, hW, kE, kQ⟩ := h
    refine ⟨_, (pss_one (ps_if (pt_cmpR op_lt (pv 2) (pe_callB call_len_seq (by rfl) T.m_len (by decide +kernel) (pa_cons (pv 0) pa_nil)) (nomark _)) (pss_one (ps_raise rfl (takes_of rfl rfl rfl rfl) (pmk_x TE.iBadText (ok_BadText TE) hrE TE.bBadText (by decide) rfl TE.gBadText (mono_var (mono_var mono_nil)) (pa_cons (pv 1) (pa_cons (pv 2) pa_nil))))) pss_nil)), ?_⟩
    refine ⟨_, rfl, _, rfl, W, _, rfl, .inl hW, _, _, rfl, rfl, _, rfl, ?_⟩
    rw [List.length_map]
    by_cases c : k < ws.length
    · rw [decide_eq_true (show ((k : Nat) : Int) < ((ws.length : Nat) : Int) by omega)]
      exact iteT ⟨_, rfl, _, rfl, rfl, fun d H' hd s1 e => kE c d H' hd s1 e⟩
    · rw [decide_eq_false (show ¬ ((k : Nat) : Int) < ((ws.length : Nat) : Int) by omega)]
      exact iteF (kQ (by omega))
abbrev N_word_in : List Str := ["words", "line", "at", "choices"]
theorem sc_word_in : FnScope N_word_in ["words", "line", "at", "choices"] (defScope s_word_in) := ⟨rfl, rfl, rfl, by decide +kernel, rfl, by decide +kernel, by decide +kernel⟩
theorem ok_word_in {f : Addr} {fd : FuncData} (F : Fun K "word_in" "word_in" s_word_in f fd) (T : TR mg) (TE : TErr K mg CW CG uW uG fdW fdG) : FnOk P w K mg base (L2.CX P w) 3 f fd ["words", "line", "at", "choices"] (spWordIn CW K) := by
  refine F.okX sc_word_in (fun vs H Q E h => ?_) (fun cdv A outer s H vs Q E hrE h => ?_)
  · obtain ⟨W, t, ws, cs, ln, k, rfl, _⟩ := h
    rfl
  · obtain ⟨W, t, ws, cs, ln, k, rfl, hW, ht, kQ, kE⟩ := h
    refine ⟨_, (pss_cons (ps_if (PW.pt (pw_or (pt_cmpR op_ge (pv 2) (pe_callB call_len_seq (by rfl) T.m_len (by decide +kernel) (pa_cons (pv 0) pa_nil)) (nomark _)) (pw_or1 (pt_cmpR op_notIn_seq (pe_ix ix_list (pv 0) (pv 2) (fun _ _ => rfl)) (pv 3) (by rfl))))) (pss_one (ps_raise rfl (takes_of rfl rfl rfl rfl) (pmk_x TE.iBadText (ok_BadText TE) hrE TE.bBadText (by decide) rfl TE.gBadText (mono_var (mono_var mono_nil)) (pa_cons (pv 1) (pa_cons (pv 2) pa_nil))))) pss_nil)
 (pss_one (ps_ret (pe_ix ix_list (pv 0) (pv 2) (fun _ _ => rfl))))), ?_⟩
    refine ⟨_, rfl, _, rfl, W, _, rfl, .inl hW, _, _, rfl, rfl, _, rfl, ?_⟩
    rw [List.length_map]
    by_cases c : ws.length ≤ k
    · rw [decide_eq_true (show ((ws.length : Nat) : Int) ≤ ((k : Nat) : Int) by omega)]
      exact iteT (iteT ⟨_, rfl, _, rfl, rfl, fun d H' hd s1 e => kE (fun w hw => by rw [List.getElem?_eq_none c] at hw; cases hw) d H' hd s1 e⟩)
    · rw [decide_eq_false (show ¬ ((ws.length : Nat) : Int) ≤ ((k : Nat) : Int) by omega)]
      obtain ⟨w, hw⟩ : ∃ w, ws[k]? = some w := ⟨_, List.getElem?_eq_getElem (by omega)⟩
      have hat : atI (ws.map V.str) ((k : Nat) : Int) = some (.str w) := atI_nat (by rw [List.getElem?_map, hw]; rfl)
      refine iteF ⟨_, rfl, _, rfl, W, _, _, .str w, rfl, rfl, hW, hat, _, rfl, t, _, rfl, .inr ht, rfl, flat_strs cs, _, rfl, ?_⟩
      show if (!inV (.str w) (cs.map V.str)) = true then _ else _
      rw [inV_strs]
      by_cases m : w ∈ cs
      · rw [decide_eq_true m]
        exact iteF ⟨_, rfl, _, rfl, W, _, _, .str w, rfl, rfl, hW, hat, kQ w hw m⟩
      · rw [decide_eq_false m]
        exact iteT ⟨_, rfl, _, rfl, rfl, fun d H' hd s1 e => kE (fun w' hw' => by rw [hw] at hw'; cases hw'; exact m) d H' hd s1 e⟩
abbrev N_number_in : List Str := ["words", "line", "at", "least", "most", "number"]
theorem sc_number_in : FnScope N_number_in ["words", "line", "at", "least", "most"] (defScope s_number_in) := ⟨rfl, rfl, rfl, by decide +kernel, rfl, by decide +kernel, by decide +kernel⟩
theorem ok_number_in {f fWh : Addr} {fd fdWh : FuncData} (F : Fun K "number_in" "number_in" s_number_in f fd) (T : TR mg) (TE : TErr K mg CW CG uW uG fdW fdG)
    (GWh : FnOk P w K mg base CX0 1 fWh fdWh ["word", "most"] spWhole) (gWh : mg "whole_in" = some (.ref fWh)) (kWh : PySem.W.keepIn K (.ref fWh) = true) (bWh : Binds K fdWh ["word", "most"] []) : FnOk P w K mg base (L2.CX P w) 3 f fd ["words", "line", "at", "least", "most"] (spNumIn CW K) := by
  refine F.okX sc_number_in (fun vs H Q E h => ?_) (fun cdv A outer s H vs Q E hrE h => ?_)
  · obtain ⟨W, ws, ln, k, most, rfl, _⟩ := h
    rfl
  · obtain ⟨W, ws, ln, k, most, rfl, hW, hm, hw, kQ, kE⟩ := h
    have hrE1 : Room 1 _ := hrE.mono (by decide)
    refine ⟨_, (pss_cons (ps_set (i := 5) sc_number_in.nd rfl (Or.inl rfl) (pe_ifExp (pt_cmpR op_lt (pv 2) (pe_callB call_len_seq (by rfl) T.m_len (by decide +kernel) (pa_cons (pv 0) pa_nil)) (nomark _)) (pe_call GWh hrE1 rfl gWh kWh bWh .nil pass0 (pa_cons (pe_ix ix_list (pv 0) (pv 2) (fun _ _ => rfl)) (pa_cons (pv 4) pa_nil))) pe_non))
 (pss_cons (ps_if (PW.pt (pw_or (pt_cmpR op_isN (pv 5) pe_non (nomark _)) (pw_or1 (pt_cmpR op_lt (pv 5) (pv 3) (nomark _))))) (pss_one (ps_raise rfl (takes_of rfl rfl rfl rfl) (pmk_x TE.iBadText (ok_BadText TE) hrE TE.bBadText (by decide) rfl TE.gBadText (mono_var (mono_var mono_nil)) (pa_cons (pv 1) (pa_cons (pv 2) pa_nil))))) pss_nil)
 (pss_one (ps_ret (pv 5))))), ?_⟩
    refine ⟨_, rfl, _, rfl, W, _, rfl, .inl hW, _, _, rfl, rfl, _, rfl, ?_⟩
    rw [List.length_map]
    have bad : ∀ H1, Same H H1 → (∀ w, ws[k]? = some w → numW most w = none) → ∀ d H', H1 d = none → Same H1 H' → H' d = some (.xd [("word", .int (k : Nat)), ("line", .int ln)]) → E (.ref CW) (some d) H' := fun H1 s1 hb => (kE hb).same s1
    by_cases c : k < ws.length
    · rw [decide_eq_true (show ((k : Nat) : Int) < ((ws.length : Nat) : Int) by omega)]
      obtain ⟨w, hk⟩ : ∃ w, ws[k]? = some w := ⟨_, List.getElem?_eq_getElem c⟩
      have hat : atI (ws.map V.str) ((k : Nat) : Int) = some (.str w) := atI_nat (by rw [List.getElem?_map, hk]; rfl)
      refine iteT ⟨_, rfl, _, rfl, W, _, _, .str w, rfl, rfl, hW, hat, _, rfl, w, most, rfl, hw w (List.mem_of_getElem? hk), hm, fun H1 s1 => ?_⟩
      cases e : numW most w with
      | none =>
        have en : numV most w = .non := by
          unfold numV
          rw [e]
        rw [en]
        exact ⟨_, rfl, rfl, _, rfl, iteT (iteT ⟨_, rfl, _, rfl, rfl, fun d H' hd s2 e2 => bad H1 s1 (fun w' hw' => by rw [hk] at hw'; cases hw'; exact e) d H' hd s2 e2⟩)⟩
      | some n =>
        have en : numV most w = .int (n : Nat) := by
          unfold numV
          rw [e]
        rw [en]
        refine ⟨_, rfl, rfl, _, rfl, iteF ⟨_, rfl, _, rfl, _, _, rfl, rfl, _, rfl, ?_⟩⟩
        show if decide (((n : Nat) : Int) < 0) = true then _ else _
        rw [decide_eq_false (show ¬ ((n : Nat) : Int) < 0 by omega)]
        exact iteF ⟨_, rfl, kQ w n hk e H1 s1⟩
    · rw [decide_eq_false (show ¬ ((k : Nat) : Int) < ((ws.length : Nat) : Int) by omega)]
      exact iteF ⟨_, rfl, rfl, _, rfl, iteT (iteT ⟨_, rfl, _, rfl, rfl, fun d H' hd s2 e2 => bad H (Same.refl H) (fun w hw' => by rw [List.getElem?_eq_none (by omega)] at hw'; cases hw') d H' hd s2 e2⟩)⟩
end
end Toy
set_option maxRecDepth 100000
namespace L2
open PySem PySem.Spec PyProof.Rows
/-- a def whose code object is known, by its body -/
theorem fnG_of {P : Program} {w : World} {K : PySem.W.Frag} {mg : Str → Option Value} {base : Heap} {x qual : Str} {st : Stmt} {f : Addr} {N ps : List Str} {k : Nat} {sp : Sp} {oc kV doc pm cdv ct : Value} {od an : Option Addr} {osl : Array (Option Value)}
    (lk : K.lookup f = some ⟨oc, od, .func (PySem.W.fnOf x qual (defArgs st) (defBody st) (defScope st) .none kV doc pm an cdv ct), osl⟩) (hcd : PySem.W.codeIn K cdv qual = true) (S : FnScope N ps (defScope st)) (len : ∀ vs H Q E, sp vs H Q E → vs.length = ps.length)
    (body : ∀ (A : Around) (outer : List Env) (s : Shared) (H : Hp) (vs : List V) (Q : VK) (E : XK), A.guards = some [] →
      Room k (A.deeper (envOfC qual (defScope st) s.heap.objs.size f cdv)) → sp vs H Q E →
      ∃ t, PSs (cxOf CX0 P w K mg base N qual (defScope st) f cdv A outer s H E).nox (defBody st) t ∧
        t { nx := fun _ H' => Q .non H', rt := Q } (start N vs) H) :
    FnG P w K mg base CX0 (k + 1) f (PySem.W.fnOf x qual (defArgs st) (defBody st) (defScope st) .none kV doc pm an cdv ct) ps sp := by
  refine ⟨len, fun A outer s H args us vs Q E gd hr e0 bi r h => ?_⟩
  have hn := len _ _ _ _ h
  have up : ∀ b o, base.get? b = some o → s.heap.get? b = some o := fun b o e => (e0.bs b o e).1
  have kin := e0.mod.kin.keeps up
  refine codeAny_call_function hr.depth (kin _ _ lk) rfl S.co S.gen rfl (PySem.W.codeRec_of kin hcd) (bi _ _ _ _ (wpAny_newFunctionEnv_cells S.kind ?_ ?_))
  · intro y hy
    have hm : y.1 ∈ ps := by
      obtain ⟨n, v⟩ := y
      exact (List.of_mem_zip hy).1
    exact (S.par _ hm).elim Or.inl fun q => Or.inr ⟨q, PySem.W.cellsFrom_some _ _ _ (.inl q)⟩
  · rintro env rfl s1 x
    refine ⟨(e0.mod.nolimit.keeps up).keeps x.toInCall.keep, codeAny_func ?_⟩
    obtain ⟨t, ht, hq⟩ := body A outer s H vs Q E gd (hr.deeper _) h
    have I := inv_start (CX := CX0) (P := P) (w := w) (K := K) (mg := mg) (base := base) (E := E) S hr.hd e0 hn r x
    refine wpAny_mono (ht.nox.run [] s1 (start N vs) H _ I hq) (fun fl s' hs => ?_) fun _ _ hs => hs
    cases fl with
    | next =>
      obtain ⟨_, H', J, q⟩ := hs
      exact ⟨V.non, H', J.os, J.bare, J.base, J.hok, rfl, q⟩
    | ret u =>
      obtain ⟨v, _, H', J, rv, q⟩ := hs
      exact ⟨v, H', J.os, J.bare, J.base, J.hok, rv, q⟩
    | brk =>
      obtain ⟨_, _, _, q⟩ := hs
      exact q.elim
    | cont =>
      obtain ⟨_, _, _, q⟩ := hs
      exact q.elim
end L2
set_option maxRecDepth 100000
namespace L2
open PySem PySem.Spec PyProof.Rows LamX
/-! the law's call, where nothing is being shown and one def makes lambdas: its code object at c, its table at t -/
theorem end_tab {P : Program} {w : World} {K : PySem.W.Frag} {mg mb : Str → Option Value} {k : Nat} {fa a c t : Addr} {fd : FuncData} {x : Str} {sp : Sp} {s₁ : Shared} {vs : List Value} {H : Hp}
    (KX : K.In s₁.heap) (hns : s₁.heap.Ns mainGlobals mg) (hb : s₁.heap.Ns builtinsNs mb) (hbb : ∀ y : Str, y ≠ "__name__" → mb y = bootBuiltins y) (lim : s₁.heap.NoLimit) (hg : s₁.gens = #[])
    (ht : s₁.heap.get? t = some { cls := .none, data := .fields #[] }) (nt : K.lookup t = none) (hc : PySem.W.CodeHd s₁.heap c t)
    (bm : ∃ (m : Addr) (om : Obj), mg "__builtins__" = some (.ref m) ∧ m ≠ builtinsNs ∧ s₁.heap.get? m = some om ∧ om.cls = .type "module" ∧ om.dict = some builtinsNs ∧ om.data = .plain)
    (ha : s₁.heap.get? a = some { cls := .type "list", data := .seq vs.toArray }) (hr : Room k callerA)
    (F : ∀ base : Heap, K.In base → base.Ns mainGlobals mg → TabB base mg c t → FnG P w K mg base CX0 k fa fd [x] sp) (bind : ∀ (s : Shared) (u : Value), BindsTo s fd ⟨[u], []⟩ [(x, u)])
    (hHt : H t = some (.tbl #[])) (hO : ∀ b, b ≠ t → H b = none ∨ ∃ o xs, H b = some (.frz o (.lst xs))) (hok : HOk P w H s₁.heap) (hA : ∀ b, b ≠ t → H b ≠ none → b = a) (hK : H a ≠ none → K.lookup a = none)
    (hsp : sp [.ref a] H (fun v _ => v = .bl true) fun _ _ _ => False) :
    codeAny (model P w) callerA (.call (.ref fa) ⟨[.ref a], []⟩) (fun r s' => r = .ok (.ret (.bool true)) ∧ OldK s₁.heap s'.heap ∧ s'.os = s₁.os ∧ AllBare s'.gens) s₁ := by
  have apart : ∀ {b : Addr} {o : Obj}, s₁.heap.get? b = some o → o.data ≠ .fields #[] → b ≠ t := by
    intro b o e d z
    rw [z, ht] at e
    have eo := Option.some.inj e
    exact d (by rw [← eo])
  have free : ∀ {b : Addr} {o : Obj}, s₁.heap.get? b = some o → o.data ≠ .fields #[] → (∀ v n, o.data ≠ .seq v n) → H b = none := by
    intro b o e d1 d2
    refine Classical.byContradiction fun n => ?_
    have eb := hA b (apart e d1) n
    subst eb
    have eo := Option.some.inj (e.symm.trans ha)
    exact d2 vs.toArray _ (by rw [eo])
  have ns' : ∀ {b : Addr} {m : Str → Option Value}, s₁.heap.Ns b m → (hidT s₁.heap H).Ns b m := by
    rintro b m ⟨o, es, ep, e, d, r⟩
    exact ⟨o, es, ep, hidT_get e (free e (by rw [d]; intro z; cases z) fun v n z => by rw [d] at z; cases z), d, r⟩
  have kb : K.In (hidT s₁.heap H) := by
    intro b o e
    refine hidT_get (KX b o e) (Classical.byContradiction fun n => ?_)
    by_cases eb : b = t
    · subst eb
      rw [nt] at e
      cases e
    · have e2 := hA b eb n
      subst e2
      rw [hK n] at e
      cases e
  have md : Mod K mg (hidT s₁.heap H) := by
    obtain ⟨mc, h1, h2⟩ := lim
    exact ⟨kb, ns' hns, ⟨mb, ns' hb, hbb⟩, ⟨mc, ns' h1, h2⟩⟩
  have tb : TabB (hidT s₁.heap H) mg c t := by
    obtain ⟨m, om, m1, m2, m3, m4, m5, m6⟩ := id bm
    have hm : H m = none := free m3 (by rw [m6]; intro z; cases z) fun v n z => by rw [m6] at z; cases z
    have gm : m ≠ mainGlobals := fun z => by
      obtain ⟨o, es, ep, e, d, _⟩ := hns
      rw [z, e] at m3
      have eo := Option.some.inj m3
      rw [← eo, d] at m6
      cases m6
    have mt : m ≠ t := apart m3 (by rw [m6]; intro z; cases z)
    refine ⟨?_, ⟨m, om, m1, m2, gm, mt, hidT_get m3 hm, m4, m5, m6⟩, fun z => ?_⟩
    · obtain ⟨o, us, fi, tf, fl, tg, inF, tx, tt, c1, c2, c3, c4, rest⟩ := hc
      refine ⟨o, us, fi, tf, fl, tg, inF, tx, tt, hidT_get c1 (free c1 (fun z => ?_) fun v n z => ?_), c2, c3, c4, rest⟩
      · rw [c3] at z
        have e := Data.fields.inj z
        rw [e] at c4
        simp at c4
      · rw [c3] at z
        cases z
    · obtain ⟨o, es, ep, e, d, _⟩ := hns
      rw [z, ht] at e
      have eo := Option.some.inj e
      rw [← eo] at d
      cases d
  have ev : Env0 P w K mg (hidT s₁.heap H) callerA [] s₁ H :=
    ⟨rfl, md, fun b o e => of_hidT e, Nat.le_of_eq (hidT_size _ _), trivial, fun b hb => (nomatch hb), hok, .of_eq hg⟩
  refine codeAny_mono ((F _ kb (ns' hns) tb).run callerA [] s₁ H _ [.ref a] [.ref a] _ _ rfl hr ev (bind s₁ (.ref a)) (.cons rfl .nil) hsp) fun r s' h => ?_
  cases r with
  | error e => exact (h : False).elim
  | ok fl =>
    cases fl with
    | next => exact (h : False).elim
    | brk => exact (h : False).elim
    | cont => exact (h : False).elim
    | ret u =>
      obtain ⟨v, H', os, bare, un, hok', r', q⟩ := h
      have q' : v = .bl true := q
      subst q'
      obtain rfl : u = Value.bool true := r'
      have keep : ∀ b o, b ≠ t → s₁.heap.get? b = some o → s'.heap.get? b = some o := by
        intro b o n e
        rcases hO b n with z | ⟨ob, xs, z⟩
        · exact un.keep b o e z (fun m => nomatch m) (fun m => nomatch m)
        · have e1 := (hok b _ z).1
          have e2 := (hok' b _ (un.frzs b ob _ z)).1
          exact (Option.some.inj (e.symm.trans e1)) ▸ e2
      obtain ⟨more, gt⟩ := un.tbls t #[] hHt
      have gt2 : s'.heap.get? t = some { cls := .none, data := .fields (#[] ++ more) } := hok' t _ gt
      refine ⟨rfl, ⟨fun b o e => ?_, fun b o e => ?_⟩, os, bare⟩
      · by_cases eb : b = t
        · subst eb
          have eo := Option.some.inj (e.symm.trans ht)
          subst eo
          exact .inr (.inl ⟨(hc.tab ht).isCodeTable, rfl, #[], more, rfl, gt2⟩)
        · exact .inl (keep b o eb e)
      · by_cases eb : b = t
        · subst eb
          exact ⟨_, gt2⟩
        · exact ⟨o, keep b o eb e⟩
theorem walk_tab {l : PySem.W.OpenLaw} {n k : Nat} {q : Program} {loose : List Str} {XP : (Str → Option Value) → Heap → Prop} {YP : World → Heap → Prop} {d : DefRec} {sp : PySem.W.Frag → Addr → Sp} {x : Str}
    (hn : l.most = some n) (hn2 : n ≤ sizeLine) (hdf : d.params.defaults = []) (hr : Room k callerA)
    (F : ∀ (w : World) (mg : Str → Option Value) (fa : Addr) (h : Heap), YP w h → h.Ns mainGlobals mg → mg d.name = some (.ref fa) →
      ∃ (K : PySem.W.Frag) (c t : Addr) (fd : FuncData), K.In h ∧ h.get? t = some { cls := .none, data := .fields #[] } ∧ K.lookup t = none ∧ PySem.W.CodeHd h c t ∧ (∀ (s : Shared) (u : Value), BindsTo s fd ⟨[u], []⟩ [(x, u)]) ∧
        ∀ base : Heap, K.In base → base.Ns mainGlobals mg → TabB base mg c t → FnG l.prog w K mg base CX0 k fa fd [x] (sp K t))
    (hsp : ∀ (K : PySem.W.Frag) (t : Addr) (H : Hp) (a : Addr) (ns : List Int), ns.length ≤ n → (∀ z ∈ ns, Builtin.Int.intBits z ≤ 1048576) → H t = some (.tbl #[]) → SqL K H a (ns.map V.int) → sp K t [.ref a] H (fun v _ => v = .bl true) fun _ _ _ => False) :
    PySem.W.WalkO q loose XP YP l.row.toRowW d [] (fun f vs => PySem.call f vs) := by
  refine Att.attach_callB hn hdf fun w s₀ s₁ mg mb fa o pm cd doc a vs ns G Y ho hd hcd hmg hobj hints hlen hbits hg => ?_
  obtain ⟨K, c, t, fd, KX, ht, nt, hc, b, f⟩ := F w mg fa _ Y G.T.g hmg
  have rv := vals_ints hints
  have lv := hints.length
  have nat_ : a ≠ t := fun z => by
    have e := hobj
    rw [z, ht] at e
    have eo := congrArg Obj.data (Option.some.inj e)
    cases eo
  have hl : ns.length ≤ sizeLine := Nat.le_trans hlen hn2
  cases hk : K.lookup a with
  | some oa =>
    have eo := Option.some.inj ((KX a oa hk).symm.trans hobj)
    subst eo
    refine end_tab (H := fun b => if b = t then some (.tbl #[]) else none) KX G.T.g G.T.b G.T.builtins G.T.nolimit hg ht nt hc G.T.bmain hobj hr f b (if_pos rfl) (fun b n => .inl (if_neg n)) (fun b u z => ?_) (fun b n z => absurd (if_neg n) z) (fun z => absurd (if_neg nat_) z) ?_
    · by_cases eb : b = t
      · subst eb
        have eu := Option.some.inj ((if_pos rfl).symm.trans z)
        subst eu
        exact ht
      · exact nomatch (if_neg eb).symm.trans z
    · exact hsp K t _ a ns hlen hbits (if_pos rfl) (.inr ⟨_, vs.toArray, _, hk, rfl, rfl, rfl, by rw [List.size_toArray, lv]; exact hl, by simpa using rv⟩)
  | none =>
    refine end_tab (H := fun b => if b = t then some (.tbl #[]) else if b = a then some (HO.frz { cls := .type "list", data := .seq vs.toArray } (.lst (ns.map V.int))) else none) KX G.T.g G.T.b G.T.builtins G.T.nolimit hg ht nt hc G.T.bmain hobj hr f b (if_pos rfl) (fun b n => ?_) (fun b u z => ?_) (fun b n z => ?_) (fun _ => hk) ?_
    · by_cases eb : b = a
      · exact .inr ⟨_, _, (if_neg n).trans (if_pos eb)⟩
      · exact .inl ((if_neg n).trans (if_neg eb))
    · by_cases eb : b = t
      · subst eb
        have eu := Option.some.inj ((if_pos rfl).symm.trans z)
        subst eu
        exact ht
      · have z2 := (if_neg eb).symm.trans z
        by_cases e2 : b = a
        · subst e2
          have eu := Option.some.inj ((if_pos rfl).symm.trans z2)
          subst eu
          exact ⟨hobj, by rw [List.length_map]; exact hl, vs, _, rv, hobj⟩
        · exact nomatch (if_neg e2).symm.trans z2
    · refine Classical.byContradiction fun e2 => z ((if_neg n).trans (if_neg e2))
    · exact hsp K t _ a ns hlen hbits (if_pos rfl) (.inl (.inr ⟨_, (if_neg nat_).trans (if_pos rfl)⟩))
end L2
set_option maxRecDepth 100000
namespace L2
open PySem PySem.Spec PyProof.Rows
/-- plain data that a law shows: ints, texts, lists and tuples of ints, one small dict -/
inductive Dat0 (H : Hp) : V → PyData → Prop where
  | non : Dat0 H .non .none
  | bl (b : Bool) : Dat0 H (.bl b) (.bool b)
  | int (i : Int) : Dat0 H (.int i) (.int i)
  | str (z : Str) : Dat0 H (.str z) (.str z)
  | tup {a : Addr} {ns : List Int} (e : H a = some (.tup (ns.map V.int))) : Dat0 H (.ref a) (.tuple (ns.map .int))
  | lst {a : Addr} {ns : List Int} (e : H a = some (.lst (ns.map V.int))) (n : a ≠ sysModules) : Dat0 H (.ref a) (.list (ns.map .int))
  | dct {a : Addr} {z : Str} {i : Int} (e : H a = some (.dK [(.inr z, .int i)])) : Dat0 H (.ref a) (.dict [(.str z, .int i)])
/-- x reads as d, in every state over H, and the modules' own dict is no part of it -/
def RdS (X : Cx) (H : Hp) (x : V) (d : PyData) : Prop := ∀ (pins : List (Addr × Obj)) (σ : St) (s : Shared) (u : Value), Inv X pins σ H s → RelV x u → ∃ as, Reads s.heap u d as ∧ sysModules ∉ as
theorem RdS.v {X : Cx} {H : Hp} {x : V} {d : PyData} (h : RdS X H x d) : RdV X H x d := fun pins σ s u I r =>
  let ⟨as, q, m⟩ := h pins σ s u I r
  ⟨as, q, fun _ => m⟩
theorem reads_ints {h : Heap} : ∀ {ns : List Int} {us : List Value}, Vals (ns.map V.int) us → ReadsAll h us (ns.map PyData.int) []
  | [], _, r => by
    cases r
    exact .nil
  | z :: ns, _, r => by
    cases r with
    | cons a b =>
      obtain ⟨t, rfl⟩ := a
      exact ReadsAll.cons (as := []) (.int z t) (reads_ints b)
theorem Dat0.rd {X : Cx} {H : Hp} {v : V} {d : PyData} (h : Dat0 H v d) : RdS X H v d := by
  cases h with
  | non =>
    intro pins σ s u I r
    obtain rfl : u = Value.none := r
    exact ⟨_, .none, fun m => nomatch m⟩
  | bl b =>
    intro pins σ s u I r
    obtain rfl : u = Value.bool b := r
    exact ⟨_, .bool b, fun m => nomatch m⟩
  | int i =>
    intro pins σ s u I r
    obtain ⟨t, rfl⟩ : ∃ t, u = Value.int i t := r
    exact ⟨_, .int i t, fun m => nomatch m⟩
  | str z =>
    intro pins σ s u I r
    obtain ⟨t, rfl⟩ : ∃ t, u = Value.str z t := r
    exact ⟨_, .str z t, fun m => nomatch m⟩
  | @tup a ns e =>
    intro pins σ s u I r
    obtain rfl : u = Value.ref a := r
    obtain ⟨its, rv, ⟨o, ho, hc, n, hd⟩, _⟩ := I.tuple (SqT.of e)
    exact ⟨_, .tuple ho hc hd (reads_ints rv), fun m => nomatch m⟩
  | @lst a ns e n =>
    intro pins σ s u I r
    obtain rfl : u = Value.ref a := r
    obtain ⟨its, rv, ⟨o, n', ho, hc, _, hd⟩, _⟩ := I.list (SqL.of e)
    refine ⟨_, .list ho hc hd (reads_ints rv), fun m => ?_⟩
    exact n (by simpa using m : sysModules = a).symm
  | @dct a z i e =>
    intro pins σ s u I r
    obtain rfl : u = Value.ref a := r
    obtain ⟨_, sm, vs, kv, o, es, ep, ho, ex, hd, kk, pr, _⟩ := dk_of I.hok e
    cases kv with
    | @cons p q _ r2 e1 e2 =>
      cases e2
      obtain ⟨k1, w1⟩ := q
      obtain ⟨f1, f2⟩ := e1
      obtain ⟨t2, rfl⟩ : ∃ t, w1 = Value.int i t := f2
      obtain rfl : Sum.inr z = k1 := f1
      obtain ⟨d0, rest, er, k0, v0, pr2⟩ : ∃ d0 rest, es.toList = d0 :: rest ∧ keyIs (.inr z) d0.key = true ∧ d0.val = Value.int i t2 ∧ Pairs (mixKind X.prog X.w) rest [] := by
        generalize es.toList = l at pr
        cases pr with
        | cons a b c => exact ⟨_, _, rfl, a, b, c⟩
      cases pr2
      rcases keyIs_shape k0 with ⟨_, _, q, _⟩ | ⟨z', t, q, ek⟩
      · cases q
      · cases q
        have h1 : ReadsAll s.heap (es.toList.map (·.key)) [PyData.str z] ([] ++ []) := by
          rw [er]
          show ReadsAll s.heap [d0.key] _ _
          rw [ek]
          exact .cons (.str z t) .nil
        have h2 : ReadsAll s.heap (es.toList.map (·.val)) [PyData.int i] ([] ++ []) := by
          rw [er]
          show ReadsAll s.heap [d0.val] _ _
          rw [v0]
          exact .cons (.int i t2) .nil
        refine ⟨_, Reads.dict (kvs := [(PyData.str z, PyData.int i)]) ho ex.1 hd h1 h2, fun m => ?_⟩
        have e1 : sysModules = a := by simpa using m
        rw [← e1] at sm
        exact absurd sm (by decide)
/-- a list of such, at an address that is not the modules' own -/
theorem rd_list {X : Cx} {H : Hp} {q : Addr} {vs : List V} {ds : List PyData} (hq : H q = some (.lst vs)) (nq : q ≠ sysModules) (h : Paired (fun v d => RdS X H v d) vs ds) : RdS X H (.ref q) (.list ds) := by
  intro pins σ s u I r
  obtain rfl : u = Value.ref q := r
  obtain ⟨its, rv, ⟨o, n, ho, hc, _, hd⟩, _⟩ := I.list (SqL.of hq)
  have all : ∀ {vs : List V} {ds : List PyData} {us : List Value}, Paired (fun v d => RdS X H v d) vs ds → Vals vs us → ∃ as, ReadsAll s.heap us ds as ∧ sysModules ∉ as := by
    intro vs ds us h
    induction h generalizing us with
    | nil =>
      intro r
      cases r
      exact ⟨_, .nil, fun m => nomatch m⟩
    | @cons v d vs ds a b ih =>
      intro r
      cases r with
      | cons r1 r2 =>
        obtain ⟨as, q1, m1⟩ := a pins σ s _ I r1
        obtain ⟨bs, q2, m2⟩ := ih r2
        exact ⟨_, .cons q1 q2, fun m => (List.mem_append.mp m).elim m1 m2⟩
  obtain ⟨as, q1, m1⟩ := all h rv
  refine ⟨_, Reads.list ho hc hd q1, fun m => ?_⟩
  rcases List.mem_cons.mp m with e | e
  · exact nq e.symm
  · exact m1 e
/-- a list display, with where it does not stand -/
def tLstS (t : TA) : TE := fun σ H Q => t σ H fun xs H1 => xs.length ≤ sizeLine ∧ ∀ p, H1 p = none → p ≠ sysModules → Q (.ref p) (upd H1 p (.lst xs))
theorem pe_lstS {X : Cx} {es : List Expr} {t : TA} {pos : Pos} (h : PA X es t) : PE X (.List es pos) (tLstS t) := by
  refine ⟨fun pins s σ H Q I hq => ?_⟩
  refine wpAny_List_spliced (thn (h.run pos pins s σ H _ I hq) fun us s1 hh => ?_)
  obtain ⟨xs, H1, I1, r, z, q⟩ := hh
  have z' : us.length ≤ sizeLine := by rw [← r.length]; exact z
  refine ⟨z', V.ref s1.heap.objs.size, upd H1 s1.heap.objs.size (.lst xs), ?_, rfl, q _ (I1.hok.fresh (Nat.le_refl _)) (Nat.ne_of_gt I1.big)⟩
  exact I1.laid (t' := s1.toks) (fun _ _ e => Heap.get?_push_of_some _ e) (Nat.le_refl _) ⟨z, us, 0, r, Heap.get?_push_size _ rfl⟩
end L2
set_option maxRecDepth 100000
namespace L2
open PySem PySem.Spec PyProof.Rows
/-- what the written part says of an own error class below B, itself right below ValueError -/
def XL (K : PySem.W.Frag) (C B : Addr) : Prop := ∃ nm q N bs sn sub ab col dd k0 k1 k2 k3 k5, K.lookup C = some (excClassObj nm q C N bs (.ref B :: PySem.HandSPX.veTail) true sn sub ab col dd k0 k1 k2 k3 k5 "ValueError.__new__")
theorem XL.cls {K : PySem.W.Frag} {C B : Addr} (h : XL K C B) : ∃ cd : ClassData, PySem.W.clsIn K C = some cd ∧ cd.mro = .ref C :: .ref B :: PySem.HandSPX.veTail ∧ cd.hasDict = true := by
  obtain ⟨nm, q, N, bs, sn, sub, ab, col, dd, k0, k1, k2, k3, k5, e⟩ := h
  refine ⟨_, by unfold PySem.W.clsIn; rw [e] <;> rfl, rfl, rfl⟩
theorem XL.ty {K : PySem.W.Frag} {C B : Addr} (h : XL K C B) : PySem.W.typeIn K (.ref C) = some (.type "type") := by
  obtain ⟨nm, q, N, bs, sn, sub, ab, col, dd, k0, k1, k2, k3, k5, e⟩ := h
  show (K.lookup C).map (·.cls) = _
  rw [e]
  rfl
theorem XL.mro {K : PySem.W.Frag} {C B : Addr} (h : XL K C B) (x : Value) : PySem.W.mroIn K C x = some ((.ref C :: .ref B :: PySem.HandSPX.veTail).contains x) := by
  obtain ⟨cd, e, m, _⟩ := h.cls
  unfold PySem.W.mroIn
  rw [e, Option.bind_some, m]
  rfl
theorem XL.isC {K : PySem.W.Frag} {C B : Addr} (h : XL K C B) : (PySem.W.clsIn K C).isSome = true := by
  obtain ⟨cd, e, _⟩ := h.cls
  rw [e]
  rfl
theorem XL.dict {K : PySem.W.Frag} {C B : Addr} (h : XL K C B) : PySem.W.hasDictIn K C = true := by
  obtain ⟨cd, e, _, d⟩ := h.cls
  unfold PySem.W.hasDictIn
  rw [e]
  exact d
theorem XL.x {K : PySem.W.Frag} {C B : Addr} (h : XL K C B) (sa : PySem.W.findIn K (.ref C) "__setattr__" = some (some (.builtin "object.__setattr__"))) (ga : PySem.W.findIn K (.ref C) "__getattribute__" = some (some (.builtin "BaseException.__getattribute__")))
    (gg : PySem.W.findIn K (.ref C) "__getattr__" = some none) (ca : PySem.W.findIn K (.ref C) "__class__" = some (some (.builtin "object.__class__"))) (kC : PySem.W.keepIn K (.ref C) = true)
    (gs : PySem.W.specialIn K (.builtin "object.__class__") "__get__" = some (some (.builtin "getset_descriptor.__get__"))) (tk : PySem.W.takesIn K (.builtin "object.__class__") = some true) : XvC K C where
  oex := {
    cls := by
      obtain ⟨nm, q, N, bs, sn, sub, ab, col, dd, k0, k1, k2, k3, k5, e⟩ := h
      exact ⟨nm, q, N, bs, _, sn, sub, ab, col, dd, k0, k1, k2, k3, k5, e, by show PySem.HandSPX.refsVE PySem.HandSPX.veTail = true; decide +kernel⟩
    sa := sa
    exC := (h.mro _).trans (by simp)
    tyC := h.ty
    kC := kC }
  ga := ga
  gg := gg
  dd := h.dict
  ic := h.isC
  ca := ca
  gs := gs
  tk := tk
  mo := (h.mro _).trans (by simp)
theorem kit_own {K : PySem.W.Frag} {C B D : Addr} (h : XL K C B) (hd : (PySem.W.clsIn K D).isSome = true) (ht : PySem.W.typeIn K (.ref D) = some (.type "type")) : PySem.W.kitOne K (.ref C) (.ref D) = some (decide (C = D) || decide (B = D)) := by
  unfold PySem.W.kitOne
  by_cases e : C = D
  · subst e
    simp
  · have e1 : (Value.ref C == Value.ref D) = false := by simpa using e
    rw [e1, if_neg Bool.false_ne_true]
    unfold PySem.W.kitCls
    have e2 : ((PySem.W.clsIn K D).isSome && PySem.W.typeIn K (.ref D) == some (.type "type")) = true := by rw [hd, ht]; rfl
    show (if ((PySem.W.clsIn K D).isSome && PySem.W.typeIn K (.ref D) == some (.type "type")) = true then PySem.W.mroIn K C (.ref D) else none) = _
    rw [if_pos e2, h.mro]
    have e3 : (Value.ref D == Value.ref C) = false := by simpa using fun z => e z.symm
    by_cases e4 : B = D
    · subst e4
      simp [e]
    · have e5 : ¬ D = B := fun z => e4 z.symm
      have e7 : (Value.ref D == Value.ref B) = false := by simpa using e5
      rw [decide_eq_false e, decide_eq_false e4]
      rw [List.contains_cons, e3, List.contains_cons, e7]
      rfl
theorem kit_ve {K : PySem.W.Frag} {C B : Addr} (h : XL K C B) : PySem.W.kitOne K (.ref C) (.type "ValueError") = some true := by
  unfold PySem.W.kitOne
  have e1 : (Value.ref C == Value.type "ValueError") = false := rfl
  rw [e1, if_neg Bool.false_ne_true]
  show (if PySem.W.kitMeta "ValueError" = true then PySem.W.mroIn K C (.type "ValueError") else none) = _
  rw [if_pos (by decide +kernel), h.mro]
  simp
end L2
set_option maxRecDepth 100000
namespace L2
open PySem PySem.Spec PyProof.Rows
/-! facts of the top as Bools of the written part -/
/-- an own error class right below B, itself right below ValueError -/
def xlB (K : PySem.W.Frag) (C B : Addr) : Bool := match K.lookup C with
  | some ⟨.type "type", _, .cls cd, sl⟩ => (match cd.mro, sl.toList with
    | .ref C' :: .ref B' :: rest, [_, _, _, _, some (.builtin n), _] => decide (C' = C) && (decide (B' = B) && (decide (n = "ValueError.__new__") && (!cd.hasDel && (cd.hasDict && decide (rest = PySem.HandSPX.veTail)))))
    | _, _ => false)
  | _ => false
theorem xl_of {K : PySem.W.Frag} {C B : Addr} (q : xlB K C B = true) : XL K C B := by
  unfold xlB at q
  split at q
  · rename_i dd cd sl ho
    split at q
    · rename_i C' B' rest k0 k1 k2 k3 n k5 hm hs
      simp only [Bool.and_eq_true, decide_eq_true_eq, Bool.not_eq_true'] at q
      obtain ⟨rfl, rfl, rfl, hdel, hdict, rfl⟩ := q
      obtain ⟨nm, bs, mro, ns, qn, hd, sn, sub, ab, col, del⟩ := cd
      dsimp only at hm hdel hdict
      subst hm hdel hdict
      have hsl : sl = #[k0, k1, k2, k3, some (.builtin "ValueError.__new__"), k5] := by
        obtain ⟨l⟩ := sl
        simp only at hs
        rw [hs]
      subst hsl
      exact ⟨nm, qn, ns, bs, sn, sub, ab, col, dd, k0, k1, k2, k3, k5, ho⟩
    · cases q
  · cases q
/-- what is asked of such a class beside -/
def xcB (K : PySem.W.Frag) (C : Addr) : Bool := decide (PySem.W.findIn K (.ref C) "__setattr__" = some (some (.builtin "object.__setattr__"))) && (decide (PySem.W.findIn K (.ref C) "__getattribute__" = some (some (.builtin "BaseException.__getattribute__"))) &&
  (decide (PySem.W.findIn K (.ref C) "__getattr__" = some none) && (decide (PySem.W.findIn K (.ref C) "__class__" = some (some (.builtin "object.__class__"))) && (PySem.W.keepIn K (.ref C) &&
  (decide (PySem.W.specialIn K (.builtin "object.__class__") "__get__" = some (some (.builtin "getset_descriptor.__get__"))) && decide (PySem.W.takesIn K (.builtin "object.__class__") = some true))))))
theorem xc_of {K : PySem.W.Frag} {C B : Addr} (l : XL K C B) (q : xcB K C = true) : XvC K C := by
  unfold xcB at q
  simp only [Bool.and_eq_true, decide_eq_true_eq] at q
  obtain ⟨h1, h2, h3, h4, h5, h6, h7⟩ := q
  exact l.x h1 h2 h3 h4 h5 h6 h7
/-- a property's getter -/
def getterOf (K : PySem.W.Frag) (p : Addr) : Addr := match PySem.W.recIn K p "property" with
  | some (.ref g :: _) => g
  | _ => 0
def propB (K : PySem.W.Frag) (C : Addr) (f : Str) : Bool := decide (PySem.W.findIn K (.ref C) f = some (some (.ref (He.ma K C f)))) && (decide (PySem.W.specialIn K (.ref (He.ma K C f)) "__get__" = some (some (.builtin "property.__get__"))) &&
  (decide (PySem.W.takesIn K (.ref (He.ma K C f)) = some true) && (match PySem.W.recIn K (He.ma K C f) "property" with
    | some (.ref _ :: _) => true
    | _ => false)))
theorem prop_of {K : PySem.W.Frag} {C : Addr} {f : Str} (q : propB K C f = true) : PropOf K C f (He.ma K C f) (getterOf K (He.ma K C f)) := by
  unfold propB at q
  simp only [Bool.and_eq_true, decide_eq_true_eq] at q
  obtain ⟨h1, h2, h3, h4⟩ := q
  refine ⟨h1, h2, h3, ?_⟩
  split at h4
  · rename_i g rest e
    exact ⟨rest, by unfold getterOf; rw [e]⟩
  · cases h4
/-- a def without defaults -/
theorem fun_of {K : PySem.W.Frag} {x qual : Str} {st : Stmt} {f : Addr} {fd : FuncData} (F : FunD K x qual (defArgs st) (defBody st) (defScope st) [] [] f fd) : Fun K x qual st f fd := by
  obtain ⟨oc, od, dV, kV, doc, pm, an, cdv, ct, osl, rfl, lk, hc, hd, _⟩ := F.ex
  rcases hd with ⟨_, rfl⟩ | ⟨n, _⟩
  · exact ⟨⟨oc, od, kV, doc, pm, an, cdv, ct, osl, rfl, lk, hc⟩, F.kp⟩
  · exact absurd rfl n
end L2
set_option maxRecDepth 100000
set_option maxHeartbeats 2000000
/-! own classes: truth by __len__, <=, == beside any plain value; static methods -/
namespace L2
open PySem PySem.Spec PyProof.Rows ClX
theorem oth_looks {X : Cx} {C : Addr} {pins : List (Addr × Obj)} {σ : St} {H : Hp} {s : Shared} {y : V} {u : Value} (I : Inv X pins σ H s) (r : RelV y u) (h : Oth X.K C H y) : ∃ t, (∀ M : Model, PySem.W.Looks M s.heap (typeOf u) t) ∧ PySem.W.notFirst X.K C t = true := by
  rcases h with ⟨b, dx, fs, rfl, h⟩ | ⟨S, h⟩
  · cases r
    obtain ⟨mA, J, _⟩ := ins_get I.hok h
    obtain ⟨od, J, _⟩ := J.look
    exact ⟨_, fun M => J.type, by simp [PySem.W.notFirst]⟩
  · refine ⟨.type S, fun M => plain_looks I r h M, ?_⟩
    unfold PySem.W.notFirst
    rw [sub_no X.K C S (plain_name h)]
    simp
/-- own comparisons beside an instance or a plain value -/
def rOwnC (C : Addr) (sp : Sp) (E : XK) (K : PySem.W.Frag) : R2 := fun x y H Q => ∃ (a dx : Addr) (fs : List (Str × V)), x = .ref a ∧ H a = some (.ins C dx fs) ∧ Oth K C H y ∧ sp [x, y] H (fun v H' => ∃ b : Bool, v = .bl b ∧ Q (.bl b) H') E
section
variable {X : Cx} {CX : CXT} {n : Nat} {C f : Addr} {sp : Sp} {E : XK}
theorem own_cmp {op : CmpOp} (F : FnR X.prog X.w X.K X.mg X.base CX n f sp) (h1 : PySem.W.findIn X.K (.ref C) (cmpInfo op).2.1 = some (some (.ref f))) (h2 : PySem.W.isFn X.K (.ref f) = true) (hr : Room n X.A) (hx : Passes CX X E)
    {pins : List (Addr × Obj)} {σ : St} {H : Hp} {s : Shared} {x y : V} {v u : Value} {Q : VK} (I : Inv X pins σ H s) (rx : RelV x v) (ry : RelV y u) (hq : rOwnC C sp E X.K x y H Q) : wpAny (model X.prog X.w) X.A (richCompare op v u) (EP X pins σ Q) X.xe s := by
  obtain ⟨a, dx, fs, rfl, ha, hy, hsp⟩ := hq
  cases rx
  obtain ⟨mA, J, _⟩ := ins_get I.hok ha
  obtain ⟨od, J, _⟩ := J.look
  obtain ⟨t, ht, hn⟩ := oth_looks I ry hy
  obtain ⟨m, hF⟩ := I.fr
  refine PySem.W.cmp_K (op := op) (tb := t) hr.units0 hF I.ok.mod.kin J (ht _) hn h1 h2 (wpAny_call (codeAny_mono (own_codeR F hr rfl hx I (show Vals [V.ref a, y] [Value.ref a, u] from .cons rfl (.cons ry .nil)) hsp) fun r s' z => ?_))
  match r, z with
  | .error e, z => exact z
  | .ok .next, z => exact z.elim
  | .ok .brk, z => exact z.elim
  | .ok .cont, z => exact z.elim
  | .ok (.ret w), z =>
    obtain ⟨v, H', I', rz, b, rfl, q⟩ := z
    obtain rfl : w = Value.bool b := rz
    exact ⟨.bl b, H', I', rfl, q⟩
theorem op_leOwn (F : FnR X.prog X.w X.K X.mg X.base CX n f sp) (h1 : PySem.W.findIn X.K (.ref C) "__le__" = some (some (.ref f))) (h2 : PySem.W.isFn X.K (.ref f) = true) (hr : Room n X.A) (hx : Passes CX X E) : OpR X (compareOp .LtE) (rOwnC C sp E X.K) := by
  intro pins s σ H x y v u Q I rx ry hq
  exact own_cmp (op := .LtE) F h1 h2 hr hx I rx ry hq
theorem op_eqOwnP (F : FnR X.prog X.w X.K X.mg X.base CX n f sp) (h1 : PySem.W.findIn X.K (.ref C) "__eq__" = some (some (.ref f))) (h2 : PySem.W.isFn X.K (.ref f) = true) (hr : Room n X.A) (hx : Passes CX X E) : OpR X (compareOp .Eq) (rOwnC C sp E X.K) := by
  intro pins s σ H x y v u Q I rx ry hq
  exact own_cmp (op := .Eq) F h1 h2 hr hx I rx ry hq
/-! truth -/
def rTruI (C : Addr) (sp : Sp) (E : XK) : V → Hp → (Bool → Hp → Prop) → Prop := fun x H Q => ∃ (a dx : Addr) (fs : List (Str × V)), x = V.ref a ∧ H a = some (.ins C dx fs) ∧ sp [V.ref a] H (fun v H' => ∃ i : Int, v = V.int i ∧ 0 ≤ i ∧ i < 2 ^ 63 ∧ Q (i != 0) H') E
theorem truth_len (F : FnR X.prog X.w X.K X.mg X.base CX n f sp) (hr : Room (n + 1) X.A) (h0 : PySem.W.findIn X.K (.ref C) "__bool__" = some none) (h1 : PySem.W.findIn X.K (.ref C) "__len__" = some (some (.ref f))) (h2 : PySem.W.isFn X.K (.ref f) = true) (hx : Passes CX X E)
    {pins : List (Addr × Obj)} {σ : St} {H : Hp} {s : Shared} {x : V} {v : Value} {Q : Bool → Hp → Prop} (I : Inv X pins σ H s) (rx : RelV x v) (hq : rTruI C sp E x H Q) : wpAny (model X.prog X.w) X.A (truthy v) (fun b s' => ∃ H', Inv X pins σ H' s' ∧ Q b H') X.xe s := by
  obtain ⟨a, dx, fs, rfl, ha, hsp⟩ := hq
  cases rx
  obtain ⟨mA, J, _⟩ := ins_get I.hok ha
  obtain ⟨od, J, _⟩ := J.look
  obtain ⟨m0, hF⟩ := I.fr
  have hr2 : Room n X.A.in1 := ⟨hr.hd, by have := hr.dp; show X.A.depth + 3 * n + 5 < _; omega, by have := hr.un; show X.A.units + 1 + 16 * n + 200 < _; omega⟩
  unfold truthy
  refine wpAny_bind (m := callSpecial? (.ref a) (Str.ofString "__bool__")) (wpAny_bind (wpAny_bind (J.type.here ((PySem.W.looks_findIn I.kIn h0).here (wpAny_pure ?_)))))
  refine wpAny_bind (wpAny_bind (J.type.here ((PySem.W.looks_findIn I.kIn h1).here ?_)))
  show wpAny _ _ (runValue (.builtin "len" ⟨[.ref a], []⟩) >>= _) _ _ _
  refine wpAny_bind (wpAny_runValue (codeAny_builtin entry_len ?_))
  rw [Around.under_plainId plain_len _]
  unfold Builtin.«len»
  refine wpAny_bind (m := oneArg "len" _) (wpAny_pure ?_)
  refine wpAny_bind (m := callSpecial? (.ref a) (Str.ofString "__len__")) (PySem.W.special_fn I.kIn J h1 (beq_iff_eq.mp h2) (wpAny_mono (wpAny_call (codeAny_mono (own_codeR F hr2 rfl hx I (show Vals [V.ref a] [Value.ref a] from .cons rfl .nil) hsp) (R := fun r s' => match r with | .ok (.ret v) => EP X pins σ _ v s' | .ok _ => False | .error e => X.xe e s') fun r s' z => z)) (fun r s' hr => ?_) fun _ _ y => y))
  obtain ⟨v, H', I', rz, i, rfl, i0, i1, q⟩ := hr
  obtain ⟨t, rfl⟩ := (show ∃ t, r = Value.int i t from rz)
  refine wpAny_bind (wpAny_holding (wpAny_pure ?_))
  refine wpAny_bind (wpAny_letGo ?_)
  show wpAny _ _ (if i < 0 then _ else _) _ _ _
  rw [if_neg (by omega)]
  show wpAny _ _ (if i ≥ 2 ^ 63 then _ else _) _ _ _
  rw [if_neg (by omega)]
  exact wpAny_bind (wpAny_mkInt (wpAny_pure (wpAny_pure ⟨H', I'.tok _, q⟩)))
theorem pt_truthI {e : Expr} {te : TE} (he : PE X e te) (F : FnR X.prog X.w X.K X.mg X.base CX n f sp) (hr : Room (n + 1) X.A) (h0 : PySem.W.findIn X.K (.ref C) "__bool__" = some none) (h1 : PySem.W.findIn X.K (.ref C) "__len__" = some (some (.ref f))) (h2 : PySem.W.isFn X.K (.ref f) = true) (hx : Passes CX X E)
    (hw : ∀ whole, isTrue e X.env whole = (do let v ← whole; standAt e.pos; holding [v] (truthy v)) := by exact fun _ => rfl) : PT X e (fun σ H Q => te σ H fun x H' => rTruI C sp E x H' Q) := by
  refine ⟨fun pins s σ H Q I h => ?_⟩
  exact isTrue_plain (thn (he.run pins s σ H _ I h) fun v s1 hh => by
    obtain ⟨x, H1, I1, r1, q1⟩ := hh
    exact truth_len F hr h0 h1 h2 hx I1 r1 q1) (hw _)
end
/-! static methods, called through the class -/
structure SMet (K : PySem.W.Frag) (C : Addr) (mc : Value) (m : Str) (p g : Addr) : Prop where
  at_ : PySem.W.findCls K (.ref C) mc m = some (.get (.builtin "staticmethod.__get__") (.ref p) .none (.ref C))
  rc : ∃ rest, PySem.W.recIn K p "staticmethod" = some (.ref g :: rest)
  kp : PySem.W.keepIn K (.ref g) = true
def tSMeth (C : Addr) (sp : Sp) (E : XK) (ta : TE) (t : TA) : TE := fun σ H Q => ta σ H fun x H1 => x = .ref C ∧ t σ H1 fun vs H2 => sp vs H2 Q E
section
variable {X : Cx} {CX : CXT} {k : Nat} {C p g : Addr} {mc : Value} {sp : Sp} {E : XK} {o e : Expr} {es : List Expr} {m : Str} {pos apos : Pos} {ta : TE} {t : TA} {pl : Sem Bool}
theorem getmethsm_ok {pins : List (Addr × Obj)} {σ : St} {H : Hp} {s : Shared} {A : Around} {Q : Value × List Value → Shared → Prop} {E : Value → Shared → Prop} (I : Inv X pins σ H s) (r : CRead X.K C mc) (c : SMet X.K C mc m p g) (h : ∀ s', Inv X pins σ H s' → Q (.ref g, []) s') : wpAny (model X.prog X.w) A (getMethod (.ref C) m pl) Q E s := by
  obtain ⟨rest, hp⟩ := c.rc
  refine PySem.W.method_cls I.kIn r.ga (PySem.W.cls_bind I.kIn r.rd c.at_ (wpAny_call (PySem.W.sm_get (s := { s with toks := s.toks + 1 }) I.kIn hp (PySem.W.handed_on rfl ?_))))
  exact h _ (I.tok _)
theorem pe_smeth (he : PE X o ta) (r : CRead X.K C mc) (c : SMet X.K C mc m p g) (F : FnR X.prog X.w X.K X.mg X.base CX k g sp) (hr : Room k X.A) (hx : Passes CX X E) (ha : PA X (e :: es) t)
    (hst : starEach (e :: es) X.env = (false, eval e X.env) :: starEach es X.env := by rfl) (hpl : (backTo pos (starEach es X.env)).any (·.1) = false := by rfl)
    (ht : eval (.Call (.Attribute o m apos) (e :: es) [] pos) X.env = (do
      let ov ← eval o X.env
      standAt apos.atName
      let (f, first) ← holding [ov] (getMethod ov m pl)
      callWith pos f first (backTo pos (starEach (e :: es) X.env)) (backToKw pos (keywordEach [] X.env))) := by rfl) : PE X (.Call (.Attribute o m apos) (e :: es) [] pos) (tSMeth C sp E ta t) := by
  refine ⟨fun pins s σ H Q I h => ?_⟩
  refine PySem.W.methodCall_KW (pl := pl) (thn (he.run pins s σ H _ I h) fun u s1 hh => ?_) ht
  obtain ⟨x, H1, I1, rx, ex, q⟩ := hh
  subst ex
  obtain rfl : u = Value.ref C := rx
  refine getmethsm_ok I1 r c fun s2 I2 => ?_
  refine PySem.W.callWith_K (h₀ := X.base) I2.ok.mod.kin c.kp (thn (ha.run pos pins s2 σ H1 _ I2 q) fun us s3 hv => ?_) hst hpl
  obtain ⟨vs, H2, I3, rv, q2⟩ := hv
  exact ⟨I3.kIn, wpAny_call (run_fnR F hr hx I3 rv q2)⟩
end
section
variable {X : Cx} {CX : CXT} {k : Nat} {p g C : Addr} {mc : Value} {fd : FuncData} {ps ks : List Str} {m : Str} {sp : Sp} {E : XK} {o : Expr} {ta : TE} {tk : TA} {pos apos : Pos} {kws : List Keyword} {gg : List Value → List Value → List Value} {gV : List V → List V → List V}
def tSMethK (C : Addr) (n : Nat) (sp : Sp) (gV : List V → List V → List V) (E : XK) (ta : TE) (tk : TA) : TE := fun σ H Q => ta σ H fun x H1 => x = .ref C ∧ tk σ H1 fun zs H2 => zs.length = n ∧ sp (gV [] zs) H2 Q E
theorem pe_smethK {pl : Sem Bool} (he : PE X o ta) (r : CRead X.K C mc) (c : SMet X.K C mc m p g) (F : FnOk X.prog X.w X.K X.mg X.base CX k g fd ps sp) (hr : Room k X.A) (hb : KBn X.K fd ps 0 ks gg gV) (hx : Passes CX X E) (hkw : PK X kws tk)
    (hall : (backToKw pos (keywordEach kws X.env)).all (·.1.isSome) = true := by rfl) (hks : (backToKw pos (keywordEach kws X.env)).filterMap (·.1) = ks := by rfl)
    (hpl : ((backTo pos (starEach [] X.env)).any (·.1) || (backToKw pos (keywordEach kws X.env)).any (·.1.isNone)) = false := by rfl)
    (ht : eval (.Call (.Attribute o m apos) [] kws pos) X.env = (do
      let ov ← eval o X.env
      standAt apos.atName
      let (f, first) ← holding [ov] (getMethod ov m pl)
      callWith pos f first (backTo pos (starEach [] X.env)) (backToKw pos (keywordEach kws X.env))) := by rfl) :
    PE X (.Call (.Attribute o m apos) [] kws pos) (tSMethK C ks.length sp gV E ta tk) := by
  refine ⟨fun pins s σ H Q I h => ?_⟩
  refine PySem.W.methodCall_KW (pl := pl) (thn (he.run pins s σ H _ I h) fun u s1 hh => ?_) ht
  obtain ⟨x, H1, I1, rx, ex, q⟩ := hh
  subst ex
  obtain rfl : u = Value.ref C := rx
  refine getmethsm_ok I1 r c fun s2 I2 => ?_
  refine PySem.W.callWith_KW0 (h₀ := X.base) I2.ok.mod.kin c.kp hall ?_ hpl
  refine thn (hkw.run pos pins s2 σ H1 _ I2 q) fun ws s3 hw => ?_
  obtain ⟨zs, H2, I3, rz, l2, q2⟩ := hw
  refine ⟨I3.kIn, ?_⟩
  rw [hks]
  have rr : Vals ([] : List V) ([] : List Value) := .nil
  have r2 := hb.rel rr rz
  refine wpAny_call (codeAny_mono (F.run X.A X.stack s3 H2 ⟨[], ks.zip ws⟩ (gg [] ws) (gV [] zs) Q E hr I3.env0 (hb.to s3 [] ws I3.kIn rfl (rz.length.symm.trans l2)) r2 q2) fun r s' hq => ?_)
  match r, hq with
  | .error e, hq => exact hx _ σ H2 s3 e s' I3 hq
  | .ok (.ret u), hq => exact I3.after hq
  | .ok .next, hq => exact hq.elim
  | .ok .brk, hq => exact hq.elim
  | .ok .cont, hq => exact hq.elim
end
/-- what the top has written of a static method -/
def smB (K : PySem.W.Frag) (C : Addr) (m : Str) : Bool := He5.wrapB K C "staticmethod" "staticmethod.__get__" m && PySem.W.keepIn K (.ref (He5.wf K C "staticmethod" m))
theorem sm_of {K : PySem.W.Frag} {C : Addr} {m : Str} (h : smB K C m = true) : SMet K C (.type "type") m (He.ma K C m) (He5.wf K C "staticmethod" m) := by
  obtain ⟨h1, h2⟩ := He.ba h
  obtain ⟨h3, h4⟩ := He5.wrapB_ok h1
  exact ⟨h3, h4, h2⟩
end L2
set_option maxRecDepth 100000
namespace L2
open PySem PySem.Spec PyProof.Rows LamX
/-! C(k = v, ..) without positional arguments -/
def tMakeN0 (C : Addr) (m : Nat) (sp : Sp) (gV : List V → List V → List V) (E : XK) (tk : TA) : TE := fun σ H Q => tk σ H fun zs H2 => zs.length = m ∧
  ∀ x dx, H2 x = none → H2 dx = none → dx ≠ x → sp (gV [.ref x] zs) (upd (upd H2 dx (.own x)) x (.ins C dx [])) (fun v H3 => v = .non ∧ Q (.ref x) H3) E
section
variable {X : Cx} {CX : CXT} {k n : Nat} {f C : Addr} {fd : FuncData} {ps ks : List Str} {sp : Sp} {E : XK} {x : Str} {p pos : Pos} {kws : List Keyword} {tk : TA} {g : List Value → List Value → List Value} {gV : List V → List V → List V}
theorem pe_makeN0 (M : Mk X.K C f) (F : FnOk X.prog X.w X.K X.mg X.base CX k f fd ps sp) (hr : Room (k + 1) X.A) (hg : Gl X x) (hm : X.mg x = some (.ref C)) (hb : KBn X.K fd ps 1 ks g gV) (hx : Passes CX X E) (hkw : PK X kws tk)
    (hall : (backToKw pos (keywordEach kws X.env)).all (·.1.isSome) = true := by rfl) (hks : (backToKw pos (keywordEach kws X.env)).filterMap (·.1) = ks := by rfl) (hdb : (x == ("__debug__" : Str)) = false := by decide)
    (hpl : ((backTo pos (starEach [] X.env)).any (·.1) || (backToKw pos (keywordEach kws X.env)).any (·.1.isNone)) = false := by rfl) :
    PE X (.Call (.Name x p) [] kws pos) (tMakeN0 C ks.length sp gV E tk) := by
  refine ⟨fun pins s σ H Q I h => wpAny_Call_Name_kw (ld_glob I hg hm ?_ hdb)⟩
  refine PySem.W.callWith_KW0 (h₀ := X.base) I.ok.mod.kin M.kp hall ?_ hpl
  refine thn (hkw.run pos pins s σ H _ I h) fun ws s2 hh => ?_
  obtain ⟨zs, H2, I2, rz, l2, q2⟩ := hh
  refine ⟨I2.kIn, ?_⟩
  rw [hks]
  exact run_makeN (n := 0) (us := []) (vs := []) M F hr hb hx I2 .nil rz rfl l2 q2
end
/-! repr, its reading the same in each context -/
def rReprA : List V → Hp → VK → Prop := fun xs H Q => ∃ (x : V) (d : PyData), xs = [x] ∧ (∀ X : Cx, RdV X H x d) ∧ d.showable = true ∧ d.depth ≤ 20 ∧ d.shown.length ≤ sizeLine ∧ Q (.str d.shown) H
theorem call_reprA {X : Cx} (gd : X.A.guards = some []) (hu : X.A.units + 64 < cLine) : CallR X (.builtin "repr") rReprA := fun pins s σ H xs us Q I r h => by
  obtain ⟨x, d, e, rd, q⟩ := h
  exact call_reprG gd hu pins s σ H xs us Q I r ⟨x, d, e, rd X, q⟩
/-! what stays: all but the addresses in A, which hold lists, and tables -/
structure Ev (A : Addr → Prop) (H H' : Hp) : Prop where
  st : ∀ b o, ¬ A b → H b = some o → (∀ ps, o ≠ .tbl ps) → H' b = some o
  mu : ∀ b, A b → H b = none ∨ ∃ xs, H b = some (.lst xs)
theorem Ev.refl {A : Addr → Prop} {H : Hp} (mu : ∀ b, A b → H b = none ∨ ∃ xs, H b = some (.lst xs)) : Ev A H H := ⟨fun _ _ _ h _ => h, mu⟩
theorem Ev.same {A : Addr → Prop} {H G G' : Hp} (E : Ev A H G) (s : Same G G') : Ev A H G' := ⟨fun b o n h t => s _ _ (E.st b o n h t), E.mu⟩
theorem Ev.lay {A : Addr → Prop} {H G : Hp} {q : Addr} {o : HO} (E : Ev A H G) (h : G q = none) : Ev A H (upd G q o) := E.same ((Same.refl G).new h)
theorem Ev.ext {A : Addr → Prop} {H G G' : Hp} (E : Ev A H G) (e : ExtN G G') : Ev A H G' := ⟨fun b o n h t => e _ _ (E.st b o n h t) t, E.mu⟩
theorem Ev.put {A : Addr → Prop} {H G : Hp} {q : Addr} {o : HO} (E : Ev A H G) (h : A q) : Ev A H (upd G q o) := ⟨fun b u n e t => by
  rw [upd_ne (fun z => n (by rw [z]; exact h))]
  exact E.st b u n e t, E.mu⟩
theorem Ev.get {A : Addr → Prop} {H H' : Hp} {b : Addr} {o : HO} (E : Ev A H H') (h : H b = some o) (n1 : ∀ xs, o ≠ .lst xs) (n2 : ∀ ps, o ≠ .tbl ps) : H' b = some o :=
  E.st b o (fun z => by
    rcases E.mu b z with e | ⟨xs, e⟩
    · rw [e] at h
      cases h
    · rw [e] at h
      exact n1 xs (Option.some.inj h).symm) h n2
theorem Ev.tup {A : Addr → Prop} {H H' : Hp} {b : Addr} {xs : List V} (E : Ev A H H') (h : H b = some (.tup xs)) : H' b = some (.tup xs) := E.get h (fun _ z => by cases z) fun _ z => by cases z
theorem Ev.ins {A : Addr → Prop} {H H' : Hp} {b C dx : Addr} {fs : List (Str × V)} (E : Ev A H H') (h : H b = some (.ins C dx fs)) : H' b = some (.ins C dx fs) := E.get h (fun _ z => by cases z) fun _ z => by cases z
theorem Ev.dK {A : Addr → Prop} {H H' : Hp} {b : Addr} {xs : List (Key × V)} (E : Ev A H H') (h : H b = some (.dK xs)) : H' b = some (.dK xs) := E.get h (fun _ z => by cases z) fun _ z => by cases z
theorem Ev.xd {A : Addr → Prop} {H H' : Hp} {b : Addr} {fs : List (Str × V)} (E : Ev A H H') (h : H b = some (.xd fs)) : H' b = some (.xd fs) := E.get h (fun _ z => by cases z) fun _ z => by cases z
theorem Ev.lst {A : Addr → Prop} {H H' : Hp} {b : Addr} {xs : List V} (E : Ev A H H') (n : ¬ A b) (h : H b = some (.lst xs)) : H' b = some (.lst xs) := E.st b _ n h fun _ z => by cases z
theorem Ev.mono {A B : Addr → Prop} {H H' : Hp} (E : Ev A H H') (i : ∀ b, A b → B b) (mu : ∀ b, B b → H b = none ∨ ∃ xs, H b = some (.lst xs)) : Ev B H H' := ⟨fun b o n h t => E.st b o (fun z => n (i b z)) h t, mu⟩
theorem Ev.trans {A : Addr → Prop} {H G G' : Hp} (E : Ev A H G) (F : Ev A G G') : Ev A H G' := ⟨fun b o n h t => F.st b o n (E.st b o n h t) t, E.mu⟩
/-! rows of heard errors -/
inductive HE (H : Hp) : V → PyData → Prop where
  | ss {t : Addr} {a b : Str} (h : H t = some (.tup [.str a, .str b])) : HE H (.ref t) (.tuple [.str a, .str b])
  | si {t : Addr} {a : Str} {n : Int} (h : H t = some (.tup [.str a, .int n])) : HE H (.ref t) (.tuple [.str a, .int n])
inductive HRows (H : Hp) : List V → List PyData → Prop where
  | nil : HRows H [] []
  | cons {v : V} {d : PyData} {vs : List V} {ds : List PyData} (h : HE H v d) (r : HRows H vs ds) : HRows H (v :: vs) (d :: ds)
theorem HE.move {H H' : Hp} {v : V} {d : PyData} (st : ∀ b xs, H b = some (.tup xs) → H' b = some (.tup xs)) (h : HE H v d) : HE H' v d := by
  cases h with
  | ss h => exact .ss (st _ _ h)
  | si h => exact .si (st _ _ h)
theorem HRows.move {H H' : Hp} (st : ∀ b xs, H b = some (.tup xs) → H' b = some (.tup xs)) : ∀ {vs : List V} {ds : List PyData}, HRows H vs ds → HRows H' vs ds
  | _, _, .nil => .nil
  | _, _, .cons h r => .cons (h.move st) (HRows.move st r)
theorem HRows.app {H : Hp} : ∀ {vs us : List V} {ds es : List PyData}, HRows H vs ds → HRows H us es → HRows H (vs ++ us) (ds ++ es)
  | _, _, _, _, .nil, r => r
  | _, _, _, _, .cons h q, r => .cons h (HRows.app q r)
theorem HE.dp {K : PySem.W.Frag} {H : Hp} {v : V} {d : PyData} (h : HE H v d) : Dp K H v d := by
  cases h with
  | ss h => exact .tup (SqT.of h) (.cons (.str _) (.cons (.str _) .nil))
  | si h => exact .tup (SqT.of h) (.cons (.str _) (.cons (.int _) .nil))
theorem HRows.dp {K : PySem.W.Frag} {H : Hp} : ∀ {vs : List V} {ds : List PyData}, HRows H vs ds → DpAll K H vs ds
  | _, _, .nil => .nil
  | _, _, .cons h r => .cons h.dp r.dp
theorem HRows.len {H : Hp} : ∀ {vs : List V} {ds : List PyData}, HRows H vs ds → vs.length = ds.length
  | _, _, .nil => rfl
  | _, _, .cons h r => congrArg Nat.succ r.len
/-- a row that may be compared -/
def rowOk : PyData → Bool
  | .tuple [.str a, .str b] => PyData.strOk a && PyData.strOk b
  | .tuple [.str a, .int _] => PyData.strOk a
  | _ => false
theorem rowOk_lay {d : PyData} (h : rowOk d = true) : PyData.canLay0 d = true ∧ d.depth ≤ 1 ∧ PyData.eqv d d = true := by
  unfold rowOk at h
  split at h
  · rename_i a b
    obtain ⟨h1, h2⟩ := Bool.and_eq_true_iff.mp h
    simp [PyData.canLay0, PyData.canLayAll0, PyData.depth, PyData.depthAll, PyData.eqv, PyData.eqvAll, h1, h2]
  · rename_i a n
    simp [PyData.canLay0, PyData.canLayAll0, PyData.depth, PyData.depthAll, PyData.eqv, PyData.eqvAll, h]
  · cases h
theorem rows_lay : ∀ {ds : List PyData}, ds.all rowOk = true → PyData.canLayAll0 ds = true ∧ PyData.depthAll ds ≤ 1 ∧ PyData.eqvAll ds ds = true
  | [], _ => ⟨rfl, by simp [PyData.depthAll], rfl⟩
  | d :: r, h => by
    obtain ⟨h1, h2⟩ := Bool.and_eq_true_iff.mp (show (rowOk d && r.all rowOk) = true from h)
    obtain ⟨a1, a2, a3⟩ := rowOk_lay h1
    obtain ⟨b1, b2, b3⟩ := rows_lay h2
    refine ⟨by simp [PyData.canLayAll0, a1, b1], ?_, by simp [PyData.eqvAll, a3, b3]⟩
    simp only [PyData.depthAll]
    omega
theorem shaped_rows {ds : List PyData} (h : ds.all rowOk = true) : PySem.SeqAt.shaped (.list ds) = true := by
  obtain ⟨h1, h2, _⟩ := rows_lay h
  simp only [PySem.SeqAt.shaped, PyData.canLay0, PyData.depth, h1, Bool.true_and, Bool.and_true, decide_eq_true_eq]
  first | omega | exact decide_eq_true (by omega) | simp; omega
theorem eqv_rows {ds : List PyData} (h : ds.all rowOk = true) : PyData.eqv (.list ds) (.list ds) = true := (rows_lay h).2.2
end L2
set_option maxRecDepth 100000
set_option maxHeartbeats 4000000
namespace L2
open PySem PySem.Spec PyProof.Rows
/-! a tuple taken no times -/
theorem tuple_mul_none (l : Addr) (its : Array Value) (n : Nat) (dd : Option Addr) (sl : Array (Option Value)) (u : Tok) (ne : its.isEmpty = false) :
    Meets (Builtin.«tuple.__mul__» ⟨[.ref l, .int 0 u], []⟩) (fun _ R s => s.heap.get? l = some { cls := .type "tuple", dict := dd, data := .seq its n, slots := sl } ∧
      R (.ok (.ret (Value.ref s.heap.objs.size))) { s with heap := s.heap.push { cls := Value.type "tuple", data := Data.seq #[] }, toks := s.toks }) :=
  .of_wp fun prog w A R s h => by
    obtain ⟨hp, g, d, tk, os⟩ := s
    obtain ⟨hl, h⟩ := h
    have f1 := AutoSeq1.idx_int
    have c0 : (decide ((0 : Int) < -(2 ^ 63)) || decide ((0 : Int) ≥ 2 ^ 63)) = false := by decide
    have c1 : (its.isEmpty || (0 : Int) == 1) = false := by rw [ne]; rfl
    have c2 : (decide ((0 : Int) ≤ 0) || its.isEmpty) = true := by simp
    wp_walk using wpAny_loadPart' hl
    repeat (first
      | (refine wpAny_ite_false (decide_eq_false (by rw [c0]; exact Bool.false_ne_true)) ?_; wp_walk using wpAny_loadPart' hl)
      | (refine wpAny_ite_false (decide_eq_false (by rw [c1]; exact Bool.false_ne_true)) ?_; wp_walk using wpAny_loadPart' hl)
      | (refine wpAny_ite_true (decide_eq_true c2) ?_; wp_walk using wpAny_loadPart' hl))
    exact ⟨_, rfl, h⟩
def rRep0 (K : PySem.W.Frag) : R2 := fun x y H Q => ∃ l xs, x = .ref l ∧ y = .int 0 ∧ SqT K H l xs ∧ xs ≠ [] ∧ ∀ p, H p = none → Q (.ref p) (upd H p (.tup []))
theorem op_rep0 {X : Cx} : OpR X (binaryOp .Mult) (rRep0 X.K) := by
  intro pins s σ H x y v u Q I rx ry h
  obtain ⟨l, xs, rfl, rfl, hT, ne, q⟩ := h
  cases rx
  obtain ⟨t, rfl⟩ := ry
  obtain ⟨its, r, ⟨⟨cls, dd, data, sl⟩, ho, hc, n, hd⟩, hs⟩ := I.tuple hT
  simp only at hc hd
  subst hc hd
  have hi : its.toArray.isEmpty = false := by
    cases r with
    | nil => exact absurd rfl ne
    | cons a b => rfl
  exact wpAny_binaryOp_repeat_ref (T := "tuple") (U := "int") (by decide) ⟨_, ho, rfl⟩ (fun s' => typeIs_int s' 0 t) noFill_tuple_mul F.fills_int_mul F.slot_int_rmul repeat_tuple F.slot_int_index.lookup
    (call_meets F.slot_int_rmul (typeIs_int s 0 t) F.entry_int_rmul (F.args_int_rmul_2 _ _) (int_rmul_tuple 0 t l its.toArray n dd sl)
      ⟨ho, rfl, ⟨_, ho, rfl⟩, call_meets F.slot_tuple_mul ⟨_, ho, rfl⟩ F.entry_tuple_mul (F.args_tuple_mul_2 _ _) (tuple_mul_none l its.toArray n dd sl t hi)
        ⟨ho, .ref s.heap.objs.size, _, I.laid (t' := s.toks) (o := .tup []) (fun b ob q => Heap.get?_push_of_some _ q) (Nat.le_refl _) (show ObjOk X.prog X.w _ _ _ (.tup []) from ⟨Nat.zero_le _, [], .nil, IsTup.new _ _⟩), rfl, q _ (I.hok.fresh (Nat.le_refl _))⟩⟩)
/-- t * k, also for no times -/
def rRepZ : R2 := fun x y H Q => ∃ (a : Addr) (k : Nat) (xs : List V), x = .ref a ∧ y = .int (k : Int) ∧ H a = some (.tup xs) ∧ xs ≠ [] ∧ k ≤ 1000 ∧ xs.length ≤ 1000 ∧ ∀ p H', Same H H' → H' p = some (.tup (List.replicate k xs).flatten) → Q (.ref p) H'
theorem op_repZ {X : Cx} : OpR X (binaryOp .Mult) rRepZ := by
  intro pins s σ H x y v u Q I rx ry h
  obtain ⟨a, k, xs, rfl, rfl, h, ne, h1, h2, q⟩ := h
  by_cases hk : k = 0
  · subst hk
    exact op_rep0 pins s σ H _ _ v u Q I rx ry ⟨a, xs, rfl, rfl, SqT.of h, ne, fun p hp => q p _ (Same.lay hp) upd_same⟩
  · exact op_repP pins s σ H _ _ v u Q I rx ry ⟨a, (k : Int), xs, rfl, rfl, h, ne, by omega, by omega, h2, fun p H' s' e => q p H' s' (by rw [show ((k : Int)).toNat = k from Int.toNat_natCast k] at e; exact e)⟩
end L2
set_option maxRecDepth 100000
namespace L2
open PySem PySem.Spec PyProof.Rows
/-- e.f, its reading by name of the written part (for a comprehension's block) -/
theorem pe_fldK {X : Cx} {K : PySem.W.Frag} {e : Expr} {f : Str} {pos : Pos} {ta : TE} (he : PE X e ta) (hK : X.K = K := by rfl) (hb : attributeBase e f X.env (eval e X.env) = eval e X.env := by rfl) : PE X (.Attribute e f pos) (tFld K ta f) := by
  subst hK
  exact pe_fld he hb
end L2
namespace Dg
open PySem
/-! digits: sums over places -/
def sumN (g : Nat → Int) : Nat → Int
  | 0 => 0
  | n + 1 => sumN g n + g n
theorem sumN_congr {g h : Nat → Int} : ∀ {n : Nat}, (∀ i, i < n → g i = h i) → sumN g n = sumN h n
  | 0, _ => rfl
  | n + 1, e => by rw [sumN, sumN, sumN_congr fun i hi => e i (Nat.lt_succ_of_lt hi), e n (Nat.lt_succ_self n)]
theorem sumN_add (g : Nat → Int) (a : Nat) : ∀ b : Nat, sumN g (a + b) = sumN g a + sumN (fun i => g (a + i)) b
  | 0 => by rw [Nat.add_zero, sumN, Int.add_zero]
  | b + 1 => by rw [← Nat.add_assoc, sumN, sumN_add g a b, sumN, Int.add_assoc]
theorem sumN_zero {g : Nat → Int} : ∀ {n : Nat}, (∀ i, i < n → g i = 0) → sumN g n = 0
  | 0, _ => rfl
  | n + 1, e => by rw [sumN, sumN_zero fun i hi => e i (Nat.lt_succ_of_lt hi), e n (Nat.lt_succ_self n)]; rfl
theorem sumN_tail {g : Nat → Int} {n m : Nat} (h : n ≤ m) (z : ∀ i, n ≤ i → g i = 0) : sumN g m = sumN g n := by
  obtain ⟨k, rfl⟩ := Nat.exists_eq_add_of_le h
  rw [sumN_add, sumN_zero fun i _ => z _ (Nat.le_add_right n i), Int.add_zero]
theorem sumN_plus (g h : Nat → Int) : ∀ n : Nat, sumN (fun i => g i + h i) n = sumN g n + sumN h n
  | 0 => rfl
  | n + 1 => by rw [sumN, sumN, sumN, sumN_plus g h n]; omega
theorem sumN_mul (g : Nat → Int) (c : Int) : ∀ n : Nat, sumN (fun i => g i * c) n = sumN g n * c
  | 0 => by rw [sumN, sumN, Int.zero_mul]
  | n + 1 => by rw [sumN, sumN, sumN_mul g c n, Int.add_mul]
theorem sumN_swap (g : Nat → Nat → Int) (m : Nat) : ∀ n : Nat, sumN (fun i => sumN (fun j => g i j) m) n = sumN (fun j => sumN (fun i => g i j) n) m
  | 0 => (sumN_zero fun _ _ => rfl).symm
  | n + 1 => by
    rw [sumN, sumN_swap g m n]
    exact (sumN_plus _ _ m).symm
theorem sumN_block (g : Nat → Int) (n : Nat) : ∀ m : Nat, sumN g (n * m) = sumN (fun j => sumN (fun p => g (n * j + p)) n) m
  | 0 => rfl
  | m + 1 => by rw [Nat.mul_succ, sumN_add, sumN, sumN_block g n m]
/-! the digits of a number, as its text in base 2 has them -/
def bt (a i : Nat) : Int := ((a / 2 ^ i % 2 : Nat) : Int)
theorem bt_zero (a : Nat) : bt a 0 = ((a % 2 : Nat) : Int) := by
  unfold bt
  rw [Nat.pow_zero, Nat.div_one]
theorem bt_succ (a i : Nat) : bt a (i + 1) = bt (a / 2) i := by
  unfold bt
  rw [Nat.pow_succ, Nat.mul_comm, Nat.div_div_eq_div_mul]
theorem bt_big {a n i : Nat} (h : a < 2 ^ n) (hi : n ≤ i) : bt a i = 0 := by
  have : a / 2 ^ i = 0 := Nat.div_eq_of_lt (Nat.lt_of_lt_of_le h (Nat.pow_le_pow_right (by decide) hi))
  unfold bt
  rw [this]
  rfl
theorem bt_or (a i : Nat) : bt a i = 0 ∨ bt a i = 1 := by
  unfold bt
  have := Nat.mod_lt (a / 2 ^ i) (show 0 < 2 by decide)
  omega
def bitsR (a : Nat) : List Nat := ((Nat.toDigits 2 a).map (·.toNat)).reverse
theorem bitsR_small {a : Nat} (h : a < 2) : bitsR a = [48 + a] := by
  unfold bitsR
  rw [Nat.toDigits_of_lt_base h]
  show [(Nat.digitChar a).toNat] = _
  rw [Nat.toNat_digitChar_of_lt_ten (by omega)]
theorem bitsR_big {a : Nat} (h : 2 ≤ a) : bitsR a = (48 + a % 2) :: bitsR (a / 2) := by
  unfold bitsR
  rw [Nat.toDigits_of_base_le (by decide) h, List.map_append, List.reverse_append]
  show (Nat.digitChar (a % 2)).toNat :: _ = _
  rw [Nat.toNat_digitChar_of_lt_ten (by omega)]
  rfl
theorem bitsR_get : ∀ (a i : Nat) (c : Nat), (bitsR a)[i]? = some c → (c : Int) = 48 + bt a i := by
  intro a
  induction a using Nat.strongRecOn with
  | ind a ih =>
    intro i c h
    by_cases h2 : a < 2
    · rw [bitsR_small h2] at h
      cases i with
      | zero =>
        obtain rfl := Option.some.inj h
        rw [bt_zero]
        omega
      | succ i => cases h
    · rw [bitsR_big (by omega)] at h
      cases i with
      | zero =>
        obtain rfl := Option.some.inj h
        rw [bt_zero]
        omega
      | succ i =>
        rw [bt_succ]
        exact ih (a / 2) (by omega) i c h
theorem bitsR_len : ∀ a : Nat, a < 2 ^ (bitsR a).length := by
  intro a
  induction a using Nat.strongRecOn with
  | ind a ih =>
    by_cases h2 : a < 2
    · rw [bitsR_small h2]
      exact h2
    · rw [bitsR_big (by omega)]
      have := ih (a / 2) (by omega)
      show a < 2 ^ ((bitsR (a / 2)).length + 1)
      rw [Nat.pow_succ]
      omega
theorem bitsR_le {a n : Nat} (h : a < 2 ^ n) (hn : 0 < n) : (bitsR a).length ≤ n := by
  unfold bitsR
  rw [List.length_reverse, List.length_map]
  exact (Nat.length_toDigits_le_iff (by decide) hn).mpr h
/-- how many signs 1 a list of codes has -/
def ones (l : List Nat) : Int := ((l.filter (· == 49)).length : Nat)
theorem ones_nil : ones [] = 0 := rfl
theorem ones_cons (c : Nat) (l : List Nat) : ones (c :: l) = (if c = 49 then 1 else 0) + ones l := by
  unfold ones
  rw [List.filter_cons]
  by_cases h : c = 49
  · rw [if_pos h, if_pos (by rw [h]; rfl), List.length_cons]
    omega
  · rw [if_neg h, if_neg (by simpa using h)]
    omega
theorem ones_append (a b : List Nat) : ones (a ++ b) = ones a + ones b := by
  unfold ones
  rw [List.filter_append, List.length_append]
  omega
/-- a picked row: the codes at f 0, f 1 .. that are there -/
theorem ones_pick (a : Nat) (f : Nat → Nat) : ∀ n : Nat, (∀ j, j < n → f j < (bitsR a).length) → ones (((List.range n).map f).filterMap ((bitsR a)[·]?)) = sumN (fun j => bt a (f j)) n
  | 0, _ => rfl
  | n + 1, h => by
    rw [List.range_succ, List.map_append, List.filterMap_append, ones_append, ones_pick a f n fun j hj => h j (by omega), sumN]
    congr 1
    obtain ⟨c, hc⟩ : ∃ c, (bitsR a)[f n]? = some c := ⟨_, List.getElem?_eq_getElem (h n (by omega))⟩
    have e := bitsR_get a (f n) c hc
    show ones ([f n].filterMap _) = _
    rw [List.filterMap_cons, hc]
    show ones [c] = _
    rw [ones_cons, ones_nil]
    rcases bt_or a (f n) with z | z
    · rw [if_neg (by omega), z]
      rfl
    · rw [if_pos (by omega), z]
      rfl
/-- the weights' row: classes ahead, classes of a round -/
def cls (na nt i : Nat) : Nat := if i < na then i else na + (i - na) % nt
/-- the counts of the classes -/
def cntA (a n p : Nat) : Int := bt a p
theorem count_split (a na nt M : Nat) (f : Nat → Int) (hn : 0 < nt) (hM : a < 2 ^ (na + nt * M)) :
    sumN (fun i => bt a i * f (cls na nt i)) (na + nt * M) = sumN (fun i => bt a i * f i) na + sumN (fun p => sumN (fun j => bt a (na + p + nt * j)) M * f (na + p)) nt := by
  rw [sumN_add]
  congr 1
  · refine sumN_congr fun i hi => ?_
    unfold cls
    rw [if_pos hi]
  · rw [sumN_block, sumN_swap]
    refine sumN_congr fun p hp => ?_
    rw [← sumN_mul]
    refine sumN_congr fun j _ => ?_
    have e1 : na + (nt * j + p) = na + p + nt * j := by omega
    have e2 : cls na nt (na + (nt * j + p)) = na + p := by
      unfold cls
      rw [if_neg (by omega), Nat.add_sub_cancel_left, Nat.mul_add_mod, Nat.mod_eq_of_lt hp]
    rw [e2, e1]
def stN (n lo k : Nat) : Nat := (n - lo + (k - 1)) / k
theorem stN_lt {n lo k j : Nat} (hk : 0 < k) (h : j < stN n lo k) : lo + k * j < n := by
  unfold stN at h
  have h1 : (j + 1) * k ≤ n - lo + (k - 1) := by
    have := (Nat.le_div_iff_mul_le hk).mp (show j + 1 ≤ (n - lo + (k - 1)) / k from h)
    exact this
  rw [Nat.add_mul, Nat.one_mul, Nat.mul_comm] at h1
  omega
theorem stN_ge {n lo k j : Nat} (hk : 0 < k) (h : stN n lo k ≤ j) : n ≤ lo + k * j := by
  unfold stN at h
  have h1 : n - lo + (k - 1) < (j + 1) * k := (Nat.div_lt_iff_lt_mul hk).mp (by omega)
  rw [Nat.add_mul, Nat.one_mul, Nat.mul_comm] at h1
  omega
theorem step_row {n lo k : Nat} (hk : 0 < k) : Builtin.Str.strSliceIndices (some (lo : Int)) none (k : Int) n = (List.range (stN n lo k)).map fun j => lo + k * j := by
  unfold Builtin.Str.strSliceIndices sliceRange
  have k0 : (k : Int) > 0 := by omega
  have l0 : ¬ ((lo : Int) < 0) := by omega
  simp only [k0, l0, if_true, if_false]
  by_cases h : lo < n
  · have e : max (0 : Int) (min (lo : Int) (n : Int)) = (lo : Int) := by omega
    rw [e, if_pos (by omega)]
    have e2 : (((n : Int) - (lo : Int) + (k : Int) - 1) / (k : Int)).toNat = stN n lo k := by
      unfold stN
      have : (n : Int) - (lo : Int) + (k : Int) - 1 = ((n - lo + (k - 1) : Nat) : Int) := by omega
      rw [this, ← Int.natCast_ediv]
      rfl
    rw [e2]
    refine List.map_congr_left fun j _ => ?_
    omega
  · have e : max (0 : Int) (min (lo : Int) (n : Int)) = (n : Int) := by omega
    rw [e, if_neg (by omega)]
    have e2 : stN n lo k = 0 := by
      unfold stN
      rw [show n - lo = 0 by omega, Nat.zero_add, Nat.div_eq_zero_iff]
      exact .inr (by omega)
    rw [e2]
    rfl

theorem cnt_ones : ∀ l : List Nat, PyProof.Rows.cnt 49 l = ones l
  | [] => rfl
  | c :: l => by rw [PyProof.Rows.cnt_cons, ones_cons, cnt_ones l]
theorem count_ones (z : Str) : Txt.count z ⟨#[49]⟩ = ones z.cps.toList := by rw [PyProof.Rows.count_cnt, cnt_ones]
/-- a text whose signs are the digits of a, the lowest first -/
def IsRev (z : Str) (a : Nat) : Prop := z.cps.toList = bitsR a
theorem IsRev.len {z : Str} {a : Nat} (h : IsRev z a) : z.length = (bitsR a).length := by
  show z.cps.size = _
  rw [← h, Array.length_toList]
theorem IsRev.get {z : Str} {a : Nat} (h : IsRev z a) (i : Nat) : z.cps[i]? = (bitsR a)[i]? := by
  rw [← h, Array.getElem?_toList]
theorem ones_one {a i c : Nat} (h : (bitsR a)[i]? = some c) : ones [c] = bt a i := by
  have e := bitsR_get a i c h
  rw [ones_cons, ones_nil]
  rcases bt_or a i with z | z
  · rw [if_neg (by omega), z]
    rfl
  · rw [if_pos (by omega), z]
    rfl
theorem cut_one {z : Str} {a : Nat} (h : IsRev z a) (p : Nat) : Txt.count (L2.cutS z (some (p : Int)) (some ((p : Int) + 1))) ⟨#[49]⟩ = bt a p := by
  rw [count_ones]
  have e : (p : Int) + 1 = ((p + 1 : Nat) : Int) := rfl
  show ones (((z.cps.toList.drop (HT.sIx z.length 0 (some (p : Int)))).take (HT.sIx z.length z.length (some ((p : Int) + 1)) - HT.sIx z.length 0 (some (p : Int)))).toArray).toList = _
  rw [List.toList_toArray, e, HT.sIx_nat, HT.sIx_nat, show z.cps.toList = bitsR a from h, h.len]
  by_cases hp : p < (bitsR a).length
  · rw [Nat.min_eq_left (by omega), Nat.min_eq_left (by omega), show p + 1 - p = 1 by omega, List.drop_eq_getElem_cons hp]
    exact ones_one (List.getElem?_eq_getElem hp)
  · rw [Nat.min_eq_right (by omega), Nat.min_eq_right (by omega), Nat.sub_self, List.take_zero, ones_nil, bt_big (bitsR_len a) (by omega)]
theorem cut_row {z : Str} {a lo k M : Nat} (h : IsRev z a) (hk : 0 < k) (hM : a < 2 ^ (lo + k * M)) : ones ((Builtin.Str.strSliceIndices (some (lo : Int)) none (k : Int) z.length).filterMap (z.cps[·]?)) = sumN (fun j => bt a (lo + k * j)) M := by
  have e : (fun i => z.cps[i]?) = fun i => (bitsR a)[i]? := funext h.get
  rw [step_row hk, e, h.len, ones_pick a (fun j => lo + k * j) _ fun j hj => stN_lt hk hj]
  rcases Nat.le_total (stN (bitsR a).length lo k) M with c | c
  · exact (sumN_tail c fun i hi => bt_big (bitsR_len a) (stN_ge hk hi)).symm
  · exact sumN_tail c fun i hi => bt_big hM (by
      have := Nat.mul_le_mul_left k hi
      omega)
end Dg
set_option maxRecDepth 100000
namespace Toy
open PySem L2 TL LamX ClX Dg
abbrev s_Clash___init__ : Stmt := (inClass (top 25) 0)
abbrev s_Free___init__ : Stmt := (inClass (top 24) 0)
abbrev s_is_row_below : Stmt := top 27
abbrev s_is_clash : Stmt := top 33
abbrev s_are_tables : Stmt := top 34
abbrev s_unit_text : Stmt := top 32
/-- what the top has written of the papers' classes -/
structure TPap (K : PySem.W.Frag) (mg : Str → Option Value) (CC CF : Addr) : Prop where
  clC : Cls K CC
  nSd : NoAttr K CC "stride"
  nSt : NoAttr K CC "start"
  nOn : NoAttr K CC "one"
  nOt : NoAttr K CC "other"
  gC : mg "Clash" = some (.ref CC)
  clF : Cls K CF
  nTb : NoAttr K CF "tables"
  gF : mg "Free" = some (.ref CF)
def cflds (a b i j : Int) : List (Str × V) := [("stride", .int a), ("start", .int b), ("one", .int i), ("other", .int j)]
def ClashAt (CC : Addr) (H : Hp) (p : Addr) (a b i j : Int) : Prop := ∃ dx, H p = some (.ins CC dx (cflds a b i j))
def RowsT (H : Hp) (q : Addr) (rows : List (List Int)) : Prop := ∃ rs : List (Addr × List Int), rows = rs.map (·.2) ∧ H q = some (.tup (rs.map fun r => V.ref r.1)) ∧ ∀ r ∈ rs, H r.1 = some (.tup (r.2.map V.int))
def TabsT (H : Hp) (q : Addr) (ts : List (List (List Int))) : Prop := ∃ ps : List (Addr × List (List Int)), ts = ps.map (·.2) ∧ H q = some (.tup (ps.map fun r => V.ref r.1)) ∧ ∀ r ∈ ps, RowsT H r.1 r.2
def FreeAt (CF : Addr) (H : Hp) (p : Addr) (ts : List (List (List Int))) : Prop := ∃ dx q, H p = some (.ins CF dx [("tables", .ref q)]) ∧ TabsT H q ts
theorem RowsT.same {H G : Hp} {q : Addr} {rows : List (List Int)} (s : Same H G) (h : RowsT H q rows) : RowsT G q rows := by
  obtain ⟨rs, h1, h2, h3⟩ := h
  exact ⟨rs, h1, s _ _ h2, fun r hr => s _ _ (h3 r hr)⟩
theorem TabsT.same {H G : Hp} {q : Addr} {ts : List (List (List Int))} (s : Same H G) (h : TabsT H q ts) : TabsT G q ts := by
  obtain ⟨ps, h1, h2, h3⟩ := h
  exact ⟨ps, h1, s _ _ h2, fun r hr => (h3 r hr).same s⟩
/-- a row that stands in a paper -/
def RowOk (r : List Int) : Prop := r.length = 7 ∧ ∀ z ∈ r, 0 ≤ z ∧ z ≤ 1000000
def spCInit (CC : Addr) : Sp := fun vs H Q _ => ∃ (x dx : Addr) (a b i j : Int), vs = [.ref x, .int a, .int b, .int i, .int j] ∧ H x = some (.ins CC dx []) ∧ Q .non (upd H x (.ins CC dx (cflds a b i j)))
def spFInit (CF : Addr) : Sp := fun vs H Q _ => ∃ (x dx : Addr) (t : V), vs = [.ref x, t] ∧ H x = some (.ins CF dx []) ∧ Q .non (upd H x (.ins CF dx [("tables", t)]))
def spRowBelow : Sp := fun vs H Q _ => ∃ (a b : Addr) (r : List Int), vs = [.ref a, .ref b] ∧ H a = some (.tup (r.map V.int)) ∧ RowOk r ∧ H b = some (.tup ((List.replicate 7 (1000001 : Int)).map V.int)) ∧ ∀ H', Same H H' → Q (.bl true) H'
def spIsClash (CC : Addr) : Sp := fun vs H Q _ => ∃ (p : Addr) (a b i j : Int), vs = [.ref p] ∧ ClashAt CC H p a b i j ∧ (0 ≤ a ∧ a ≤ 10 ^ 40) ∧ (0 ≤ b ∧ b ≤ 10 ^ 40) ∧ (0 ≤ i ∧ i ≤ 15) ∧ (0 ≤ j ∧ j ≤ 15) ∧ Q (.bl true) H
/-- turns of any body -/
theorem it_gen {J : It} {n : Nat} {G : Hp → Prop} {Y : Nat → Hp → V → Hp → Prop} (w : Walk J n G Y) {H0 : Hp} {Qd : Hp → Prop} (Pv : Nat → Hp → Prop) (h0 : Pv 0 H0) (hG : ∀ i H, i ≤ n → Pv i H → G H)
    (B : (Hp → Prop) → V → Hp → Prop) (hs : ∀ i x H H', i < n → Pv i H → Y i H x H' → B (Pv (i + 1)) x H') (hd : ∀ H, Pv n H → Qd H) :
    ∃ W : Nat → Nat → Hp → Prop, (∃ m, W 0 m H0) ∧ ∀ i m H, W i m H → (J.stop i H ∧ Qd H) ∨ (J.go i H ∧ ∃ Nx : Hp → Prop, (∀ H', Nx H' → ∃ m', m' < m ∧ W (i + 1) m' H') ∧ ∀ x H', J.yld i H x H' → B Nx x H') := by
  refine ⟨fun i m H => m = n - i ∧ i ≤ n ∧ Pv i H, ⟨n, by simp, Nat.zero_le _, h0⟩, ?_⟩
  rintro i m H ⟨rfl, hi, p⟩
  have q := hG i H hi p
  by_cases hlt : i < n
  · exact .inr ⟨w.goes i H hlt q, Pv (i + 1), fun H' p' => ⟨n - (i + 1), by omega, rfl, hlt, p'⟩, fun x H' y => hs i x H H' hlt p (w.yields i H x H' hlt q y)⟩
  · have e : i = n := by omega
    subst e
    exact .inl ⟨w.stops H q, hd H p⟩
def spAreTabs : Sp := fun vs H Q _ => ∃ (q : Addr) (ts : List (List (List Int))), vs = [.ref q] ∧ TabsT H q ts ∧ ts.length ≤ 100000 ∧ ts.flatten.length ≤ 100000 ∧ (∀ t ∈ ts, ∀ r ∈ t, RowOk r) ∧ ∀ H', Same H H' → Q (.bl true) H'
section
variable {P : Program} {w : World} {K : PySem.W.Frag} {mg : Str → Option Value} {base : Heap} {CW CG uW uG CC CF : Addr} {fdW fdG : FuncData}
abbrev N_Clash___init__ : List Str := ["self", "stride", "start", "one", "other"]
theorem sc_Clash___init__ : FnScope N_Clash___init__ ["self", "stride", "start", "one", "other"] (defScope s_Clash___init__) := ⟨rfl, rfl, rfl, by decide +kernel, rfl, by decide +kernel, by decide +kernel⟩
theorem ok_Clash_init {f : Addr} {fd : FuncData} (F : Fun K "__init__" "Clash.__init__" s_Clash___init__ f fd) (TP : TPap K mg CC CF) : FnOk P w K mg base CX0 1 f fd ["self", "stride", "start", "one", "other"] (spCInit CC) := by
  refine F.ok sc_Clash___init__ (fun vs H Q E h => ?_) (fun cdv A outer s H vs Q E hr h => ?_)
  · obtain ⟨x, dx, a, b, i, j, rfl, _⟩ := h
    rfl
  · obtain ⟨x, dx, a, b, i, j, rfl, hx, k⟩ := h
    refine ⟨_, (pss_cons (ps_fld (pv 0) (pv 1) rfl)
 (pss_cons (ps_fld (pv 0) (pv 2) rfl)
 (pss_cons (ps_fld (pv 0) (pv 3) rfl)
 (pss_one (ps_fld (pv 0) (pv 4) rfl))))), ?_⟩
    refine ⟨_, rfl, _, rfl, x, CC, dx, _, rfl, hx, TP.clC, TP.nSd, (by show 0 < 1000; decide), ?_⟩
    refine ⟨_, rfl, _, rfl, x, CC, dx, _, rfl, upd_same, TP.clC, TP.nSt, (by show 1 < 1000; decide), ?_⟩
    refine ⟨_, rfl, _, rfl, x, CC, dx, _, rfl, upd_same, TP.clC, TP.nOn, (by show 2 < 1000; decide), ?_⟩
    refine ⟨_, rfl, _, rfl, x, CC, dx, _, rfl, upd_same, TP.clC, TP.nOt, (by show 3 < 1000; decide), ?_⟩
    rw [upd_upd, upd_upd, upd_upd]
    exact k
abbrev N_Free___init__ : List Str := ["self", "tables"]
theorem sc_Free___init__ : FnScope N_Free___init__ ["self", "tables"] (defScope s_Free___init__) := ⟨rfl, rfl, rfl, by decide +kernel, rfl, by decide +kernel, by decide +kernel⟩
theorem ok_Free_init {f : Addr} {fd : FuncData} (F : Fun K "__init__" "Free.__init__" s_Free___init__ f fd) (TP : TPap K mg CC CF) : FnOk P w K mg base CX0 1 f fd ["self", "tables"] (spFInit CF) := by
  refine F.ok sc_Free___init__ (fun vs H Q E h => ?_) (fun cdv A outer s H vs Q E hr h => ?_)
  · obtain ⟨x, dx, t, rfl, _⟩ := h
    rfl
  · obtain ⟨x, dx, t, rfl, hx, k⟩ := h
    refine ⟨_, (pss_one (ps_fld (pv 0) (pv 1) rfl)), ?_⟩
    refine ⟨_, rfl, _, rfl, x, CF, dx, _, rfl, hx, TP.clF, TP.nTb, (by show 0 < 1000; decide), ?_⟩
    exact k
abbrev N_is_row_below : List Str := ["value", "sizes", "part", "size"]
theorem sc_is_row_below : FnScope N_is_row_below ["value", "sizes"] (defScope s_is_row_below) := ⟨rfl, rfl, rfl, by decide +kernel, rfl, by decide +kernel, by decide +kernel⟩
theorem ok_is_row_below {f fW : Addr} {fd fdW : FuncData} (F : Fun K "is_row_below" "is_row_below" s_is_row_below f fd) (T : TR mg)
    (GW : FnOk P w K mg base CX0 2 fW fdW ["value", "least", "most"] (spWithin K)) (gW : mg "is_within" = some (.ref fW)) (kW : PySem.W.keepIn K (.ref fW) = true) (bW : Binds K fdW ["value", "least", "most"] []) : FnOk P w K mg base CX0 3 f fd ["value", "sizes"] spRowBelow := by
  refine F.ok sc_is_row_below (fun vs H Q E h => ?_) (fun cdv A outer s H vs Q E hrE h => ?_)
  · obtain ⟨a, b, r, rfl, _⟩ := h
    rfl
  · obtain ⟨a, b, r, rfl, ha, ⟨l7, hr7⟩, hb, k⟩ := h
    refine ⟨_, (pss_cons (ps_if (PW.pt (pw_or (pt_not (pt_val (pe_callB call_isi (by rfl) T.m_isinstance (by decide +kernel) (pa_cons (pv 0) (pa_cons (pe_bltn (v := .ty "tuple") (u := .type "tuple") rfl T.m_tuple (by decide +kernel) rfl) pa_nil))))) (pw_or1 (pt_cmpR op_ne (pe_callB call_len_seq (by rfl) T.m_len (by decide +kernel) (pa_cons (pv 0) pa_nil)) (pe_callB call_len_seq (by rfl) T.m_len (by decide +kernel) (pa_cons (pv 1) pa_nil)) (nomark _))))) (pss_one (ps_ret pe_bl)) pss_nil)
 (pss_one (ps_ret (pe_callB (cr_all rfl) (by rfl) T.m_all (by decide +kernel) (pa_cons (pe_lc (own := [("part", 2), ("size", 3)]) (g := (gTup K 2 (gCons (gName 2) (gCons (gName 3) gNil)))) (tt := tYes) rfl sc_is_row_below.nd (pi_zipB (by rfl) T.m_zip (pa_cons (pv 0) (pa_cons (pv 1) pa_nil))) (blkOk_by (N := N_is_row_below) (sc := defScope s_is_row_below) (by decide +kernel)) (fun _ _ _ _ _ => (pg_tup rfl (pgs_cons (pg_name (i := 2) sc_is_row_below.nd rfl (Or.inl rfl)) (pgs_cons (pg_name (i := 3) sc_is_row_below.nd rfl (Or.inl rfl)) pgs_nil)))) (fun _ _ _ _ _ => pts_nil) (fun _ _ _ _ _ => (pe_call GW hrE rfl gW kW bW .nil pass0 (pa_cons (pv 2) (pa_cons pe_int (pa_cons (pe_op op_sub (pv 3) pe_int) pa_nil)))))) pa_nil))))), ?_⟩
    have sq : ∀ {G : Hp}, Same H G → SqB K true G a (r.map V.int) ∧ SqB K true G b ((List.replicate 7 (1000001 : Int)).map V.int) := fun s => ⟨SqB.tup (s _ _ ha), SqB.tup (s _ _ hb)⟩
    have lr : (r.map V.int).length = 7 := by rw [List.length_map, l7]
    refine ⟨_, rfl, _, _, _, _, _, rfl, .ty _, (Plain.tup (K := K) ha).ty, rfl, _, rfl, iteF ⟨_, rfl, a, _, rfl, .inr (SqT.of ha), _, rfl, b, _, rfl, .inr (SqT.of hb), rfl, _, rfl, ?_⟩⟩
    rw [lr]
    refine iteF ?_
    refine ⟨_, rfl, _, rfl, true, true, a, b, _, _, rfl, (sq (Same.refl H)).1, (sq (Same.refl H)).2, fun D hD => ?_⟩
    have vD := Same.lay (o := .lst []) hD
    have nD : ∀ {c : Addr} {o : HO}, H c = some o → c ≠ D := fun e => ne_of_none e hD
    refine lc_it (walk_zipB (xs := r.map V.int) (ys := (List.replicate 7 (1000001 : Int)).map V.int) rfl) (fun j G => But D (upd H D (.lst [])) G ∧ G D = some (.lst ((List.replicate j true).map V.bl))) ⟨But.refl _ _, upd_same⟩ ?_ ?_ ?_
    · rintro j G _ ⟨bt, _⟩
      exact sq fun c o z => bt c o (nD z) (vD _ _ z)
    · rintro j x G G' hj ⟨bt, hL⟩ ⟨T2, y1, y2, rfl, hT2, rfl, h1, h2⟩
      replace h1 : (r.map V.int)[j]? = some y1 := h1
      replace h2 : ((List.replicate 7 (1000001 : Int)).map V.int)[j]? = some y2 := h2
      rw [List.getElem?_map] at h1 h2
      obtain ⟨z, hz, rfl⟩ := Option.map_eq_some_iff.mp h1
      obtain ⟨u, hu, rfl⟩ := Option.map_eq_some_iff.mp h2
      have hu2 : u = 1000001 := List.eq_of_mem_replicate (List.mem_of_getElem? hu)
      subst hu2
      have hz2 := hr7 z (List.mem_of_getElem? hz)
      refine ⟨T2, _, rfl, SqT.of upd_same, rfl, _, _, rfl, _, _, rfl, rfl, rfl, ?_⟩
      refine ⟨_, rfl, _, rfl, _, _, rfl, rfl, .int z, _, 0, 1000001 - 1, rfl, .int z, _, (by rw [upd_ne (ne_of_none hL hT2)]; exact hL), small1000 (by rw [List.length_map, List.length_replicate]; rw [lr] at hj; have : j < 7 := Nat.lt_of_lt_of_le hj (Nat.min_le_left _ _); omega), (bt.new hT2).put, ?_⟩
      have ew : withinV 0 (1000001 - 1) (V.int z) = true := decide_eq_true ⟨hz2.1, by omega⟩
      rw [upd_same, ew, List.replicate_succ', List.map_append]
      rfl
    · rintro G ⟨bt, hL⟩
      refine ⟨D, _, rfl, SqL.of hL, ?_⟩
      rw [show (List.replicate (min (r.map V.int).length ((List.replicate 7 (1000001 : Int)).map V.int).length) true).all id = true from List.all_eq_true.mpr fun q hq => List.eq_of_mem_replicate hq]
      exact k _ fun c o z => bt c o (nD z) (vD _ _ z)
abbrev N_is_clash : List Str := ["paper"]
theorem sc_is_clash : FnScope N_is_clash ["paper"] (defScope s_is_clash) := ⟨rfl, rfl, rfl, by decide +kernel, rfl, by decide +kernel, by decide +kernel⟩
theorem ok_is_clash {f fW : Addr} {fd fdW : FuncData} (F : Fun K "is_clash" "is_clash" s_is_clash f fd) (T : TR mg) (TP : TPap K mg CC CF)
    (GW : FnOk P w K mg base CX0 2 fW fdW ["value", "least", "most"] (spWithin K)) (gW : mg "is_within" = some (.ref fW)) (kW : PySem.W.keepIn K (.ref fW) = true) (bW : Binds K fdW ["value", "least", "most"] []) : FnOk P w K mg base CX0 3 f fd ["paper"] (spIsClash CC) := by
  refine F.ok sc_is_clash (fun vs H Q E h => ?_) (fun cdv A outer s H vs Q E hrE h => ?_)
  · obtain ⟨p, a, b, i, j, rfl, _⟩ := h
    rfl
  · obtain ⟨p, a, b, i, j, rfl, ⟨dx, hp⟩, ⟨a0, a1⟩, ⟨b0, b1⟩, ⟨i0, i1⟩, ⟨j0, j1⟩, k⟩ := h
    refine ⟨_, (pss_cons (ps_if (PW.pt (pw_or (pt_not (pt_val (pe_call GW hrE rfl gW kW bW .nil pass0 (pa_cons (pe_fld (pv 0) rfl) (pa_cons pe_int (pa_cons (pe_glob (v := .int (10 ^ 40)) rfl T.g_GREATEST_STRIDE.choose_spec ⟨_, rfl⟩) pa_nil)))))) (pw_or1 (pt_not (pt_val (pe_call GW hrE rfl gW kW bW .nil pass0 (pa_cons (pe_fld (pv 0) rfl) (pa_cons pe_int (pa_cons (pe_glob (v := .int (10 ^ 40)) rfl T.g_GREATEST_STRIDE.choose_spec ⟨_, rfl⟩) pa_nil))))))))) (pss_one (ps_ret pe_bl)) pss_nil)
 (pss_one (ps_ret (pe_and (pe_call GW hrE rfl gW kW bW .nil pass0 (pa_cons (pe_fld (pv 0) rfl) (pa_cons pe_int (pa_cons (pe_op op_sub (pe_glob (v := .int 16) rfl T.g_MOST_LANES.choose_spec ⟨_, rfl⟩) pe_int) pa_nil)))) (pe_one (pe_call GW hrE rfl gW kW bW .nil pass0 (pa_cons (pe_fld (pv 0) rfl) (pa_cons pe_int (pa_cons (pe_op op_sub (pe_glob (v := .int 16) rfl T.g_MOST_LANES.choose_spec ⟨_, rfl⟩) pe_int) pa_nil))))))))), ?_⟩
    have wi : ∀ {lo hi z : Int}, lo ≤ z → z ≤ hi → withinV lo hi (V.int z) = true := fun h1 h2 => decide_eq_true ⟨h1, h2⟩
    refine ⟨_, rfl, p, CC, dx, _, _, rfl, hp, TP.clC, TP.nSd, rfl, .int a, _, 0, 10 ^ 40, rfl, .int a, _, rfl, ?_⟩
    rw [wi a0 a1]
    refine iteF ⟨_, rfl, p, CC, dx, _, _, rfl, hp, TP.clC, TP.nSt, rfl, .int b, _, 0, 10 ^ 40, rfl, .int b, _, rfl, ?_⟩
    rw [wi b0 b1]
    refine iteF ?_
    refine ⟨_, rfl, p, CC, dx, _, _, rfl, hp, TP.clC, TP.nOn, rfl, _, _, rfl, rfl, .int i, _, 0, 15, rfl, .int i, _, rfl, ?_⟩
    rw [wi i0 i1]
    refine iteT ?_
    refine ⟨_, rfl, p, CC, dx, _, _, rfl, hp, TP.clC, TP.nOt, rfl, _, _, rfl, rfl, .int j, _, 0, 15, rfl, .int j, ?_⟩
    rw [wi j0 j1]
    exact k
abbrev N_are_tables : List Str := ["value", "table", "sizes", "row"]
theorem sc_are_tables : FnScope N_are_tables ["value"] (defScope s_are_tables) := ⟨rfl, rfl, rfl, by decide +kernel, rfl, by decide +kernel, by decide +kernel⟩
theorem ok_are_tables {f fRb : Addr} {fd fdRb : FuncData} (F : Fun K "are_tables" "are_tables" s_are_tables f fd) (T : TR mg)
    (GRb : FnOk P w K mg base CX0 3 fRb fdRb ["value", "sizes"] spRowBelow) (gRb : mg "is_row_below" = some (.ref fRb)) (kRb : PySem.W.keepIn K (.ref fRb) = true) (bRb : Binds K fdRb ["value", "sizes"] []) : FnOk P w K mg base CX0 4 f fd ["value"] spAreTabs := by
  refine F.ok sc_are_tables (fun vs H Q E h => ?_) (fun cdv A outer s H vs Q E hrRb h => ?_)
  · obtain ⟨q, ts, rfl, _⟩ := h
    rfl
  · obtain ⟨q, ts, rfl, ⟨ps, rfl, hq, hps⟩, lp, lf, ok, k⟩ := h
    refine ⟨_, (pss_cons (ps_if (PW.pt (pw_or (pt_not (pt_val (pe_callB call_isi (by rfl) T.m_isinstance (by decide +kernel) (pa_cons (pv 0) (pa_cons (pe_bltn (v := .ty "tuple") (u := .type "tuple") rfl T.m_tuple (by decide +kernel) rfl) pa_nil))))) (pw_or1 (pt_not (pt_val (pe_callB (cr_all rfl) (by rfl) T.m_all (by decide +kernel) (pa_cons (pe_lc (own := [("table", 1)]) (g := (gName 1)) (tt := tYes) rfl sc_are_tables.nd (pi_tup (pv 0)) (blkOk_by (N := N_are_tables) (sc := defScope s_are_tables) (by decide +kernel)) (fun _ _ _ _ _ => (pg_name (i := 1) sc_are_tables.nd rfl (Or.inl rfl))) (fun _ _ _ _ _ => pts_nil) (fun _ _ _ _ _ => (pe_callB (show CallR _ (.builtin "isinstance") (rIsi K) from call_isi) (by rfl) T.m_isinstance (by decide +kernel) (pa_cons (pv 1) (pa_cons (pe_bltn (v := .ty "tuple") (u := .type "tuple") rfl T.m_tuple (by decide +kernel) rfl) pa_nil))))) pa_nil))))))) (pss_one (ps_ret pe_bl)) pss_nil)
 (pss_cons (ps_set (i := 2) sc_are_tables.nd rfl (Or.inr rfl) (pe_op op_repP (pe_tup (pa_cons (pe_op op_add (pe_glob (v := .int (10 ^ 6)) rfl T.g_GREATEST_PART.choose_spec ⟨_, rfl⟩) pe_int) pa_nil)) (pe_glob (v := .int 7) rfl T.g_ROW_PARTS.choose_spec ⟨_, rfl⟩)))
 (pss_one (ps_ret (pe_callB (cr_all rfl) (by rfl) T.m_all (by decide +kernel) (pa_cons (pe_lc2 (own := [("table", 1), ("row", 3)]) (vs1 := [3]) (g := (gName 1)) (tt := tYes) (g1 := (gName 3)) (tt1 := tYes) (wi1 := iTup K (tVar 1)) rfl sc_are_tables.nd (pi_tup (pv 0)) (blkOk_by (N := N_are_tables) (sc := defScope s_are_tables) (by decide +kernel)) (by decide) (fun _ _ _ _ _ => (pg_name (i := 1) sc_are_tables.nd rfl (Or.inl rfl))) (fun _ _ _ _ _ => pts_nil) (fun _ _ _ _ _ => (pi_tup (pv 1))) (fun _ _ _ _ _ => (pg_name (i := 3) sc_are_tables.nd rfl (Or.inl rfl))) (fun _ _ _ _ _ => pts_nil) (fun _ _ _ _ _ => (pe_call GRb hrRb rfl gRb kRb bRb .nil pass0 (pa_cons (pv 3) (pa_cons (pv 2) pa_nil))))) pa_nil)))))), ?_⟩
    refine ⟨_, rfl, _, _, _, _, _, rfl, .ty _, (Plain.tup (K := K) hq).ty, rfl, _, rfl, iteF ?_⟩
    refine ⟨_, rfl, q, rfl, ⟨_, SqT.of hq⟩, fun D hD => ?_⟩
    have vD := Same.lay (o := .lst []) hD
    have nD : ∀ {c : Addr} {o : HO}, H c = some o → c ≠ D := fun e => ne_of_none e hD
    refine lc_it (walk_tup (xs := ps.map fun r => V.ref r.1)) (fun j G => But D (upd H D (.lst [])) G ∧ G D = some (.lst ((List.replicate j true).map V.bl))) ⟨But.refl _ _, upd_same⟩ (fun i G _ h => SqT.of (h.1 _ _ (nD hq) (vD _ _ hq))) ?_ ?_
    · rintro j x G G' hj ⟨bt, hL⟩ ⟨rfl, hx⟩
      rw [List.getElem?_map] at hx
      obtain ⟨z, hz, rfl⟩ := Option.map_eq_some_iff.mp hx
      obtain ⟨rs, _, hr, _⟩ := hps z (List.mem_of_getElem? hz)
      refine ⟨rfl, _, rfl, _, _, _, _, _, rfl, .ty _, (Plain.tup (K := K) (bt _ _ (nD hr) (vD _ _ hr))).ty, rfl, _, hL, ?_, bt.put, ?_⟩
      · rw [List.length_map] at hj lp
        rw [List.length_map, List.length_replicate, sizeLine_eq]
        omega
      · rw [upd_same, List.replicate_succ', List.map_append]
        rfl
    rintro G ⟨bt, hL⟩
    refine ⟨D, _, rfl, SqL.of hL, _, rfl, ?_⟩
    rw [show (List.replicate (ps.map fun r => V.ref r.1).length true).all id = true from List.all_eq_true.mpr fun q hq => List.eq_of_mem_replicate hq]
    refine iteF ?_
    have s0 : Same H G := fun c o z => bt c o (nD z) (vD _ _ z)
    clear bt hL nD vD hD
    refine ⟨_, _, rfl, rfl, (by show 1 ≤ PySem.sizeLine; decide), fun u hu => ?_⟩
    have y1 := Same.lay (o := .tup [V.int (10 ^ 6 + 1)]) hu
    refine ⟨u, 7, _, rfl, rfl, upd_same, by simp, by decide, by decide, by decide, fun sz G2 s2 hsz => ?_⟩
    have S2 : Same H G2 := fun _ _ z => s2 _ _ (y1 _ _ (s0 _ _ z))
    have hsz7 : G2 sz = some (.tup ((List.replicate 7 (1000001 : Int)).map V.int)) := hsz
    clear hsz s0 y1 s2 hu
    have hq2 := S2 _ _ hq
    refine ⟨_, rfl, q, rfl, ⟨_, SqT.of hq2⟩, fun D hD => ?_⟩
    have vD := Same.lay (o := .lst []) hD
    have nD : ∀ {c : Addr} {o : HO}, G2 c = some o → c ≠ D := fun e => ne_of_none e hD
    have inD : ∀ {G3 : Hp}, But D (upd G2 D (.lst [])) G3 → Same G2 G3 := fun bt c o z => bt c o (nD z) (vD _ _ z)
    refine it_gen (walk_tup (xs := ps.map fun r => V.ref r.1)) (fun j G => But D (upd G2 D (.lst [])) G ∧ ∃ m : Nat, m ≤ ((ps.map (·.2)).take j).flatten.length ∧ G D = some (.lst ((List.replicate m true).map V.bl))) ⟨But.refl _ _, 0, Nat.zero_le _, upd_same⟩ (fun i G _ h => SqT.of (inD h.1 _ _ hq2)) _ ?_ ?_
    · rintro j x G3 G' hj ⟨bt, m, hm, hL⟩ ⟨rfl, hx⟩
      rw [List.getElem?_map] at hx
      obtain ⟨z, hz, rfl⟩ := Option.map_eq_some_iff.mp hx
      obtain ⟨rs, ez, hr, hrs⟩ := hps z (List.mem_of_getElem? hz)
      have ok2 := ok z.2 (List.mem_map.mpr ⟨z, List.mem_of_getElem? hz, rfl⟩)
      have hr3 := inD bt _ _ (S2 _ _ hr)
      refine ⟨rfl, _, rfl, z.1, rfl, ⟨_, SqT.of hr3⟩, ?_⟩
      have hz2 : (ps.map (·.2))[j]? = some z.2 := by rw [List.getElem?_map, hz]; rfl
      have l1 : z.2.length ≤ (ps.map (·.2)).flatten.length := (List.sublist_flatten_of_mem (List.mem_of_getElem? hz2)).length_le
      have l2 : ((ps.map (·.2)).take j).flatten.length ≤ (ps.map (·.2)).flatten.length := by
        have e := congrArg List.length (congrArg List.flatten (List.take_append_drop j (ps.map (·.2))))
        rw [List.flatten_append, List.length_append] at e
        omega
      have l3 : z.2.length = rs.length := by rw [ez, List.length_map]
      have S3 : Same H G' := fun _ _ z => inD bt _ _ (S2 _ _ z)
      refine it_gen (walk_tup (xs := rs.map fun r => V.ref r.1)) (fun l G => But D (upd G2 D (.lst [])) G ∧ G D = some (.lst ((List.replicate (m + l) true).map V.bl))) ⟨bt, hL⟩ (fun i G _ h => SqT.of (inD h.1 _ _ (S2 _ _ hr))) _ ?_ ?_
      · rintro l x G4 G' hl ⟨bt4, hL4⟩ ⟨rfl, hx⟩
        rw [List.getElem?_map] at hx
        obtain ⟨r, hr', rfl⟩ := Option.map_eq_some_iff.mp hx
        have mr := List.mem_of_getElem? hr'
        have hr4 := inD bt4 _ _ (S2 _ _ (hrs r mr))
        have okr := ok2 r.2 (by rw [ez]; exact List.mem_map.mpr ⟨r, mr, rfl⟩)
        rw [List.length_map] at hl
        refine ⟨rfl, _, rfl, _, rfl, r.1, sz, r.2, rfl, hr4, okr, inD bt4 _ _ hsz7, fun G5 s5 => ⟨_, s5 _ _ hL4, ?_, ?_, ?_⟩⟩
        · rw [List.length_map, List.length_replicate, sizeLine_eq]
          omega
        · exact (But.trans bt4 (But.of s5)).put
        · rw [upd_same, ← Nat.add_assoc, List.replicate_succ', List.map_append]
          rfl
      · rintro G4 ⟨bt4, hL4⟩
        rw [List.length_map] at hL4
        refine ⟨bt4, m + rs.length, ?_, hL4⟩
        rw [List.take_add_one, hz2, List.flatten_append, List.length_append]
        show m + rs.length ≤ _ + ([z.2].flatten).length
        rw [show [z.2].flatten = z.2 by simp]
        omega
    · rintro G3 ⟨bt, m, hm, hL⟩
      refine ⟨D, _, rfl, SqL.of hL, ?_⟩
      rw [show (List.replicate m true).all id = true from List.all_eq_true.mpr fun q hq => List.eq_of_mem_replicate hq]
      exact k _ fun _ _ z => inD bt _ _ (S2 _ _ z)
end
end Toy
set_option maxRecDepth 100000
namespace Toy
open PySem L2 TL LamX ClX Dg
/-- which class is which -/
structure PapCls (K : PySem.W.Frag) (CC CF : Addr) : Prop where
  haC : PySem.W.findIn K (.ref CC) "__class__" = some (some (.builtin "object.__class__"))
  haF : PySem.W.findIn K (.ref CF) "__class__" = some (some (.builtin "object.__class__"))
  hn : PySem.W.specialIn K (.builtin "object.__class__") "__get__" = some (some (.builtin "getset_descriptor.__get__"))
  ht : PySem.W.takesIn K (.builtin "object.__class__") = some true
  hmC : PySem.W.mroIn K CC (.type "object") = some true
  hmF : PySem.W.mroIn K CF (.type "object") = some true
  kCC : PySem.W.kitOne K (.ref CC) (.ref CC) = some true
  kFC : PySem.W.kitOne K (.ref CF) (.ref CC) = some false
  kFF : PySem.W.kitOne K (.ref CF) (.ref CF) = some true
  kFs : PySem.W.kitOne K (.ref CF) (.type "str") = some false
  aC : PySem.W.kitAny K (.ref CC) [.ref CC, .ref CF] = some true
  aF : PySem.W.kitAny K (.ref CF) [.ref CC, .ref CF] = some true
abbrev rJn (K : PySem.W.Frag) : V → List V → Hp → VK → Prop := fun x xs H Q => ∃ (a : Str) (p : Addr) (ys : List Str), x = V.str a ∧ xs = [V.ref p] ∧ (SqL K H p (List.map V.str ys) ∨ SqT K H p (List.map V.str ys)) ∧ (List.map (fun x => x.length) ys).sum + ys.length * a.length ≤ 16777216 ∧ Q (V.str (Txt.join a ys)) H
def rowT (r : List Int) : Str := Txt.join " " (r.map fun z => (toString z : Str))
def tabL (t : List (List Int)) : List Str := Str.ofString "table" :: t.map rowT
def freeL (ts : List (List (List Int))) : List Str := Str.ofString "free" :: (ts.map tabL).flatten
def clashT (a b i j : Nat) : Str := Str.empty ++ "clash " ++ numT a ++ " " ++ numT b ++ " " ++ numT i ++ " " ++ numT j
def spUnitText (CC CF : Addr) : Sp := fun vs H Q _ => ∃ p : Addr, vs = [.ref p] ∧ ((∃ a b i j : Nat, ClashAt CC H p a b i j ∧ a ≤ 10 ^ 40 ∧ b ≤ 10 ^ 40 ∧ i ≤ 15 ∧ j ≤ 15 ∧ Q (.str (clashT a b i j)) H) ∨
  ∃ ts, FreeAt CF H p ts ∧ ts.length ≤ 100000 ∧ ts.flatten.length ≤ 100000 ∧ (∀ t ∈ ts, ∀ r ∈ t, RowOk r) ∧ ∀ H', Same H H' → Q (.str (Txt.join "\n" (freeL ts))) H')
abbrev rSi : List V → Hp → VK → Prop := fun xs H Q => ∃ i : Int, xs = [V.int i] ∧ i.natAbs.log2 < 1920 ∧ Q (V.str (Str.ofString (toString i))) H
theorem row_num {z : Int} (h : 0 ≤ z ∧ z ≤ 1000000) : (toString z : Str) = numT z.toNat ∧ (numT z.toNat).length ≤ 7 := by
  refine ⟨?_, ?_⟩
  · show Str.ofString (toString z) = numT z.toNat
    unfold numT
    rw [Int.toNat_of_nonneg h.1]
  · rw [len_numT]
    exact numL_len (by decide) (by omega)
theorem row_fit {r : List Int} (h : RowOk r) : ((r.map fun z => (toString z : Str)).map (·.length)).sum + (r.map fun z => (toString z : Str)).length ≤ 60 := by
  obtain ⟨l7, hz⟩ := h
  have s : ∀ l : List Int, (∀ z ∈ l, 0 ≤ z ∧ z ≤ 1000000) → ((l.map fun z => (toString z : Str)).map (·.length)).sum ≤ 7 * l.length := by
    intro l
    induction l with
    | nil => intro _; exact Nat.le_refl _
    | cons z r ih =>
      intro hb
      have h1 := ih fun m hm => hb m (List.mem_cons_of_mem _ hm)
      obtain ⟨e, h2⟩ := row_num (hb z List.mem_cons_self)
      rw [← e] at h2
      show (toString z : Str).length + ((r.map fun z => (toString z : Str)).map (·.length)).sum ≤ 7 * (r.length + 1)
      omega
  have := s r hz
  rw [List.length_map]
  omega
theorem sp1L : (Str.ofString " ").length = 1 := by decide +kernel
theorem row_len {r : List Int} (h : RowOk r) : (rowT r).length ≤ 60 := by
  have := row_fit h
  unfold rowT
  rw [TL.join_eq]
  have z := StrLaws.join_length_le (" " : Str) (r.map fun z => (toString z : Str))
  have e := sp1L
  have e2 : (" " : Str).length = 1 := e
  rw [e2] at z
  omega
/-- a row's text, by its own comprehension -/
theorem row_txt {K : PySem.W.Frag} {j i : Nat} {σ : L2.St} {H : Hp} {Q : VK} {p : Addr} {r : List Int} (e : σ[j]? = some (some (.ref p))) (hi : i < σ.length) (hp : H p = some (.tup (r.map V.int))) (f : RowOk r) (k : ∀ G, Same H G → Q (.str (rowT r)) G) :
    tM1 (rJn K) (tC (V.str (Str.ofString " "))) (tLc (iTup K (tVar j)) (gName i) tYes (tCB rSi (tCons (tVar i) tNil)) [i]) σ H Q := by
  refine ⟨⟨_, rfl⟩, _, e, p, rfl, ⟨_, SqT.of hp⟩, fun D hD => ?_⟩
  have vD := Same.lay (o := .lst []) hD
  have nD : ∀ {b : Addr} {o : HO}, H b = some o → b ≠ D := fun e => ne_of_none e hD
  refine lc_it (walk_tup (xs := r.map V.int)) (fun i G => But D (upd H D (.lst [])) G ∧ G D = some (.lst (((r.take i).map fun z => (toString z : Str)).map V.str))) ⟨But.refl _ _, upd_same⟩ (fun i G _ h => SqT.of (h.1 _ _ (nD hp) (vD _ _ hp))) ?_ ?_
  · rintro n v G G' hn ⟨bt, hG⟩ ⟨rfl, hx⟩
    rw [List.getElem?_map] at hx
    obtain ⟨z, hz, rfl⟩ := Option.map_eq_some_iff.mp hx
    have e2 : ((σ.set i none).set i (some (V.int z)))[i]? = some (some (V.int z)) := by
      rw [List.set_set, List.getElem?_set_self hi]
    have hz2 := f.2 z (List.mem_of_getElem? hz)
    rw [List.length_map] at hn
    have l7 := f.1
    refine ⟨(by show ((σ.set i none).set i (some (V.int z))).set i none = σ.set i none; rw [List.set_set, List.set_set]), _, e2, _, rfl, ?_, _, hG, small1000 (by rw [List.length_map, List.length_map, List.length_take]; omega), bt.put, ?_⟩
    · have h2 := Nat.log2_lt (n := z.natAbs) (k := 20)
      by_cases c : z.natAbs = 0
      · rw [c]; decide
      · have := (h2 c).mpr (by omega)
        omega
    · rw [upd_same, List.take_add_one, hz, List.map_append, List.map_append]
      rfl
  · rintro G ⟨bt, hG⟩
    rw [List.length_map, List.take_length] at hG
    have := row_fit f
    have e1 := sp1L
    exact ⟨_, D, _, rfl, rfl, .inl (SqL.of hG), by rw [e1]; omega, k G fun b o e => bt b o (nD e) (vD _ _ e)⟩
theorem free_sum {ts : List (List (List Int))} (ok : ∀ t ∈ ts, ∀ r ∈ t, RowOk r) : ((freeL ts).map (·.length)).sum + (freeL ts).length ≤ 10 + 6 * ts.length + 61 * ts.flatten.length := by
  have st : ∀ t : List (List Int), (∀ r ∈ t, RowOk r) → ((tabL t).map (·.length)).sum + (tabL t).length ≤ 6 + 61 * t.length := by
    intro t
    unfold tabL
    induction t with
    | nil => intro _; decide +kernel
    | cons r t ih =>
      intro hb
      have h1 := ih fun m hm => hb m (List.mem_cons_of_mem _ hm)
      have h2 := row_len (hb r List.mem_cons_self)
      simp only [List.map_cons, List.sum_cons, List.length_cons] at h1 ⊢
      omega
  have e4 : (Str.ofString "free").length = 4 := by decide +kernel
  unfold freeL
  simp only [List.map_cons, List.sum_cons, List.length_cons, e4]
  have sf : (((ts.map tabL).flatten).map (·.length)).sum + ((ts.map tabL).flatten).length ≤ 6 * ts.length + 61 * ts.flatten.length := by
    induction ts with
    | nil => exact Nat.le_refl _
    | cons t r ih =>
      have h1 := ih fun m hm => ok m (List.mem_cons_of_mem _ hm)
      have h2 := st t (ok t List.mem_cons_self)
      simp only [List.map_cons, List.flatten_cons, List.map_append, List.sum_append, List.length_append, List.length_cons] at h1 ⊢
      omega
  omega
theorem freeL_len (ts : List (List (List Int))) : (freeL ts).length = 1 + ts.length + ts.flatten.length := by
  unfold freeL
  rw [List.length_cons]
  have : ((ts.map tabL).flatten).length = ts.length + ts.flatten.length := by
    induction ts with
    | nil => rfl
    | cons t r ih =>
      simp only [List.map_cons, List.flatten_cons, List.length_append, List.length_cons, ih]
      have : (tabL t).length = t.length + 1 := by
        unfold tabL
        rw [List.length_cons, List.length_map]
      omega
  omega
theorem flat_take (ts : List (List (List Int))) (j : Nat) : (ts.take j).flatten.length ≤ ts.flatten.length := by
  have e := congrArg List.length (congrArg List.flatten (List.take_append_drop j ts))
  rw [List.flatten_append, List.length_append] at e
  omega
theorem freeL_snoc (ts : List (List (List Int))) (t : List (List Int)) : freeL (ts ++ [t]) = freeL ts ++ [Str.ofString "table"] ++ t.map rowT := by
  unfold freeL
  rw [List.map_append, List.flatten_append]
  simp [tabL]
section
variable {P : Program} {w : World} {K : PySem.W.Frag} {mg : Str → Option Value} {base : Heap} {CW CG uW uG CC CF : Addr} {fdW fdG : FuncData}
abbrev N_unit_text : List Str := ["value", "lines", "table", "part", "row"]
theorem sc_unit_text : FnScope N_unit_text ["value"] (defScope s_unit_text) := ⟨rfl, rfl, rfl, by decide +kernel, rfl, by decide +kernel, by decide +kernel⟩
theorem ok_unit_text {f fIc fAt : Addr} {fd fdIc fdAt : FuncData} (F : Fun K "unit_text" "unit_text" s_unit_text f fd) (T : TR mg) (TE : TErr K mg CW CG uW uG fdW fdG) (TP : TPap K mg CC CF) (PC : PapCls K CC CF)
    (GIc : FnOk P w K mg base CX0 3 fIc fdIc ["paper"] (spIsClash CC)) (gIc : mg "is_clash" = some (.ref fIc)) (kIc : PySem.W.keepIn K (.ref fIc) = true) (bIc : Binds K fdIc ["paper"] [])
    (GAt : FnOk P w K mg base CX0 4 fAt fdAt ["value"] spAreTabs) (gAt : mg "are_tables" = some (.ref fAt)) (kAt : PySem.W.keepIn K (.ref fAt) = true) (bAt : Binds K fdAt ["value"] []) : FnOk P w K mg base (L2.CX P w) 5 f fd ["value"] (spUnitText CC CF) := by
  refine F.okX sc_unit_text (fun vs H Q E h => ?_) (fun cdv A outer s H vs Q E hr h => ?_)
  · obtain ⟨p, rfl, _⟩ := h
    rfl
  · obtain ⟨p, rfl, h⟩ := h
    have hrIc : Room 3 _ := hr.mono (by decide)
    have hrAt : Room 4 _ := hr
    have hrE : Room 2 _ := hr.mono (by decide)
    refine ⟨_, (pss_cons (ps_if (PW.pt (pw_and (pt_val (pe_callB call_isi (by rfl) T.m_isinstance (by decide +kernel) (pa_cons (pv 0) (pa_cons (pe_glob (v := .ref CC) rfl TP.gC rfl) pa_nil)))) (pw_and1 (pt_val (pe_call GIc hrIc rfl gIc kIc bIc .nil pass0 (pa_cons (pv 0) pa_nil)))))) (pss_one (ps_ret (pe_joined (.cons pe_str (.cons (pe_fmt (pe_fld (pv 0) rfl)) (.cons pe_str (.cons (pe_fmt (pe_fld (pv 0) rfl)) (.cons pe_str (.cons (pe_fmt (pe_fld (pv 0) rfl)) (.cons pe_str (.cons (pe_fmt (pe_fld (pv 0) rfl)) .nil))))))))))) pss_nil)
 (pss_cons (ps_if (PW.pt (pw_and (pt_val (pe_callB call_isi (by rfl) T.m_isinstance (by decide +kernel) (pa_cons (pv 0) (pa_cons (pe_glob (v := .ref CF) rfl TP.gF rfl) pa_nil)))) (pw_and1 (pt_val (pe_call GAt hrAt rfl gAt kAt bAt .nil pass0 (pa_cons (pe_fld (pv 0) rfl) pa_nil)))))) (pss_cons (ps_set (i := 1) sc_unit_text.nd rfl (Or.inl rfl) (pe_lst (pa_cons pe_str pa_nil)))
 (pss_cons (ps_for (passes_of rfl) rfl (pi_tup (pe_fld (pv 0) rfl)) (pg_name (i := 2) sc_unit_text.nd rfl (Or.inl rfl))
 (pss_cons (ps_expr (pe_bm PySem.F.plainAttrs_list PySem.F.slot_list_append PySem.F.type_list_append mt_append (pv 1) (pa_cons pe_str pa_nil)))
 (pss_one (ps_expr (pe_bm PySem.F.plainAttrs_list PySem.F.slot_list_extend PySem.F.type_list_extend mt_extend (pv 1) (pa_cons (pe_lc (own := [("row", 4)]) (g := (gName 4)) (tt := tYes) rfl sc_unit_text.nd (pi_tup (pv 2)) (blkOk_by (N := N_unit_text) (sc := defScope s_unit_text) (by decide +kernel)) (fun _ _ _ _ _ => (pg_name (i := 4) sc_unit_text.nd rfl (Or.inl rfl))) (fun _ _ _ _ _ => pts_nil) (fun _ _ _ _ _ => (pe_m1 PySem.F.slot_str_join PySem.F.type_str_join (show MtR _ "str.join" (rJn K) from mt_join) pe_str (pe_lc (wi := iTup K (tVar 4)) (own := [("part", 3)]) (g := (gName 3)) (tt := tYes) rfl sc_unit_text.nd (pi_tup (pv 4)) (blkOk_by (N := N_unit_text) (sc := { kind := .function, names := [(".0", .local), ("row", .local)], isGenerator := false, isCoroutine := false }) (by decide +kernel)) (fun _ _ _ _ _ => (pg_name (i := 3) sc_unit_text.nd rfl (Or.inl rfl))) (fun _ _ _ _ _ => pts_nil) (fun _ _ _ _ _ => (pe_callTy call_str_int (by rfl) T.m_str (by decide +kernel) (pa_cons (pv 3) pa_nil))))))) pa_nil))))))
 (pss_one (ps_ret (pe_m1 PySem.F.slot_str_join PySem.F.type_str_join mt_join pe_str (pv 1)))))) pss_nil)
 (pss_one (ps_raise rfl (takes_of rfl rfl rfl rfl) (pmk_x TE.iBadUnit (ok_BadUnit TE) hrE TE.bBadUnit (by decide) rfl TE.gBadUnit (mono_c mono_nil) (pa_cons pe_str pa_nil)))))), ?_⟩
    have sz : PySem.sizeLine = 16777216 := rfl
    rcases h with ⟨a, b, i, j, ⟨dx, hp⟩, ha, hb, hi, hj, k⟩ | ⟨ts, ⟨dx, q, hp, hT⟩, lp, lf, ok, k⟩
    · refine ⟨_, rfl, _, _, _, _, _, rfl, .own _, .base (.ins hp TP.clC PC.haC PC.hn PC.ht PC.hmC), PC.kCC, _, rfl, iteT ?_⟩
      refine ⟨_, rfl, p, a, b, i, j, rfl, ⟨dx, hp⟩, ⟨by omega, by omega⟩, ⟨by omega, by omega⟩, ⟨by omega, by omega⟩, ⟨by omega, by omega⟩, _, rfl, iteT ?_⟩
      have l41 : ∀ {n : Nat}, n ≤ 10 ^ 40 → (numT n).length ≤ 41 := fun {n} h => by
        rw [len_numT]
        exact numL_len (by decide) (Nat.lt_of_le_of_lt h (by decide +kernel))
      have lg : ∀ {n : Nat}, n ≤ 10 ^ 40 → ((n : Nat) : Int).natAbs.log2 < 1920 := fun {n} h => log_small (Nat.lt_of_le_of_lt h (by decide +kernel))
      have l1 := l41 ha
      have l2 := l41 hb
      have hi2 : i ≤ 10 ^ 40 := Nat.le_trans hi (by decide +kernel)
      have hj2 : j ≤ 10 ^ 40 := Nat.le_trans hj (by decide +kernel)
      have l3 := l41 hi2
      have l4 := l41 hj2
      have c0 : (Str.empty ++ Str.ofString "clash ").length = 6 := by decide +kernel
      have e1 := sp1L
      have e2 : Str.empty.length = 0 := rfl
      have e3 : (Str.ofString "clash ").length = 6 := by decide +kernel
      refine ⟨Str.ofString "clash ", rfl, ?_, _, rfl, p, CC, dx, _, _, rfl, hp, TP.clC, TP.nSd, rfl, .inr ⟨_, rfl, lg ha, numT a, rfl, ?_, Str.ofString " ", rfl, ?_, _, rfl, p, CC, dx, _, _, rfl, hp, TP.clC, TP.nSt, rfl, .inr ⟨_, rfl, lg hb, numT b, rfl, ?_, Str.ofString " ", rfl, ?_, _, rfl, p, CC, dx, _, _, rfl, hp, TP.clC, TP.nOn, rfl, .inr ⟨_, rfl, lg hi2, numT i, rfl, ?_, Str.ofString " ", rfl, ?_, _, rfl, p, CC, dx, _, _, rfl, hp, TP.clC, TP.nOt, rfl, .inr ⟨_, rfl, lg hj2, numT j, rfl, ?_, k⟩⟩⟩⟩⟩
      all_goals
        simp only [PySem.Str.length_append, e1, e2, e3]
        omega
    · refine ⟨_, rfl, _, _, _, _, _, rfl, .own _, .base (.ins hp TP.clF PC.haF PC.hn PC.ht PC.hmF), PC.kFC, _, rfl, iteF ?_⟩
      refine ⟨_, rfl, _, _, _, _, _, rfl, .own _, .base (.ins hp TP.clF PC.haF PC.hn PC.ht PC.hmF), PC.kFF, _, rfl, iteT ?_⟩
      refine ⟨_, rfl, p, CF, dx, _, _, rfl, hp, TP.clF, TP.nTb, rfl, q, ts, rfl, hT, lp, lf, ok, fun G0 s0 => ⟨_, rfl, iteT ?_⟩⟩
      refine ⟨(by show 1 ≤ PySem.sizeLine; decide), fun L hL => ?_⟩
      have y1 := Same.lay (o := .lst [V.str "free"]) hL
      have hL1 : (upd G0 L (.lst [V.str "free"])) L = some (.lst [V.str "free"]) := upd_same
      have S1 : Same H (upd G0 L (.lst [V.str "free"])) := fun _ _ z => y1 _ _ (s0 _ _ z)
      have nL : ∀ {c : Addr} {o : HO}, H c = some o → c ≠ L := fun e => ne_of_none (s0 _ _ e) hL
      refine (show gName 1 (V.ref L) _ (upd G0 L (.lst [V.str "free"])) _ from ?_)
      generalize upd G0 L (.lst [V.str "free"]) = G1 at S1 hL1 ⊢
      obtain ⟨ps, rfl, hq, hps⟩ := hT
      have fs := free_sum ok
      refine ⟨_, rfl, p, CF, dx, _, _, rfl, S1 _ _ hp, TP.clF, TP.nTb, rfl, q, rfl, ⟨_, SqT.of (S1 _ _ hq)⟩, ?_⟩
      refine for_it (walk_tup (xs := ps.map fun r => V.ref r.1)) (fun i σ G => ∃ u2 : Option V, σ = [some (.ref p), some (.ref L), u2, none, none] ∧ But L G1 G ∧ G L = some (.lst ((freeL ((ps.map (·.2)).take i)).map V.str))) ⟨none, rfl, But.refl _ _, hL1⟩ (fun i σ G _ ⟨_, _, b, _⟩ => SqT.of (b _ _ (nL hq) (S1 _ _ hq))) ?_ ?_
      · rintro j x σ G G' hj ⟨u2, rfl, bt, hG⟩ ⟨rfl, hx⟩
        rw [List.getElem?_map] at hx
        obtain ⟨z, hz, rfl⟩ := Option.map_eq_some_iff.mp hx
        obtain ⟨rs, ez, hr, hrs⟩ := hps z (List.mem_of_getElem? hz)
        have ok2 := ok z.2 (List.mem_map.mpr ⟨z, List.mem_of_getElem? hz, rfl⟩)
        have hz2 : (ps.map (·.2))[j]? = some z.2 := by rw [List.getElem?_map, hz]; rfl
        have l1 : z.2.length ≤ (ps.map (·.2)).flatten.length := (List.sublist_flatten_of_mem (List.mem_of_getElem? hz2)).length_le
        have l2 := flat_take (ps.map (·.2)) j
        have l3 : z.2.length = rs.length := by rw [ez, List.length_map]
        have l4 := freeL_len ((ps.map (·.2)).take j)
        have l5 : ((ps.map (·.2)).take j).length ≤ (ps.map (·.2)).length := by rw [List.length_take]; omega
        have inG : ∀ {c : Addr} {o : HO}, H c = some o → G' c = some o := fun e => bt _ _ (nL e) (S1 _ _ e)
        refine ⟨_, rfl, .inl ⟨rfl, _, SqL.of hG⟩, L, _, _, rfl, rfl, hG, by rw [List.length_map, sz]; omega, ?_⟩
        have bt2 : But L G1 (upd G' L (.lst ((freeL ((ps.map (·.2)).take j)).map V.str ++ [V.str "table"]))) := bt.put
        have hG2 : (upd G' L (.lst ((freeL ((ps.map (·.2)).take j)).map V.str ++ [V.str "table"]))) L = some (.lst ((freeL ((ps.map (·.2)).take j)).map V.str ++ [V.str "table"])) := upd_same
        generalize upd G' L (.lst ((freeL ((ps.map (·.2)).take j)).map V.str ++ [V.str "table"])) = G2 at bt2 hG2 ⊢
        have inG2 : ∀ {c : Addr} {o : HO}, H c = some o → G2 c = some o := fun e => bt2 _ _ (nL e) (S1 _ _ e)
        refine ⟨_, rfl, .inl ⟨rfl, _, SqL.of hG2⟩, _, rfl, z.1, rfl, ⟨_, SqT.of (inG2 hr)⟩, fun D hD => ?_⟩
        have vD := Same.lay (o := .lst []) hD
        have nD : ∀ {c : Addr} {o : HO}, G2 c = some o → c ≠ D := fun e => ne_of_none e hD
        refine lc_it (walk_tup (xs := rs.map fun r => V.ref r.1)) (fun l G => But D (upd G2 D (.lst [])) G ∧ G D = some (.lst (((z.2.take l).map rowT).map V.str))) ⟨But.refl _ _, upd_same⟩ (fun i G _ h => SqT.of (h.1 _ _ (nD (inG2 hr)) (vD _ _ (inG2 hr)))) ?_ ?_
        · rintro l x G3 G4 hl ⟨bt3, hL3⟩ ⟨rfl, hx⟩
          rw [List.getElem?_map] at hx
          obtain ⟨r, hr', rfl⟩ := Option.map_eq_some_iff.mp hx
          have mr := List.mem_of_getElem? hr'
          have hr4 := bt3 _ _ (nD (inG2 (hrs r mr))) (vD _ _ (inG2 (hrs r mr)))
          have okr := ok2 r.2 (by rw [ez]; exact List.mem_map.mpr ⟨r, mr, rfl⟩)
          have ezl : z.2[l]? = some r.2 := by rw [ez, List.getElem?_map, hr']; rfl
          rw [List.length_map] at hl
          refine ⟨rfl, row_txt rfl (by show 3 < 5; decide) hr4 okr fun G5 s5 => ⟨_, s5 _ _ hL3, ?_, (But.trans bt3 (But.of s5)).put, ?_⟩⟩
          · rw [List.length_map, List.length_map, List.length_take, sz]
            omega
          · rw [upd_same, List.take_add_one, ezl, List.map_append, List.map_append]
            rfl
        · rintro G3 ⟨bt3, hL3⟩
          rw [List.length_map, ← l3, List.take_length] at hL3
          have hG3 := bt3 _ _ (nD hG2) (vD _ _ hG2)
          refine ⟨L, D, _, _, rfl, rfl, hG3, hL3, ?_, _, rfl, ?_, ?_⟩
          · rw [List.length_append, List.length_map, List.length_map, List.length_map, List.length_singleton, sz]
            omega
          · refine But.put fun c o n e => ?_
            have := bt2 c o n e
            exact bt3 _ _ (nD this) (vD _ _ this)
          · rw [upd_same, List.take_add_one, hz2]
            show some (HO.lst ((freeL ((ps.map (·.2)).take j)).map V.str ++ [V.str "table"] ++ (z.2.map rowT).map V.str)) = some (HO.lst ((freeL ((ps.map (·.2)).take j ++ [z.2])).map V.str))
            rw [freeL_snoc, List.map_append, List.map_append]
            rfl
      · rintro σ G ⟨u2, rfl, bt, hG⟩
        rw [show (ps.map (·.2)).take (ps.map fun r => V.ref r.1).length = ps.map (·.2) by rw [List.length_map]; exact List.take_of_length_le (by rw [List.length_map]; exact Nat.le_refl _)] at hG
        have e1 : (Str.ofString "\n").length = 1 := by decide +kernel
        refine ⟨⟨_, rfl⟩, _, rfl, _, L, freeL (ps.map (·.2)), rfl, rfl, .inl (SqL.of hG), by rw [e1]; omega, k G fun c o e => bt c o (nL e) (S1 _ _ e)⟩
end
end Toy
set_option maxRecDepth 100000
namespace Toy
open PySem L2 TL LamX ClX Dg
abbrev s_clash_in : Stmt := top 37
abbrev s_row_in : Stmt := top 39
abbrev s_tables_in : Stmt := top 38
abbrev s_read_unit : Stmt := top 36
/-- the first word of some that is no number within its bound, or one too many -/
def dueN : List Nat → List Str → Option Nat
  | [], [] => none
  | [], _ :: _ => some 0
  | _ :: _, [] => some 0
  | b :: bs, w :: ws => match numW b w with
    | none => some 0
    | some _ => (dueN bs ws).map (· + 1)
theorem dueN_bad {b : Nat} {bs : List Nat} {ws : List Str} (h : ∀ w, ws[0]? = some w → numW b w = none) : dueN (b :: bs) ws = some 0 := by
  cases ws with
  | nil => rfl
  | cons w r =>
    unfold dueN
    rw [h w rfl]
theorem dueN_step {b n : Nat} {bs : List Nat} {ws : List Str} {w : Str} (h : ws[0]? = some w) (e : numW b w = some n) : dueN (b :: bs) ws = (dueN bs (ws.drop 1)).map (· + 1) := by
  cases ws with
  | nil => cases h
  | cons x r =>
    obtain rfl := Option.some.inj h
    conv => lhs; unfold dueN
    rw [e]
    rfl
theorem drop_hd {α : Type} {l : List α} {k : Nat} : (l.drop k)[0]? = l[k]? := by
  rw [List.getElem?_drop, Nat.add_zero]
def b4 : List Nat := [10 ^ 40, 10 ^ 40, 15, 15]
def b7 : List Nat := List.replicate 7 (10 ^ 6)
def spClashIn (CW CC : Addr) : Sp := fun vs H Q E => ∃ (W : Addr) (ws : List Str), vs = [.ref W] ∧ H W = some (.lst (ws.map V.str)) ∧ (∀ w ∈ ws, w.length ≤ PySem.sizeLine) ∧ (∀ k : Nat, dueN b4 (ws.drop 1) = some k → TextE CW H E 0 ((k + 1 : Nat) : Int)) ∧
  (dueN b4 (ws.drop 1) = none → ∀ a b i j : Nat, ws.drop 1 = [numT a, numT b, numT i, numT j] → a ≤ 10 ^ 40 → b ≤ 10 ^ 40 → i ≤ 15 → j ≤ 15 → ∀ H' p, Same H H' → ClashAt CC H' p a b i j → Q (.ref p) H')
section
variable {P : Program} {w : World} {K : PySem.W.Frag} {mg : Str → Option Value} {base : Heap} {CW CG uW uG CC CF : Addr} {fdW fdG : FuncData}
abbrev N_clash_in : List Str := ["words", "stride", "start", "one", "other"]
theorem sc_clash_in : FnScope N_clash_in ["words"] (defScope s_clash_in) := ⟨rfl, rfl, rfl, by decide +kernel, rfl, by decide +kernel, by decide +kernel⟩
theorem ok_clash_in {f fNu fCw fCI : Addr} {fd fdNu fdCw fdCI : FuncData} (F : Fun K "clash_in" "clash_in" s_clash_in f fd) (T : TR mg) (TP : TPap K mg CC CF)
    (GNu : FnOk P w K mg base (L2.CX P w) 3 fNu fdNu ["words", "line", "at", "least", "most"] (spNumIn CW K)) (gNu : mg "number_in" = some (.ref fNu)) (kNu : PySem.W.keepIn K (.ref fNu) = true) (bNu : Binds K fdNu ["words", "line", "at", "least", "most"] [])
    (GCw : FnOk P w K mg base (L2.CX P w) 3 fCw fdCw ["words", "line", "at"] (spNoWord CW K)) (gCw : mg "check_no_word" = some (.ref fCw)) (kCw : PySem.W.keepIn K (.ref fCw) = true) (bCw : Binds K fdCw ["words", "line", "at"] [])
    (MCI : Mk K CC fCI) (GCI : FnOk P w K mg base CX0 1 fCI fdCI ["self", "stride", "start", "one", "other"] (spCInit CC)) (bCI : Binds K fdCI ["self", "stride", "start", "one", "other"] []) : FnOk P w K mg base (L2.CX P w) 4 f fd ["words"] (spClashIn CW CC) := by
  refine F.okX sc_clash_in (fun vs H Q E h => ?_) (fun cdv A outer s H vs Q E hrN h => ?_)
  · obtain ⟨W, ws, rfl, _⟩ := h
    rfl
  · obtain ⟨W, ws, rfl, hW, hw, kE, kQ⟩ := h
    have hrM : Room 2 _ := hrN.mono (by decide)
    refine ⟨_, (pss_cons (ps_set (i := 1) sc_clash_in.nd rfl (Or.inl rfl) (by exact (pe_call GNu hrN rfl gNu kNu bNu .nil (passes_call (takes_of rfl rfl rfl rfl) fun _ _ _ _ h => h) (pa_cons (pv 0) (pa_cons pe_int (pa_cons pe_int (pa_cons pe_int (pa_cons (pe_glob (v := .int (10 ^ 40)) rfl T.g_GREATEST_STRIDE.choose_spec ⟨_, rfl⟩) pa_nil))))))))
 (pss_cons (ps_set (i := 2) sc_clash_in.nd rfl (Or.inl rfl) (by exact (pe_call GNu hrN rfl gNu kNu bNu .nil (passes_call (takes_of rfl rfl rfl rfl) fun _ _ _ _ h => h) (pa_cons (pv 0) (pa_cons pe_int (pa_cons pe_int (pa_cons pe_int (pa_cons (pe_glob (v := .int (10 ^ 40)) rfl T.g_GREATEST_STRIDE.choose_spec ⟨_, rfl⟩) pa_nil))))))))
 (pss_cons (ps_set (i := 3) sc_clash_in.nd rfl (Or.inl rfl) (by exact (pe_call GNu hrN rfl gNu kNu bNu .nil (passes_call (takes_of rfl rfl rfl rfl) fun _ _ _ _ h => h) (pa_cons (pv 0) (pa_cons pe_int (pa_cons pe_int (pa_cons pe_int (pa_cons (pe_op op_sub (pe_glob (v := .int 16) rfl T.g_MOST_LANES.choose_spec ⟨_, rfl⟩) pe_int) pa_nil))))))))
 (pss_cons (ps_set (i := 4) sc_clash_in.nd rfl (Or.inl rfl) (by exact (pe_call GNu hrN rfl gNu kNu bNu .nil (passes_call (takes_of rfl rfl rfl rfl) fun _ _ _ _ h => h) (pa_cons (pv 0) (pa_cons pe_int (pa_cons pe_int (pa_cons pe_int (pa_cons (pe_op op_sub (pe_glob (v := .int 16) rfl T.g_MOST_LANES.choose_spec ⟨_, rfl⟩) pe_int) pa_nil))))))))
 (pss_cons (ps_expr (pe_call GCw hrN rfl gCw kCw bCw .nil (passes_call (takes_of rfl rfl rfl rfl) fun _ _ _ _ h => h) (pa_cons (pv 0) (pa_cons pe_int (pa_cons pe_int pa_nil)))))
 (pss_one (ps_ret (pe_make MCI GCI hrM rfl TP.gC bCI .nil pass0 (pa_cons (pv 1) (pa_cons (pv 2) (pa_cons (pv 3) (pa_cons (pv 4) pa_nil)))))))))))), ?_⟩
    have i1 : ∀ k : Nat, ((ws.drop 1).drop k)[0]? = ws[k + 1]? := fun k => by rw [List.drop_drop, drop_hd, Nat.add_comm]
    have nm : ∀ {b n : Nat} {w : Str}, numW b w = some n → w = numT n ∧ n ≤ b := fun e => numW_eq.mp e
    refine ⟨_, rfl, W, ws, 0, 1, 10 ^ 40, rfl, SqL.of hW, by decide +kernel, hw, fun w1 n1 g1 e1 H1 s1 => ?_, fun hb => kE 0 (dueN_bad fun w h => hb w (by rw [← i1 0]; exact h))⟩
    have d1 : dueN b4 (ws.drop 1) = (dueN [10 ^ 40, 15, 15] ((ws.drop 1).drop 1)).map (· + 1) := dueN_step (by rw [← i1 0] at g1; exact g1) e1
    refine ⟨_, rfl, W, ws, 0, 2, 10 ^ 40, rfl, SqL.of (s1 _ _ hW), by decide +kernel, hw, fun w2 n2 g2 e2 H2 s2 => ?_, fun hb => (kE 1 (by rw [d1, dueN_bad fun w h => hb w (by rw [← i1 1]; exact h)]; rfl)).same s1⟩
    have d2 : dueN [10 ^ 40, 15, 15] ((ws.drop 1).drop 1) = (dueN [15, 15] (((ws.drop 1).drop 1).drop 1)).map (· + 1) := dueN_step (by rw [← i1 1] at g2; exact g2) e2
    have S2 : Same H H2 := fun _ _ z => s2 _ _ (s1 _ _ z)
    rw [List.drop_drop (i := 1) (j := 1) (l := ws.drop 1)] at d2
    refine ⟨_, rfl, _, _, rfl, rfl, W, ws, 0, 3, 15, rfl, SqL.of (S2 _ _ hW), by decide +kernel, hw, fun w3 n3 g3 e3 H3 s3 => ?_, fun hb => (kE 2 (by rw [d1, d2, dueN_bad fun w h => hb w (by rw [← i1 2]; exact h)]; rfl)).same S2⟩
    have d3 : dueN [15, 15] ((ws.drop 1).drop (1 + 1)) = (dueN [15] (((ws.drop 1).drop (1 + 1)).drop 1)).map (· + 1) := dueN_step (by rw [← i1 2] at g3; exact g3) e3
    have S3 : Same H H3 := fun _ _ z => s3 _ _ (S2 _ _ z)
    rw [List.drop_drop (i := 1) (j := 1 + 1) (l := ws.drop 1)] at d3
    refine ⟨_, rfl, _, _, rfl, rfl, W, ws, 0, 4, 15, rfl, SqL.of (S3 _ _ hW), by decide +kernel, hw, fun w4 n4 g4 e4 H4 s4 => ?_, fun hb => (kE 3 (by rw [d1, d2, d3, dueN_bad fun w h => hb w (by rw [← i1 3]; exact h)]; rfl)).same S3⟩
    have d4 : dueN [15] ((ws.drop 1).drop (1 + 1 + 1)) = (dueN [] (((ws.drop 1).drop (1 + 1 + 1)).drop 1)).map (· + 1) := dueN_step (by rw [← i1 3] at g4; exact g4) e4
    have S4 : Same H H4 := fun _ _ z => s4 _ _ (S3 _ _ z)
    rw [List.drop_drop (i := 1) (j := 1 + 1 + 1) (l := ws.drop 1)] at d4
    have l4 := (List.getElem?_eq_some_iff.mp g4).1
    refine ⟨_, rfl, W, ws, 0, 5, rfl, SqL.of (S4 _ _ hW), fun big => (kE 4 ?_).same S4, fun le => ?_⟩
    · rw [d1, d2, d3, d4]
      cases e : (ws.drop 1).drop (1 + 1 + 1 + 1) with
      | nil =>
        have := congrArg List.length e
        rw [List.length_drop, List.length_drop, List.length_nil] at this
        omega
      | cons x r => rfl
    obtain ⟨w0, rfl⟩ : ∃ w0, ws = [w0, w1, w2, w3, w4] := by
      have l5 : ws.length = 5 := by omega
      match ws, l5 with
      | [a0, a1, a2, a3, a4], _ =>
        obtain rfl : a1 = w1 := Option.some.inj g1
        obtain rfl : a2 = w2 := Option.some.inj g2
        obtain rfl : a3 = w3 := Option.some.inj g3
        obtain rfl : a4 = w4 := Option.some.inj g4
        exact ⟨a0, rfl⟩
    obtain ⟨rfl, m1⟩ := nm e1
    obtain ⟨rfl, m2⟩ := nm e2
    obtain ⟨rfl, m3⟩ := nm e3
    obtain ⟨rfl, m4⟩ := nm e4
    refine ⟨_, rfl, _, rfl, _, rfl, _, rfl, fun x dx nx ndx ne => ⟨x, dx, _, _, _, _, rfl, upd_same, rfl, ?_⟩⟩
    refine kQ (by rw [d1, d2, d3, d4]; rfl) n1 n2 n3 n4 rfl m1 m2 m3 m4 _ x (fun b o z => ?_) ⟨dx, upd_same⟩
    have z2 := S4 _ _ z
    rw [upd_ne (ne_of_none z2 nx), upd_ne (ne_of_none z2 nx), upd_ne (ne_of_none z2 ndx)]
    exact z2
end
end Toy
set_option maxRecDepth 100000
/-! z * n of a text; lists of texts of which something holds -/
namespace L2
open PySem PySem.Spec PyProof.Rows TL
def rMulS : R2 := fun x y H Q => ∃ (z : Str) (n : Int), x = .str z ∧ y = .int n ∧ MulOk z n ∧ Q (.str (Txt.mul z n)) H
theorem op_mulS {X : Cx} : OpR X (binaryOp .Mult) rMulS := by
  intro pins s σ H x y v u Q I rx ry h
  obtain ⟨z, n, rfl, rfl, ok, q⟩ := h
  obtain ⟨t, rfl⟩ := rx
  obtain ⟨t2, rfl⟩ := ry
  exact SB.mul ok fun t' k => ⟨.str (Txt.mul z n), H, I.tok _, ⟨t', rfl⟩, q⟩
/-- texts, of each of which P holds -/
def Sts (P : Str → Prop) (xs : List V) : Prop := ∀ x ∈ xs, ∃ y : Str, x = .str y ∧ P y
theorem Sts.nil {P : Str → Prop} : Sts P [] := fun _ z => nomatch z
theorem Sts.one {P : Str → Prop} {y : Str} (h : P y) : Sts P [.str y] := fun x hx => ⟨y, List.mem_singleton.mp hx, h⟩
theorem Sts.cons {P : Str → Prop} {y : Str} {xs : List V} (h : P y) (r : Sts P xs) : Sts P (.str y :: xs) := fun x hx => by
  rcases List.mem_cons.mp hx with e | hx
  · exact ⟨y, e, h⟩
  · exact r x hx
theorem Sts.append {P : Str → Prop} {xs ys : List V} (h : Sts P xs) (k : Sts P ys) : Sts P (xs ++ ys) := fun x hx => (List.mem_append.mp hx).elim (h x) (k x)
theorem Sts.reverse {P : Str → Prop} {xs : List V} (h : Sts P xs) : Sts P xs.reverse := fun x hx => h x (List.mem_reverse.mp hx)
theorem Sts.of {P : Str → Prop} {ws : List Str} (h : ∀ w ∈ ws, P w) : Sts P (ws.map V.str) := fun x hx => by
  obtain ⟨w, hw, rfl⟩ := List.mem_map.mp hx
  exact ⟨w, rfl, h w hw⟩
theorem mem_cutV {xs : List V} {lo hi : Option Int} {x : V} (h : x ∈ cutV xs lo hi) : x ∈ xs := List.mem_of_mem_drop (List.mem_of_mem_take h)
theorem len_cutV (xs : List V) (lo hi : Option Int) : (cutV xs lo hi).length ≤ xs.length := by
  unfold cutV
  rw [List.length_take, List.length_drop]
  omega
theorem Sts.cut {P : Str → Prop} {xs : List V} {lo hi : Option Int} (h : Sts P xs) : Sts P (cutV xs lo hi) := fun x hx => h x (mem_cutV hx)
theorem Sts.texts {P : Str → Prop} : ∀ {xs : List V}, Sts P xs → ∃ ws : List Str, xs = ws.map V.str ∧ ∀ w ∈ ws, P w
  | [], _ => ⟨[], rfl, fun _ z => nomatch z⟩
  | x :: r, h => by
    obtain ⟨y, rfl, hy⟩ := h x List.mem_cons_self
    obtain ⟨ws, e, hw⟩ := Sts.texts fun z hz => h z (List.mem_cons_of_mem _ hz)
    refine ⟨y :: ws, by rw [e]; rfl, fun w m => ?_⟩
    rcases List.mem_cons.mp m with rfl | m
    · exact hy
    · exact hw w m
end L2
set_option maxRecDepth 100000
/-! texts that are bent: their lengths and signs, by their words -/
namespace L2
open PySem PySem.Spec PyProof.Rows TL
/-- all signs are signs -/
def ChOk (w : Str) : Prop := ∀ c ∈ tl w, c < 1114112
theorem ch_mem_joinL {S : List Nat} : ∀ {ps : List (List Nat)} {c : Nat}, c ∈ joinL S ps → c ∈ S ∨ ∃ p ∈ ps, c ∈ p
  | [], c, h => nomatch h
  | [q], c, h => .inr ⟨q, List.mem_singleton.mpr rfl, h⟩
  | q :: r :: t, c, h => by
    have h' : c ∈ q ++ (S ++ joinL S (r :: t)) := h
    rcases List.mem_append.mp h' with h1 | h1
    · exact .inr ⟨q, List.mem_cons_self, h1⟩
    · rcases List.mem_append.mp h1 with h2 | h2
      · exact .inl h2
      · rcases ch_mem_joinL h2 with h3 | ⟨p, hp, hc⟩
        · exact .inl h3
        · exact .inr ⟨p, List.mem_cons_of_mem _ hp, hc⟩
theorem ch_mem_of {S : List Nat} : ∀ {ps : List (List Nat)} {p : List Nat} {c : Nat}, p ∈ ps → c ∈ p → c ∈ joinL S ps
  | [q], p, c, hp, hc => by
    rw [List.mem_singleton.mp hp] at hc
    exact hc
  | q :: r :: t, p, c, hp, hc => by
    show c ∈ q ++ (S ++ joinL S (r :: t))
    rcases List.mem_cons.mp hp with rfl | hp
    · exact List.mem_append_left _ hc
    · exact List.mem_append_right _ (List.mem_append_right _ (ch_mem_of hp hc))
theorem ch_join {sep : Str} {ws : List Str} (hs : ChOk sep) (h : ∀ w ∈ ws, ChOk w) : ChOk (Txt.join sep ws) := fun c hc => by
  rw [TL.join_eq, TL.tl_join] at hc
  rcases ch_mem_joinL hc with h1 | ⟨p, hp, h2⟩
  · exact hs c h1
  · obtain ⟨w, hw, rfl⟩ := List.mem_map.mp hp
    exact h w hw c h2
theorem txt_join_split (a sep : Str) : Txt.join sep (Txt.split a sep) = a := by
  rw [TL.join_eq]
  exact StrLaws.join_split a sep
theorem ch_split {a sep : Str} (h : ChOk a) : ∀ w ∈ Txt.split a sep, ChOk w := fun w hw c hc => h c (by
  have e := txt_join_split a sep
  rw [TL.join_eq] at e
  have e2 := congrArg tl e
  rw [TL.tl_join] at e2
  rw [← e2]
  exact ch_mem_of (List.mem_map.mpr ⟨w, hw, rfl⟩) hc)
theorem ch_app {x y : Str} (hx : ChOk x) (hy : ChOk y) : ChOk (x ++ y) := fun c hc => by
  have e : tl (x ++ y) = tl x ++ tl y := by
    show (x ++ y).cps.toList = x.cps.toList ++ y.cps.toList
    rw [PySem.Str.cps_append, Array.toList_append]
  rw [e] at hc
  exact (List.mem_append.mp hc).elim (hx c) (hy c)
def chB (w : Str) : Bool := (tl w).all fun c => decide (c < 1114112)
theorem ch_of {w : Str} (h : chB w = true) : ChOk w := fun c hc => of_decide_eq_true (List.all_eq_true.mp h c hc)
/-- the signs of lines, one behind each -/
def wt (ws : List Str) : Nat := (ws.map fun w => w.length + 1).sum
theorem wt_nil : wt [] = 0 := rfl
theorem wt_one (w : Str) : wt [w] = w.length + 1 := by simp [wt]
theorem wt_app (a b : List Str) : wt (a ++ b) = wt a + wt b := by simp [wt]
theorem wt_cut (a : List Str) (n : Nat) : wt (a.take n) + wt (a.drop n) = wt a := by rw [← wt_app, List.take_append_drop]
theorem wt_drop (a : List Str) (n : Nat) : wt (a.drop n) ≤ wt a := by
  have := wt_cut a n
  omega
theorem wt_step (a : List Str) (n : Nat) : wt (a.drop (n + 1)) ≤ wt (a.drop n) := by
  have := wt_drop (a.drop n) 1
  rw [List.drop_drop] at this
  exact this
theorem wt_rev (a : List Str) : wt a.reverse = wt a := by
  unfold wt
  rw [List.map_reverse, List.sum_reverse]
theorem wt_set {a : List Str} {i : Nat} {x : Str} (h : a[i]? = some x) (w : Str) : wt (a.set i w) + x.length = wt a + w.length := by
  induction a generalizing i with
  | nil => cases h
  | cons y r ih =>
    cases i with
    | zero =>
      obtain rfl := Option.some.inj h
      simp [wt]
      omega
    | succ i =>
      have z := ih (i := i) h
      simp only [wt, List.set_cons_succ, List.map_cons, List.sum_cons] at z ⊢
      omega
theorem wt_len (a : List Str) : a.length ≤ wt a := by
  induction a with
  | nil => exact Nat.zero_le _
  | cons x r ih =>
    simp only [wt, List.map_cons, List.sum_cons, List.length_cons] at ih ⊢
    omega
theorem wt_mem {a : List Str} {w : Str} (h : w ∈ a) : w.length + 1 ≤ wt a := by
  induction a with
  | nil => cases h
  | cons x r ih =>
    simp only [wt, List.map_cons, List.sum_cons] at ih ⊢
    rcases List.mem_cons.mp h with rfl | h
    · omega
    · have := ih h
      omega
theorem wt_sum (a : List Str) : (a.map (·.length)).sum + a.length = wt a := by
  induction a with
  | nil => rfl
  | cons x r ih =>
    simp only [wt, List.map_cons, List.sum_cons, List.length_cons] at ih ⊢
    omega
theorem joinL_len (s : Nat) : ∀ ps : List (List Nat), ps ≠ [] → (joinL [s] ps).length + 1 = (ps.map fun p => p.length + 1).sum
  | [], h => absurd rfl h
  | [p], _ => by simp [joinL]
  | p :: q :: r, _ => by
    have ih := joinL_len s (q :: r) (by simp)
    show (p ++ ([s] ++ joinL [s] (q :: r))).length + 1 = _
    rw [List.length_append, List.length_append, List.map_cons, List.sum_cons]
    simp only [List.length_cons, List.length_nil] at ih ⊢
    omega
theorem str_len (w : Str) : w.length = (tl w).length := Array.length_toList.symm
theorem join_len {sep : Str} {s : Nat} {ws : List Str} (hs : tl sep = [s]) (h : ws ≠ []) : (Txt.join sep ws).length + 1 = wt ws := by
  rw [str_len, TL.join_eq, TL.tl_join, hs, joinL_len s _ (by simpa using h), List.map_map]
  unfold wt
  congr 1
theorem join_le {sep : Str} {s : Nat} {ws : List Str} (hs : tl sep = [s]) : (Txt.join sep ws).length ≤ wt ws - 1 := by
  cases ws with
  | nil => exact Nat.le_of_eq rfl
  | cons x r =>
    have := join_len (ws := x :: r) hs (by simp)
    omega
theorem split_wt {a sep : Str} {s : Nat} (hs : tl sep = [s]) : wt (Txt.split a sep) = a.length + 1 := by
  have ne : Txt.split a sep ≠ [] := fun z => by
    have := PyProof.Rows.split_pos a sep
    rw [z] at this
    cases this
  have e := join_len (ws := Txt.split a sep) hs ne
  rw [txt_join_split] at e
  exact e.symm
theorem cutS_to (ws : List Str) (k : Nat) : cutV (ws.map V.str) none (some (k : Int)) = (ws.take k).map V.str := by
  unfold cutV
  rw [HT.sIx_none, HT.sIx_nat, List.drop_zero, List.length_map, Nat.sub_zero, ← List.map_take]
  congr 1
  rcases Nat.le_total k ws.length with c | c
  · rw [Nat.min_eq_left c]
  · rw [Nat.min_eq_right c, List.take_length, List.take_of_length_le c]
theorem cutS_from (ws : List Str) (k : Nat) : cutV (ws.map V.str) (some (k : Int)) none = (ws.drop k).map V.str := by
  unfold cutV
  rw [HT.sIx_none, HT.sIx_nat, List.length_map, ← List.map_drop, ← List.map_take]
  congr 1
  rcases Nat.le_total k ws.length with c | c
  · rw [Nat.min_eq_left c]
    exact List.take_of_length_le (by rw [List.length_drop]; exact Nat.le_refl _)
  · rw [Nat.min_eq_right c, List.drop_length, List.drop_of_length_le c]
    simp
theorem cutS_two (ws : List Str) (k : Nat) : cutV (ws.map V.str) (some (k : Int)) (some ((k + 2 : Nat) : Int)) = ((ws.drop k).take 2).map V.str := by
  unfold cutV
  rw [HT.sIx_nat, HT.sIx_nat, List.length_map, ← List.map_drop, ← List.map_take]
  congr 1
  rcases Nat.le_total k ws.length with c | c
  · rw [Nat.min_eq_left c]
    rcases Nat.le_total (k + 2) ws.length with d | d
    · rw [Nat.min_eq_left d, show k + 2 - k = 2 by omega]
    · rw [Nat.min_eq_right d, List.take_of_length_le (by rw [List.length_drop]; exact Nat.le_refl _), List.take_of_length_le (by rw [List.length_drop]; omega)]
  · rw [Nat.min_eq_right c, List.drop_length, List.drop_of_length_le c]
    simp
theorem wt_two (ws : List Str) (k : Nat) : wt (ws.take k) + wt ((ws.drop k).take 2).reverse + wt (ws.drop (k + 2)) = wt ws := by
  have h1 := wt_cut ws k
  have h2 := wt_cut (ws.drop k) 2
  rw [List.drop_drop] at h2
  rw [wt_rev]
  omega
theorem map_cat (a b : List Str) : a.map V.str ++ b.map V.str = (a ++ b).map V.str := (List.map_append ..).symm
end L2
set_option maxRecDepth 100000
namespace Toy
open PySem L2 TL LamX ClX Dg
theorem CallR.imp {X : Cx} {g : Value} {r r' : List V → Hp → VK → Prop} (h : CallR X g r) (i : ∀ xs H Q, r' xs H Q → r xs H Q) : CallR X g r' := fun pins s σ H xs us Q I rr q => h pins s σ H xs us Q I rr (i xs H Q q)
/-- tuple(x) -/
def rTupP : List V → Hp → VK → Prop := fun xs H Q => ∃ (a : Addr) (ys : List V), xs = [.ref a] ∧ (H a = some (.lst ys) ∨ H a = some (.tup ys)) ∧ ∀ q H', Same H H' → H' q = some (.tup ys) → Q (.ref q) H'
theorem call_tupP {X : Cx} : CallR X (.type "tuple") rTupP := CallR.imp call_tuple_of fun xs H Q ⟨a, ys, e, h, q⟩ => by
  rcases h with h | h
  · exact ⟨a, ys, e, .inl ⟨SqL.of h, fun l hl => q l _ (Same.lay hl) upd_same⟩⟩
  · exact ⟨a, ys, e, .inr ⟨SqT.of h, q a H (Same.refl H) h⟩⟩
/-- what is known of words: each one's number -/
def Known (kvs : List (Key × V)) : Prop := ∀ (w : Str) (v : V), valV kvs (.inr w) = some v → v = numV (10 ^ 6) w
def rowOf (ws : List Str) : List Int := ws.map fun w => ((valT w : Nat) : Int)
/-- a text's error, all but the dict at D as it was -/
def TextB (CW D : Addr) (H : Hp) (E : XK) (ln wd : Int) : Prop := ∀ d H', H d = none → But D H H' → H' d = some (.xd [("word", .int wd), ("line", .int ln)]) → E (.ref CW) (some d) H'
def spRowIn (CW : Addr) : Sp := fun vs H Q E => ∃ (W D : Addr) (ln : Int) (ws : List Str) (kvs : List (Key × V)), vs = [.ref W, .int ln, .ref D] ∧ H W = some (.lst (ws.map V.str)) ∧ (∀ w ∈ ws, w.length ≤ PySem.sizeLine) ∧ H D = some (.dK kvs) ∧ Known kvs ∧ kvs.length ≤ 10000000 ∧
  (∀ k : Nat, dueN b7 ws = some k → TextB CW D H E ln (k : Nat)) ∧
  (dueN b7 ws = none → ∀ H' q kvs', But D H H' → H' D = some (.dK kvs') → Known kvs' → kvs'.length ≤ kvs.length + 7 → H' q = some (.tup ((rowOf ws).map V.int)) → Q (.ref q) H')
theorem dueN_skip {i m : Nat} : ∀ {ws : List Str}, (∀ j, j < i → ∃ w n, ws[j]? = some w ∧ numW (10 ^ 6) w = some n) → dueN (List.replicate (i + m) (10 ^ 6)) ws = (dueN (List.replicate m (10 ^ 6)) (ws.drop i)).map (· + i) := by
  induction i with
  | zero =>
    intro ws _
    rw [Nat.zero_add, List.drop_zero]
    show _ = Option.map (fun x => x) _
    rw [Option.map_id']
  | succ i ih =>
    intro ws h
    obtain ⟨w, n, h0, e0⟩ := h 0 (Nat.succ_pos _)
    rw [show i + 1 + m = (i + m) + 1 by omega, List.replicate_succ, dueN_step h0 e0, ih (ws := ws.drop 1) (fun j hj => ?_), List.drop_drop, Option.map_map, Nat.add_comm 1 i]
    · rfl
    · obtain ⟨w, n, h1, e1⟩ := h (j + 1) (by omega)
      exact ⟨w, n, by rw [List.getElem?_drop, Nat.add_comm]; exact h1, e1⟩
theorem ite_no {c : Bool} {A B : Prop} (h : c = false) (b : B) : if c = true then A else B := by
  rw [h]
  exact iteF b
theorem ite_yes {c : Bool} {A B : Prop} (h : c = true) (a : A) : if c = true then A else B := by
  rw [h]
  exact iteT a
section
variable {P : Program} {w : World} {K : PySem.W.Frag} {mg : Str → Option Value} {base : Heap} {CW CG uW uG CC CF : Addr} {fdW fdG : FuncData}
abbrev N_row_in : List Str := ["words", "line", "known", "row", "at", "word"]
theorem sc_row_in : FnScope N_row_in ["words", "line", "known"] (defScope s_row_in) := ⟨rfl, rfl, rfl, by decide +kernel, rfl, by decide +kernel, by decide +kernel⟩
theorem ok_row_in {f fWh : Addr} {fd fdWh : FuncData} (F : Fun K "row_in" "row_in" s_row_in f fd) (T : TR mg) (TE : TErr K mg CW CG uW uG fdW fdG)
    (GWh : FnOk P w K mg base CX0 1 fWh fdWh ["word", "most"] spWhole) (gWh : mg "whole_in" = some (.ref fWh)) (kWh : PySem.W.keepIn K (.ref fWh) = true) (bWh : Binds K fdWh ["word", "most"] []) : FnOk P w K mg base (L2.CX P w) 3 f fd ["words", "line", "known"] (spRowIn CW) := by
  refine F.okX sc_row_in (fun vs H Q E h => ?_) (fun cdv A outer s H vs Q E hrE h => ?_)
  · obtain ⟨W, D, ln, ws, kvs, rfl, _⟩ := h
    rfl
  · obtain ⟨W, D, ln, ws, kvs, rfl, hW, hw, hD, kn, kl, kE, kQ⟩ := h
    have hrE1 : Room 1 _ := hrE.mono (by decide)
    have hu := Nat.lt_of_le_of_lt (Nat.add_le_add_left (show 1 ≤ 64 by decide) _) hrE.units
    refine ⟨_, (pss_cons (ps_set (i := 3) sc_row_in.nd rfl (Or.inl rfl) (pe_lst pa_nil))
 (pss_cons (ps_for (passes_of rfl) rfl (pi_enumB (by rfl) T.m_enumerate (pa_cons (pe_slice sl_list (pv 0) po_none (po_some (pe_glob (v := .int 7) rfl T.g_ROW_PARTS.choose_spec ⟨_, rfl⟩))) pa_nil)) (pg_tup rfl (pgs_cons (pg_name (i := 4) sc_row_in.nd rfl (Or.inl rfl)) (pgs_cons (pg_name (i := 5) sc_row_in.nd rfl (Or.inl rfl)) pgs_nil)))
 (pss_cons (ps_if (pt_cmp (pc_dnotin hu (pv 5) (pv 2))) (pss_one (ps_dput hu (pv 2) (pv 5) (pe_call GWh hrE1 rfl gWh kWh bWh .nil pass0 (pa_cons (pv 5) (pa_cons (pe_glob (v := .int (10 ^ 6)) rfl T.g_GREATEST_PART.choose_spec ⟨_, rfl⟩) pa_nil))) rfl)) pss_nil)
 (pss_cons (ps_if (pt_cmpR op_isN (pe_dget hu (pv 2) (pv 5) (fun _ _ => rfl)) pe_non (nomark _)) (pss_one (ps_raise rfl (takes_of rfl rfl rfl rfl) (pmk_x TE.iBadText (ok_BadText TE) hrE TE.bBadText (by decide) rfl TE.gBadText (mono_var (mono_var mono_nil)) (pa_cons (pv 1) (pa_cons (pv 4) pa_nil))))) pss_nil)
 (pss_one (ps_expr (pe_bm PySem.F.plainAttrs_list PySem.F.slot_list_append PySem.F.type_list_append mt_append (pv 3) (pa_cons (pe_dget hu (pv 2) (pv 5) (fun _ _ => rfl)) pa_nil)))))))
 (pss_cons (ps_if (pt_cmpR op_ne (pe_callB call_len_seq (by rfl) T.m_len (by decide +kernel) (pa_cons (pv 0) pa_nil)) (pe_glob (v := .int 7) rfl T.g_ROW_PARTS.choose_spec ⟨_, rfl⟩) (nomark _)) (pss_one (ps_raise rfl (takes_of rfl rfl rfl rfl) (pmk_x TE.iBadText (ok_BadText TE) hrE TE.bBadText (by decide) rfl TE.gBadText (mono_var (mono_len (mono_var mono_nil) mono_nil)) (pa_cons (pv 1) (pa_cons (pe_callB call_len_seq (by rfl) T.m_len (by decide +kernel) (pa_cons (pv 3) pa_nil)) pa_nil))))) pss_nil)
 (pss_one (ps_ret (pe_callTy call_tupP (by rfl) T.m_tuple (by decide +kernel) (pa_cons (pv 3) pa_nil))))))), ?_⟩
    have sz : PySem.sizeLine = 16777216 := rfl
    refine ⟨(by show 0 ≤ PySem.sizeLine; decide), fun R hR => ?_⟩
    have y1 := Same.lay (o := .lst []) hR
    have nDR : D ≠ R := ne_of_none hD hR
    have hD1 := y1 _ _ hD
    have hW1 := y1 _ _ hW
    have hR1 : (upd H R (.lst [])) R = some (.lst []) := upd_same
    refine (show gName 3 (V.ref R) _ (upd H R (.lst [])) _ from ?_)
    have fr : ∀ {c : Addr} {o : HO}, H c = some o → c ≠ R := fun e => ne_of_none e hR
    generalize upd H R (.lst []) = H1 at y1 hD1 hW1 hR1 ⊢
    refine ⟨_, rfl, 7, rfl, W, _, rfl, SqL.of hW1, fun S hS => ?_⟩
    rw [show cutV (ws.map V.str) none (some 7) = (ws.take 7).map V.str from cutS_to ws 7]
    have y2 := Same.lay (o := .lst ((ws.take 7).map V.str)) hS
    have hS2 : (upd H1 S (.lst ((ws.take 7).map V.str))) S = some (.lst ((ws.take 7).map V.str)) := upd_same
    have nSD : S ≠ D := (ne_of_none hD1 hS).symm
    have nSR : S ≠ R := (ne_of_none hR1 hS).symm
    have hD2 := y2 _ _ hD1
    have hR2 := y2 _ _ hR1
    have y12 : Same H (upd H1 S (.lst ((ws.take 7).map V.str))) := fun _ _ z => y2 _ _ (y1 _ _ z)
    generalize upd H1 S (.lst ((ws.take 7).map V.str)) = H2 at y12 hS2 hD2 hR2 ⊢
    clear y1 y2 hD1 hW1 hR1 hS
    have b7e : ∀ {i : Nat}, i ≤ 7 → b7 = List.replicate (i + (7 - i)) (10 ^ 6) := fun h => by
      unfold b7
      congr 1
      omega
    refine ⟨false, S, _, rfl, SqB.lst hS2, for_it (walk_enumB (xs := (ws.take 7).map V.str)) (fun i σ G => ∃ (u4 u5 : Option V) (kv : List (Key × V)), σ = [some (.ref W), some (.int ln), some (.ref D), some (.ref R), u4, u5] ∧ (∀ c o, c ≠ D → c ≠ R → H2 c = some o → G c = some o) ∧ G D = some (.dK kv) ∧ Known kv ∧ kv.length ≤ kvs.length + i ∧ G R = some (.lst ((rowOf (ws.take i)).map V.int)) ∧ ∀ j, j < i → ∃ w n, ws[j]? = some w ∧ numW (10 ^ 6) w = some n) ⟨none, none, kvs, rfl, fun _ _ _ _ z => z, hD2, kn, Nat.le_refl _, hR2, fun j h => absurd h (Nat.not_lt_zero _)⟩ ?_ ?_ ?_⟩
    · rintro i σ G _ ⟨_, _, _, _, b2, _⟩
      exact SqB.lst (b2 _ _ nSD nSR hS2)
    · rintro i x σ G G' hi ⟨u4, u5, kv, rfl, b2, gD, knv, lv, gR, pre⟩ ⟨T1, y0, x0, rfl, hT1, rfl, e0, hx0⟩
      obtain rfl := Option.some.inj e0
      replace hx0 : ((ws.take 7).map V.str)[i]? = some x0 := hx0
      rw [List.getElem?_map] at hx0
      obtain ⟨w, hw7, rfl⟩ := Option.map_eq_some_iff.mp hx0
      rw [List.length_map, List.length_take] at hi
      have hwi : ws[i]? = some w := by
        rw [List.getElem?_take] at hw7
        split at hw7
        · exact hw7
        · cases hw7
      have b3 : ∀ c o, c ≠ D → c ≠ R → H2 c = some o → (upd G T1 (.tup [.int (i : Nat), .str w])) c = some o := fun c o n1 n2 z => Same.lay hT1 _ _ (b2 c o n1 n2 z)
      have gD3 := Same.lay (o := .tup [.int (i : Nat), .str w]) hT1 _ _ gD
      have gR3 := Same.lay (o := .tup [.int (i : Nat), .str w]) hT1 _ _ gR
      refine ⟨T1, _, rfl, SqT.of upd_same, rfl, _, _, rfl, _, _, rfl, rfl, ?_⟩
      generalize upd G T1 (.tup [.int (i : Nat), .str w]) = G3 at b3 gD3 gR3 ⊢
      clear b2 gD gR hT1
      have hwl := hw w (List.mem_of_getElem? hwi)
      have i7 : i < 7 := by omega
      have lrow : ((rowOf (ws.take i)).map V.int).length < PySem.sizeLine := by
        rw [List.length_map]
        unfold rowOf
        rw [List.length_map, List.length_take, sz]
        omega
      have nf : ∀ {G : Hp} {kv2 : List (Key × V)} {d : Addr}, (∀ c o, c ≠ D → c ≠ R → H2 c = some o → G c = some o) → G D = some (.dK kv2) → G d = none → H d = none := fun {G kv2 d} b4 g4 nd => by
        cases e : H d with
        | none => rfl
        | some o =>
          by_cases c : d = D
          · rw [c, g4] at nd
            cases nd
          · rw [b4 d o c (fr e) (y12 _ _ e)] at nd
            cases nd
      have rest : ∀ (G : Hp) (kv2 : List (Key × V)), (∀ c o, c ≠ D → c ≠ R → H2 c = some o → G c = some o) → G D = some (.dK kv2) → Known kv2 → kv2.length ≤ kvs.length + (i + 1) → G R = some (.lst ((rowOf (ws.take i)).map V.int)) → valV kv2 (.inr w) = some (numV (10 ^ 6) w) →
          (numV (10 ^ 6) w = .non → ∀ d H', G d = none → Same G H' → H' d = some (.xd [("word", .int (i : Nat)), ("line", .int ln)]) → E (.ref CW) (some d) H') ∧
          (∀ n, numW (10 ^ 6) w = some n → ∃ (u4 u5 : Option V) (kv : List (Key × V)), [some (V.ref W), some (.int ln), some (.ref D), some (.ref R), some (.int (i : Nat)), some (.str w)] = [some (.ref W), some (.int ln), some (.ref D), some (.ref R), u4, u5] ∧ (∀ c o, c ≠ D → c ≠ R → H2 c = some o → (upd G R (.lst ((rowOf (ws.take i)).map V.int ++ [.int (n : Nat)]))) c = some o) ∧ (upd G R (.lst ((rowOf (ws.take i)).map V.int ++ [.int (n : Nat)]))) D = some (.dK kv) ∧ Known kv ∧ kv.length ≤ kvs.length + (i + 1) ∧ (upd G R (.lst ((rowOf (ws.take i)).map V.int ++ [.int (n : Nat)]))) R = some (.lst ((rowOf (ws.take (i + 1))).map V.int)) ∧ ∀ j, j < i + 1 → ∃ w n, ws[j]? = some w ∧ numW (10 ^ 6) w = some n) := by
        intro G kv2 b4 g4 k4 l4 r4 v4
        refine ⟨fun en d H' nd s e => ?_, fun n en => ⟨_, _, kv2, rfl, fun c o n1 n2 z => by rw [upd_ne n2]; exact b4 c o n1 n2 z, by rw [upd_ne nDR]; exact g4, k4, l4, ?_, fun j hj => ?_⟩⟩
        · refine kE i ?_ d H' (nf b4 g4 nd) (fun c o nc z => s _ _ (b4 c o nc (fr z) (y12 _ _ z))) e
          have e2 : numW (10 ^ 6) w = none := by
            unfold numV at en
            split at en
            · cases en
            · assumption
          rw [b7e (i := i) (by omega), dueN_skip pre, show 7 - i = (7 - i - 1) + 1 by omega, List.replicate_succ, dueN_bad fun w' h' => ?_]
          · show some (0 + i) = some i
            rw [Nat.zero_add]
          · rw [drop_hd, hwi] at h'
            rw [← Option.some.inj h']
            exact e2
        · rw [upd_same, List.take_add_one, hwi]
          unfold rowOf
          rw [List.map_append, List.map_append]
          obtain ⟨rfl, _⟩ := numW_eq.mp en
          show _ = some (HO.lst (_ ++ [V.int ((valT (numT n) : Nat) : Int)]))
          rw [valT_num]
        · by_cases c : j = i
          · subst c
            exact ⟨w, n, hwi, en⟩
          · exact pre j (by omega)
      have gt : ∀ {G : Hp} {kv2 : List (Key × V)}, G D = some (.dK kv2) → valV kv2 (.inr w) = some (numV (10 ^ 6) w) → DGet G D (.str w) (some (numV (10 ^ 6) w)) := fun {G kv2} g v => by
        have := DGet.k (k := .inr w) g
        rw [v] at this
        exact this
      cases ev : valV kv (.inr w) with
      | none =>
        have := DGet.k (k := .inr w) gD3
        rw [ev] at this
        refine ⟨_, rfl, _, rfl, D, none, rfl, this, _, rfl, iteT ?_⟩
        refine ⟨_, rfl, w, 10 ^ 6, rfl, hwl, by decide +kernel, fun G5 s5 => ⟨_, rfl, _, rfl, D, _, rfl, DPut.k (k := .inr w) (s5 _ _ gD3) (by omega), ?_⟩⟩
        have key : valV (putK kv (.inr w) (numV (10 ^ 6) w)) (.inr w) = some (numV (10 ^ 6) w) := by rw [valV_put, if_pos rfl]
        have known : Known (putK kv (.inr w) (numV (10 ^ 6) w)) := fun w' v' h' => by
          rw [valV_put] at h'
          split at h'
          · rename_i c
            rw [show w' = w from Sum.inr.inj c]
            exact (Option.some.inj h').symm
          · exact knv w' v' h'
        have hb : ∀ c o, c ≠ D → c ≠ R → H2 c = some o → (upd G5 D (.dK (putK kv (.inr w) (numV (10 ^ 6) w)))) c = some o := fun c o n1 n2 z => by
          rw [upd_ne n1]
          exact s5 _ _ (b3 c o n1 n2 z)
        have hRR : (upd G5 D (.dK (putK kv (.inr w) (numV (10 ^ 6) w)))) R = some (.lst ((rowOf (ws.take i)).map V.int)) := by
          rw [upd_ne nDR.symm]
          exact s5 _ _ gR3
        have lp : (putK kv (.inr w) (numV (10 ^ 6) w)).length ≤ kvs.length + (i + 1) := by
          have := length_putK kv (.inr w) (numV (10 ^ 6) w)
          omega
        obtain ⟨rB, rG⟩ := rest _ _ hb upd_same known lp hRR key
        have g6 := gt (G := upd G5 D (.dK (putK kv (.inr w) (numV (10 ^ 6) w)))) upd_same key
        generalize upd G5 D (.dK (putK kv (.inr w) (numV (10 ^ 6) w))) = G6 at rB rG g6 hRR ⊢
        cases en : numW (10 ^ 6) w with
        | none =>
          have ev2 : numV (10 ^ 6) w = .non := by
            unfold numV
            rw [en]
          rw [ev2] at g6
          refine ⟨_, rfl, _, rfl, D, _, rfl, g6, rfl, _, rfl, iteT ⟨_, rfl, _, rfl, rfl, fun d H' hd s1 e => rB ev2 d H' hd s1 e⟩⟩
        | some n =>
          have ev2 : numV (10 ^ 6) w = .int (n : Nat) := by
            unfold numV
            rw [en]
          rw [ev2] at g6
          refine ⟨_, rfl, _, rfl, D, _, rfl, g6, rfl, _, rfl, iteF ?_⟩
          exact ⟨_, rfl, .inl ⟨rfl, _, SqL.of hRR⟩, _, rfl, _, rfl, D, _, rfl, g6, R, _, _, rfl, rfl, hRR, lrow, rG n en⟩
      | some v =>
        have := DGet.k (k := .inr w) gD3
        rw [ev] at this
        refine ⟨_, rfl, _, rfl, D, some v, rfl, this, _, rfl, iteF ?_⟩
        obtain rfl := knv w v ev
        obtain ⟨rB, rG⟩ := rest _ _ b3 gD3 knv (by omega) gR3 ev
        have g6 := gt gD3 ev
        have hRR := gR3
        cases en : numW (10 ^ 6) w with
        | none =>
          have ev2 : numV (10 ^ 6) w = .non := by
            unfold numV
            rw [en]
          rw [ev2] at g6
          refine ⟨_, rfl, _, rfl, D, _, rfl, g6, rfl, _, rfl, iteT ⟨_, rfl, _, rfl, rfl, fun d H' hd s1 e => rB ev2 d H' hd s1 e⟩⟩
        | some n =>
          have ev2 : numV (10 ^ 6) w = .int (n : Nat) := by
            unfold numV
            rw [en]
          rw [ev2] at g6
          refine ⟨_, rfl, _, rfl, D, _, rfl, g6, rfl, _, rfl, iteF ?_⟩
          exact ⟨_, rfl, .inl ⟨rfl, _, SqL.of hRR⟩, _, rfl, _, rfl, D, _, rfl, g6, R, _, _, rfl, rfl, hRR, lrow, rG n en⟩
    · rintro σ G ⟨u4, u5, kv, rfl, b2, gD, knv, lv, gR, pre⟩
      rw [List.length_map, List.length_take] at lv pre
      rw [List.length_map, List.length_take, show ws.take (min 7 ws.length) = ws.take 7 by rw [List.take_eq_take_iff]; omega] at gR
      have inH : But D H G := fun c o nc z => b2 c o nc (fr z) (y12 _ _ z)
      have hWG := inH _ _ (fun z => by rw [z, hD] at hW; cases hW) hW
      have lr : ((rowOf (ws.take 7)).map V.int).length = min 7 ws.length := by
        rw [List.length_map]
        unfold rowOf
        rw [List.length_map, List.length_take]
      refine ⟨_, rfl, W, _, rfl, .inl (SqL.of hWG), rfl, _, rfl, ?_⟩
      rw [List.length_map]
      have skip := dueN_skip (m := 7 - min 7 ws.length) pre
      rw [← b7e (Nat.min_le_left _ _)] at skip
      by_cases c : ws.length = 7
      · refine ite_no (by rw [c]; rfl) ?_
        have e7 : ws.take 7 = ws := List.take_of_length_le (by omega)
        rw [e7] at gR
        refine ⟨_, rfl, R, _, rfl, .inl gR, fun q H' s' hq => ?_⟩
        refine kQ ?_ H' q kv (fun c o n z => s' _ _ (inH c o n z)) (s' _ _ gD) knv (by omega) hq
        rw [skip, c]
        rw [show ws.drop (min 7 7) = [] from List.drop_of_length_le (by omega)]
        rfl
      · refine ite_yes (by
          have : V.int ((ws.length : Nat) : Int) ≠ V.int 7 := fun z => c (by have := V.int.inj z; omega)
          simp [this]) ?_
        refine ⟨_, rfl, _, rfl, R, _, rfl, .inl (SqL.of gR), rfl, fun d H' hd s1 e => ?_⟩
        rw [lr] at e
        have nd : H d = none := by
          cases e2 : H d with
          | none => rfl
          | some o =>
            by_cases c : d = D
            · rw [c, gD] at hd
              cases hd
            · rw [inH d o c e2] at hd
              cases hd
        refine kE (min 7 ws.length) ?_ d H' nd (fun c o n z => s1 _ _ (inH c o n z)) e
        rw [skip]
        by_cases c2 : ws.length < 7
        · rw [show 7 - min 7 ws.length = (7 - min 7 ws.length - 1) + 1 by omega, List.replicate_succ, dueN_bad (fun w' h' => by rw [List.getElem?_eq_none (by rw [List.length_drop]; omega)] at h'; cases h')]
          show some (0 + _) = some _
          rw [Nat.zero_add]
        · rw [show min 7 ws.length = 7 by omega]
          cases e2 : ws.drop 7 with
          | nil =>
            have := congrArg List.length e2
            rw [List.length_drop, List.length_nil] at this
            omega
          | cons x r => rfl
end
end Toy
set_option maxRecDepth 100000
namespace Toy
open PySem L2 TL LamX ClX Dg
def isTab (l : Str) : Bool := decide ((wordsT l)[0]? = some (Str.ofString "table"))
/-- the first line and word of a paper of tables that cannot stand -/
def errL : Bool → Nat → List Str → Option (Nat × Nat)
  | _, _, [] => none
  | b, n, l :: r => if isTab l = true then (if 1 < (wordsT l).length then some (n, 1) else errL true (n + 1) r)
    else if b = false then some (n, 0) else match dueN b7 (wordsT l) with
      | some k => some (n, k)
      | none => errL true (n + 1) r
def addLast (ts : List (List (List Int))) (r : List Int) : List (List (List Int)) := ts.dropLast ++ [ts.getLast?.getD [] ++ [r]]
def stepT (ts : List (List (List Int))) (l : Str) : List (List (List Int)) := if isTab l = true then ts ++ [[]] else addLast ts (rowOf (wordsT l))
def tabsL (ls : List Str) : List (List (List Int)) := ls.foldl stepT []
def RowsL (H : Hp) (a : Addr) (rows : List (List Int)) : Prop := ∃ rs : List (Addr × List Int), rows = rs.map (·.2) ∧ H a = some (.lst (rs.map fun r => V.ref r.1)) ∧ ∀ r ∈ rs, H r.1 = some (.tup (r.2.map V.int))
theorem RowsL.same {H G : Hp} {q : Addr} {rows : List (List Int)} (s : Same H G) (h : RowsL H q rows) : RowsL G q rows := by
  obtain ⟨rs, h1, h2, h3⟩ := h
  exact ⟨rs, h1, s _ _ h2, fun r hr => s _ _ (h3 r hr)⟩
theorem errL_cons (b : Bool) (n : Nat) (l : Str) (r : List Str) : errL b n (l :: r) = if isTab l = true then (if 1 < (wordsT l).length then some (n, 1) else errL true (n + 1) r)
    else if b = false then some (n, 0) else match dueN b7 (wordsT l) with
      | some k => some (n, k)
      | none => errL true (n + 1) r := rfl
theorem words_pos (l : Str) : 0 < (wordsT l).length := PyProof.Rows.split_pos l " "
theorem tabsL_snoc (ls : List Str) (l : Str) : tabsL (ls ++ [l]) = stepT (tabsL ls) l := by
  unfold tabsL
  rw [List.foldl_append]
  rfl
/-- the tables that are being read: TT the list of them, DD what is known of words -/
structure Tst (H : Hp) (TT DD : Addr) (lines : List Str) (i : Nat) (G : Hp) (ps : List (Addr × List (List Int))) (kv : List (Key × V)) : Prop where
  gT : G TT = some (.lst (ps.map fun p => V.ref p.1))
  rows : ∀ p ∈ ps, RowsL G p.1 p.2
  nd : (ps.map (·.1)).Nodup
  fresh : ∀ p ∈ ps, H p.1 = none ∧ p.1 ≠ TT
  same : Same H G
  gD : G DD = some (.dK kv)
  kn : Known kv
  lk : kv.length ≤ 7 * i
  tabs : ps.map (·.2) = tabsL (lines.take i)
  err : errL false 1 lines = errL (!ps.isEmpty) (1 + i) (lines.drop i)
  lps : ps.length ≤ i
  rl : ∀ p ∈ ps, p.2.length ≤ i
def spTablesIn (CW : Addr) : Sp := fun vs H Q E => ∃ (L : Addr) (ls : List Str), vs = [.ref L] ∧ H L = some (.lst (ls.map V.str)) ∧ (∀ l ∈ ls, l.length + 2 ≤ PySem.sizeLine) ∧ ls.length ≤ 200000 ∧
  (∀ k m : Nat, errL false 1 (ls.drop 1) = some (k, m) → TextE CW H E (k : Nat) (m : Nat)) ∧ (errL false 1 (ls.drop 1) = none → ∀ H' q, Same H H' → TabsT H' q (tabsL (ls.drop 1)) → Q (.ref q) H')
section
variable {P : Program} {w : World} {K : PySem.W.Frag} {mg : Str → Option Value} {base : Heap} {CW CG uW uG CC CF : Addr} {fdW fdG : FuncData}
abbrev N_tables_in : List Str := ["lines", "tables", "known", "line", "words", "table"]
theorem sc_tables_in : FnScope N_tables_in ["lines"] (defScope s_tables_in) := ⟨rfl, rfl, rfl, by decide +kernel, rfl, by decide +kernel, by decide +kernel⟩
theorem ok_tables_in {f fWa fCw fRi : Addr} {fd fdWa fdCw fdRi : FuncData} (F : Fun K "tables_in" "tables_in" s_tables_in f fd) (T : TR mg) (TE : TErr K mg CW CG uW uG fdW fdG)
    (GWa : FnOk P w K mg base (L2.CX P w) 3 fWa fdWa ["lines", "line"] (spWordsAt CW K)) (gWa : mg "words_at" = some (.ref fWa)) (kWa : PySem.W.keepIn K (.ref fWa) = true) (bWa : Binds K fdWa ["lines", "line"] [])
    (GCw : FnOk P w K mg base (L2.CX P w) 3 fCw fdCw ["words", "line", "at"] (spNoWord CW K)) (gCw : mg "check_no_word" = some (.ref fCw)) (kCw : PySem.W.keepIn K (.ref fCw) = true) (bCw : Binds K fdCw ["words", "line", "at"] [])
    (GRi : FnOk P w K mg base (L2.CX P w) 3 fRi fdRi ["words", "line", "known"] (spRowIn CW)) (gRi : mg "row_in" = some (.ref fRi)) (kRi : PySem.W.keepIn K (.ref fRi) = true) (bRi : Binds K fdRi ["words", "line", "known"] []) : FnOk P w K mg base (L2.CX P w) 4 f fd ["lines"] (spTablesIn CW) := by
  refine F.okX sc_tables_in (fun vs H Q E h => ?_) (fun cdv A outer s H vs Q E hrN h => ?_)
  · obtain ⟨L, ls, rfl, _⟩ := h
    rfl
  · obtain ⟨L, ls, rfl, hL, hls, ll, kE, kQ⟩ := h
    have hrE : Room 2 _ := hrN.mono (by decide)
    refine ⟨_, (pss_cons (ps_set (i := 1) sc_tables_in.nd rfl (Or.inl rfl) (pe_lst pa_nil))
 (pss_cons (ps_set (i := 2) sc_tables_in.nd rfl (Or.inl rfl) pe_dnewK)
 (pss_cons (ps_for (passes_of rfl) rfl (pi_range2 rfl T.m_range (pa_cons pe_int (pa_cons (pe_callB call_len_seq (by rfl) T.m_len (by decide +kernel) (pa_cons (pv 0) pa_nil)) pa_nil))) (pg_name (i := 3) sc_tables_in.nd rfl (Or.inl rfl))
 (pss_cons (ps_set (i := 4) sc_tables_in.nd rfl (Or.inl rfl) (by exact (pe_call GWa hrN rfl gWa kWa bWa .nil (passes_call (takes_of rfl rfl rfl rfl) fun _ _ _ _ h => h) (pa_cons (pv 0) (pa_cons (pv 3) pa_nil)))))
 (pss_one (ps_if (pt_cmpR op_eq (pe_ix ix_list (pv 4) pe_int (fun _ _ => rfl)) pe_str (nomark _)) (pss_cons (ps_expr (pe_call GCw hrN rfl gCw kCw bCw .nil (passes_call (takes_of rfl rfl rfl rfl) fun _ _ _ _ h => h) (pa_cons (pv 4) (pa_cons (pv 3) (pa_cons pe_int pa_nil)))))
 (pss_one (ps_expr (pe_bm PySem.F.plainAttrs_list PySem.F.slot_list_append PySem.F.type_list_append mt_append (pv 1) (pa_cons (pe_lst pa_nil) pa_nil))))) (pss_one (ps_if (pt_not (pt_truth (pv 1) (fun _ => rfl))) (pss_one (ps_raise rfl (takes_of rfl rfl rfl rfl) (pmk_x TE.iBadText (ok_BadText TE) hrE TE.bBadText (by decide) rfl TE.gBadText (mono_var (mono_c mono_nil)) (pa_cons (pv 3) (pa_cons pe_int pa_nil))))) (pss_one (ps_expr (pe_bm PySem.F.plainAttrs_list PySem.F.slot_list_append PySem.F.type_list_append mt_append (pe_ix ix_list (pv 1) (pe_un un_neg pe_int) (fun _ _ => rfl)) (pa_cons (pe_call GRi hrN rfl gRi kRi bRi .nil (passes_call (takes_of rfl rfl rfl rfl) fun _ _ _ _ h => h) (pa_cons (pv 4) (pa_cons (pv 3) (pa_cons (pv 2) pa_nil)))) pa_nil))))))))))
 (pss_one (ps_ret (pe_callTy call_tupP (by rfl) T.m_tuple (by decide +kernel) (pa_cons (pe_lc (own := [("table", 5)]) (g := (gName 5)) (tt := tYes) rfl sc_tables_in.nd (pi_list (pv 1)) (blkOk_by (N := N_tables_in) (sc := defScope s_tables_in) (by decide +kernel)) (fun _ _ _ _ _ => (pg_name (i := 5) sc_tables_in.nd rfl (Or.inl rfl))) (fun _ _ _ _ _ => pts_nil) (fun _ _ _ _ _ => (pe_callTy call_tupP (by rfl) T.m_tuple (by decide +kernel) (pa_cons (pv 5) pa_nil)))) pa_nil))))))), ?_⟩
    have sz : PySem.sizeLine = 16777216 := rfl
    refine ⟨(by show 0 ≤ PySem.sizeLine; decide), fun TT hTT => ?_⟩
    have y1 := Same.lay (o := .lst []) hTT
    refine fun DD hDD => ?_
    have y2 := Same.lay (o := .dK []) hDD
    have nTD : TT ≠ DD := ne_of_none (show (upd H TT (.lst [])) TT = some (.lst []) from upd_same) hDD
    have st0 : Tst H TT DD (ls.drop 1) 0 (upd (upd H TT (.lst [])) DD (.dK [])) [] [] := ⟨y2 _ _ upd_same, (fun _ h => nomatch h), List.nodup_nil, (fun _ h => nomatch h), fun _ _ z => y2 _ _ (y1 _ _ z), upd_same, (fun _ _ h => by cases h), Nat.le_refl _, rfl, rfl, Nat.le_refl _, fun _ h => nomatch h⟩
    have nHD : H DD = none := by
      cases e : H DD with
      | none => rfl
      | some o =>
        rw [y1 _ _ e] at hDD
        cases hDD
    generalize upd (upd H TT (.lst [])) DD (.dK []) = G0 at st0 ⊢
    clear y1 y2 hDD
    have hLD : L ≠ DD := ne_of_none hL nHD
    refine ⟨_, rfl, L, _, rfl, .inl (SqL.of (st0.same _ _ hL)), 1, _, rfl, ⟨by decide, by decide, by rw [List.length_map]; omega, by rw [List.length_map]; omega⟩, ?_⟩
    have en : (((ls.map V.str).length : Int) - 1).toNat = (ls.drop 1).length := by rw [List.length_map, List.length_drop]; omega
    rw [en]
    refine for_it walk_range (fun i σ G => ∃ (u3 u4 u5 : Option V) (ps : List (Addr × List (List Int))) (kv : List (Key × V)), σ = [some (.ref L), some (.ref TT), some (.ref DD), u3, u4, u5] ∧ Tst H TT DD (ls.drop 1) i G ps kv) ⟨none, none, none, [], [], rfl, st0⟩ (fun _ _ _ _ _ => trivial) ?_ ?_
    · rintro i v σ G G' hi ⟨u3, u4, u5, ps, kv, rfl, st⟩ ⟨rfl, rfl⟩
      obtain ⟨l, hl⟩ : ∃ l, (ls.drop 1)[i]? = some l := ⟨_, List.getElem?_eq_getElem hi⟩
      have hl2 : ls[1 + i]? = some l := by rw [← hl, List.getElem?_drop]
      have ml : l ∈ ls := List.mem_of_getElem? hl2
      have wl := hls l ml
      have edr : (ls.drop 1).drop i = l :: (ls.drop 1).drop (i + 1) := by
        rw [List.drop_eq_getElem_cons hi]
        congr 1
        rw [List.getElem?_eq_getElem hi] at hl
        exact Option.some.inj hl
      have hLG := st.same _ _ hL
      have le1 := st.err
      rw [edr] at le1
      rw [List.length_drop] at hi
      refine ⟨_, rfl, _, rfl, L, ls, 1 + i, rfl, SqL.of hLG, fun w hw => ?_, fun big => absurd big (by omega)⟩
      rw [hl2] at hw
      obtain rfl := Option.some.inj hw
      refine ⟨wl, fun W hW => ?_⟩
      have y1 := Same.lay (o := .lst ((wordsT l).map V.str)) hW
      have hW1 : (upd G' W (.lst ((wordsT l).map V.str))) W = some (.lst ((wordsT l).map V.str)) := upd_same
      have st1 : Tst H TT DD (ls.drop 1) i (upd G' W (.lst ((wordsT l).map V.str))) ps kv := ⟨y1 _ _ st.gT, fun p hp => (st.rows p hp).same y1, st.nd, st.fresh, fun _ _ z => y1 _ _ (st.same _ _ z), y1 _ _ st.gD, st.kn, st.lk, st.tabs, st.err, st.lps, st.rl⟩
      have nWT : W ≠ TT := (ne_of_none st.gT hW).symm
      have nWp : ∀ p ∈ ps, p.1 ≠ W := fun p hp => by
        obtain ⟨rs, _, h, _⟩ := st.rows p hp
        exact ne_of_none h hW
      refine (show gName 4 (V.ref W) _ (upd G' W (.lst ((wordsT l).map V.str))) _ from ?_)
      have nWH : H W = none := st.same.free hW
      generalize upd G' W (.lst ((wordsT l).map V.str)) = G1 at st1 hW1 ⊢
      clear y1 hW st hLG
      obtain ⟨w0, hw0⟩ : ∃ w, (wordsT l)[0]? = some w := ⟨_, List.getElem?_eq_getElem (words_pos l)⟩
      refine ⟨_, rfl, W, _, 0, .str w0, rfl, rfl, SqL.of hW1, atI_nat (j := 0) (by rw [List.getElem?_map, hw0]; rfl), rfl, _, rfl, ?_⟩
      have tk : (ls.drop 1).take (i + 1) = (ls.drop 1).take i ++ [l] := by rw [List.take_add_one, hl]; rfl
      by_cases ct : w0 = Str.ofString "table"
      · have it : isTab l = true := decide_eq_true (by rw [hw0, ct])
        rw [errL_cons, if_pos it] at le1
        refine ite_yes (by simp [ct]) ?_
        refine ⟨_, rfl, _, rfl, W, wordsT l, _, 1, rfl, SqL.of hW1, fun big => ?_, fun le => ?_⟩
        · rw [if_pos big] at le1
          exact (kE _ _ le1).same st1.same
        rw [if_neg (by omega)] at le1
        refine ⟨_, rfl, .inl ⟨rfl, _, SqL.of st1.gT⟩, (by show 0 ≤ PySem.sizeLine; decide), fun a0 ha0 => ?_⟩
        have y2 := Same.lay (o := .lst []) ha0
        have nat : a0 ≠ TT := (ne_of_none st1.gT ha0).symm
        have lps := st1.lps
        refine ⟨TT, _, _, rfl, rfl, y2 _ _ st1.gT, by rw [List.length_map, sz]; omega, _, _, _, ps ++ [(a0, [])], kv, rfl, ?_⟩
        have nTp : ∀ p ∈ ps, p.1 ≠ TT := fun p hp => (st1.fresh p hp).2
        have inG : ∀ {c : Addr} {o : HO}, c ≠ TT → G1 c = some o → (upd (upd G1 a0 (.lst [])) TT (.lst (ps.map (fun p => V.ref p.1) ++ [.ref a0]))) c = some o := fun n e => by
          rw [upd_ne n]
          exact y2 _ _ e
        have h0 : (upd (upd G1 a0 (.lst [])) TT (.lst (ps.map (fun p => V.ref p.1) ++ [.ref a0]))) a0 = some (.lst []) := by
          rw [upd_ne nat]
          exact upd_same
        refine ⟨by rw [upd_same, List.map_append]; rfl, fun p hp => ?_, ?_, fun p hp => ?_, fun c o z => inG (fun e => by rw [e, hTT] at z; cases z) (st1.same _ _ z), inG (fun e => nTD e.symm) st1.gD, st1.kn, by have := st1.lk; omega, ?_, ?_, by rw [List.length_append, List.length_singleton]; omega, fun p hp => by
          rcases List.mem_append.mp hp with hp | hp
          · have := st1.rl p hp
            omega
          · rw [List.mem_singleton.mp hp]
            exact Nat.zero_le _⟩
        · rcases List.mem_append.mp hp with hp | hp
          · obtain ⟨rs, e1, e2, e3⟩ := st1.rows p hp
            exact ⟨rs, e1, inG (nTp p hp) e2, fun r hr => inG (fun e => by
              have := e3 r hr
              rw [e, st1.gT] at this
              cases this) (e3 r hr)⟩
          · rw [List.mem_singleton.mp hp]
            exact ⟨[], rfl, h0, fun _ h => nomatch h⟩
        · rw [List.map_append]
          refine List.nodup_append.mpr ⟨st1.nd, List.nodup_cons.mpr ⟨List.not_mem_nil, List.nodup_nil⟩, fun a ha b hb => ?_⟩
          obtain ⟨p, hp, rfl⟩ := List.mem_map.mp ha
          rw [List.mem_singleton.mp hb]
          obtain ⟨rs, _, e2, _⟩ := st1.rows p hp
          exact ne_of_none e2 ha0
        · rcases List.mem_append.mp hp with hp | hp
          · exact st1.fresh p hp
          · rw [List.mem_singleton.mp hp]
            exact ⟨st1.same.free ha0, nat⟩
        · rw [List.map_append, st1.tabs, tk, tabsL_snoc]
          unfold stepT
          rw [if_pos it]
          rfl
        · rw [le1, show (!(ps ++ [(a0, ([] : List (List Int)))]).isEmpty) = true by cases ps <;> rfl]
          rfl
      · have it : ¬ isTab l = true := fun e => ct (by
          have := of_decide_eq_true e
          rw [hw0] at this
          exact Option.some.inj this)
        rw [errL_cons, if_neg it] at le1
        refine ite_no (by simp [ct]) ?_
        rcases List.eq_nil_or_concat ps with rfl | ⟨ps0, p1, rfl⟩
        · rw [if_pos (show (!([] : List (Addr × List (List Int))).isEmpty) = false from rfl)] at le1
          exact ⟨_, rfl, false, .inl ⟨_, SqL.of st1.gT, rfl⟩, iteT ⟨_, rfl, rfl, fun d H' hd s e => ((kE _ _ le1).same st1.same) d H' hd s e⟩⟩
        · rw [List.concat_eq_append] at st1 nWp le1
          have ne1 : (!(ps0 ++ [p1]).isEmpty) = true := by cases ps0 <;> rfl
          rw [ne1, if_neg Bool.false_ne_true.symm] at le1
          refine ⟨_, rfl, true, .inl ⟨_, SqL.of st1.gT, by rw [List.map_append]; cases ps0 <;> rfl⟩, iteF ?_⟩
          obtain ⟨rs, er, hr, hrs⟩ := st1.rows p1 (List.mem_append_right _ List.mem_cons_self)
          obtain ⟨nHa, naT⟩ := st1.fresh p1 (List.mem_append_right _ List.mem_cons_self)
          have naD : p1.1 ≠ DD := fun z => by
            rw [z, st1.gD] at hr
            cases hr
          have wlen : ∀ w ∈ wordsT l, w.length ≤ PySem.sizeLine := fun w hw => by
            have := PyProof.Rows.part_short (x := l) (y := " ") hw
            omega
          have lk := st1.lk
          refine ⟨_, rfl, _, rfl, TT, _, -1, .ref p1.1, rfl, rfl, SqL.of st1.gT, by rw [List.map_append]; exact atI_last _ _, .inl ⟨rfl, _, SqL.of hr⟩, _, rfl, _, rfl, _, rfl, W, DD, _, wordsT l, kv, rfl, hW1, wlen, st1.gD, st1.kn, by rw [List.length_drop] at *; omega, fun k hk d H' nd bt e => ?_, fun hk H' q kv' bt gD' kn' lk' hq => ?_⟩
          · rw [hk] at le1
            exact kE _ _ le1 d H' (st1.same.free nd) (fun c o z => bt c o (fun e => by rw [e, nHD] at z; cases z) (st1.same _ _ z)) e
          rw [hk] at le1
          have hr2 := bt _ _ naD hr
          have lr : rs.length ≤ i := by
            have := st1.rl p1 (List.mem_append_right _ List.mem_cons_self)
            rw [er, List.length_map] at this
            exact this
          have nq : q ≠ p1.1 := fun z => by
            rw [z, hr2] at hq
            cases hq
          have inG : ∀ {c : Addr} {o : HO}, c ≠ p1.1 → H' c = some o → (upd H' p1.1 (.lst (rs.map (fun r => V.ref r.1) ++ [.ref q]))) c = some o := fun n e => by
            rw [upd_ne n]
            exact e
          have ndp := st1.nd
          rw [List.map_append] at ndp
          obtain ⟨nd0, _, ndx⟩ := List.nodup_append.mp ndp
          refine ⟨p1.1, _, .ref q, rfl, rfl, hr2, by rw [List.length_map, sz]; omega, _, _, _, ps0 ++ [(p1.1, p1.2 ++ [rowOf (wordsT l)])], kv', rfl, ?_⟩
          refine ⟨?_, fun p hp => ?_, ?_, fun p hp => ?_, fun c o z => inG (fun e => by rw [e, nHa] at z; cases z) (bt c o (fun e => by rw [e, nHD] at z; cases z) (st1.same _ _ z)), inG naD.symm gD', kn', by omega, ?_, ?_, ?_, fun p hp => by
            rcases List.mem_append.mp hp with hp | hp
            · have := st1.rl p (List.mem_append_left _ hp)
              omega
            · rw [List.mem_singleton.mp hp, List.length_append, List.length_singleton, er, List.length_map]
              omega⟩
          · have e := st1.gT
            rw [inG naT.symm (bt _ _ nTD e), List.map_append, List.map_append]
            rfl
          · rcases List.mem_append.mp hp with hp | hp
            · obtain ⟨rs2, e1, e2, e3⟩ := st1.rows p (List.mem_append_left _ hp)
              have npa : p.1 ≠ p1.1 := ndx _ (List.mem_map.mpr ⟨p, hp, rfl⟩) _ List.mem_cons_self
              have npD : p.1 ≠ DD := fun z => by
                rw [z, st1.gD] at e2
                cases e2
              refine ⟨rs2, e1, inG npa (bt _ _ npD e2), fun r hr' => ?_⟩
              have e4 := e3 r hr'
              refine inG (fun e => ?_) (bt _ _ (fun e => ?_) e4)
              · rw [e, hr] at e4
                cases e4
              · rw [e, st1.gD] at e4
                cases e4
            · rw [List.mem_singleton.mp hp]
              refine ⟨rs ++ [(q, rowOf (wordsT l))], by rw [List.map_append, ← er]; rfl, by rw [upd_same, List.map_append]; rfl, fun r hr' => ?_⟩
              rcases List.mem_append.mp hr' with h' | h'
              · have e4 := hrs r h'
                refine inG (fun e => ?_) (bt _ _ (fun e => ?_) e4)
                · rw [e, hr] at e4
                  cases e4
                · rw [e, st1.gD] at e4
                  cases e4
              · rw [List.mem_singleton.mp h']
                exact inG nq hq
          · rw [List.map_append]
            exact ndp
          · rcases List.mem_append.mp hp with hp | hp
            · exact st1.fresh p (List.mem_append_left _ hp)
            · rw [List.mem_singleton.mp hp]
              exact ⟨nHa, naT⟩
          · have e := st1.tabs
            rw [List.map_append] at e
            rw [List.map_append, tk, tabsL_snoc, ← e]
            unfold stepT addLast
            rw [if_neg it]
            simp
          · rw [le1, show (!(ps0 ++ [(p1.1, p1.2 ++ [rowOf (wordsT l)])]).isEmpty) = true by cases ps0 <;> rfl]
            rfl
          · have := st1.lps
            rw [List.length_append, List.length_singleton] at this ⊢
            omega
    · rintro σ G ⟨u3, u4, u5, ps, kv, rfl, st⟩
      have htabs := st.tabs
      have herr := st.err
      rw [List.take_length] at htabs
      rw [List.drop_length] at herr
      have hT := st.gT
      have lps := st.lps
      rw [List.length_drop] at lps
      refine ⟨_, rfl, TT, rfl, ⟨_, SqL.of hT⟩, fun D hD => ?_⟩
      have vD := Same.lay (o := .lst []) hD
      have nD : ∀ {c : Addr} {o : HO}, G c = some o → c ≠ D := fun e => ne_of_none e hD
      refine lc_it (walk_list (xs := ps.map fun p => V.ref p.1)) (fun j G2 => But D (upd G D (.lst [])) G2 ∧ ∃ qs : List (Addr × List (List Int)), qs.map (·.2) = (ps.map (·.2)).take j ∧ G2 D = some (.lst (qs.map fun p => V.ref p.1)) ∧ ∀ p ∈ qs, RowsT G2 p.1 p.2) ⟨But.refl _ _, [], rfl, upd_same, fun _ h => nomatch h⟩ (fun i G2 _ h => SqL.of (h.1 _ _ (nD hT) (vD _ _ hT))) ?_ ?_
      · rintro j x G2 G3 hj ⟨bt, qs, e1, e2, e3⟩ ⟨rfl, hx⟩
        rw [List.getElem?_map] at hx
        obtain ⟨z, hz, rfl⟩ := Option.map_eq_some_iff.mp hx
        obtain ⟨rs, er, hr, hrs⟩ := st.rows z (List.mem_of_getElem? hz)
        have hr2 := bt _ _ (nD hr) (vD _ _ hr)
        rw [List.length_map] at hj
        have lq : qs.length = j := by
          have := congrArg List.length e1
          rw [List.length_map, List.length_take, List.length_map] at this
          omega
        refine ⟨rfl, _, rfl, z.1, _, rfl, .inl hr2, fun q G4 s4 hq => ⟨_, s4 _ _ e2, by rw [List.length_map, sz]; omega, ?_⟩⟩
        have nqD : q ≠ D := fun e => by
          have := s4 _ _ e2
          rw [← e, hq] at this
          cases this
        have inG : ∀ {c : Addr} {o : HO}, c ≠ D → G4 c = some o → (upd G4 D (.lst (qs.map (fun p => V.ref p.1) ++ [.ref q]))) c = some o := fun n e => by
          rw [upd_ne n]
          exact e
        have ntD : ∀ {c : Addr} {xs : List V}, G4 c = some (.tup xs) → c ≠ D := fun h e => by
          have := s4 _ _ e2
          rw [← e, h] at this
          cases this
        refine ⟨fun c o n z => inG n (s4 _ _ (bt c o n z)), qs ++ [(q, z.2)], ?_, by rw [upd_same, List.map_append]; rfl, fun p hp => ?_⟩
        · rw [List.map_append, e1, List.take_add_one, List.getElem?_map, hz]
          rfl
        · rcases List.mem_append.mp hp with hp | hp
          · obtain ⟨r2, a1, a2, a3⟩ := e3 p hp
            exact ⟨r2, a1, inG (ntD (s4 _ _ a2)) (s4 _ _ a2), fun r hr => inG (ntD (s4 _ _ (a3 r hr))) (s4 _ _ (a3 r hr))⟩
          · rw [List.mem_singleton.mp hp]
            exact ⟨rs, er, inG nqD hq, fun r hr => by
              have := s4 _ _ (bt _ _ (nD (hrs r hr)) (vD _ _ (hrs r hr)))
              exact inG (ntD this) this⟩
      · rintro G2 ⟨bt, qs, e1, e2, e3⟩
        rw [List.length_map, ← List.length_map (f := fun p : Addr × List (List Int) => p.2), List.take_length, htabs] at e1
        refine ⟨D, _, rfl, .inl e2, fun q G3 s3 hq => ?_⟩
        exact kQ (by rw [herr]; rfl) G3 q (fun c o z => s3 _ _ (bt c o (nD (st.same _ _ z)) (vD _ _ (st.same _ _ z)))) ⟨qs, e1.symm, hq, fun p hp => (e3 p hp).same s3⟩
end
end Toy
set_option maxRecDepth 100000
namespace Toy
open PySem L2 TL LamX ClX Dg
def head0 (ls : List Str) : List Str := wordsT (ls.headD Str.empty)
/-- the first line and word of a paper of units that cannot stand -/
def errU (ls : List Str) : Option (Nat × Nat) :=
  if (head0 ls)[0]? = some (Str.ofString "clash") then match dueN b4 ((head0 ls).drop 1) with
    | some k => some (0, k + 1)
    | none => if 1 < ls.length then some (1, 0) else none
  else if (head0 ls)[0]? = some (Str.ofString "free") then (if 1 < (head0 ls).length then some (0, 1) else errL false 1 (ls.drop 1)) else some (0, 0)
/-- what was read -/
def PapOf (CC CF : Addr) (H : Hp) (p : Addr) (ls : List Str) : Prop := (∃ a b i j : Nat, head0 ls = [Str.ofString "clash", numT a, numT b, numT i, numT j] ∧ a ≤ 10 ^ 40 ∧ b ≤ 10 ^ 40 ∧ i ≤ 15 ∧ j ≤ 15 ∧ ls.length = 1 ∧ ClashAt CC H p a b i j) ∨
  (head0 ls = [Str.ofString "free"] ∧ errL false 1 (ls.drop 1) = none ∧ FreeAt CF H p (tabsL (ls.drop 1)))
def spReadUnit (CW CC CF : Addr) (K : PySem.W.Frag) : Sp := fun vs H Q E => ∃ x, vs = [x] ∧ ((∃ a, x = .str a ∧ a.length + 2 ≤ PySem.sizeLine ∧ (linesT a).length ≤ 200000 ∧ (∀ k m : Nat, errU (linesT a) = some (k, m) → TextE CW H E (k : Nat) (m : Nat)) ∧
  (errU (linesT a) = none → ∀ H' p, Same H H' → PapOf CC CF H' p (linesT a) → Q (.ref p) H')) ∨ (NotStr K H x ∧ TextE CW H E 0 0))
section
variable {P : Program} {w : World} {K : PySem.W.Frag} {mg : Str → Option Value} {base : Heap} {CW CG uW uG CC CF : Addr} {fdW fdG : FuncData}
abbrev N_read_unit : List Str := ["text", "lines", "words", "paper"]
theorem sc_read_unit : FnScope N_read_unit ["text"] (defScope s_read_unit) := ⟨rfl, rfl, rfl, by decide +kernel, rfl, by decide +kernel, by decide +kernel⟩
theorem ok_read_unit {f fLo fWa fWi fCi fCn fCw fTi fFI : Addr} {fd fdLo fdWa fdWi fdCi fdCn fdCw fdTi fdFI : FuncData} (F : Fun K "read_unit" "read_unit" s_read_unit f fd) (T : TR mg) (TP : TPap K mg CC CF)
    (GLo : FnOk P w K mg base (L2.CX P w) 3 fLo fdLo ["text"] (spLinesOf CW K)) (gLo : mg "lines_of" = some (.ref fLo)) (kLo : PySem.W.keepIn K (.ref fLo) = true) (bLo : Binds K fdLo ["text"] [])
    (GWa : FnOk P w K mg base (L2.CX P w) 3 fWa fdWa ["lines", "line"] (spWordsAt CW K)) (gWa : mg "words_at" = some (.ref fWa)) (kWa : PySem.W.keepIn K (.ref fWa) = true) (bWa : Binds K fdWa ["lines", "line"] [])
    (GWi : FnOk P w K mg base (L2.CX P w) 3 fWi fdWi ["words", "line", "at", "choices"] (spWordIn CW K)) (gWi : mg "word_in" = some (.ref fWi)) (kWi : PySem.W.keepIn K (.ref fWi) = true) (bWi : Binds K fdWi ["words", "line", "at", "choices"] [])
    (GCi : FnOk P w K mg base (L2.CX P w) 4 fCi fdCi ["words"] (spClashIn CW CC)) (gCi : mg "clash_in" = some (.ref fCi)) (kCi : PySem.W.keepIn K (.ref fCi) = true) (bCi : Binds K fdCi ["words"] [])
    (GCn : FnOk P w K mg base (L2.CX P w) 3 fCn fdCn ["lines", "line"] (spNoLine CW K)) (gCn : mg "check_no_line" = some (.ref fCn)) (kCn : PySem.W.keepIn K (.ref fCn) = true) (bCn : Binds K fdCn ["lines", "line"] [])
    (GCw : FnOk P w K mg base (L2.CX P w) 3 fCw fdCw ["words", "line", "at"] (spNoWord CW K)) (gCw : mg "check_no_word" = some (.ref fCw)) (kCw : PySem.W.keepIn K (.ref fCw) = true) (bCw : Binds K fdCw ["words", "line", "at"] [])
    (GTi : FnOk P w K mg base (L2.CX P w) 4 fTi fdTi ["lines"] (spTablesIn CW)) (gTi : mg "tables_in" = some (.ref fTi)) (kTi : PySem.W.keepIn K (.ref fTi) = true) (bTi : Binds K fdTi ["lines"] [])
    (MFI : Mk K CF fFI) (GFI : FnOk P w K mg base CX0 1 fFI fdFI ["self", "tables"] (spFInit CF)) (bFI : Binds K fdFI ["self", "tables"] []) : FnOk P w K mg base (L2.CX P w) 5 f fd ["text"] (spReadUnit CW CC CF K) := by
  refine F.okX sc_read_unit (fun vs H Q E h => ?_) (fun cdv A outer s H vs Q E hr h => ?_)
  · obtain ⟨x, rfl, _⟩ := h
    rfl
  · obtain ⟨x, rfl, h⟩ := h
    have hrTi : Room 4 _ := hr
    have hrCi : Room 4 _ := hr
    have hrN : Room 3 _ := hr.mono (by decide)
    have hrM : Room 2 _ := hr.mono (by decide)
    refine ⟨_, (pss_cons (ps_set (i := 1) sc_read_unit.nd rfl (Or.inl rfl) (by exact (pe_call GLo hrN rfl gLo kLo bLo .nil (passes_call (takes_of rfl rfl rfl rfl) fun _ _ _ _ h => h) (pa_cons (pv 0) pa_nil))))
 (pss_cons (ps_set (i := 2) sc_read_unit.nd rfl (Or.inl rfl) (by exact (pe_call GWa hrN rfl gWa kWa bWa .nil (passes_call (takes_of rfl rfl rfl rfl) fun _ _ _ _ h => h) (pa_cons (pv 1) (pa_cons pe_int pa_nil)))))
 (pss_cons (ps_if (pt_cmpR op_eq (pe_call GWi hrN rfl gWi kWi bWi .nil (passes_call (takes_of rfl rfl rfl rfl) fun _ _ _ _ h => h) (pa_cons (pv 2) (pa_cons pe_int (pa_cons pe_int (pa_cons (pe_tup (pa_cons pe_str (pa_cons pe_str pa_nil))) pa_nil))))) pe_str (nomark _)) (pss_cons (ps_set (i := 3) sc_read_unit.nd rfl (Or.inl rfl) (by exact (pe_call GCi hrCi rfl gCi kCi bCi .nil (passes_call (takes_of rfl rfl rfl rfl) fun _ _ _ _ h => h) (pa_cons (pv 2) pa_nil))))
 (pss_cons (ps_expr (pe_call GCn hrN rfl gCn kCn bCn .nil (passes_call (takes_of rfl rfl rfl rfl) fun _ _ _ _ h => h) (pa_cons (pv 1) (pa_cons pe_int pa_nil))))
 (pss_one (ps_ret (pv 3))))) pss_nil)
 (pss_cons (ps_expr (pe_call GCw hrN rfl gCw kCw bCw .nil (passes_call (takes_of rfl rfl rfl rfl) fun _ _ _ _ h => h) (pa_cons (pv 2) (pa_cons pe_int (pa_cons pe_int pa_nil)))))
 (pss_one (ps_ret (pe_make MFI GFI hrM rfl TP.gF bFI .nil pass0 (pa_cons (pe_call GTi hrTi rfl gTi kTi bTi .nil (passes_call (takes_of rfl rfl rfl rfl) fun _ _ _ _ h => h) (pa_cons (pv 1) pa_nil)) pa_nil)))))))), ?_⟩
    have sz : PySem.sizeLine = 16777216 := rfl
    rcases h with ⟨a, rfl, la, ll, kE, kQ⟩ | ⟨ns, kE⟩
    rotate_left
    · exact ⟨_, rfl, x, rfl, .inr ⟨ns, kE⟩⟩
    refine ⟨_, rfl, .str a, rfl, .inl ⟨a, rfl, la, fun L hL => ?_⟩⟩
    have y1 := Same.lay (o := .lst ((linesT a).map V.str)) hL
    have hL1 : (upd H L (.lst ((linesT a).map V.str))) L = some (.lst ((linesT a).map V.str)) := upd_same
    refine (show gName 1 (V.ref L) _ (upd H L (.lst ((linesT a).map V.str))) _ from ?_)
    generalize upd H L (.lst ((linesT a).map V.str)) = H1 at y1 hL1 ⊢
    have lw : ∀ l ∈ linesT a, l.length + 2 ≤ PySem.sizeLine := fun l hl => by
      have := PyProof.Rows.part_short (x := a) (y := "\n") hl
      omega
    have lpos : 0 < (linesT a).length := PyProof.Rows.split_pos a "\n"
    generalize linesT a = ls at kE kQ hL1 lw lpos ll ⊢
    obtain ⟨l0, r, rfl⟩ : ∃ l0 r, ls = l0 :: r := by
      cases ls with
      | nil => exact absurd lpos (by decide)
      | cons x r => exact ⟨x, r, rfl⟩
    have w0 := lw l0 List.mem_cons_self
    refine ⟨_, rfl, L, _, 0, rfl, SqL.of hL1, fun w hw => ?_, fun le => absurd le (by rw [List.length_cons]; omega)⟩
    obtain rfl := Option.some.inj hw
    refine ⟨w0, fun W hW => ?_⟩
    have y2 := Same.lay (o := .lst ((wordsT l0).map V.str)) hW
    have hW2 : (upd H1 W (.lst ((wordsT l0).map V.str))) W = some (.lst ((wordsT l0).map V.str)) := upd_same
    have hL2 := y2 _ _ hL1
    have S2 : Same H (upd H1 W (.lst ((wordsT l0).map V.str))) := fun _ _ z => y2 _ _ (y1 _ _ z)
    refine (show gName 2 (V.ref W) _ (upd H1 W (.lst ((wordsT l0).map V.str))) _ from ?_)
    generalize upd H1 W (.lst ((wordsT l0).map V.str)) = H2 at hW2 hL2 S2 ⊢
    clear y1 y2 hL1 hW hL
    have wlen : ∀ w ∈ wordsT l0, w.length ≤ PySem.sizeLine := fun w hw => by
      have := PyProof.Rows.part_short (x := l0) (y := " ") hw
      omega
    obtain ⟨v0, hv0⟩ : ∃ w, (wordsT l0)[0]? = some w := ⟨_, List.getElem?_eq_getElem (words_pos l0)⟩
    have eh : head0 (l0 :: r) = wordsT l0 := rfl
    unfold errU at kE kQ
    rw [eh, hv0] at kE kQ
    refine ⟨_, rfl, (by show 2 ≤ PySem.sizeLine; decide), fun t ht => ?_⟩
    have y3 := Same.lay (o := .tup [V.str (Str.ofString "clash"), V.str (Str.ofString "free")]) ht
    have S3 : Same H (upd H2 t (.tup [V.str (Str.ofString "clash"), V.str (Str.ofString "free")])) := fun _ _ z => y3 _ _ (S2 _ _ z)
    refine ⟨W, t, wordsT l0, [Str.ofString "clash", Str.ofString "free"], 0, 0, rfl, SqL.of (y3 _ _ hW2), SqT.of upd_same, fun w hw mem => ?_, fun nm => ?_⟩
    rotate_left
    · have n0 := nm v0 hv0
      rw [if_neg (fun z => n0 (by rw [Option.some.inj z]; exact List.mem_cons_self)), if_neg (fun z => n0 (by rw [Option.some.inj z]; exact List.mem_cons_of_mem _ List.mem_cons_self))] at kE
      exact (kE 0 0 rfl).same S3
    have hW3 := y3 _ _ hW2
    have hL3 := y3 _ _ hL2
    generalize upd H2 t (.tup [V.str (Str.ofString "clash"), V.str (Str.ofString "free")]) = H3 at S3 hW3 hL3 ⊢
    rw [hv0] at hw
    obtain rfl := Option.some.inj hw
    clear y3 ht hW2 hL2 S2
    by_cases c : v0 = Str.ofString "clash"
    · rw [if_pos (congrArg some c)] at kE kQ
      refine ⟨rfl, _, rfl, ite_yes (by simp [c]) ?_⟩
      refine ⟨_, rfl, W, wordsT l0, rfl, hW3, wlen, fun k hk => ?_, fun hn a' b' i' j' ed ha hb hi hj H4 p s4 cp => ?_⟩
      · rw [hk] at kE
        exact (kE 0 (k + 1) rfl).same S3
      rw [hn] at kE kQ
      have S4 : Same H H4 := fun _ _ z => s4 _ _ (S3 _ _ z)
      refine ⟨_, rfl, L, l0 :: r, 1, rfl, SqL.of (s4 _ _ hL3), fun big => ?_, fun le => ?_⟩
      · dsimp only at kE
        rw [if_pos big] at kE
        exact (kE 1 0 rfl).same S4
      · dsimp only at kQ
        rw [if_neg (by omega)] at kQ
        refine ⟨_, rfl, kQ rfl H4 p S4 (.inl ⟨a', b', i', j', ?_, ha, hb, hi, hj, by omega, cp⟩)⟩
        rw [eh]
        cases ew : wordsT l0 with
        | nil =>
          rw [ew] at hv0
          cases hv0
        | cons x ws =>
          rw [ew] at hv0 ed
          rw [← c, ← Option.some.inj hv0]
          exact congrArg (List.cons x) ed
    · have cf : v0 = Str.ofString "free" := by
        rcases List.mem_cons.mp mem with h | h
        · exact absurd h c
        · exact List.mem_singleton.mp h
      rw [if_neg (fun z => c (Option.some.inj z)), if_pos (congrArg some cf)] at kE kQ
      refine ⟨rfl, _, rfl, ite_no (by simp [c]) ?_⟩
      refine ⟨_, rfl, W, wordsT l0, 0, 1, rfl, SqL.of hW3, fun big => ?_, fun le => ?_⟩
      · rw [if_pos big] at kE
        exact (kE 0 1 rfl).same S3
      rw [if_neg (by omega)] at kE kQ
      refine ⟨_, rfl, L, l0 :: r, rfl, hL3, lw, ll, fun k m hk => (kE k m hk).same S3, fun hn H4 q s4 ht => ?_⟩
      refine fun x dx nx ndx ne => ⟨x, dx, _, rfl, upd_same, rfl, ?_⟩
      have S4 : Same H H4 := fun _ _ z => s4 _ _ (S3 _ _ z)
      have S5 : Same H4 (upd (upd (upd H4 dx (.own x)) x (.ins CF dx [])) x (.ins CF dx [("tables", .ref q)])) := fun b o z => by
        rw [upd_ne (ne_of_none z nx), upd_ne (ne_of_none z nx), upd_ne (ne_of_none z ndx)]
        exact z
      refine kQ hn _ x (fun _ _ z => S5 _ _ (S4 _ _ z)) (.inr ⟨?_, hn, dx, q, upd_same, ht.same S5⟩)
      rw [eh]
      have l1 := words_pos l0
      match ew : wordsT l0, hv0 with
      | [x], hv0 => rw [← cf, ← Option.some.inj hv0]
      | x :: y :: ws, _ =>
        rw [ew] at le
        simp at le
end
end Toy
set_option maxRecDepth 100000
namespace Toy
open PySem L2 TL LamX
abbrev s__law_heard : Stmt := top 44
theorem dat_same {H H' : Hp} {v : V} {d : PyData} (s : Same H H') (h : Dat0 H v d) : Dat0 H' v d := by
  cases h with
  | non => exact .non
  | bl b => exact .bl b
  | int i => exact .int i
  | str z => exact .str z
  | tup e => exact .tup (s _ _ e)
  | lst e n => exact .lst (s _ _ e) n
  | dct e => exact .dct (s _ _ e)
/-- plain data, the empty dict too -/
inductive Dat1 (H : Hp) : V → PyData → Prop where
  | d0 {v : V} {d : PyData} (h : Dat0 H v d) : Dat1 H v d
  | emp {a : Addr} (e : H a = some (.dK [])) : Dat1 H (.ref a) (.dict [])
theorem dat_same1 {H H' : Hp} {v : V} {d : PyData} (s : Same H H') (h : Dat1 H v d) : Dat1 H' v d := by
  cases h with
  | d0 h => exact .d0 (dat_same s h)
  | emp e => exact .emp (s _ _ e)
theorem Dat1.rd {X : Cx} {H : Hp} {v : V} {d : PyData} (h : Dat1 H v d) : RdS X H v d := by
  cases h with
  | d0 h => exact h.rd
  | @emp a e =>
    intro pins σ s u I r
    obtain rfl : u = Value.ref a := r
    obtain ⟨_, sm, vs, kv, o, es, ep, ho, ex, hd, kk, pr, _⟩ := dk_of I.hok e
    cases kv
    have e0 : es.toList = [] := by
      generalize es.toList = l at pr
      cases pr
      rfl
    have h1 : ReadsAll s.heap (es.toList.map (·.key)) [] [] := by
      rw [e0]
      exact .nil
    have h2 : ReadsAll s.heap (es.toList.map (·.val)) [] [] := by
      rw [e0]
      exact .nil
    refine ⟨_, Reads.dict (kvs := []) ho ex.1 hd h1 h2, fun m => ?_⟩
    have e1 : sysModules = a := by simpa using m
    rw [← e1] at sm
    exact absurd sm (by decide)


/-- how the law tells what it caught: by the error's class -/
structure THeard (K : PySem.W.Frag) (mg : Str → Option Value) (CW B : Addr) : Prop where
  gB : mg "BankError" = some (.ref B)
  gW : mg "BadText" = some (.ref CW)
  gR : ∃ c, mg "BadRule" = some (.ref c)
  gU : ∃ c, mg "BadUnit" = some (.ref c)
  gG : ∃ c, mg "BadLog" = some (.ref c)
  gS : ∃ c, mg "BadSet" = some (.ref c)
  xW : XvC K CW
  nWd : PySem.W.findIn K (.ref CW) "word" = some none
  nLn : PySem.W.findIn K (.ref CW) "line" = some none
  eW : PySem.W.exmOne K (.ref CW) (.ref B) = some true
  kWW : PySem.W.kitOne K (.ref CW) (.ref CW) = some true
  m_isinstance : mg "isinstance" = none
  m_repr : mg "repr" = none
/-- a value that repr shows, as the text z -/
def Shows (H : Hp) (v : V) (z : Str) : Prop := ∃ d, Dat1 H v d ∧ d.showable = true ∧ d.depth ≤ 20 ∧ d.shown.length ≤ PySem.sizeLine ∧ d.shown = z
theorem Shows.same {H H' : Hp} {v : V} {z : Str} (s : Same H H') (h : Shows H v z) : Shows H' v z :=
  let ⟨d, h1, h2⟩ := h
  ⟨d, dat_same1 s h1, h2⟩
/-- what is told of what was caught -/
def Told (CW : Addr) (H : Hp) (cls : Value) (d : Option Addr) (xs : List V) : Prop := ∃ dd, d = some dd ∧ cls = .ref CW ∧ ∃ (v u : V) (z y : Str), H dd = some (.xd [("word", v), ("line", u)]) ∧ Shows H u z ∧ Shows H v y ∧ xs = [.str "text", .str z, .str y]
def TTH (CW : Addr) : (XK → Hp → VK → Prop) → Hp → VK → Prop := fun tl H Q =>
  tl (fun cls d H' => ∃ xs, Told CW H' cls d xs ∧ ∀ H'' p, Same H' H'' → H'' p = some (.tup xs) → Q (.ref p) H'') H (fun v H' => [v].length ≤ PySem.sizeLine ∧ ∀ p, H' p = none → Q (.ref p) (upd H' p (.lst [v])))
abbrev N__law_heard : List Str := ["_law_ask", "_law_caught", "error"]
theorem sc__law_heard : FnScope N__law_heard ["_law_ask"] (defScope s__law_heard) := ⟨rfl, rfl, rfl, by decide +kernel, rfl, by decide +kernel, by decide +kernel⟩
theorem heard_gives {X : Cx} {k : Nat} {g : Addr} {cdg : Value} {q : Str} {CW B : Addr} (T : THeard X.K X.mg CW B) (hr : Room (k + 2) X.A) (hgd : X.A.guards = some []) :
    GivesTo X N__law_heard "_law_heard" (defScope s__law_heard) g cdg (defBody s__law_heard) "_law_ask" q (TTH CW) := by
  intro f c' s H Q tl act hc h
  have gd : (cxOf C8.CX0 X.prog X.w X.K X.mg X.base N__law_heard "_law_heard" (defScope s__law_heard) g cdg X.A X.stack s H C8.E0).nox.A.guards = some [] := hgd
  have hr' : Room (k + 1) (cxOf C8.CX0 X.prog X.w X.K X.mg X.base N__law_heard "_law_heard" (defScope s__law_heard) g cdg X.A X.stack s H C8.E0).nox.A := hr.deeper _
  obtain ⟨CR, gR⟩ := T.gR
  obtain ⟨CU, gU⟩ := T.gU
  obtain ⟨CG, gG⟩ := T.gG
  obtain ⟨CS, gS⟩ := T.gS
  refine ⟨_, (pss_cons (ps_set (i := 1) sc__law_heard.nd rfl (Or.inl rfl) pe_non)
 (pss_cons (ps_try_keep (i := 2) (c := .ref B) (tb := fun W D σ H => ∃ Ech : XK, (∀ cls d σ' H', Ech cls d H' → W cls d σ' H') ∧ σ[0]? = some (some (.ref f)) ∧ H c' = some (CodeO c' q) ∧ tl Ech H (fun v H' => [v].length ≤ PySem.sizeLine ∧ ∀ p, H' p = none → D.rt (.ref p) (upd H' p (.lst [v])))) rfl rfl sc__law_heard.nd rfl rfl ⟨rfl, by decide, .inl T.gB⟩ L2.takes0 rfl (fun W pn xe tk _ => ?_) (fun a oe cls d pn _ _ => pss_one (ps_set (i := 1) sc__law_heard.nd rfl (Or.inl rfl) (pv 2))))
 (pss_cons (ps_if (pt_val (pe_callB call_isz (by rfl) T.m_isinstance (by decide +kernel) (pa_cons (pv 1) (pa_cons (pe_glob (v := .ref CW) rfl T.gW rfl) pa_nil)))) (pss_one (ps_ret (pe_tup (pa_cons pe_str (pa_cons (pe_callB (call_reprG gd hr'.units) (by rfl) T.m_repr (by decide +kernel) (pa_cons (pe_zat (pv 1)) pa_nil)) (pa_cons (pe_callB (call_reprG gd hr'.units) (by rfl) T.m_repr (by decide +kernel) (pa_cons (pe_zat (pv 1)) pa_nil)) pa_nil)))))) pss_nil)
 (pss_cons (ps_if (pt_val (pe_callB call_isz (by rfl) T.m_isinstance (by decide +kernel) (pa_cons (pv 1) (pa_cons (pe_glob (v := .ref CR) rfl gR rfl) pa_nil)))) (pss_one (ps_ret (pe_tup (pa_cons pe_str (pa_cons (pe_zat (pv 1)) pa_nil))))) pss_nil)
 (pss_cons (ps_if (pt_val (pe_callB call_isz (by rfl) T.m_isinstance (by decide +kernel) (pa_cons (pv 1) (pa_cons (pe_glob (v := .ref CU) rfl gU rfl) pa_nil)))) (pss_one (ps_ret (pe_tup (pa_cons pe_str (pa_cons (pe_zat (pv 1)) pa_nil))))) pss_nil)
 (pss_cons (ps_if (pt_val (pe_callB call_isz (by rfl) T.m_isinstance (by decide +kernel) (pa_cons (pv 1) (pa_cons (pe_glob (v := .ref CG) rfl gG rfl) pa_nil)))) (pss_one (ps_ret (pe_tup (pa_cons pe_str (pa_cons (pe_zat (pv 1)) pa_nil))))) pss_nil)
 (pss_one (ps_ret (pe_ifExp (pt_val (pe_callB call_isz (by rfl) T.m_isinstance (by decide +kernel) (pa_cons (pv 1) (pa_cons (pe_glob (v := .ref CS) rfl gS rfl) pa_nil)))) (pe_tup (pa_cons pe_str (pa_cons (pe_zat (pv 1)) pa_nil))) (pe_tup (pa_cons pe_str pa_nil))))))))))), ?_⟩
  · refine ⟨fun pins s' σ G D I h' => ?_⟩
    obtain ⟨Ech, hW, h1, h2, h3⟩ := h'
    exact (pss_one (ps_ret (pe_lst (pa_cons (act W pn xe Ech _ _ tk hW) pa_nil)))).run pins s' σ G D I ⟨h1, h2, h3⟩
  · refine ⟨_, fun cls d σ' G e => ?_, rfl, hc, h⟩
    obtain ⟨xs, ⟨dd, rfl, hT⟩, hq⟩ := e
    have shape : σ'.length = 3 → ∃ w0 w1 w2, σ' = [w0, w1, w2] := fun hl => by
      match σ', hl with
      | [w0, w1, w2], _ => exact ⟨w0, w1, w2, rfl⟩
    obtain ⟨rfl, v, u, z, y, hd, hu, hv, rfl⟩ := hT
    refine ⟨true, T.eW, fun _ hl a na => ?_, fun z => nomatch z⟩
    obtain ⟨w0, w1, w2, rfl⟩ := shape hl
    have s1 : Same G (upd G a (exz a (.ref CW) (some dd))) := Same.lay na
    have c1 : Caught (upd G a (exz a (.ref CW) (some dd))) a CW [("word", v), ("line", u)] := ⟨dd, upd_same, s1 _ _ hd⟩
    obtain ⟨du, u4, u5, u6, u7, rfl⟩ := hu
    obtain ⟨dv, v4, v5, v6, v7, rfl⟩ := hv
    refine ⟨_, rfl, _, rfl, a, CW, _, _, _, true, rfl, c1, T.xW, .own _, T.kWW, _, rfl, ?_⟩
    exact iteT ⟨_, rfl, a, CW, _, u, rfl, c1, T.xW, T.nLn, rfl, u, du, rfl, (dat_same1 s1 u4).rd.v, u5, u6, u7, _, rfl, a, CW, _, v, rfl, c1, T.xW, T.nWd, rfl, v, dv, rfl, (dat_same1 s1 v4).rd.v, v5, v6, v7, (by show 3 ≤ PySem.sizeLine; decide), fun t ht => hq _ t (fun _ _ z => Same.lay ht _ _ (s1 _ _ z)) upd_same⟩
end Toy
set_option maxRecDepth 100000
namespace Toy
open PySem L2 TL LamX
abbrev s__law_is_number : Stmt := top 45
abbrev s__law_numbers_due : Stmt := top 46
/-! texts that lists of them can hold -/
def OkS (w : Str) : Prop := (∀ c ∈ tl w, c < 1114112) ∧ w.length ≤ 100000
theorem okS_str {w : Str} (h : OkS w) : PyData.strOk w = true := by
  unfold PyData.strOk
  rw [← Array.all_toList]
  exact List.all_eq_true.mpr fun c hc => decide_eq_true (h.1 c hc)
theorem lay_strs : ∀ {ws : List Str}, (∀ w ∈ ws, ∀ c ∈ tl w, c < 1114112) → PyData.canLayAll0 (ws.map PyData.str) = true ∧ PyData.depthAll (ws.map PyData.str) = 0
  | [], _ => ⟨rfl, rfl⟩
  | w :: r, h => by
    have ih := lay_strs fun u hu => h u (List.mem_cons_of_mem _ hu)
    have z : PyData.strOk w = true := by
      unfold PyData.strOk
      rw [← Array.all_toList]
      exact List.all_eq_true.mpr fun c hc => decide_eq_true (h w List.mem_cons_self c hc)
    exact ⟨by simp [PyData.canLayAll0, PyData.canLay0, ih.1, z], by simp [PyData.depthAll, PyData.depth, ih.2]⟩
theorem shaped_strs {ws : List Str} (h : ∀ w ∈ ws, ∀ c ∈ tl w, c < 1114112) : SeqAt.shaped (.list (ws.map PyData.str)) = true := by
  have z := lay_strs h
  simp [SeqAt.shaped, PyData.canLay0, PyData.depth, z]
theorem dp_strs {K : PySem.W.Frag} {H : Hp} : ∀ ws : List Str, DpAll K H (ws.map V.str) (ws.map PyData.str)
  | [] => .nil
  | w :: r => .cons (.str w) (dp_strs r)
/-- the signs that are no digits -/
def odds (cs : List Nat) : List Str := (cs.filter fun c => !decide (48 ≤ c ∧ c ≤ 57)).map fun c => ⟨#[c]⟩
theorem odds_nil {w : Str} : odds (tl w) = [] ↔ digB w = true := by
  unfold odds digB
  rw [List.map_eq_nil_iff, List.filter_eq_nil_iff, List.all_eq_true]
  constructor
  · intro h c hc
    have := h c hc
    cases e : decide (48 ≤ c ∧ c ≤ 57) with
    | true => rfl
    | false =>
      rw [e] at this
      exact absurd rfl this
  · intro h c hc
    rw [h c hc]
    decide
theorem odds_ok {w : Str} (h : OkS w) : ∀ u ∈ odds (tl w), ∀ c ∈ tl u, c < 1114112 := fun u hu c hc => by
  obtain ⟨x, hx, rfl⟩ := List.mem_map.mp hu
  have e : c = x := List.mem_singleton.mp hc
  rw [e]
  exact h.1 x (List.mem_filter.mp hx).1

def spIsNum : Sp := fun vs H Q _ => ∃ (w : Str) (most : Nat), vs = [.str w, .int 0, .int (most : Nat)] ∧ OkS w ∧ most ≤ 10 ^ 40 ∧ ∀ H', Same H H' → Q (.bl (numW most w).isSome) H'
theorem num41 {n : Nat} (h : n ≤ 10 ^ 40) : (numT n).length ≤ 41 := by
  rw [len_numT]
  exact numL_len (by decide) (Nat.lt_of_le_of_lt h (by decide +kernel))
theorem numW_long {w : Str} {most : Nat} (hm : most ≤ 10 ^ 40) (h : ¬ (1 ≤ w.length ∧ w.length ≤ 41)) : numW most w = none := numW_none fun n hn e => by
  have h1 := pos_numT n
  have h2 := num41 (Nat.le_trans hn hm)
  rw [e] at h
  omega
theorem numW_odd {w : Str} {most : Nat} (h : digB w = false) : numW most w = none := numW_none fun n hn e => by
  rw [e, digB_num] at h
  cases h
/-- what the law's reading of numbers returns -/
def dueV : Option Nat → V
  | some k => .int ((k : Nat) : Int)
  | none => .non
def spNumsDue : Sp := fun vs H Q _ => ∃ (W B : Addr) (ws : List Str) (bs : List Nat), vs = [.ref W, .ref B] ∧ H W = some (.lst (ws.map V.str)) ∧ H B = some (.lst (bs.map fun b => V.int ((b : Nat) : Int))) ∧ (∀ w ∈ ws, OkS w) ∧ (∀ b ∈ bs, b ≤ 10 ^ 40) ∧ bs.length ≤ 1000 ∧ ∀ H', Same H H' → Q (dueV (dueN bs ws)) H'
section
variable {P : Program} {w : World} {K : PySem.W.Frag} {mg : Str → Option Value} {base : Heap}
abbrev N__law_is_number : List Str := ["_law_word", "_law_least", "_law_most", "_law_sign"]
theorem sc__law_is_number : FnScope N__law_is_number ["_law_word", "_law_least", "_law_most"] (defScope s__law_is_number) := ⟨rfl, rfl, rfl, by decide +kernel, rfl, by decide +kernel, by decide +kernel⟩
theorem ok__law_is_number {f : Addr} {fd : FuncData} (F : Fun K "_law_is_number" "_law_is_number" s__law_is_number f fd) (T : TR mg) : FnOk P w K mg base CX0 1 f fd ["_law_word", "_law_least", "_law_most"] spIsNum := by
  refine F.ok sc__law_is_number (fun vs H Q E h => ?_) (fun cdv A outer s H vs Q E hr h => ?_)
  · obtain ⟨w, most, rfl, _⟩ := h
    rfl
  · obtain ⟨wd, most, rfl, okw, hm, k⟩ := h
    refine ⟨_, (pss_cons (ps_if (PW.pt (pw_or (pt_not (pt_chain op_le op_le pe_int (pe_callB call_len_str (by rfl) T.m_len (by decide +kernel) (pa_cons (pv 0) pa_nil)) pe_int)) (pw_or1 (pt_cmpR (op_neD hr.units) (pe_lc (own := [("_law_sign", 3)]) (g := (gName 3)) rfl sc__law_is_number.nd (pi_str (pv 0)) (blkOk_by (N := N__law_is_number) (sc := defScope s__law_is_number) (by decide +kernel)) (fun _ _ _ _ _ => (pg_name (i := 3) sc__law_is_number.nd rfl (Or.inl rfl))) (fun _ _ _ _ _ => (pts_one (pt_cmpR op_notIn_sign (pv 3) pe_str (by rfl)))) (fun _ _ _ _ _ => (pv 3))) (pe_lst pa_nil) (nomark _))))) (pss_one (ps_ret pe_bl)) pss_nil)
 (pss_one (ps_ret (pe_and (pe_cmpR op_eq (pe_callTy call_str_int (by rfl) T.m_str (by decide +kernel) (pa_cons (pe_callTy call_int_str (by rfl) T.m_int (by decide +kernel) (pa_cons (pv 0) pa_nil)) pa_nil)) (pv 0) (nomark _)) (pe_one (pe_chain op_le op_le (pv 1) (pe_callTy call_int_str (by rfl) T.m_int (by decide +kernel) (pa_cons (pv 0) pa_nil)) (pv 2))))))), ?_⟩
    have sz0 : PySem.sizeLine = 16777216 := rfl
    have lw := okw.2
    have bad : ∀ G, Same H G → numW most wd = none → Q (.bl false) G := fun G s e => by
      have z := k G s
      rw [e] at z
      exact z
    refine ⟨_, rfl, wd, rfl, by omega, _, _, rfl, rfl, _, rfl, ?_⟩
    refine ite2 (fun c1 => ?_) (fun c1 => ?_)
    rotate_left
    · exact ⟨_, rfl, iteT (iteT (bad H (Same.refl H) (numW_long hm fun z => c1 (decide_eq_true (by omega)))))⟩
    have c1' : (1 : Int) ≤ ((wd.length : Nat) : Int) := of_decide_eq_true c1
    refine ⟨_, _, rfl, rfl, _, rfl, ?_⟩
    by_cases c41 : wd.length ≤ 41
    rotate_left
    · rw [decide_eq_false (show ¬ ((wd.length : Nat) : Int) ≤ 41 by omega)]
      exact iteT (iteT (bad H (Same.refl H) (numW_long hm fun z => c41 z.2)))
    rw [decide_eq_true (show ((wd.length : Nat) : Int) ≤ 41 by omega)]
    refine iteF ⟨_, rfl, wd, rfl, fun D hD => ?_⟩
    have sz : wd.cps.size = (tl wd).length := Array.length_toList.symm
    refine lc_it walk_str (fun j G3 => G3 = upd H D (.lst ((odds ((tl wd).take j)).map V.str))) rfl (fun _ _ _ _ => trivial) ?_ ?_
    · rintro j x G3 G4 hj rfl ⟨rfl, c, hc, rfl⟩
      have hc2 : (tl wd)[j]? = some c := by
        show wd.cps.toList[j]? = _
        rw [Array.getElem?_toList]
        exact hc
      refine ⟨rfl, _, rfl, c, _, rfl, rfl, _, rfl, ?_⟩
      rw [dig_in]
      have ot : odds ((tl wd).take (j + 1)) = if (!decide (48 ≤ c ∧ c ≤ 57)) = true then odds ((tl wd).take j) ++ [⟨#[c]⟩] else odds ((tl wd).take j) := by
        rw [List.take_add_one, hc2]
        unfold odds
        rw [List.filter_append, List.map_append]
        by_cases h : 48 ≤ c ∧ c ≤ 57
        · simp [h]
        · have h2 : c < 48 ∨ 57 < c := by omega
          rw [show decide (48 ≤ c ∧ c ≤ 57) = false from decide_eq_false h]
          simp [h2]
      rw [ot]
      cases c2 : (!decide (48 ≤ c ∧ c ≤ 57)) with
      | true =>
        refine iteT ⟨_, rfl, _, upd_same, ?_, ?_⟩
        · have l1 : (odds ((tl wd).take j)).length ≤ wd.length := by
            unfold odds
            rw [List.length_map, len_tl]
            exact Nat.le_trans (List.length_filter_le ..) (by rw [List.length_take]; omega)
          rw [List.length_map]
          omega
        · rw [upd_upd, if_pos rfl, List.map_append]
          rfl
      | false =>
        refine iteF ?_
        rw [if_neg Bool.false_ne_true]
    rintro G3 rfl
    rw [sz, List.take_length]
    have s3 := Same.lay (o := .lst ((odds (tl wd)).map V.str)) hD
    refine ⟨(by show 0 ≤ PySem.sizeLine; decide), fun E1 hE1 => ?_⟩
    have y1 := Same.lay (o := .lst []) hE1
    have s4 : Same H (upd (upd H D (.lst ((odds (tl wd)).map V.str))) E1 (.lst [])) := fun _ _ z => y1 _ _ (s3 _ _ z)
    refine ⟨.list ((odds (tl wd)).map .str), .list [], .lst (SqL.of (y1 _ _ upd_same)) (dp_strs _), .lst (SqL.of upd_same) .nil, shaped_strs (odds_ok okw), rfl, _, rfl, ?_⟩
    cases c3 : digB wd with
    | false =>
      have ne : odds (tl wd) ≠ [] := fun z => by
        rw [odds_nil.mp z] at c3
        cases c3
      have e : (!PyData.eqv (.list ((odds (tl wd)).map .str)) (.list [])) = true := by
        cases h : odds (tl wd) with
        | nil => exact absurd h ne
        | cons _ _ => rfl
      rw [e]
      exact iteT (bad _ s4 (numW_odd c3))
    | true =>
      have e : (!PyData.eqv (.list ((odds (tl wd)).map .str)) (.list [])) = false := by
        rw [odds_nil.mpr c3]
        rfl
      rw [e]
      have w1 : 1 ≤ wd.length := by omega
      have v41 : valT wd < 10 ^ 41 := Nat.lt_of_lt_of_le (valT_lt c3) (Nat.pow_le_pow_right (by decide) c41)
      refine iteF ⟨_, rfl, wd, _, rfl, int_dig c3 w1 (by omega), by omega, _, rfl, log_small (Nat.lt_trans v41 (by decide +kernel)), _, rfl, rfl, _, rfl, ?_⟩
      have kk := k _ s4
      by_cases c5 : numT (valT wd) = wd
      · rw [show decide (V.str (Str.ofString (toString ((valT wd : Nat) : Int))) = V.str wd) = true from decide_eq_true (congrArg V.str c5)]
        refine iteT ⟨_, rfl, _, rfl, wd, _, rfl, int_dig c3 w1 (by omega), by omega, _, _, rfl, rfl, _, rfl, ?_⟩
        rw [decide_eq_true (show (0 : Int) ≤ ((valT wd : Nat) : Int) by omega)]
        refine iteT ⟨_, rfl, _, _, rfl, rfl, ?_⟩
        show Q (.bl (decide (((valT wd : Nat) : Int) ≤ ((most : Nat) : Int)))) _
        by_cases c6 : valT wd ≤ most
        · have en : numW most wd = some (valT wd) := numW_eq.mpr ⟨c5.symm, c6⟩
          rw [en] at kk
          rw [decide_eq_true (show ((valT wd : Nat) : Int) ≤ ((most : Nat) : Int) by omega)]
          exact kk
        · rw [decide_eq_false (show ¬ ((valT wd : Nat) : Int) ≤ ((most : Nat) : Int) by omega)]
          refine bad _ s4 (numW_none fun n hn z => c6 ?_)
          rw [z, valT_num]
          exact hn
      · rw [show decide (V.str (Str.ofString (toString ((valT wd : Nat) : Int))) = V.str wd) = false from decide_eq_false (fun z => c5 (V.str.inj z))]
        exact iteF (bad _ s4 (numW_none fun n hn z => c5 (by rw [z, valT_num])))
abbrev N__law_numbers_due : List Str := ["_law_words", "_law_bounds", "_law_at"]
theorem sc__law_numbers_due : FnScope N__law_numbers_due ["_law_words", "_law_bounds"] (defScope s__law_numbers_due) := ⟨rfl, rfl, rfl, by decide +kernel, rfl, by decide +kernel, by decide +kernel⟩
theorem ok__law_numbers_due {f fIn : Addr} {fd fdIn : FuncData} (F : Fun K "_law_numbers_due" "_law_numbers_due" s__law_numbers_due f fd) (T : TR mg)
    (GIn : FnOk P w K mg base CX0 1 fIn fdIn ["_law_word", "_law_least", "_law_most"] spIsNum) (gIn : mg "_law_is_number" = some (.ref fIn)) (kIn : PySem.W.keepIn K (.ref fIn) = true) (bIn : Binds K fdIn ["_law_word", "_law_least", "_law_most"] []) : FnOk P w K mg base CX0 2 f fd ["_law_words", "_law_bounds"] spNumsDue := by
  refine F.ok sc__law_numbers_due (fun vs H Q E h => ?_) (fun cdv A outer s H vs Q E hrD1 h => ?_)
  · obtain ⟨W, B, ws, bs, rfl, _⟩ := h
    rfl
  · obtain ⟨W, B, ws, bs, rfl, hW, hB, okw, hbs, lb, k⟩ := h
    refine ⟨_, (pss_cons (ps_for PassesOwn.never rfl (pi_range1 rfl T.m_range (pa_cons (pe_callB call_len_seq (by rfl) T.m_len (by decide +kernel) (pa_cons (pv 1) pa_nil)) pa_nil)) (pg_name (i := 2) sc__law_numbers_due.nd rfl (Or.inl rfl))
 (pss_one (ps_if (PW.pt (pw_or (pt_cmpR op_ge (pv 2) (pe_callB call_len_seq (by rfl) T.m_len (by decide +kernel) (pa_cons (pv 0) pa_nil)) (nomark _)) (pw_or1 (pt_not (pt_val (pe_call GIn hrD1 rfl gIn kIn bIn .nil pass0 (pa_cons (pe_ix ix_list (pv 0) (pv 2) (fun _ _ => rfl)) (pa_cons pe_int (pa_cons (pe_ix ix_list (pv 1) (pv 2) (fun _ _ => rfl)) pa_nil))))))))) (pss_one (ps_ret (pv 2))) pss_nil)))
 (pss_one (ps_ret (pe_ifExp (pt_cmpR op_gt (pe_callB call_len_seq (by rfl) T.m_len (by decide +kernel) (pa_cons (pv 0) pa_nil)) (pe_callB call_len_seq (by rfl) T.m_len (by decide +kernel) (pa_cons (pv 1) pa_nil)) (nomark _)) (pe_callB call_len_seq (by rfl) T.m_len (by decide +kernel) (pa_cons (pv 1) pa_nil)) pe_non)))), ?_⟩
    have sz : PySem.sizeLine = 16777216 := rfl
    have drops : ∀ {α : Type} {l : List α} {i : Nat} {x : α}, l[i]? = some x → l.drop i = x :: l.drop (i + 1) := fun {α l i x} h => by
      obtain ⟨h1, h2⟩ := List.getElem?_eq_some_iff.mp h
      rw [List.drop_eq_getElem_cons h1, h2]
    refine ⟨_, rfl, B, _, rfl, .inl (SqL.of hB), _, rfl, by rw [List.length_map]; omega, by rw [List.length_map]; omega, ?_⟩
    rw [List.length_map]
    refine for_it walk_range (fun i σ G => ∃ u : Option V, σ = [some (.ref W), some (.ref B), u] ∧ Same H G ∧ dueN bs ws = (dueN (bs.drop i) (ws.drop i)).map (· + i)) ⟨none, rfl, Same.refl H, ?_⟩ (fun _ _ _ _ _ => trivial) ?_ ?_
    · rw [List.drop_zero, List.drop_zero]
      show _ = Option.map (fun x => x) _
      rw [Option.map_id']
    · rintro i v σ G G' hi ⟨u, rfl, s1, ed⟩ ⟨rfl, rfl⟩
      have hi2 : i < bs.length := by
        have : ((bs.length : Int)).toNat = bs.length := rfl
        omega
      obtain ⟨b, hb⟩ : ∃ b, bs[i]? = some b := ⟨_, List.getElem?_eq_getElem hi2⟩
      have e0 : (0 + (i : Int)) = ((i : Nat) : Int) := by omega
      rw [drops hb] at ed
      refine ⟨_, rfl, _, rfl, W, _, rfl, .inl (SqL.of (s1 _ _ hW)), _, _, rfl, rfl, _, rfl, ?_⟩
      rw [List.length_map]
      by_cases c : ws.length ≤ i
      · refine ite_yes (decide_eq_true (by omega)) (iteT ?_)
        rw [List.drop_of_length_le c] at ed
        have z := k _ s1
        rw [ed] at z
        refine ⟨_, rfl, ?_⟩
        show Q (.int (0 + (i : Int))) _
        have e2 : dueV ((dueN (b :: bs.drop (i + 1)) []).map (· + i)) = .int (0 + (i : Int)) := by
          show V.int (((0 + i : Nat)) : Int) = _
          rw [Nat.zero_add, e0]
        rw [e2] at z
        exact z
      · refine ite_no (decide_eq_false (by omega)) ?_
        obtain ⟨w, hw⟩ : ∃ w, ws[i]? = some w := ⟨_, List.getElem?_eq_getElem (by omega)⟩
        rw [drops hw] at ed
        have mw := List.mem_of_getElem? hw
        have atw : atI (ws.map V.str) (0 + (i : Int)) = some (.str w) := by
          rw [e0]
          exact atI_nat (by rw [List.getElem?_map, hw]; rfl)
        have atb : atI (bs.map fun b => V.int ((b : Nat) : Int)) (0 + (i : Int)) = some (.int (b : Nat)) := by
          rw [e0]
          exact atI_nat (by rw [List.getElem?_map, hb]; rfl)
        refine ⟨_, rfl, _, rfl, W, _, _, .str w, rfl, rfl, SqL.of (s1 _ _ hW), atw, _, rfl, _, rfl, B, _, _, .int (b : Nat), rfl, rfl, SqL.of (s1 _ _ hB), atb, w, b, rfl, okw w mw, hbs b (List.mem_of_getElem? hb), fun G2 s2 => ?_⟩
        have S2 : Same H G2 := fun _ _ z => s2 _ _ (s1 _ _ z)
        cases en : numW b w with
        | none =>
          refine ⟨_, rfl, iteT ⟨_, rfl, ?_⟩⟩
          have z := k _ S2
          rw [ed] at z
          have e2 : dueV ((dueN (b :: bs.drop (i + 1)) (w :: ws.drop (i + 1))).map (· + i)) = .int (0 + (i : Int)) := by
            unfold dueN
            rw [en]
            show V.int (((0 + i : Nat)) : Int) = _
            rw [Nat.zero_add, e0]
          rw [e2] at z
          exact z
        | some n =>
          refine ⟨_, rfl, iteF ⟨_, rfl, S2, ?_⟩⟩
          rw [ed]
          conv => lhs; unfold dueN
          rw [en]
          show Option.map _ (Option.map _ _) = _
          rw [Option.map_map]
          congr 1
          funext x
          show x + 1 + i = x + (i + 1)
          omega
    · rintro σ G ⟨u, rfl, s1, ed⟩
      rw [show ((bs.length : Int)).toNat = bs.length from rfl, List.drop_length] at ed
      refine ⟨_, rfl, W, _, rfl, .inl (SqL.of (s1 _ _ hW)), _, rfl, B, _, rfl, .inl (SqL.of (s1 _ _ hB)), _, _, rfl, rfl, _, rfl, ?_⟩
      rw [List.length_map, List.length_map]
      have z := k _ s1
      by_cases c : bs.length < ws.length
      · refine ite_yes (decide_eq_true (by omega)) ⟨_, rfl, B, _, rfl, .inl (SqL.of (s1 _ _ hB)), ?_⟩
        rw [List.length_map]
        cases e2 : ws.drop bs.length with
        | nil =>
          have := congrArg List.length e2
          rw [List.length_drop, List.length_nil] at this
          omega
        | cons x r =>
          rw [ed, e2] at z
          have e3 : dueV ((dueN [] (x :: r)).map (· + bs.length)) = .int (bs.length : Nat) := by
            show V.int (((0 + bs.length : Nat)) : Int) = _
            rw [Nat.zero_add]
          rw [e3] at z
          exact z
      · refine ite_no (decide_eq_false (by omega)) ?_
        rw [ed, List.drop_of_length_le (by omega)] at z
        exact z
end
end Toy
set_option maxRecDepth 100000
namespace Toy
open PySem L2 TL LamX
abbrev s__law_due : Stmt := top 47
theorem ok_split {a sep : Str} (h : OkS a) : ∀ w ∈ Txt.split a sep, OkS w := fun w hw => ⟨ch_split h.1 w hw, Nat.le_trans (PyProof.Rows.part_short (x := a) (y := sep) hw) h.2⟩
theorem n0 : numT 0 = Str.ofString "0" := by decide +kernel
theorem n1 : numT 1 = Str.ofString "1" := by decide +kernel
theorem dueN_le : ∀ {bs : List Nat} {ws : List Str} {k : Nat}, dueN bs ws = some k → k ≤ bs.length
  | [], [], _, h => by cases h
  | [], _ :: _, _, h => by
    obtain rfl := Option.some.inj h
    exact Nat.le_refl _
  | _ :: _, [], _, h => by
    obtain rfl := Option.some.inj h
    exact Nat.zero_le _
  | b :: bs, w :: ws, k, h => by
    unfold dueN at h
    cases e : numW b w with
    | none =>
      rw [e] at h
      obtain rfl := Option.some.inj h
      exact Nat.zero_le _
    | some n =>
      rw [e] at h
      obtain ⟨j, hj, rfl⟩ := Option.map_eq_some_iff.mp h
      have := dueN_le hj
      rw [List.length_cons]
      omega
theorem p40 : (10 : Int) ^ (40 : Int).toNat = ((10 ^ 40 : Nat) : Int) := by decide +kernel
theorem p6 : (10 : Int) ^ (6 : Int).toNat = ((10 ^ 6 : Nat) : Int) := by decide +kernel
theorem ok_drop {ws : List Str} (h : ∀ w ∈ ws, OkS w) (n : Nat) : ∀ w ∈ ws.drop n, OkS w := fun w hw => h w (List.mem_of_mem_drop hw)
def spLDue : Sp := fun vs H Q _ => ∃ a : Str, vs = [.str a] ∧ OkS a ∧ (linesT a).length ≤ 1000 ∧
  (∀ i k, errU (linesT a) = some (i, k) → ∀ H' t, Same H H' → H' t = some (.tup [.str "text", .str (numT i), .str (numT k)]) → Q (.ref t) H') ∧ (errU (linesT a) = none → ∀ H', Same H H' → Q .non H')
section
variable {P : Program} {w : World} {K : PySem.W.Frag} {mg : Str → Option Value} {base : Heap}
abbrev N__law_due : List Str := ["_law_page_here", "_law_lines", "_law_words", "_law_wrong", "_law_at"]
theorem sc__law_due : FnScope N__law_due ["_law_page_here"] (defScope s__law_due) := ⟨rfl, rfl, rfl, by decide +kernel, rfl, by decide +kernel, by decide +kernel⟩
theorem ok__law_due {f fNd : Addr} {fd fdNd : FuncData} (F : Fun K "_law_due" "_law_due" s__law_due f fd) (T : TR mg)
    (GNd : FnOk P w K mg base CX0 2 fNd fdNd ["_law_words", "_law_bounds"] spNumsDue) (gNd : mg "_law_numbers_due" = some (.ref fNd)) (kNd : PySem.W.keepIn K (.ref fNd) = true) (bNd : Binds K fdNd ["_law_words", "_law_bounds"] []) : FnOk P w K mg base CX0 3 f fd ["_law_page_here"] spLDue := by
  refine F.ok sc__law_due (fun vs H Q E h => ?_) (fun cdv A outer s H vs Q E hrD2 h => ?_)
  · obtain ⟨a, rfl, _⟩ := h
    rfl
  · obtain ⟨a, rfl, oa, ll, kE, kQ⟩ := h
    refine ⟨_, (pss_cons (ps_set (i := 1) sc__law_due.nd rfl (Or.inl rfl) (pe_split (pv 0) pe_str))
 (pss_cons (ps_set (i := 2) sc__law_due.nd rfl (Or.inl rfl) (pe_split (pe_ix ix_list (pv 1) pe_int (fun _ _ => rfl)) pe_str))
 (pss_cons (ps_if (pt_cmpR op_eq (pe_ix ix_list (pv 2) pe_int (fun _ _ => rfl)) pe_str (nomark _)) (pss_cons (ps_set (i := 3) sc__law_due.nd rfl (Or.inl rfl) (by exact (pe_call GNd hrD2 rfl gNd kNd bNd .nil pass0 (pa_cons (pe_slice sl_list (pv 2) (po_some pe_int) po_none) (pa_cons (pe_lst (pa_cons (pe_op op_pow pe_int pe_int) (pa_cons (pe_op op_pow pe_int pe_int) (pa_cons pe_int (pa_cons pe_int pa_nil))))) pa_nil)))))
 (pss_cons (ps_if (pt_cmpR op_notN (pv 3) pe_non (nomark _)) (pss_one (ps_ret (pe_tup (pa_cons pe_str (pa_cons pe_str (pa_cons (pe_callTy call_str_int (by rfl) T.m_str (by decide +kernel) (pa_cons (pe_op op_add (pv 3) pe_int) pa_nil)) pa_nil)))))) pss_nil)
 (pss_one (ps_ret (pe_ifExp (pt_cmpR op_gt (pe_callB call_len_seq (by rfl) T.m_len (by decide +kernel) (pa_cons (pv 1) pa_nil)) pe_int (nomark _)) (pe_tup (pa_cons pe_str (pa_cons pe_str (pa_cons pe_str pa_nil)))) pe_non))))) pss_nil)
 (pss_cons (ps_if (PW.pt (pw_or (pt_cmpR op_ne (pe_ix ix_list (pv 2) pe_int (fun _ _ => rfl)) pe_str (nomark _)) (pw_or1 (pt_cmpR op_gt (pe_callB call_len_seq (by rfl) T.m_len (by decide +kernel) (pa_cons (pv 2) pa_nil)) pe_int (nomark _))))) (pss_one (ps_ret (pe_tup (pa_cons pe_str (pa_cons pe_str (pa_cons (pe_ifExp (pt_cmpR op_ne (pe_ix ix_list (pv 2) pe_int (fun _ _ => rfl)) pe_str (nomark _)) pe_str pe_str) pa_nil)))))) pss_nil)
 (pss_cons (ps_for PassesOwn.never rfl (pi_range2 rfl T.m_range (pa_cons pe_int (pa_cons (pe_callB call_len_seq (by rfl) T.m_len (by decide +kernel) (pa_cons (pv 1) pa_nil)) pa_nil))) (pg_name (i := 4) sc__law_due.nd rfl (Or.inl rfl))
 (pss_cons (ps_set (i := 2) sc__law_due.nd rfl (Or.inl rfl) (pe_split (pe_ix ix_list (pv 1) (pv 4) (fun _ _ => rfl)) pe_str))
 (pss_cons (ps_if (pt_cmpR op_eq (pe_ix ix_list (pv 2) pe_int (fun _ _ => rfl)) pe_str (nomark _)) (pss_one (ps_set (i := 3) sc__law_due.nd rfl (Or.inl rfl) (pe_ifExp (pt_cmpR op_gt (pe_callB call_len_seq (by rfl) T.m_len (by decide +kernel) (pa_cons (pv 2) pa_nil)) pe_int (nomark _)) pe_int pe_non))) (pss_one (ps_set (i := 3) sc__law_due.nd rfl (Or.inl rfl) (pe_ifExp (pt_cmpR op_eq (pv 4) pe_int (nomark _)) pe_int (pe_call GNd hrD2 rfl gNd kNd bNd .nil pass0 (pa_cons (pv 2) (pa_cons (pe_op op_rep (pe_lst (pa_cons (pe_op op_pow pe_int pe_int) pa_nil)) pe_int) pa_nil)))))))
 (pss_one (ps_if (pt_cmpR op_notN (pv 3) pe_non (nomark _)) (pss_one (ps_ret (pe_tup (pa_cons pe_str (pa_cons (pe_callTy call_str_int (by rfl) T.m_str (by decide +kernel) (pa_cons (pv 4) pa_nil)) (pa_cons (pe_callTy call_str_int (by rfl) T.m_str (by decide +kernel) (pa_cons (pv 3) pa_nil)) pa_nil)))))) pss_nil)))))
 (pss_one (ps_ret pe_non))))))), ?_⟩
    have sz : PySem.sizeLine = 16777216 := rfl
    have la := oa.2
    refine ⟨_, rfl, ⟨_, rfl⟩, a, "\n", rfl, rfl, rfl, by omega, fun L hL => ?_⟩
    have y1 := Same.lay (o := .lst ((linesT a).map V.str)) hL
    have hL1 : (upd H L (.lst ((linesT a).map V.str))) L = some (.lst ((linesT a).map V.str)) := upd_same
    change gName 1 (V.ref L) _ (upd H L (.lst ((linesT a).map V.str))) _
    generalize upd H L (.lst ((linesT a).map V.str)) = H1 at y1 hL1 ⊢
    have okl : ∀ l ∈ linesT a, OkS l := ok_split oa
    have lpos : 0 < (linesT a).length := PyProof.Rows.split_pos a "\n"
    generalize linesT a = ls at kE kQ hL1 okl lpos ll ⊢
    obtain ⟨l0, r, rfl⟩ : ∃ l0 r, ls = l0 :: r := by
      cases ls with
      | nil => exact absurd lpos (by decide)
      | cons x r => exact ⟨x, r, rfl⟩
    have ok0 := okl l0 List.mem_cons_self
    have l0s := ok0.2
    refine ⟨_, rfl, L, _, 0, .str l0, rfl, rfl, SqL.of hL1, atI_nat (j := 0) rfl, ⟨_, rfl⟩, l0, " ", rfl, rfl, rfl, by omega, fun W hW => ?_⟩
    have y2 := Same.lay (o := .lst ((wordsT l0).map V.str)) hW
    have hW2 : (upd H1 W (.lst ((wordsT l0).map V.str))) W = some (.lst ((wordsT l0).map V.str)) := upd_same
    have hL2 := y2 _ _ hL1
    have S2 : Same H (upd H1 W (.lst ((wordsT l0).map V.str))) := fun _ _ z => y2 _ _ (y1 _ _ z)
    change gName 2 (V.ref W) _ (upd H1 W (.lst ((wordsT l0).map V.str))) _
    generalize upd H1 W (.lst ((wordsT l0).map V.str)) = H2 at hW2 hL2 S2 ⊢
    clear y1 y2 hL1 hW hL
    have okw := ok_split (sep := " ") ok0
    obtain ⟨v0, hv0⟩ : ∃ w, (wordsT l0)[0]? = some w := ⟨_, List.getElem?_eq_getElem (words_pos l0)⟩
    have eh : head0 (l0 :: r) = wordsT l0 := rfl
    unfold errU at kE kQ
    rw [eh, hv0] at kE kQ
    have at0 : atI ((wordsT l0).map V.str) 0 = some (.str v0) := atI_nat (j := 0) (by rw [List.getElem?_map, hv0]; rfl)
    refine ⟨_, rfl, W, _, 0, .str v0, rfl, rfl, SqL.of hW2, at0, rfl, _, rfl, ?_⟩
    by_cases c : v0 = Str.ofString "clash"
    · rw [if_pos (congrArg some c)] at kE kQ
      refine ite_yes (by simp [c]) ?_
      refine ⟨_, rfl, 1, rfl, W, _, rfl, SqL.of hW2, fun S hS => ?_⟩
      rw [show cutV ((wordsT l0).map V.str) (some 1) none = ((wordsT l0).drop 1).map V.str from cutS_from (wordsT l0) 1]
      have y3 := Same.lay (o := .lst (((wordsT l0).drop 1).map V.str)) hS
      refine ⟨_, _, rfl, rfl, ⟨by decide, by decide, by decide⟩, _, _, rfl, rfl, ⟨by decide, by decide, by decide⟩, (by show 4 ≤ PySem.sizeLine; decide), fun B hB => ?_⟩
      have y4 := fun o : HO => Same.lay (o := o) hB
      have e4 : HO.lst [V.int ((10 : Int) ^ (40 : Int).toNat), V.int ((10 : Int) ^ (40 : Int).toNat), V.int 15, V.int 15] = .lst (b4.map fun b => V.int ((b : Nat) : Int)) := by
        rw [p40]
        rfl
      refine ⟨S, B, (wordsT l0).drop 1, b4, rfl, y4 _ _ _ upd_same, upd_same.trans (congrArg some e4), ok_drop okw 1, by decide +kernel, by decide, fun H3 s3 => ?_⟩
      have S3 : Same H H3 := fun _ _ z => s3 _ _ (y4 _ _ _ (y3 _ _ (S2 _ _ z)))
      have hL3 := s3 _ _ (y4 _ _ _ (y3 _ _ hL2))
      clear y3 y4 s3 hS hB
      cases ed : dueN b4 ((wordsT l0).drop 1) with
      | some k =>
        rw [ed] at kE
        have k4 : k ≤ 4 := dueN_le ed
        refine ⟨_, rfl, rfl, _, rfl, iteT ⟨_, rfl, _, _, rfl, rfl, _, rfl, ?_, (by show 3 ≤ PySem.sizeLine; decide), fun t ht => ?_⟩⟩
        · show (((k : Nat) : Int) + 1).natAbs.log2 < 1920
          have : (((k : Nat) : Int) + 1).natAbs ≤ 5 := by omega
          exact Nat.lt_of_le_of_lt (Nat.log2_le_self _) (by omega)
        · refine kE 0 (k + 1) rfl _ t (fun _ _ z => Same.lay ht _ _ (S3 _ _ z)) ?_
          rw [upd_same, n0]
          rfl
      | none =>
        rw [ed] at kE kQ
        dsimp only at kE kQ
        refine ⟨_, rfl, rfl, _, rfl, iteF ⟨_, rfl, L, _, rfl, .inl (SqL.of hL3), _, _, rfl, rfl, _, rfl, ?_⟩⟩
        rw [List.length_map]
        by_cases cl : 1 < (l0 :: r).length
        · rw [if_pos cl] at kE
          refine ite_yes (decide_eq_true (by omega)) ⟨(by show 3 ≤ PySem.sizeLine; decide), fun t ht => ?_⟩
          refine kE 1 0 rfl _ t (fun _ _ z => Same.lay ht _ _ (S3 _ _ z)) ?_
          rw [upd_same, n0, n1]
        · rw [if_neg cl] at kQ
          exact ite_no (decide_eq_false (by omega)) (kQ rfl _ S3)
    · refine ite_no (by simp [c]) ?_
      rw [if_neg (fun z => c (Option.some.inj z))] at kE kQ
      refine ⟨_, rfl, W, _, 0, .str v0, rfl, rfl, SqL.of hW2, at0, rfl, _, rfl, ?_⟩
      by_cases cf : v0 = Str.ofString "free"
      rotate_left
      · rw [if_neg (fun z => cf (Option.some.inj z))] at kE
        refine ite_yes (by simp [cf]) (iteT ?_)
        refine ⟨_, rfl, W, _, 0, .str v0, rfl, rfl, SqL.of hW2, at0, rfl, _, rfl, ite_yes (by simp [cf]) ⟨(by show 3 ≤ PySem.sizeLine; decide), fun t ht => ?_⟩⟩
        refine kE 0 0 rfl _ t (fun _ _ z => Same.lay ht _ _ (S2 _ _ z)) ?_
        rw [upd_same, n0]
      rw [if_pos (congrArg some cf)] at kE kQ
      refine ite_no (by simp [cf]) ?_
      refine ⟨_, rfl, W, _, rfl, .inl (SqL.of hW2), _, _, rfl, rfl, _, rfl, ?_⟩
      rw [List.length_map]
      by_cases cw : 1 < (wordsT l0).length
      · rw [if_pos cw] at kE
        refine ite_yes (decide_eq_true (by omega)) ?_
        refine ⟨_, rfl, W, _, 0, .str v0, rfl, rfl, SqL.of hW2, at0, rfl, _, rfl, ite_no (by simp [cf]) ⟨(by show 3 ≤ PySem.sizeLine; decide), fun t ht => ?_⟩⟩
        refine kE 0 1 rfl _ t (fun _ _ z => Same.lay ht _ _ (S2 _ _ z)) ?_
        rw [upd_same, n0, n1]
      rw [if_neg cw] at kE kQ
      refine ite_no (decide_eq_false (by omega)) ?_
      refine ⟨_, rfl, L, _, rfl, .inl (SqL.of hL2), 1, _, rfl, ⟨by decide, by decide, by rw [List.length_map]; omega, by rw [List.length_map]; omega⟩, ?_⟩
      have en : ((((l0 :: r).map V.str).length : Int) - 1).toNat = r.length := by rw [List.length_map, List.length_cons]; omega
      rw [en]
      replace kE : ∀ i k, errL false 1 r = some (i, k) → _ := kE
      replace kQ : errL false 1 r = none → _ := kQ
      refine for_it walk_range (fun i σ G => ∃ u2 u3 u4 : Option V, σ = [some (.str a), some (.ref L), u2, u3, u4] ∧ Same H G ∧ G L = some (.lst ((l0 :: r).map V.str)) ∧ errL false 1 r = errL (decide (0 < i)) (1 + i) (r.drop i)) ⟨_, _, _, rfl, S2, hL2, rfl⟩ (fun _ _ _ _ _ => trivial) ?_ ?_
      · rintro i v σ G G' hi ⟨u2, u3, u4, rfl, s1, gL, le⟩ ⟨rfl, rfl⟩
        obtain ⟨l, hl⟩ : ∃ l, r[i]? = some l := ⟨_, List.getElem?_eq_getElem hi⟩
        have hl2 : (l0 :: r)[1 + i]? = some l := by rw [Nat.add_comm, List.getElem?_cons_succ]; exact hl
        have okL := okl l (List.mem_of_getElem? hl2)
        have lls := okL.2
        have edr : r.drop i = l :: r.drop (i + 1) := by
          obtain ⟨h1, h2⟩ := List.getElem?_eq_some_iff.mp hl
          rw [List.drop_eq_getElem_cons h1, h2]
        rw [edr, errL_cons] at le
        have atl : atI ((l0 :: r).map V.str) (1 + (i : Int)) = some (.str l) := atI_nat (j := 1 + i) (by rw [List.getElem?_map, hl2]; rfl)
        refine ⟨_, rfl, _, rfl, L, _, _, .str l, rfl, rfl, SqL.of gL, atl, ⟨_, rfl⟩, l, " ", rfl, rfl, rfl, by omega, fun V1 hV1 => ?_⟩
        have y1 := Same.lay (o := .lst ((wordsT l).map V.str)) hV1
        have hVV : (upd G' V1 (.lst ((wordsT l).map V.str))) V1 = some (.lst ((wordsT l).map V.str)) := upd_same
        have gL1 := y1 _ _ gL
        have S1 : Same H (upd G' V1 (.lst ((wordsT l).map V.str))) := fun _ _ z => y1 _ _ (s1 _ _ z)
        change gName 2 (V.ref V1) _ (upd G' V1 (.lst ((wordsT l).map V.str))) _
        generalize upd G' V1 (.lst ((wordsT l).map V.str)) = G1 at hVV gL1 S1 ⊢
        clear y1 s1 gL hV1
        have okv := ok_split (sep := " ") okL
        obtain ⟨x0, hx0⟩ : ∃ w, (wordsT l)[0]? = some w := ⟨_, List.getElem?_eq_getElem (words_pos l)⟩
        have atx : atI ((wordsT l).map V.str) 0 = some (.str x0) := atI_nat (j := 0) (by rw [List.getElem?_map, hx0]; rfl)
        refine ⟨_, rfl, V1, _, 0, .str x0, rfl, rfl, SqL.of hVV, atx, rfl, _, rfl, ?_⟩
        have i1000 : (1 + (i : Int)).natAbs.log2 < 1920 := Nat.lt_of_le_of_lt (Nat.log2_le_self _) (by rw [List.length_cons] at ll; omega)
        -- a line that is refused
        have out : ∀ (k : Nat) (G2 : Hp) (t : Addr), Same H G2 → errL false 1 r = some (1 + i, k) → G2 t = some (.tup [.str "text", .str (Str.ofString (toString (1 + (i : Int)))), .str (Str.ofString (toString ((k : Nat) : Int)))]) → Q (.ref t) G2 := fun k G2 t s e h => kE (1 + i) k e G2 t s h
        by_cases ct : x0 = Str.ofString "table"
        · have it : isTab l = true := decide_eq_true (by rw [hx0, ct])
          rw [if_pos it] at le
          refine ite_yes (by simp [ct]) ?_
          refine ⟨_, rfl, V1, _, rfl, .inl (SqL.of hVV), _, _, rfl, rfl, _, rfl, ?_⟩
          rw [List.length_map]
          by_cases cw2 : 1 < (wordsT l).length
          · rw [if_pos cw2] at le
            refine ite_yes (decide_eq_true (by omega)) ⟨_, rfl, rfl, _, rfl, iteT ⟨_, rfl, _, rfl, i1000, _, rfl, 1, rfl, by decide, (by show 3 ≤ PySem.sizeLine; decide), fun t ht => ?_⟩⟩
            exact out 1 _ t (fun _ _ z => Same.lay ht _ _ (S1 _ _ z)) le upd_same
          · rw [if_neg cw2] at le
            refine ite_no (decide_eq_false (by omega)) ⟨_, rfl, rfl, _, rfl, iteF ?_⟩
            refine ⟨_, _, _, rfl, S1, gL1, ?_⟩
            rw [le, decide_eq_true (Nat.succ_pos i)]
            rfl
        · have it : ¬ isTab l = true := fun e => ct (by
            have := of_decide_eq_true e
            rw [hx0] at this
            exact Option.some.inj this)
          rw [if_neg it] at le
          refine ite_no (by simp [ct]) ?_
          refine ⟨_, rfl, rfl, _, rfl, ?_⟩
          by_cases ci : i = 0
          · subst ci
            rw [if_pos (show decide (0 < 0) = false from rfl)] at le
            refine ite_yes (decide_eq_true rfl) ?_
            refine ⟨_, rfl, rfl, _, rfl, iteT ⟨_, rfl, _, rfl, i1000, _, rfl, 0, rfl, by decide, (by show 3 ≤ PySem.sizeLine; decide), fun t ht => ?_⟩⟩
            exact out 0 _ t (fun _ _ z => Same.lay ht _ _ (S1 _ _ z)) le upd_same
          · rw [if_neg (by rw [decide_eq_true (Nat.pos_of_ne_zero ci)]; exact Bool.noConfusion)] at le
            refine ite_no (decide_eq_false (fun z => ci (by have := V.int.inj z; omega))) ?_
            refine ⟨_, rfl, _, _, rfl, rfl, ⟨by decide, by decide, by decide⟩, (by show 1 ≤ PySem.sizeLine; decide), fun D hD => ?_⟩
            have y3 := fun o : HO => Same.lay (o := o) hD
            refine ⟨D, 7, _, rfl, rfl, upd_same, by decide, by decide, (by show 1 * 7 ≤ PySem.sizeLine; decide), fun R hR => ?_⟩
            have y4 := fun o : HO => Same.lay (o := o) hR
            have e7 : HO.lst (List.replicate (7 : Int).toNat [V.int ((10 : Int) ^ (6 : Int).toNat)]).flatten = .lst (b7.map fun b => V.int ((b : Nat) : Int)) := by
              rw [p6]
              rfl
            refine ⟨V1, R, wordsT l, b7, rfl, y4 _ _ _ (y3 _ _ _ hVV), upd_same.trans (congrArg some e7), okv, by decide +kernel, by decide, fun G3 s3 => ?_⟩
            have S3 : Same H G3 := fun _ _ z => s3 _ _ (y4 _ _ _ (y3 _ _ _ (S1 _ _ z)))
            have gL3 := s3 _ _ (y4 _ _ _ (y3 _ _ _ gL1))
            cases ed : dueN b7 (wordsT l) with
            | some k =>
              rw [ed] at le
              have k7 : k ≤ 7 := dueN_le ed
              refine ⟨_, rfl, rfl, _, rfl, iteT ⟨_, rfl, _, rfl, i1000, _, rfl, _, rfl, ?_, (by show 3 ≤ PySem.sizeLine; decide), fun t ht => ?_⟩⟩
              · show ((k : Nat) : Int).natAbs.log2 < 1920
                exact Nat.lt_of_le_of_lt (Nat.log2_le_self _) (by omega)
              · exact out k _ t (fun _ _ z => Same.lay ht _ _ (S3 _ _ z)) le upd_same
            | none =>
              rw [ed] at le
              refine ⟨_, rfl, rfl, _, rfl, iteF ⟨_, _, _, rfl, S3, gL3, ?_⟩⟩
              rw [le, decide_eq_true (Nat.succ_pos i)]
              rfl
      · rintro σ G ⟨u2, u3, u4, rfl, s1, gL, le⟩
        rw [List.drop_length] at le
        exact kQ le G s1
end
end Toy
set_option maxRecDepth 100000
namespace L2
open PySem PySem.Spec PyProof.Rows LamX
/-! the law's call, where nothing is being shown and several defs make lambdas: their code objects and tables in ts -/
theorem end_tabs {P : Program} {w : World} {K : PySem.W.Frag} {mg mb : Str → Option Value} {k : Nat} {fa a : Addr} {ts : List (Addr × Addr)} {fd : FuncData} {x : Str} {sp : Sp} {s₁ : Shared} {vs : List Value} {H : Hp}
    (KX : K.In s₁.heap) (hns : s₁.heap.Ns mainGlobals mg) (hb : s₁.heap.Ns builtinsNs mb) (hbb : ∀ y : Str, y ≠ "__name__" → mb y = bootBuiltins y) (lim : s₁.heap.NoLimit) (hg : s₁.gens = #[])
    (ht : ∀ p ∈ ts, s₁.heap.get? p.2 = some { cls := .none, data := .fields #[] }) (nt : ∀ p ∈ ts, K.lookup p.2 = none) (hc : ∀ p ∈ ts, PySem.W.CodeHd s₁.heap p.1 p.2)
    (bm : ∃ (m : Addr) (om : Obj), mg "__builtins__" = some (.ref m) ∧ m ≠ builtinsNs ∧ s₁.heap.get? m = some om ∧ om.cls = .type "module" ∧ om.dict = some builtinsNs ∧ om.data = .plain)
    (ha : s₁.heap.get? a = some { cls := .type "list", data := .seq vs.toArray }) (hr : Room k callerA)
    (F : ∀ base : Heap, K.In base → base.Ns mainGlobals mg → (∀ p ∈ ts, TabB base mg p.1 p.2) → FnG P w K mg base CX0 k fa fd [x] sp) (bind : ∀ (s : Shared) (u : Value), BindsTo s fd ⟨[u], []⟩ [(x, u)])
    (hHt : ∀ p ∈ ts, H p.2 = some (.tbl #[])) (hO : ∀ b, (∀ p ∈ ts, b ≠ p.2) → H b = none ∨ ∃ o xs, H b = some (.frz o (.lst xs))) (hok : HOk P w H s₁.heap) (hA : ∀ b, (∀ p ∈ ts, b ≠ p.2) → H b ≠ none → b = a) (hK : H a ≠ none → K.lookup a = none)
    (hsp : sp [.ref a] H (fun v _ => v = .bl true) fun _ _ _ => False) :
    codeAny (model P w) callerA (.call (.ref fa) ⟨[.ref a], []⟩) (fun r s' => r = .ok (.ret (.bool true)) ∧ OldK s₁.heap s'.heap ∧ s'.os = s₁.os ∧ AllBare s'.gens) s₁ := by
  have apart : ∀ {b : Addr} {o : Obj}, s₁.heap.get? b = some o → o.data ≠ .fields #[] → ∀ p ∈ ts, b ≠ p.2 := by
    intro b o e d p hp z
    rw [z, ht p hp] at e
    have eo := Option.some.inj e
    exact d (by rw [← eo])
  have free : ∀ {b : Addr} {o : Obj}, s₁.heap.get? b = some o → o.data ≠ .fields #[] → (∀ v n, o.data ≠ .seq v n) → H b = none := by
    intro b o e d1 d2
    refine Classical.byContradiction fun n => ?_
    have eb := hA b (apart e d1) n
    subst eb
    have eo := Option.some.inj (e.symm.trans ha)
    exact d2 vs.toArray _ (by rw [eo])
  have ns' : ∀ {b : Addr} {m : Str → Option Value}, s₁.heap.Ns b m → (hidT s₁.heap H).Ns b m := by
    rintro b m ⟨o, es, ep, e, d, r⟩
    exact ⟨o, es, ep, hidT_get e (free e (by rw [d]; intro z; cases z) fun v n z => by rw [d] at z; cases z), d, r⟩
  have kb : K.In (hidT s₁.heap H) := by
    intro b o e
    refine hidT_get (KX b o e) (Classical.byContradiction fun n => ?_)
    by_cases eb : ∃ p ∈ ts, b = p.2
    · obtain ⟨p, hp, eb⟩ := eb
      rw [eb, nt p hp] at e
      cases e
    · have e2 := hA b (fun p hp z => eb ⟨p, hp, z⟩) n
      subst e2
      rw [hK n] at e
      cases e
  have md : Mod K mg (hidT s₁.heap H) := by
    obtain ⟨mc, h1, h2⟩ := lim
    exact ⟨kb, ns' hns, ⟨mb, ns' hb, hbb⟩, ⟨mc, ns' h1, h2⟩⟩
  have tb : ∀ p ∈ ts, TabB (hidT s₁.heap H) mg p.1 p.2 := by
    intro p hp
    obtain ⟨m, om, m1, m2, m3, m4, m5, m6⟩ := id bm
    have hm : H m = none := free m3 (by rw [m6]; intro z; cases z) fun v n z => by rw [m6] at z; cases z
    have gm : m ≠ mainGlobals := fun z => by
      obtain ⟨o, es, ep, e, d, _⟩ := hns
      rw [z, e] at m3
      have eo := Option.some.inj m3
      rw [← eo, d] at m6
      cases m6
    have mt : m ≠ p.2 := apart m3 (by rw [m6]; intro z; cases z) p hp
    refine ⟨?_, ⟨m, om, m1, m2, gm, mt, hidT_get m3 hm, m4, m5, m6⟩, fun z => ?_⟩
    · obtain ⟨o, us, fi, tf, fl, tg, inF, tx, tt, c1, c2, c3, c4, rest⟩ := hc p hp
      refine ⟨o, us, fi, tf, fl, tg, inF, tx, tt, hidT_get c1 (free c1 (fun z => ?_) fun v n z => ?_), c2, c3, c4, rest⟩
      · rw [c3] at z
        have e := Data.fields.inj z
        rw [e] at c4
        simp at c4
      · rw [c3] at z
        cases z
    · obtain ⟨o, es, ep, e, d, _⟩ := hns
      rw [z, ht p hp] at e
      have eo := Option.some.inj e
      rw [← eo] at d
      cases d
  have ev : Env0 P w K mg (hidT s₁.heap H) callerA [] s₁ H :=
    ⟨rfl, md, fun b o e => of_hidT e, Nat.le_of_eq (hidT_size _ _), trivial, fun b hb => (nomatch hb), hok, .of_eq hg⟩
  refine codeAny_mono ((F _ kb (ns' hns) tb).run callerA [] s₁ H _ [.ref a] [.ref a] _ _ rfl hr ev (bind s₁ (.ref a)) (.cons rfl .nil) hsp) fun r s' h => ?_
  cases r with
  | error e => exact (h : False).elim
  | ok fl =>
    cases fl with
    | next => exact (h : False).elim
    | brk => exact (h : False).elim
    | cont => exact (h : False).elim
    | ret u =>
      obtain ⟨v, H', os, bare, un, hok', r', q⟩ := h
      have q' : v = .bl true := q
      subst q'
      obtain rfl : u = Value.bool true := r'
      have keep : ∀ b o, (∀ p ∈ ts, b ≠ p.2) → s₁.heap.get? b = some o → s'.heap.get? b = some o := by
        intro b o n e
        rcases hO b n with z | ⟨ob, xs, z⟩
        · exact un.keep b o e z (fun m => nomatch m) (fun m => nomatch m)
        · have e1 := (hok b _ z).1
          have e2 := (hok' b _ (un.frzs b ob _ z)).1
          exact (Option.some.inj (e.symm.trans e1)) ▸ e2
      refine ⟨rfl, ⟨fun b o e => ?_, fun b o e => ?_⟩, os, bare⟩
      · by_cases eb : ∃ p ∈ ts, b = p.2
        · obtain ⟨p, hp, eb⟩ := eb
          obtain ⟨more, gt⟩ := un.tbls p.2 #[] (hHt p hp)
          have gt2 : s'.heap.get? p.2 = some { cls := .none, data := .fields (#[] ++ more) } := hok' p.2 _ gt
          subst eb
          have eo := Option.some.inj (e.symm.trans (ht p hp))
          subst eo
          exact .inr (.inl ⟨((hc p hp).tab (ht p hp)).isCodeTable, rfl, #[], more, rfl, gt2⟩)
        · exact .inl (keep b o (fun p hp z => eb ⟨p, hp, z⟩) e)
      · by_cases eb : ∃ p ∈ ts, b = p.2
        · obtain ⟨p, hp, eb⟩ := eb
          obtain ⟨more, gt⟩ := un.tbls p.2 #[] (hHt p hp)
          have gt2 : s'.heap.get? p.2 = some { cls := .none, data := .fields (#[] ++ more) } := hok' p.2 _ gt
          subst eb
          exact ⟨_, gt2⟩
        · exact ⟨o, keep b o (fun p hp z => eb ⟨p, hp, z⟩) e⟩
open Classical in
theorem walk_tabs {l : PySem.W.OpenLaw} {n k : Nat} {q : Program} {loose : List Str} {XP : (Str → Option Value) → Heap → Prop} {YP : World → Heap → Prop} {d : DefRec} {sp : PySem.W.Frag → List (Addr × Addr) → Sp} {x : Str}
    (hn : l.most = some n) (hn2 : n ≤ sizeLine) (hdf : d.params.defaults = []) (hr : Room k callerA)
    (F : ∀ (w : World) (mg : Str → Option Value) (fa : Addr) (h : Heap), YP w h → h.Ns mainGlobals mg → mg d.name = some (.ref fa) →
      ∃ (K : PySem.W.Frag) (ts : List (Addr × Addr)) (fd : FuncData), K.In h ∧ (∀ p ∈ ts, h.get? p.2 = some { cls := .none, data := .fields #[] }) ∧ (∀ p ∈ ts, K.lookup p.2 = none) ∧ (∀ p ∈ ts, PySem.W.CodeHd h p.1 p.2) ∧ (∀ (s : Shared) (u : Value), BindsTo s fd ⟨[u], []⟩ [(x, u)]) ∧
        ∀ base : Heap, K.In base → base.Ns mainGlobals mg → (∀ p ∈ ts, TabB base mg p.1 p.2) → FnG l.prog w K mg base CX0 k fa fd [x] (sp K ts))
    (hsp : ∀ (K : PySem.W.Frag) (ts : List (Addr × Addr)) (H : Hp) (a : Addr) (ns : List Int), ns.length ≤ n → (∀ z ∈ ns, Builtin.Int.intBits z ≤ 1048576) → (∀ p ∈ ts, H p.2 = some (.tbl #[])) → SqL K H a (ns.map V.int) → sp K ts [.ref a] H (fun v _ => v = .bl true) fun _ _ _ => False) :
    PySem.W.WalkO q loose XP YP l.row.toRowW d [] (fun f vs => PySem.call f vs) := by
  refine Att.attach_callB hn hdf fun w s₀ s₁ mg mb fa o pm cd doc a vs ns G Y ho hd hcd hmg hobj hints hlen hbits hg => ?_
  obtain ⟨K, ts, fd, KX, ht, nt, hc, b, f⟩ := F w mg fa _ Y G.T.g hmg
  have rv := vals_ints hints
  have lv := hints.length
  have nat_ : ¬ ∃ p ∈ ts, a = p.2 := fun ⟨p, hp, z⟩ => by
    have e := hobj
    rw [z, ht p hp] at e
    have eo := congrArg Obj.data (Option.some.inj e)
    cases eo
  have hl : ns.length ≤ sizeLine := Nat.le_trans hlen hn2
  have no : ∀ {b : Addr}, (∀ p ∈ ts, b ≠ p.2) → ¬ ∃ p ∈ ts, b = p.2 := fun n ⟨p, hp, z⟩ => n p hp z
  cases hk : K.lookup a with
  | some oa =>
    have eo := Option.some.inj ((KX a oa hk).symm.trans hobj)
    subst eo
    refine end_tabs (H := fun b => if ∃ p ∈ ts, b = p.2 then some (.tbl #[]) else none) KX G.T.g G.T.b G.T.builtins G.T.nolimit hg ht nt hc G.T.bmain hobj hr f b (fun p hp => if_pos ⟨p, hp, rfl⟩) (fun b n => .inl (if_neg (no n))) (fun b u z => ?_) (fun b n z => absurd (if_neg (no n)) z) (fun z => absurd (if_neg nat_) z) ?_
    · by_cases eb : ∃ p ∈ ts, b = p.2
      · have eu := Option.some.inj ((if_pos eb).symm.trans z)
        subst eu
        obtain ⟨p, hp, eb⟩ := eb
        subst eb
        exact ht p hp
      · exact nomatch (if_neg eb).symm.trans z
    · exact hsp K ts _ a ns hlen hbits (fun p hp => if_pos ⟨p, hp, rfl⟩) (.inr ⟨_, vs.toArray, _, hk, rfl, rfl, rfl, by rw [List.size_toArray, lv]; exact hl, by simpa using rv⟩)
  | none =>
    refine end_tabs (H := fun b => if ∃ p ∈ ts, b = p.2 then some (.tbl #[]) else if b = a then some (HO.frz { cls := .type "list", data := .seq vs.toArray } (.lst (ns.map V.int))) else none) KX G.T.g G.T.b G.T.builtins G.T.nolimit hg ht nt hc G.T.bmain hobj hr f b (fun p hp => if_pos ⟨p, hp, rfl⟩) (fun b n => ?_) (fun b u z => ?_) (fun b n z => ?_) (fun _ => hk) ?_
    · by_cases eb : b = a
      · exact .inr ⟨_, _, (if_neg (no n)).trans (if_pos eb)⟩
      · exact .inl ((if_neg (no n)).trans (if_neg eb))
    · by_cases eb : ∃ p ∈ ts, b = p.2
      · have eu := Option.some.inj ((if_pos eb).symm.trans z)
        subst eu
        obtain ⟨p, hp, eb⟩ := eb
        subst eb
        exact ht p hp
      · have z2 := (if_neg eb).symm.trans z
        by_cases e2 : b = a
        · subst e2
          have eu := Option.some.inj ((if_pos rfl).symm.trans z2)
          subst eu
          exact ⟨hobj, by rw [List.length_map]; exact hl, vs, _, rv, hobj⟩
        · exact nomatch (if_neg e2).symm.trans z2
    · refine Classical.byContradiction fun e2 => z ((if_neg (no n)).trans (if_neg e2))
    · exact hsp K ts _ a ns hlen hbits (fun p hp => if_pos ⟨p, hp, rfl⟩) (.inl (.inr ⟨_, (if_neg nat_).trans (if_pos rfl)⟩))
end L2
set_option maxRecDepth 100000
namespace Toy
open PySem L2 TL LamX ClX Dg
abbrev s__law_one_right : Stmt := top 49
abbrev qR : Str := "_law_one_right" ++ ".<locals>." ++ "<lambda>"
abbrev qLaw : Str := "law" ++ ".<locals>." ++ "<lambda>"
def T2 (a b : Addr) : List (Addr × Str) := [(a, qR), (b, qLaw)]
section
variable {a b : Addr}
theorem t2_cases {p : Addr × Str} (h : p ∈ T2 a b) : p = (a, qR) ∨ p = (b, qLaw) := by simpa [T2] using h
theorem t2_r : (a, qR) ∈ T2 a b := .head _
theorem t2_l : (b, qLaw) ∈ T2 a b := .tail _ (.head _)
theorem t2u_r (D : a ≠ b) : ∀ p ∈ T2 a b, p.1 = a → p.2 = qR := fun p h e => by
  rcases t2_cases h with rfl | rfl
  · rfl
  · exact absurd e.symm D
theorem t2u_l (D : a ≠ b) : ∀ p ∈ T2 a b, p.1 = b → p.2 = qLaw := fun p h e => by
  rcases t2_cases h with rfl | rfl
  · exact absurd e D
  · rfl
end
theorem int_shows : ∀ k : Nat, k ≤ 1000 → (PyData.int ((k : Nat) : Int)).showable = true ∧ (PyData.int ((k : Nat) : Int)).shown.length ≤ PySem.sizeLine ∧ PyData.strOk (numT k) = true ∧ (PyData.int ((k : Nat) : Int)).shown = numT k := by decide +kernel
theorem shows_num {H : Hp} {k : Nat} (h : k ≤ 1000) : Shows H (.int ((k : Nat) : Int)) (numT k) := ⟨.int (k : Nat), .d0 (.int _), (int_shows k h).1, (by show 0 ≤ 20; decide), (int_shows k h).2.1, (int_shows k h).2.2.2⟩
def spOne (R L : Addr) : Sp := fun vs H Q _ => ∃ a : Str, vs = [.str a] ∧ OkS a ∧ (linesT a).length ≤ 1000 ∧ Tabs (T2 R L) H ∧ ∀ H', ExtN H H' → Tabs (T2 R L) H' → Q (.bl true) H'
theorem shaped3 {x y z : Str} (h1 : PyData.strOk x = true) (h2 : PyData.strOk y = true) (h3 : PyData.strOk z = true) : SeqAt.shaped (.tuple [.str x, .str y, .str z]) = true := by
  simp [SeqAt.shaped, PyData.canLay0, PyData.canLayAll0, PyData.depth, PyData.depthAll, h1, h2, h3]
theorem errL_le : ∀ {r : List Str} {b : Bool} {n i k : Nat}, errL b n r = some (i, k) → i ≤ n + r.length ∧ k ≤ 7
  | [], _, _, _, _, h => by cases h
  | l :: r, b, n, i, k, h => by
    rw [errL_cons] at h
    split at h
    · split at h
      · obtain ⟨rfl, rfl⟩ := Prod.mk.inj (Option.some.inj h)
        exact ⟨Nat.le_add_right _ _, by decide⟩
      · have := errL_le h
        rw [List.length_cons]
        omega
    · split at h
      · obtain ⟨rfl, rfl⟩ := Prod.mk.inj (Option.some.inj h)
        exact ⟨Nat.le_add_right _ _, by decide⟩
      · split at h
        · rename_i j e
          obtain ⟨rfl, rfl⟩ := Prod.mk.inj (Option.some.inj h)
          exact ⟨Nat.le_add_right _ _, dueN_le e⟩
        · have := errL_le h
          rw [List.length_cons]
          omega
theorem errU_le {ls : List Str} {i k : Nat} (h : errU ls = some (i, k)) : i ≤ ls.length ∧ k ≤ 7 := by
  unfold errU at h
  split at h
  · split at h
    · rename_i j e
      obtain ⟨rfl, rfl⟩ := Prod.mk.inj (Option.some.inj h)
      have : j ≤ 4 := dueN_le e
      omega
    · split at h
      · obtain ⟨rfl, rfl⟩ := Prod.mk.inj (Option.some.inj h)
        omega
      · cases h
  · split at h
    · split at h
      · obtain ⟨rfl, rfl⟩ := Prod.mk.inj (Option.some.inj h)
        omega
      · have := errL_le h
        rw [List.length_drop] at this
        rename_i c _
        have lp : 0 < ls.length := by
          cases ls with
          | nil => exact absurd c (by decide +kernel)
          | cons _ _ => exact Nat.succ_pos _
        omega
    · obtain ⟨rfl, rfl⟩ := Prod.mk.inj (Option.some.inj h)
      omega
theorem join_nl (a : Str) : Txt.join " " (wordsT a) = a := by
  rw [TL.join_eq]
  exact StrLaws.join_split a " "
theorem join_ll (a : Str) : Txt.join "\n" (linesT a) = a := by
  rw [TL.join_eq]
  exact StrLaws.join_split a "\n"
theorem join1 (sep w : Str) : Txt.join sep [w] = w := by
  rw [TL.join_eq]
  refine str_ext ?_
  rw [TL.tl_join]
  rfl
theorem dueN_all {b : Nat} : ∀ {k : Nat} {ws : List Str}, dueN (List.replicate k b) ws = none → ws.length = k ∧ ∀ w ∈ ws, ∃ n, w = numT n ∧ n ≤ b
  | 0, [], _ => ⟨rfl, fun _ h => nomatch h⟩
  | 0, _ :: _, h => by cases h
  | k + 1, [], h => by cases h
  | k + 1, w :: ws, h => by
    rw [List.replicate_succ] at h
    unfold dueN at h
    cases e : numW b w with
    | none =>
      rw [e] at h
      cases h
    | some n =>
      rw [e] at h
      obtain ⟨h1, h2⟩ := dueN_all (Option.map_eq_none_iff.mp h)
      refine ⟨by rw [List.length_cons, h1], fun x hx => ?_⟩
      rcases List.mem_cons.mp hx with rfl | hx
      · exact ⟨n, numW_eq.mp e⟩
      · exact h2 x hx
theorem row_ok {l : Str} (h : dueN b7 (wordsT l) = none) : RowOk (rowOf (wordsT l)) ∧ rowT (rowOf (wordsT l)) = l := by
  obtain ⟨h1, h2⟩ := dueN_all h
  refine ⟨⟨by unfold rowOf; rw [List.length_map, h1], fun z hz => ?_⟩, ?_⟩
  · obtain ⟨w, hw, rfl⟩ := List.mem_map.mp hz
    obtain ⟨n, rfl, hn⟩ := h2 w hw
    rw [valT_num]
    omega
  · have e : (rowOf (wordsT l)).map (fun z => (toString z : Str)) = wordsT l := by
      unfold rowOf
      rw [List.map_map]
      conv => rhs; rw [← List.map_id (wordsT l)]
      refine List.map_congr_left fun w hw => ?_
      obtain ⟨n, rfl, hn⟩ := h2 w hw
      show Str.ofString (toString ((valT (numT n) : Nat) : Int)) = numT n
      rw [valT_num]
      rfl
    unfold rowT
    rw [e, join_nl]
theorem tab_word {l : Str} {v : Str} (h : (wordsT l)[0]? = some v) (h1 : ¬ 1 < (wordsT l).length) : l = v := by
  have e := join_nl l
  match ew : wordsT l, h with
  | [x], h =>
    rw [ew, join1] at e
    rw [← e]
    exact Option.some.inj h
  | x :: y :: r, h =>
    rw [ew] at h1
    exact absurd (by simp) h1
/-- tables that are read, written again -/
theorem tabs_back : ∀ {r : List Str} {acc : List (List (List Int))} {n : Nat}, errL (!acc.isEmpty) n r = none → (∀ t ∈ acc, ∀ x ∈ t, RowOk x) → ((r.foldl stepT acc).map tabL).flatten = (acc.map tabL).flatten ++ r ∧ ∀ t ∈ r.foldl stepT acc, ∀ x ∈ t, RowOk x
  | [], acc, _, _, ok => ⟨(List.append_nil _).symm, ok⟩
  | l :: r, acc, n, h, ok => by
    rw [errL_cons] at h
    rw [List.foldl_cons]
    by_cases it : isTab l = true
    · rw [if_pos it] at h
      split at h
      · cases h
      · rename_i c
        have es : stepT acc l = acc ++ [[]] := by unfold stepT; rw [if_pos it]
        have el : l = Str.ofString "table" := tab_word (of_decide_eq_true it) c
        have eb : (!(acc ++ [([] : List (List Int))]).isEmpty) = true := by cases acc <;> rfl
        obtain ⟨h1, h2⟩ := tabs_back (acc := stepT acc l) (by rw [es, eb]; exact h) (fun t ht x hx => by
          rw [es] at ht
          rcases List.mem_append.mp ht with ht | ht
          · exact ok t ht x hx
          · rw [List.mem_singleton.mp ht] at hx
            cases hx)
        refine ⟨?_, h2⟩
        rw [h1, es, List.map_append, List.flatten_append, el]
        simp [tabL]
    · rw [if_neg it] at h
      split at h
      · cases h
      · rename_i nb
        split at h
        · cases h
        · rename_i ed
          have ro := row_ok ed
          have es : stepT acc l = addLast acc (rowOf (wordsT l)) := by unfold stepT; rw [if_neg it]
          rcases List.eq_nil_or_concat acc with rfl | ⟨a0, t0, rfl⟩
          · exact absurd rfl nb
          rw [List.concat_eq_append] at *
          have es2 : stepT (a0 ++ [t0]) l = a0 ++ [t0 ++ [rowOf (wordsT l)]] := by
            rw [es]
            unfold addLast
            simp
          have eb : (!(a0 ++ [t0 ++ [rowOf (wordsT l)]]).isEmpty) = true := by cases a0 <;> rfl
          obtain ⟨h1, h2⟩ := tabs_back (acc := stepT (a0 ++ [t0]) l) (by rw [es2, eb]; exact h) (fun t ht x hx => by
            rw [es2] at ht
            rcases List.mem_append.mp ht with ht | ht
            · exact ok t (List.mem_append_left _ ht) x hx
            · rw [List.mem_singleton.mp ht] at hx
              rcases List.mem_append.mp hx with hx | hx
              · exact ok t0 (List.mem_append_right _ List.mem_cons_self) x hx
              · rw [List.mem_singleton.mp hx]
                exact ro.1)
          refine ⟨?_, h2⟩
          rw [h1, es2]
          simp [tabL, ro.2]
/-- a paper that is read, written again -/
theorem free_back {a : Str} (h0 : head0 (linesT a) = [Str.ofString "free"]) (h : errL false 1 ((linesT a).drop 1) = none) : Txt.join "\n" (freeL (tabsL ((linesT a).drop 1))) = a ∧ (∀ t ∈ tabsL ((linesT a).drop 1), ∀ x ∈ t, RowOk x) ∧ 1 + (tabsL ((linesT a).drop 1)).length + (tabsL ((linesT a).drop 1)).flatten.length = (linesT a).length := by
  have e := join_ll a
  have lp : 0 < (linesT a).length := PyProof.Rows.split_pos a "\n"
  generalize linesT a = ls at *
  cases ls with
  | nil => exact absurd lp (by decide)
  | cons l0 r =>
    obtain ⟨h1, h2⟩ := tabs_back (acc := []) (n := 1) (r := r) h (fun _ h => nomatch h)
    have el : l0 = Str.ofString "free" := tab_word (by rw [show wordsT l0 = [Str.ofString "free"] from h0]; rfl) (by rw [show wordsT l0 = [Str.ofString "free"] from h0]; decide)
    have ef : freeL (tabsL r) = l0 :: r := by
      unfold freeL tabsL
      rw [h1, el]
      rfl
    refine ⟨by show Txt.join "\n" (freeL (tabsL r)) = a; rw [ef, e], h2, ?_⟩
    have := freeL_len (tabsL r)
    rw [ef] at this
    exact this.symm
theorem clash_back {x : Str} {a b i j : Nat} (h0 : head0 (linesT x) = [Str.ofString "clash", numT a, numT b, numT i, numT j]) (h1 : (linesT x).length = 1) : clashT a b i j = x := by
  have e := join_ll x
  generalize linesT x = ls at *
  match ls, h1 with
  | [l0], _ =>
    rw [join1] at e
    have e2 := join_nl l0
    rw [show wordsT l0 = _ from h0] at e2
    rw [← e, ← e2]
    unfold clashT
    rw [TL.join_eq]
    refine str_ext ?_
    rw [TL.tl_join]
    simp only [List.map, TL.tl_append, joinL]
    have e1 : tl (Str.empty) ++ tl ("clash " : Str) = tl (Str.ofString "clash") ++ tl (" " : Str) := by decide +kernel
    rw [e1]
    simp only [List.append_assoc]
section
variable {P : Program} {w : World} {K : PySem.W.Frag} {mg : Str → Option Value} {base : Heap} {CW B CC CF : Addr}
abbrev N__law_one_right : List Str := ["_law_page_here", "_law_due_here", "_law_heard_here"]
theorem sc__law_one_right : FnScope N__law_one_right ["_law_page_here"] (defScope s__law_one_right) := ⟨rfl, rfl, rfl, by decide +kernel, rfl, by decide +kernel, by decide +kernel⟩
set_option maxHeartbeats 2000000 in
theorem ok__law_one_right {f fDu fRu fUt fHe c TR_ TL : Addr} {fdDu fdRu fdUt : FuncData} {oc kV doc pm ct : Value} {od an : Option Addr} {osl : Array (Option Value)} {och kVh doch pmh cdvh cth : Value} {odh anh : Option Addr} {oslh : Array (Option Value)}
    (lk : K.lookup f = some ⟨oc, od, .func (PySem.W.fnOf "_law_one_right" "_law_one_right" (defArgs s__law_one_right) (defBody s__law_one_right) (defScope s__law_one_right) .none kV doc pm an (.ref c) ct), osl⟩) (hcd : PySem.W.codeIn K (.ref c) "_law_one_right" = true) (TBR : TabB base mg c TR_) (dis : TR_ ≠ TL)
    (T : TR mg) (TP : TPap K mg CC CF) (PC : PapCls K CC CF) (THd : THeard K mg CW B)
    (GDu : FnOk P w K mg base CX0 3 fDu fdDu ["_law_page_here"] spLDue) (gDu : mg "_law_due" = some (.ref fDu)) (kDu : PySem.W.keepIn K (.ref fDu) = true) (bDu : Binds K fdDu ["_law_page_here"] [])
    (GRu : FnOk P w K mg base (L2.CX P w) 5 fRu fdRu ["text"] (spReadUnit CW CC CF K)) (gRu : mg "read_unit" = some (.ref fRu)) (kRu : PySem.W.keepIn K (.ref fRu) = true) (bRu : Binds K fdRu ["text"] [])
    (GUt : FnOk P w K mg base (L2.CX P w) 5 fUt fdUt ["value"] (spUnitText CC CF)) (gUt : mg "unit_text" = some (.ref fUt)) (kUt : PySem.W.keepIn K (.ref fUt) = true) (bUt : Binds K fdUt ["value"] [])
    (gHe : mg "_law_heard" = some (.ref fHe)) (kHe : PySem.W.keepIn K (.ref fHe) = true) (lkHe : K.lookup fHe = some ⟨och, odh, .func (PySem.W.fnOf "_law_heard" "_law_heard" (defArgs s__law_heard) (defBody s__law_heard) (defScope s__law_heard) .none kVh doch pmh anh cdvh cth), oslh⟩) (hcHe : PySem.W.codeIn K cdvh "_law_heard" = true)
    (bHe : L2.Binds K (PySem.W.fnOf "_law_heard" "_law_heard" (defArgs s__law_heard) (defBody s__law_heard) (defScope s__law_heard) .none kVh doch pmh anh cdvh cth) ["_law_ask"] []) :
    FnG P w K mg base CX0 8 f (PySem.W.fnOf "_law_one_right" "_law_one_right" (defArgs s__law_one_right) (defBody s__law_one_right) (defScope s__law_one_right) .none kV doc pm an (.ref c) ct) ["_law_page_here"] (spOne TR_ TL) := by
  refine fnG_of lk hcd sc__law_one_right (fun vs H Q E h => ?_) (fun A outer s H vs Q E hgd hr h => ?_)
  · obtain ⟨a, rfl, _⟩ := h
    rfl
  · obtain ⟨a, rfl, oa, ll, hTb, k⟩ := h
    have hrH : Room 7 _ := hr
    have hrUt : Room 5 _ := hr.mono (by decide)
    have hrD3 : Room 3 _ := hr.mono (by decide)
    have hrD2 : Room 2 _ := hr.mono (by decide)
    refine ⟨_, (pss_cons (ps_par (i := 1) (j := 2) rfl sc__law_one_right.nd rfl rfl (by decide) rfl rfl (pa_cons (pe_call GDu hrD3 rfl gDu kDu bDu .nil pass0 (pa_cons (pv 0) pa_nil)) (pa_cons (pe_lamcall (T := T2 TR_ TL) (TT := TTH CW) (k := 5) (t := (fun E => (tCall (spReadUnit CW CC CF K) [] E (tCons (tVar 0) tNil)))) rfl gHe kHe lkHe hcHe bHe sc__law_heard rfl (Or.inl rfl) (heard_gives THd hrH hgd) TBR rfl t2_r (t2u_r dis) hrH (lamS_by (show lamSB (defScope s__law_one_right) _ = true by decide +kernel)) rfl (fun _ _ _ _ _ => rfl) (fun A outer s H E f c' hr => (pe_call GRu hr rfl gRu kRu bRu .nil (passes_call (takes_of rfl rfl rfl rfl) fun _ _ _ _ h => h) (pa_cons (pv 0) pa_nil)))) pa_nil)) rfl)
 (pss_cons (ps_if (pt_cmpR op_notN (pv 1) pe_non (nomark _)) (pss_one (ps_ret (pe_cmpR (op_eqD hrD2.units) (pv 2) (pv 1) (nomark _)))) pss_nil)
 (pss_one (ps_ret (pe_and (pe_callB call_isi (by rfl) T.m_isinstance (by decide +kernel) (pa_cons (pv 2) (pa_cons (pe_bltn (v := .ty "list") (u := .type "list") rfl T.m_list (by decide +kernel) rfl) pa_nil))) (pe_and (pe_callB call_isiT (by rfl) T.m_isinstance (by decide +kernel) (pa_cons (pe_ix ix_list (pv 2) pe_int (fun _ _ => rfl)) (pa_cons (pe_tup (pa_cons (pe_glob (v := .ref CC) rfl TP.gC rfl) (pa_cons (pe_glob (v := .ref CF) rfl TP.gF rfl) pa_nil))) pa_nil))) (pe_one (pe_cmpR op_eq (pe_call GUt hrUt rfl gUt kUt bUt .nil passL (pa_cons (pe_ix ix_list (pv 2) pe_int (fun _ _ => rfl)) pa_nil)) (pv 0) (nomark _))))))))), ?_⟩
    have sz : PySem.sizeLine = 16777216 := rfl
    have la := oa.2
    cases e : errU (linesT a) with
    | some p =>
      obtain ⟨i, j⟩ := p
      obtain ⟨bi, bj⟩ := errU_le e
      refine ⟨_, rfl, a, rfl, oa, ll, (fun i' k' hk H1 t1 s1 ht1 => ?_), (fun he => by rw [e] at he; cases he)⟩
      rw [e] at hk
      cases hk
      refine ⟨hTb.ext s1, fun H2 e2 tb2 => ⟨_, rfl, .str a, rfl, .inl ⟨a, rfl, by omega, by omega, (fun i' k' hk d H3 hd s3 hx => ?_), (fun he => by rw [e] at he; cases he)⟩⟩⟩
      rw [e] at hk
      cases hk
      refine ⟨[.str "text", .str (numT i), .str (numT j)], ⟨d, rfl, rfl, _, _, _, _, hx, shows_num (by omega), shows_num (by omega), rfl⟩, fun H4 p s4 hp => ⟨_, _, rfl, ?_⟩⟩
      refine ⟨_, rfl, rfl, _, rfl, ?_⟩
      rw [show decide (V.ref t1 = V.non) = false from decide_eq_false (fun z => nomatch z)]
      have ht4 := s4 _ _ (s3 _ _ (e2 _ _ ht1 fun _ z => by cases z))
      have sh := shaped3 (x := "text") (by decide +kernel) (int_shows i (by omega)).2.2.1 (int_shows j (by omega)).2.2.1
      refine iteT ⟨_, rfl, _, rfl, .tuple [.str "text", .str (numT i), .str (numT j)], .tuple [.str "text", .str (numT i), .str (numT j)], .tup (SqT.of hp) (.cons (.str _) (.cons (.str _) (.cons (.str _) .nil))), .tup (SqT.of ht4) (.cons (.str _) (.cons (.str _) (.cons (.str _) .nil))), sh, sh, ?_⟩
      rw [PySem.SeqAt.eqv_refl _ (SeqAt.canLay_of_shaped sh)]
      exact k H4 ((ExtN.of s1).trans (e2.trans (ExtN.of fun _ _ z => s4 _ _ (s3 _ _ z)))) (tb2.ext fun _ _ z => s4 _ _ (s3 _ _ z))
    | none =>
      refine ⟨_, rfl, a, rfl, oa, ll, (fun i' k' hk => by rw [e] at hk; cases hk), (fun he H1 s1 => ?_)⟩
      refine ⟨hTb.ext s1, fun H2 e2 tb2 => ⟨_, rfl, .str a, rfl, .inl ⟨a, rfl, by omega, by omega, (fun i' k' hk => by rw [e] at hk; cases hk), (fun he2 H3 x s3 pp => ?_)⟩⟩⟩
      refine ⟨(by show 1 ≤ PySem.sizeLine; decide), fun p hp => ⟨_, _, rfl, ?_⟩⟩
      have y4 := Same.lay (o := .lst [V.ref x]) hp
      have hp4 : (upd H3 p (.lst [V.ref x])) p = some (.lst [V.ref x]) := upd_same
      refine ⟨_, rfl, rfl, _, rfl, ite_no rfl ?_⟩
      refine ⟨_, rfl, _, _, _, _, _, rfl, .ty _, (Plain.lst (K := K) hp4).ty, rfl, _, rfl, iteT ?_⟩
      refine ⟨_, rfl, p, _, 0, .ref x, rfl, rfl, SqL.of hp4, atI_nat (j := 0) rfl, (by show 2 ≤ PySem.sizeLine; decide), fun tp htp => ?_⟩
      have y5 := Same.lay (o := .tup [V.ref CC, V.ref CF]) htp
      have hp5 := y5 _ _ hp4
      have S5 : Same H3 (upd (upd H3 p (.lst [V.ref x])) tp (.tup [V.ref CC, V.ref CF])) := fun _ _ z => y5 _ _ (y4 _ _ z)
      have pr : Paired ClsV [V.ref CC, V.ref CF] [Value.ref CC, Value.ref CF] := .cons (.own CC) (.cons (.own CF) .nil)
      have fin : ∀ (H' : Hp), Same (upd (upd H3 p (.lst [V.ref x])) tp (.tup [V.ref CC, V.ref CF])) H' → Q (.bl true) H' := fun H' s6 => k H' ((ExtN.of s1).trans (e2.trans (ExtN.of fun _ _ z => s6 _ _ (S5 _ _ (s3 _ _ z))))) (tb2.ext fun _ _ z => s6 _ _ (S5 _ _ (s3 _ _ z)))
      rcases pp with ⟨a', b', i', j', h0, ha, hb, hi, hj, l1, dx, hx⟩ | ⟨h0, he3, dx, q, hx, ht⟩
      · have hx5 := S5 _ _ hx
        refine ⟨.ref x, tp, _, _, _, true, rfl, upd_same, pr, .base (.ins hx5 TP.clC PC.haC PC.hn PC.ht PC.hmC), PC.aC, _, rfl, iteT ?_⟩
        refine ⟨_, rfl, p, _, 0, .ref x, rfl, rfl, SqL.of hp5, atI_nat (j := 0) rfl, x, rfl, .inl ⟨a', b', i', j', ⟨dx, hx5⟩, ha, hb, hi, hj, _, rfl, rfl, ?_⟩⟩
        rw [clash_back h0 l1, show decide (V.str a = V.str a) = true from decide_eq_true rfl]
        exact fin _ (Same.refl _)
      · have hx5 := S5 _ _ hx
        obtain ⟨f1, f2, f3⟩ := free_back h0 he3
        refine ⟨.ref x, tp, _, _, _, true, rfl, upd_same, pr, .base (.ins hx5 TP.clF PC.haF PC.hn PC.ht PC.hmF), PC.aF, _, rfl, iteT ?_⟩
        refine ⟨_, rfl, p, _, 0, .ref x, rfl, rfl, SqL.of hp5, atI_nat (j := 0) rfl, x, rfl, .inr ⟨_, ⟨dx, q, hx5, ht.same S5⟩, by omega, by omega, f2, fun H' s6 => ⟨_, rfl, rfl, ?_⟩⟩⟩
        rw [f1, show decide (V.str a = V.str a) = true from decide_eq_true rfl]
        exact fin _ s6
end
end Toy
set_option maxRecDepth 100000
namespace Toy
open PySem L2 TL LamX ClX StX
abbrev s__law_bent : Stmt := top 48
def spBent : Sp := fun vs H Q _ => ∃ (p l q : Addr) (ns : List Int) (a b : Int) (pg : Str) (some : List Str), vs = [.ref p, .str pg, .ref q] ∧ PenAt H p l ns a b ∧ a ≤ 900000 ∧ ChOk pg ∧ pg.length ≤ 5000 ∧ H q = .some (.lst (some.map V.str)) ∧ q ≠ p ∧ 0 < some.length ∧ some.length ≤ 1000 ∧ (∀ w ∈ some, ChOk w ∧ w.length ≤ 45) ∧
  ∀ (H' : Hp) (pg' : Str) (a' b' : Int), But p H H' → PenAt H' p l ns a' b' → a ≤ a' → a' ≤ a + 10 → ChOk pg' → pg'.length ≤ pg.length + 46 → Q (.str pg') H'
section
variable {P : Program} {w : World} {K : PySem.W.Frag} {mg : Str → Option Value} {base : Heap}
abbrev N__law_bent : List Str := ["_law_pen_here", "_law_page_here", "_law_some", "_law_lines", "_law_way", "_law_at", "_law_words", "_law_spot_so", "_law_word"]
theorem sc__law_bent : FnScope N__law_bent ["_law_pen_here", "_law_page_here", "_law_some"] (defScope s__law_bent) := ⟨rfl, rfl, rfl, by decide +kernel, rfl, by decide +kernel, by decide +kernel⟩
set_option maxHeartbeats 4000000 in
theorem ok__law_bent {f fD fPk : Addr} {fd fdD fdPk : FuncData} (F : Fun K "_law_bent" "_law_bent" s__law_bent f fd) (T : TR mg)
    (GD : FnOk P w K mg base CX0 1 fD fdD ["_law_pen_here", "_law_many"] spDraw) (gD : mg "_law_draw" = some (.ref fD)) (kD : PySem.W.keepIn K (.ref fD) = true) (bD : Binds K fdD ["_law_pen_here", "_law_many"] [])
    (GPk : FnOk P w K mg base CX0 2 fPk fdPk ["_law_pen_here", "_law_some"] (spPick K)) (gPk : mg "_law_pick" = some (.ref fPk)) (kPk : PySem.W.keepIn K (.ref fPk) = true) (bPk : Binds K fdPk ["_law_pen_here", "_law_some"] []) :
    FnOk P w K mg base CX0 3 f fd ["_law_pen_here", "_law_page_here", "_law_some"] spBent := by
  refine F.ok sc__law_bent (fun vs H Q E h => ?_) (fun cdv A outer s H vs Q E hrD2 h => ?_)
  · obtain ⟨p, l, q, ns, a, b, pg, some, rfl, _⟩ := h
    rfl
  · obtain ⟨p, l, q, ns, a, b, pg, som, rfl, hP, ha, cp, lp, hq, nq, som0, soml, somw, k⟩ := h
    have hrD1 : Room 1 _ := hrD2.mono (by decide)
    refine ⟨_, (pss_cons (ps_par (i := 3) (j := 4) rfl sc__law_bent.nd rfl rfl (by decide) rfl rfl (pa_cons (pe_split (pv 1) pe_str) (pa_cons (pe_call GD hrD1 rfl gD kD bD .nil pass0 (pa_cons (pv 0) (pa_cons pe_int pa_nil))) pa_nil)) rfl)
 (pss_cons (ps_set (i := 5) sc__law_bent.nd rfl (Or.inl rfl) (by exact (pe_call GD hrD1 rfl gD kD bD .nil pass0 (pa_cons (pv 0) (pa_cons (pe_callB call_len_seq (by rfl) T.m_len (by decide +kernel) (pa_cons (pv 3) pa_nil)) pa_nil)))))
 (pss_cons (ps_set (i := 6) sc__law_bent.nd rfl (Or.inl rfl) (pe_split (pe_ix ix_list (pv 3) (pv 5) (fun _ _ => rfl)) pe_str))
 (pss_cons (ps_par (i := 7) (j := 8) rfl sc__law_bent.nd rfl rfl (by decide) rfl rfl (pa_cons (pe_call GD hrD1 rfl gD kD bD .nil pass0 (pa_cons (pv 0) (pa_cons (pe_callB call_len_seq (by rfl) T.m_len (by decide +kernel) (pa_cons (pv 6) pa_nil)) pa_nil))) (pa_cons (pe_call GPk hrD2 rfl gPk kPk bPk .nil pass0 (pa_cons (pv 0) (pa_cons (pv 2) pa_nil))) pa_nil)) rfl)
 (pss_cons (ps_if (pt_cmpR op_lt (pv 4) pe_int (nomark _)) (pss_one (ps_asg (pe_m1 PySem.F.slot_str_join PySem.F.type_str_join mt_join pe_str (pe_op op_cat (pe_op op_cat (pe_slice sl_list (pv 6) po_none (po_some (pv 7))) (pe_lst (pa_cons (pv 8) pa_nil))) (pe_slice sl_list (pv 6) (po_some (pe_op op_add (pv 7) pe_int)) po_none))) (pg_sub (pv 3) (pv 5) set_list))) pss_nil)
 (pss_cons (ps_if (pt_cmpR op_eq (pv 4) pe_int (nomark _)) (pss_one (ps_asg (pe_m1 PySem.F.slot_str_join PySem.F.type_str_join mt_join pe_str (pe_op op_cat (pe_op op_cat (pe_slice sl_list (pv 6) po_none (po_some (pv 7))) (pe_lst (pa_cons (pv 8) pa_nil))) (pe_slice sl_list (pv 6) (po_some (pv 7)) po_none))) (pg_sub (pv 3) (pv 5) set_list))) pss_nil)
 (pss_cons (ps_if (pt_cmpR op_eq (pv 4) pe_int (nomark _)) (pss_one (ps_asg (pe_m1 PySem.F.slot_str_join PySem.F.type_str_join mt_join pe_str (pe_op op_cat (pe_slice sl_list (pv 6) po_none (po_some (pv 7))) (pe_slice sl_list (pv 6) (po_some (pe_op op_add (pv 7) pe_int)) po_none))) (pg_sub (pv 3) (pv 5) set_list))) pss_nil)
 (pss_cons (ps_if (pt_cmpR op_eq (pv 4) pe_int (nomark _)) (pss_one (ps_set (i := 3) sc__law_bent.nd rfl (Or.inl rfl) (pe_op op_cat (pe_slice sl_list (pv 3) po_none (po_some (pv 5))) (pe_slice sl_list (pv 3) (po_some (pe_op op_add (pv 5) pe_int)) po_none)))) pss_nil)
 (pss_cons (ps_if (pt_cmpR op_eq (pv 4) pe_int (nomark _)) (pss_one (ps_set (i := 3) sc__law_bent.nd rfl (Or.inl rfl) (pe_op op_cat (pe_op op_cat (pe_slice sl_list (pv 3) po_none (po_some (pe_op op_add (pv 5) pe_int))) (pe_lst (pa_cons (pv 8) pa_nil))) (pe_slice sl_list (pv 3) (po_some (pe_op op_add (pv 5) pe_int)) po_none)))) pss_nil)
 (pss_cons (ps_if (pt_cmpR op_eq (pv 4) pe_int (nomark _)) (pss_one (ps_asg (pe_op op_add_str (pe_op op_add_str (pe_ix ix_list (pv 3) (pv 5) (fun _ _ => rfl)) pe_str) (pv 8)) (pg_sub (pv 3) (pv 5) set_list))) pss_nil)
 (pss_cons (ps_if (pt_cmpR op_eq (pv 4) pe_int (nomark _)) (pss_one (ps_set (i := 3) sc__law_bent.nd rfl (Or.inl rfl) (pe_op op_cat (pe_op op_cat (pe_slice sl_list (pv 3) po_none (po_some (pv 5))) (pe_revL (pe_slice sl_list (pv 3) (po_some (pv 5)) (po_some (pe_op op_add (pv 5) pe_int))))) (pe_slice sl_list (pv 3) (po_some (pe_op op_add (pv 5) pe_int)) po_none)))) pss_nil)
 (pss_one (ps_ret (pe_m1 PySem.F.slot_str_join PySem.F.type_str_join mt_join pe_str (pv 3))))))))))))))), ?_⟩
    have sz : PySem.sizeLine = 16777216 := rfl
    have sw : ∀ w ∈ som, w.length ≤ 45 := fun w h => (somw w h).2
    refine ⟨_, rfl, ⟨_, rfl⟩, pg, "\n", rfl, rfl, rfl, by omega, fun L hL => ?_⟩
    have nL : L ≠ p := (ne_of_none hP.pen hL).symm
    have nqL : q ≠ L := ne_of_none hq hL
    have y0 := Same.lay (o := .lst ((Txt.split pg "\n").map V.str)) hL
    have P0 := hP.new (o := .lst ((Txt.split pg "\n").map V.str)) hL
    have hL0 : (upd H L (.lst ((Txt.split pg "\n").map V.str))) L = some (.lst ((Txt.split pg "\n").map V.str)) := upd_same
    have hq0 := y0 _ _ hq
    have lwt : wt (Txt.split pg "\n") = pg.length + 1 := split_wt (s := 10) rfl
    have lch : ∀ w ∈ Txt.split pg "\n", ChOk w := ch_split cp
    have lne : Txt.split pg "\n" ≠ [] := fun z => by
      rw [z] at lwt
      cases lwt
    have bt0 : But p H (upd H L (.lst ((Txt.split pg "\n").map V.str))) := fun c o _ e => y0 _ _ e
    change tCons _ _ _ (upd H L (.lst ((Txt.split pg "\n").map V.str))) _
    generalize upd H L (.lst ((Txt.split pg "\n").map V.str)) = H0 at P0 hL0 hq0 bt0 ⊢
    generalize Txt.split pg "\n" = ls at hL0 lwt lch lne ⊢
    have hLn := hL
    clear y0
    have nLl : l ≠ L := ne_of_none hP.cells hLn
    have lll := wt_len ls
    have lpos : 0 < ls.length := List.length_pos_iff.mpr lne
    refine ⟨_, rfl, p, l, ns, a, b, 8, rfl, P0, by omega, by decide, by decide +kernel, fun H1 way a1 b1 w0 w1 h10 h11 bt1 P1 => ⟨_, _, rfl, ?_⟩⟩
    have hL1 := bt1 _ _ nL hL0
    have hq1 := bt1 _ _ nq hq0
    refine ⟨_, rfl, _, rfl, L, _, rfl, .inl (SqL.of hL1), p, l, ns, a1, b1, _, rfl, P1, by omega, by rw [List.length_map]; omega, ?_, fun H2 at_ a2 b2 t0 t1 h20 h21 bt2 P2 => ?_⟩
    · rw [List.length_map]
      exact Nat.lt_of_le_of_lt (Nat.log2_le_self _) (by omega)
    rw [List.length_map] at t1
    obtain ⟨j, rfl⟩ : ∃ j : Nat, at_ = ((j : Nat) : Int) := ⟨at_.toNat, (Int.toNat_of_nonneg t0).symm⟩
    have jl : j < ls.length := by omega
    obtain ⟨l0, hl0⟩ : ∃ l0, ls[j]? = some l0 := ⟨_, List.getElem?_eq_getElem jl⟩
    have hL2 := bt2 _ _ nL hL1
    have hq2 := bt2 _ _ nq hq1
    have ml0 : l0 ∈ ls := List.mem_of_getElem? hl0
    have wl0 := wt_mem ml0
    refine ⟨_, rfl, _, rfl, L, _, _, .str l0, rfl, rfl, SqL.of hL2, atI_nat (by rw [List.getElem?_map, hl0]; rfl), ⟨_, rfl⟩, l0, " ", rfl, rfl, rfl, by omega, fun W hW => ?_⟩
    have nW : W ≠ p := (ne_of_none P2.pen hW).symm
    have nLW : L ≠ W := ne_of_none hL2 hW
    have y3 := Same.lay (o := .lst ((Txt.split l0 " ").map V.str)) hW
    have P3 := P2.new (o := .lst ((Txt.split l0 " ").map V.str)) hW
    have hW3 : (upd H2 W (.lst ((Txt.split l0 " ").map V.str))) W = some (.lst ((Txt.split l0 " ").map V.str)) := upd_same
    have hL3 := y3 _ _ hL2
    have hq3 := y3 _ _ hq2
    have wwt : wt (Txt.split l0 " ") = l0.length + 1 := split_wt (s := 32) rfl
    have wch : ∀ w ∈ Txt.split l0 " ", ChOk w := ch_split (lch l0 ml0)
    have bt3 : But p H (upd H2 W (.lst ((Txt.split l0 " ").map V.str))) := fun c o n e => y3 _ _ (bt2 _ _ n (bt1 _ _ n (bt0 _ _ n e)))
    change gName 6 (V.ref W) _ (upd H2 W (.lst ((Txt.split l0 " ").map V.str))) _
    generalize upd H2 W (.lst ((Txt.split l0 " ").map V.str)) = H3 at P3 hW3 hL3 hq3 bt3 ⊢
    generalize Txt.split l0 " " = ws at hW3 wwt wch ⊢
    clear hW y3
    have wll := wt_len ws
    have wpos : 0 < ws.length := by
      rcases ws with _ | ⟨x, r⟩
      · cases wwt
      · exact Nat.succ_pos _
    refine ⟨_, rfl, _, rfl, W, _, rfl, .inl (SqL.of hW3), p, l, ns, a2, b2, _, rfl, P3, by omega, by rw [List.length_map]; omega, ?_, fun H4 sp a4 b4 s0 s1 h40 h41 bt4 P4 => ?_⟩
    · rw [List.length_map]
      exact Nat.lt_of_le_of_lt (Nat.log2_le_self _) (by omega)
    rw [List.length_map] at s1
    obtain ⟨i, rfl⟩ : ∃ i : Nat, sp = ((i : Nat) : Int) := ⟨sp.toNat, (Int.toNat_of_nonneg s0).symm⟩
    have hL4 := bt4 _ _ nL hL3
    have hq4 := bt4 _ _ nq hq3
    have hW4 := bt4 _ _ nW hW3
    refine ⟨_, rfl, _, rfl, p, l, q, ns, a4, b4, _, rfl, P4, by omega, SqL.of hq4, nq, by rw [List.length_map]; exact som0, by rw [List.length_map]; omega, fun H5 pi v a5 b5 hv h50 h51 bt5 P5 => ⟨_, _, rfl, ?_⟩⟩
    rw [List.getElem?_map] at hv
    obtain ⟨x, hx, rfl⟩ := Option.map_eq_some_iff.mp hv
    have mx : x ∈ som := List.mem_of_getElem? hx
    have xc := (somw x mx).1
    have xl := (somw x mx).2
    have hL5 := bt5 _ _ nL hL4
    have hW5 := bt5 _ _ nW hW4
    have bt : But p H H5 := fun c o n e => bt5 _ _ n (bt4 _ _ n (bt3 _ _ n e))
    -- the end
    have fin : ∀ (G : Hp) (ys : List Str), Same H5 G → (∀ w ∈ ys, ChOk w) → wt ys ≤ pg.length + 47 → ((ys.map (·.length)).sum + ys.length * (Str.ofString "\n").length ≤ 16777216) ∧ Q (.str (Txt.join "\n" ys)) G := fun G ys s hc hw => by
      have z1 := wt_sum ys
      have z2 := join_le (sep := "\n") (s := 10) (ws := ys) rfl
      refine ⟨?_, k G _ a5 b5 (fun c o n e => s _ _ (bt _ _ n e)) ⟨s _ _ P5.pen, s _ _ P5.cells, P5.few, P5.bits, P5.low⟩ (by omega) (by omega) (ch_join (ch_of (by decide +kernel)) hc) (by omega)⟩
      rw [show (Str.ofString "\n").length = 1 from rfl]
      omega
    have finL : ∀ (G : Hp) (n : Str), (∀ c o, c ≠ L → H5 c = some o → G c = some o) → ChOk n → n.length ≤ l0.length + 46 → (((ls.set j n).map (·.length)).sum + (ls.set j n).length * (Str.ofString "\n").length ≤ 16777216) ∧ Q (.str (Txt.join "\n" (ls.set j n))) G := fun G n s hc hn => by
      have z0 := wt_set hl0 n
      have z1 := wt_sum (ls.set j n)
      have z2 := join_le (sep := "\n") (s := 10) (ws := ls.set j n) rfl
      have nH : ∀ {c o}, H c = some o → c ≠ L := fun {c o} e z => by
        rw [z] at e
        exact (ne_of_none e hLn) rfl
      refine ⟨?_, k G _ a5 b5 (fun c o n e => s _ _ (nH e) (bt _ _ n e)) ⟨s _ _ nL.symm P5.pen, s _ _ nLl P5.cells, P5.few, P5.bits, P5.low⟩ (by omega) (by omega) (ch_join (ch_of (by decide +kernel)) fun w hw => ?_) (by omega)⟩
      · rw [show (Str.ofString "\n").length = 1 from rfl]
        omega
      · rcases List.mem_or_eq_of_mem_set hw with h | rfl
        · exact lch w h
        · exact hc
    have ixj : ixN (ls.map V.str).length ((j : Nat) : Int) = some j := by
      unfold ixN
      rw [List.length_map, if_pos (by omega), if_pos (by omega)]
      rfl
    have w2 : wt (ws.take i) + wt (ws.drop i) = l0.length + 1 := by rw [wt_cut, wwt]
    have w3 := wt_step ws i
    have w4 := wt_two ls j
    have w5 := wt_cut ls j
    have w6 := wt_step ls j
    have w7 := wt_cut ls (j + 1)
    have lt1 := wt_len (ws.take i)
    have lt2 := wt_len (ws.drop i)
    have lt3 := wt_len (ws.drop (i + 1))
    have lt4 := wt_len (ls.take j)
    have lt5 := wt_len (ls.drop j)
    have lt6 := wt_len (ls.drop (j + 1))
    have lt7 := wt_len (ls.take (j + 1))
    have lt8 := wt_len ((ls.drop j).take 2).reverse
    have lt9 := wt_len (ls.drop (j + 2))
    have xone := wt_one x
    have cTo : ∀ n : Nat, cutV (ws.map V.str) none (some ((n : Nat) : Int)) = (ws.take n).map V.str := cutS_to ws
    have cFr : ∀ n : Nat, cutV (ws.map V.str) (some ((n : Nat) : Int)) none = (ws.drop n).map V.str := cutS_from ws
    have cFr1 : cutV (ws.map V.str) (some (((i : Nat) : Int) + 1)) none = (ws.drop (i + 1)).map V.str := cutS_from ws (i + 1)
    have dTo : ∀ n : Nat, cutV (ls.map V.str) none (some ((n : Nat) : Int)) = (ls.take n).map V.str := cutS_to ls
    have dTo1 : cutV (ls.map V.str) none (some (((j : Nat) : Int) + 1)) = (ls.take (j + 1)).map V.str := cutS_to ls (j + 1)
    have dFr1 : cutV (ls.map V.str) (some (((j : Nat) : Int) + 1)) none = (ls.drop (j + 1)).map V.str := cutS_from ls (j + 1)
    have dFr2 : cutV (ls.map V.str) (some (((j : Nat) : Int) + 2)) none = (ls.drop (j + 2)).map V.str := cutS_from ls (j + 2)
    have dMid : cutV (ls.map V.str) (some ((j : Nat) : Int)) (some (((j : Nat) : Int) + 2)) = ((ls.drop j).take 2).map V.str := cutS_two ls j
    have m1 : [V.str x] = [x].map V.str := rfl
    have mc := map_cat
    have cj : ∀ {ys : List Str}, (∀ w ∈ ys, ChOk w) → ChOk (Txt.join " " ys) := fun h => ch_join (ch_of (by decide +kernel)) h
    have jle : ∀ ys : List Str, (Txt.join " " ys).length ≤ wt ys - 1 := fun ys => join_le (s := 32) rfl
    have ct : ∀ n, ∀ w ∈ ws.take n, ChOk w := fun n w h => wch w (List.mem_of_mem_take h)
    have cd : ∀ n, ∀ w ∈ ws.drop n, ChOk w := fun n w h => wch w (List.mem_of_mem_drop h)
    have et : ∀ n, ∀ w ∈ ls.take n, ChOk w := fun n w h => lch w (List.mem_of_mem_take h)
    have ed : ∀ n, ∀ w ∈ ls.drop n, ChOk w := fun n w h => lch w (List.mem_of_mem_drop h)
    have em : ∀ w ∈ ((ls.drop j).take 2).reverse, ChOk w := fun w h => lch w (List.mem_of_mem_drop (List.mem_of_mem_take (List.mem_reverse.mp h)))
    have ca : ∀ {u v : List Str}, (∀ w ∈ u, ChOk w) → (∀ w ∈ v, ChOk w) → ∀ w ∈ u ++ v, ChOk w := fun hu hv w h => (List.mem_append.mp h).elim (hu w) (hv w)
    have c1 : ∀ w ∈ [x], ChOk w := fun w h => by rw [List.mem_singleton.mp h]; exact xc
    have no : ∀ {n m : Int} {A B : Prop}, n ≠ m → B → (if decide (V.int n = V.int m) = true then A else B) := fun hne hb => by
      rw [decide_eq_false (fun z => hne (V.int.inj z))]
      exact iteF hb
    have ya : ∀ {n : Int} {A B : Prop}, A → (if decide (V.int n = V.int n) = true then A else B) := fun hb => by
      rw [decide_eq_true rfl]
      exact iteT hb
    have wcase : way = 0 ∨ way = 1 ∨ way = 2 ∨ way = 3 ∨ way = 4 ∨ way = 5 ∨ way = 6 ∨ way = 7 := by omega
    have pl1 : ∀ n : Str, (ls.map V.str).set j (.str n) = (ls.set j n).map V.str := fun n => List.map_set.symm
    rcases wcase with rfl | rfl | rfl | rfl | rfl | rfl | rfl | rfl
    · refine ⟨_, rfl, _, _, rfl, rfl, _, rfl, ite_yes (decide_eq_true (by decide)) ?_⟩
      refine ⟨⟨_, rfl⟩, _, rfl, _, rfl, _, rfl, W, _, rfl, SqL.of hW5, fun r1 hr1 => ?_⟩
      rw [cTo]
      have z1 := Same.lay (o := .lst ((ws.take i).map V.str)) hr1
      refine ⟨_, rfl, (by show 1 ≤ PySem.sizeLine; decide), fun r2 hr2 => ?_⟩
      have z2 := Same.lay (o := .lst [V.str x]) hr2
      refine ⟨r1, r2, _, _, rfl, rfl, z2 _ _ upd_same, upd_same, by rw [List.length_map]; show _ + 1 ≤ _; omega, fun r3 hr3 => ?_⟩
      rw [m1, mc]
      have z3 := Same.lay (o := .lst ((ws.take i ++ [x]).map V.str)) hr3
      refine ⟨_, rfl, _, rfl, _, _, rfl, rfl, _, rfl, W, _, rfl, SqL.of (z3 _ _ (z2 _ _ (z1 _ _ hW5))), fun r4 hr4 => ?_⟩
      rw [cFr1]
      have z4 := Same.lay (o := .lst ((ws.drop (i + 1)).map V.str)) hr4
      refine ⟨r3, r4, _, _, rfl, rfl, z4 _ _ upd_same, upd_same, ?_, fun r5 hr5 => ?_⟩
      · rw [List.length_map, List.length_map, List.length_append]
        show _ + 1 + _ ≤ _
        omega
      rw [mc]
      have z5 := Same.lay (o := .lst ((ws.take i ++ [x] ++ (ws.drop (i + 1))).map V.str)) hr5
      have S : Same H5 _ := fun _ _ z => z5 _ _ (z4 _ _ (z3 _ _ (z2 _ _ (z1 _ _ z))))
      have wY : wt (ws.take i ++ [x] ++ (ws.drop (i + 1))) ≤ l0.length + 47 := by
        rw [wt_app, wt_app]
        omega
      have sY := wt_sum (ws.take i ++ [x] ++ (ws.drop (i + 1)))
      have jY := jle (ws.take i ++ [x] ++ (ws.drop (i + 1)))
      refine ⟨" ", r5, (ws.take i ++ [x] ++ (ws.drop (i + 1))), rfl, rfl, .inl (SqL.of upd_same), ?_, ?_⟩
      · rw [show (Str.ofString " ").length = 1 from rfl]
        omega
      refine ⟨_, rfl, _, rfl, L, _, _, j, rfl, rfl, S _ _ hL5, ixj, ?_⟩
      rw [pl1]
      refine ⟨_, rfl, rfl, _, rfl, no (by decide) ?_⟩
      refine ⟨_, rfl, rfl, _, rfl, no (by decide) ?_⟩
      refine ⟨_, rfl, rfl, _, rfl, no (by decide) ?_⟩
      refine ⟨_, rfl, rfl, _, rfl, no (by decide) ?_⟩
      refine ⟨_, rfl, rfl, _, rfl, no (by decide) ?_⟩
      refine ⟨_, rfl, rfl, _, rfl, no (by decide) ?_⟩
      have f := finL (upd _ L (.lst ((ls.set j (Txt.join " " (ws.take i ++ [x] ++ (ws.drop (i + 1))))).map V.str))) (Txt.join " " (ws.take i ++ [x] ++ (ws.drop (i + 1)))) (fun c o nc e => by rw [upd_ne nc]; exact S _ _ e) (cj (ca (ca (ct i) c1) (cd (i + 1)))) (by omega)
      exact ⟨⟨_, rfl⟩, _, rfl, "\n", L, _, rfl, rfl, .inl (SqL.of upd_same), f.1, f.2⟩
    · refine ⟨_, rfl, _, _, rfl, rfl, _, rfl, ite_yes (decide_eq_true (by decide)) ?_⟩
      refine ⟨⟨_, rfl⟩, _, rfl, _, rfl, _, rfl, W, _, rfl, SqL.of hW5, fun r1 hr1 => ?_⟩
      rw [cTo]
      have z1 := Same.lay (o := .lst ((ws.take i).map V.str)) hr1
      refine ⟨_, rfl, (by show 1 ≤ PySem.sizeLine; decide), fun r2 hr2 => ?_⟩
      have z2 := Same.lay (o := .lst [V.str x]) hr2
      refine ⟨r1, r2, _, _, rfl, rfl, z2 _ _ upd_same, upd_same, by rw [List.length_map]; show _ + 1 ≤ _; omega, fun r3 hr3 => ?_⟩
      rw [m1, mc]
      have z3 := Same.lay (o := .lst ((ws.take i ++ [x]).map V.str)) hr3
      refine ⟨_, rfl, _, rfl, _, _, rfl, rfl, _, rfl, W, _, rfl, SqL.of (z3 _ _ (z2 _ _ (z1 _ _ hW5))), fun r4 hr4 => ?_⟩
      rw [cFr1]
      have z4 := Same.lay (o := .lst ((ws.drop (i + 1)).map V.str)) hr4
      refine ⟨r3, r4, _, _, rfl, rfl, z4 _ _ upd_same, upd_same, ?_, fun r5 hr5 => ?_⟩
      · rw [List.length_map, List.length_map, List.length_append]
        show _ + 1 + _ ≤ _
        omega
      rw [mc]
      have z5 := Same.lay (o := .lst ((ws.take i ++ [x] ++ (ws.drop (i + 1))).map V.str)) hr5
      have S : Same H5 _ := fun _ _ z => z5 _ _ (z4 _ _ (z3 _ _ (z2 _ _ (z1 _ _ z))))
      have wY : wt (ws.take i ++ [x] ++ (ws.drop (i + 1))) ≤ l0.length + 47 := by
        rw [wt_app, wt_app]
        omega
      have sY := wt_sum (ws.take i ++ [x] ++ (ws.drop (i + 1)))
      have jY := jle (ws.take i ++ [x] ++ (ws.drop (i + 1)))
      refine ⟨" ", r5, (ws.take i ++ [x] ++ (ws.drop (i + 1))), rfl, rfl, .inl (SqL.of upd_same), ?_, ?_⟩
      · rw [show (Str.ofString " ").length = 1 from rfl]
        omega
      refine ⟨_, rfl, _, rfl, L, _, _, j, rfl, rfl, S _ _ hL5, ixj, ?_⟩
      rw [pl1]
      refine ⟨_, rfl, rfl, _, rfl, no (by decide) ?_⟩
      refine ⟨_, rfl, rfl, _, rfl, no (by decide) ?_⟩
      refine ⟨_, rfl, rfl, _, rfl, no (by decide) ?_⟩
      refine ⟨_, rfl, rfl, _, rfl, no (by decide) ?_⟩
      refine ⟨_, rfl, rfl, _, rfl, no (by decide) ?_⟩
      refine ⟨_, rfl, rfl, _, rfl, no (by decide) ?_⟩
      have f := finL (upd _ L (.lst ((ls.set j (Txt.join " " (ws.take i ++ [x] ++ (ws.drop (i + 1))))).map V.str))) (Txt.join " " (ws.take i ++ [x] ++ (ws.drop (i + 1)))) (fun c o nc e => by rw [upd_ne nc]; exact S _ _ e) (cj (ca (ca (ct i) c1) (cd (i + 1)))) (by omega)
      exact ⟨⟨_, rfl⟩, _, rfl, "\n", L, _, rfl, rfl, .inl (SqL.of upd_same), f.1, f.2⟩
    · refine ⟨_, rfl, _, _, rfl, rfl, _, rfl, ite_no (decide_eq_false (by decide)) ?_⟩
      refine ⟨_, rfl, rfl, _, rfl, ya ?_⟩
      refine ⟨⟨_, rfl⟩, _, rfl, _, rfl, _, rfl, W, _, rfl, SqL.of hW5, fun r1 hr1 => ?_⟩
      rw [cTo]
      have z1 := Same.lay (o := .lst ((ws.take i).map V.str)) hr1
      refine ⟨_, rfl, (by show 1 ≤ PySem.sizeLine; decide), fun r2 hr2 => ?_⟩
      have z2 := Same.lay (o := .lst [V.str x]) hr2
      refine ⟨r1, r2, _, _, rfl, rfl, z2 _ _ upd_same, upd_same, by rw [List.length_map]; show _ + 1 ≤ _; omega, fun r3 hr3 => ?_⟩
      rw [m1, mc]
      have z3 := Same.lay (o := .lst ((ws.take i ++ [x]).map V.str)) hr3
      refine ⟨_, rfl, _, rfl, _, rfl, W, _, rfl, SqL.of (z3 _ _ (z2 _ _ (z1 _ _ hW5))), fun r4 hr4 => ?_⟩
      rw [cFr]
      have z4 := Same.lay (o := .lst ((ws.drop i).map V.str)) hr4
      refine ⟨r3, r4, _, _, rfl, rfl, z4 _ _ upd_same, upd_same, ?_, fun r5 hr5 => ?_⟩
      · rw [List.length_map, List.length_map, List.length_append]
        show _ + 1 + _ ≤ _
        omega
      rw [mc]
      have z5 := Same.lay (o := .lst ((ws.take i ++ [x] ++ (ws.drop i)).map V.str)) hr5
      have S : Same H5 _ := fun _ _ z => z5 _ _ (z4 _ _ (z3 _ _ (z2 _ _ (z1 _ _ z))))
      have wY : wt (ws.take i ++ [x] ++ (ws.drop i)) ≤ l0.length + 47 := by
        rw [wt_app, wt_app]
        omega
      have sY := wt_sum (ws.take i ++ [x] ++ (ws.drop i))
      have jY := jle (ws.take i ++ [x] ++ (ws.drop i))
      refine ⟨" ", r5, (ws.take i ++ [x] ++ (ws.drop i)), rfl, rfl, .inl (SqL.of upd_same), ?_, ?_⟩
      · rw [show (Str.ofString " ").length = 1 from rfl]
        omega
      refine ⟨_, rfl, _, rfl, L, _, _, j, rfl, rfl, S _ _ hL5, ixj, ?_⟩
      rw [pl1]
      refine ⟨_, rfl, rfl, _, rfl, no (by decide) ?_⟩
      refine ⟨_, rfl, rfl, _, rfl, no (by decide) ?_⟩
      refine ⟨_, rfl, rfl, _, rfl, no (by decide) ?_⟩
      refine ⟨_, rfl, rfl, _, rfl, no (by decide) ?_⟩
      refine ⟨_, rfl, rfl, _, rfl, no (by decide) ?_⟩
      have f := finL (upd _ L (.lst ((ls.set j (Txt.join " " (ws.take i ++ [x] ++ (ws.drop i)))).map V.str))) (Txt.join " " (ws.take i ++ [x] ++ (ws.drop i))) (fun c o nc e => by rw [upd_ne nc]; exact S _ _ e) (cj (ca (ca (ct i) c1) (cd i))) (by omega)
      exact ⟨⟨_, rfl⟩, _, rfl, "\n", L, _, rfl, rfl, .inl (SqL.of upd_same), f.1, f.2⟩
    · refine ⟨_, rfl, _, _, rfl, rfl, _, rfl, ite_no (decide_eq_false (by decide)) ?_⟩
      refine ⟨_, rfl, rfl, _, rfl, no (by decide) ?_⟩
      refine ⟨_, rfl, rfl, _, rfl, ya ?_⟩
      refine ⟨⟨_, rfl⟩, _, rfl, _, rfl, _, rfl, W, _, rfl, SqL.of hW5, fun r1 hr1 => ?_⟩
      rw [cTo]
      have z1 := Same.lay (o := .lst ((ws.take i).map V.str)) hr1
      refine ⟨_, rfl, _, rfl, _, _, rfl, rfl, _, rfl, W, _, rfl, SqL.of (z1 _ _ hW5), fun r4 hr4 => ?_⟩
      rw [cFr1]
      have z4 := Same.lay (o := .lst ((ws.drop (i + 1)).map V.str)) hr4
      refine ⟨r1, r4, _, _, rfl, rfl, z4 _ _ upd_same, upd_same, ?_, fun r5 hr5 => ?_⟩
      · rw [List.length_map, List.length_map]
        omega
      rw [mc]
      have z5 := Same.lay (o := .lst ((ws.take i ++ ws.drop (i + 1)).map V.str)) hr5
      have S : Same H5 _ := fun _ _ z => z5 _ _ (z4 _ _ (z1 _ _ z))
      have wY : wt (ws.take i ++ ws.drop (i + 1)) ≤ l0.length + 47 := by
        rw [wt_app]
        omega
      have sY := wt_sum (ws.take i ++ ws.drop (i + 1))
      have jY := jle (ws.take i ++ ws.drop (i + 1))
      refine ⟨" ", r5, (ws.take i ++ ws.drop (i + 1)), rfl, rfl, .inl (SqL.of upd_same), ?_, ?_⟩
      · rw [show (Str.ofString " ").length = 1 from rfl]
        omega
      refine ⟨_, rfl, _, rfl, L, _, _, j, rfl, rfl, S _ _ hL5, ixj, ?_⟩
      rw [pl1]
      refine ⟨_, rfl, rfl, _, rfl, no (by decide) ?_⟩
      refine ⟨_, rfl, rfl, _, rfl, no (by decide) ?_⟩
      refine ⟨_, rfl, rfl, _, rfl, no (by decide) ?_⟩
      refine ⟨_, rfl, rfl, _, rfl, no (by decide) ?_⟩
      have f := finL (upd _ L (.lst ((ls.set j (Txt.join " " (ws.take i ++ ws.drop (i + 1)))).map V.str))) (Txt.join " " (ws.take i ++ ws.drop (i + 1))) (fun c o nc e => by rw [upd_ne nc]; exact S _ _ e) (cj (ca (ct i) (cd (i + 1)))) (by omega)
      exact ⟨⟨_, rfl⟩, _, rfl, "\n", L, _, rfl, rfl, .inl (SqL.of upd_same), f.1, f.2⟩
    · refine ⟨_, rfl, _, _, rfl, rfl, _, rfl, ite_no (decide_eq_false (by decide)) ?_⟩
      refine ⟨_, rfl, rfl, _, rfl, no (by decide) ?_⟩
      refine ⟨_, rfl, rfl, _, rfl, no (by decide) ?_⟩
      refine ⟨_, rfl, rfl, _, rfl, ya ?_⟩
      refine ⟨_, rfl, _, rfl, _, rfl, L, _, rfl, SqL.of hL5, fun r1 hr1 => ?_⟩
      rw [dTo]
      have z1 := Same.lay (o := .lst ((ls.take j).map V.str)) hr1
      refine ⟨_, rfl, _, rfl, _, _, rfl, rfl, _, rfl, L, _, rfl, SqL.of (z1 _ _ hL5), fun r2 hr2 => ?_⟩
      rw [dFr1]
      have z2 := Same.lay (o := .lst ((ls.drop (j + 1)).map V.str)) hr2
      refine ⟨r1, r2, _, _, rfl, rfl, z2 _ _ upd_same, upd_same, ?_, fun r3 hr3 => ?_⟩
      · rw [List.length_map, List.length_map]
        omega
      rw [mc]
      have z3 := Same.lay (o := .lst ((ls.take j ++ ls.drop (j + 1)).map V.str)) hr3
      have f := fin _ (ls.take j ++ ls.drop (j + 1)) (fun _ _ z => z3 _ _ (z2 _ _ (z1 _ _ z))) (ca (et j) (ed (j + 1))) (by rw [wt_app]; omega)
      refine ⟨_, rfl, rfl, _, rfl, no (by decide) ?_⟩
      refine ⟨_, rfl, rfl, _, rfl, no (by decide) ?_⟩
      refine ⟨_, rfl, rfl, _, rfl, no (by decide) ?_⟩
      exact ⟨⟨_, rfl⟩, _, rfl, "\n", r3, _, rfl, rfl, .inl (SqL.of upd_same), f.1, f.2⟩
    · refine ⟨_, rfl, _, _, rfl, rfl, _, rfl, ite_no (decide_eq_false (by decide)) ?_⟩
      refine ⟨_, rfl, rfl, _, rfl, no (by decide) ?_⟩
      refine ⟨_, rfl, rfl, _, rfl, no (by decide) ?_⟩
      refine ⟨_, rfl, rfl, _, rfl, no (by decide) ?_⟩
      refine ⟨_, rfl, rfl, _, rfl, ya ?_⟩
      refine ⟨_, rfl, _, rfl, _, _, rfl, rfl, _, rfl, L, _, rfl, SqL.of hL5, fun r1 hr1 => ?_⟩
      rw [dTo1]
      have z1 := Same.lay (o := .lst ((ls.take (j + 1)).map V.str)) hr1
      refine ⟨_, rfl, (by show 1 ≤ PySem.sizeLine; decide), fun r2 hr2 => ?_⟩
      have z2 := Same.lay (o := .lst [V.str x]) hr2
      refine ⟨r1, r2, _, _, rfl, rfl, z2 _ _ upd_same, upd_same, by rw [List.length_map]; show _ + 1 ≤ _; omega, fun r3 hr3 => ?_⟩
      rw [m1, mc]
      have z3 := Same.lay (o := .lst ((ls.take (j + 1) ++ [x]).map V.str)) hr3
      refine ⟨_, rfl, _, rfl, _, _, rfl, rfl, _, rfl, L, _, rfl, SqL.of (z3 _ _ (z2 _ _ (z1 _ _ hL5))), fun r4 hr4 => ?_⟩
      rw [dFr1]
      have z4 := Same.lay (o := .lst ((ls.drop (j + 1)).map V.str)) hr4
      refine ⟨r3, r4, _, _, rfl, rfl, z4 _ _ upd_same, upd_same, ?_, fun r5 hr5 => ?_⟩
      · rw [List.length_map, List.length_map, List.length_append]
        show _ + 1 + _ ≤ _
        omega
      rw [mc]
      have z5 := Same.lay (o := .lst ((ls.take (j + 1) ++ [x] ++ ls.drop (j + 1)).map V.str)) hr5
      have f := fin _ (ls.take (j + 1) ++ [x] ++ ls.drop (j + 1)) (fun _ _ z => z5 _ _ (z4 _ _ (z3 _ _ (z2 _ _ (z1 _ _ z))))) (ca (ca (et (j + 1)) c1) (ed (j + 1))) (by rw [wt_app, wt_app]; omega)
      refine ⟨_, rfl, rfl, _, rfl, no (by decide) ?_⟩
      refine ⟨_, rfl, rfl, _, rfl, no (by decide) ?_⟩
      exact ⟨⟨_, rfl⟩, _, rfl, "\n", r5, _, rfl, rfl, .inl (SqL.of upd_same), f.1, f.2⟩
    · refine ⟨_, rfl, _, _, rfl, rfl, _, rfl, ite_no (decide_eq_false (by decide)) ?_⟩
      refine ⟨_, rfl, rfl, _, rfl, no (by decide) ?_⟩
      refine ⟨_, rfl, rfl, _, rfl, no (by decide) ?_⟩
      refine ⟨_, rfl, rfl, _, rfl, no (by decide) ?_⟩
      refine ⟨_, rfl, rfl, _, rfl, no (by decide) ?_⟩
      refine ⟨_, rfl, rfl, _, rfl, ya ?_⟩
      refine ⟨_, rfl, _, rfl, L, _, _, .str l0, rfl, rfl, SqL.of hL5, atI_nat (by rw [List.getElem?_map, hl0]; rfl), l0, " ", rfl, rfl, by rw [sp1L]; omega, _, rfl, _, x, rfl, rfl, by rw [PySem.Str.length_append, sp1L]; omega, ?_⟩
      refine ⟨_, rfl, _, rfl, L, _, _, j, rfl, rfl, hL5, ixj, ?_⟩
      rw [pl1]
      have S : Same H5 H5 := Same.refl _
      refine ⟨_, rfl, rfl, _, rfl, no (by decide) ?_⟩
      have f := finL (upd _ L (.lst ((ls.set j (l0 ++ Str.ofString " " ++ x)).map V.str))) (l0 ++ Str.ofString " " ++ x) (fun c o nc e => by rw [upd_ne nc]; exact S _ _ e) (ch_app (ch_app (lch l0 ml0) (ch_of (by decide +kernel))) xc) (by rw [PySem.Str.length_append, PySem.Str.length_append, sp1L]; omega)
      exact ⟨⟨_, rfl⟩, _, rfl, "\n", L, _, rfl, rfl, .inl (SqL.of upd_same), f.1, f.2⟩
    · refine ⟨_, rfl, _, _, rfl, rfl, _, rfl, ite_no (decide_eq_false (by decide)) ?_⟩
      refine ⟨_, rfl, rfl, _, rfl, no (by decide) ?_⟩
      refine ⟨_, rfl, rfl, _, rfl, no (by decide) ?_⟩
      refine ⟨_, rfl, rfl, _, rfl, no (by decide) ?_⟩
      refine ⟨_, rfl, rfl, _, rfl, no (by decide) ?_⟩
      refine ⟨_, rfl, rfl, _, rfl, no (by decide) ?_⟩
      refine ⟨_, rfl, rfl, _, rfl, ya ?_⟩
      refine ⟨_, rfl, _, rfl, _, rfl, L, _, rfl, SqL.of hL5, fun r1 hr1 => ?_⟩
      rw [dTo]
      have z1 := Same.lay (o := .lst ((ls.take j).map V.str)) hr1
      refine ⟨_, rfl, _, rfl, _, rfl, _, rfl, _, _, rfl, rfl, _, rfl, L, _, rfl, SqL.of (z1 _ _ hL5), fun r2 hr2 => ?_⟩
      rw [dMid]
      have z2 := Same.lay (o := .lst (((ls.drop j).take 2).map V.str)) hr2
      refine ⟨r2, _, rfl, SqL.of upd_same, fun r3 hr3 => ?_⟩
      rw [← List.map_reverse]
      have z3 := Same.lay (o := .lst ((((ls.drop j).take 2).reverse).map V.str)) hr3
      refine ⟨r1, r3, _, _, rfl, rfl, z3 _ _ (z2 _ _ upd_same), upd_same, ?_, fun r4 hr4 => ?_⟩
      · rw [List.length_map, List.length_map]
        omega
      rw [mc]
      have z4 := Same.lay (o := .lst ((ls.take j ++ ((ls.drop j).take 2).reverse).map V.str)) hr4
      refine ⟨_, rfl, _, rfl, _, _, rfl, rfl, _, rfl, L, _, rfl, SqL.of (z4 _ _ (z3 _ _ (z2 _ _ (z1 _ _ hL5)))), fun r5 hr5 => ?_⟩
      rw [dFr2]
      have z5 := Same.lay (o := .lst ((ls.drop (j + 2)).map V.str)) hr5
      refine ⟨r4, r5, _, _, rfl, rfl, z5 _ _ upd_same, upd_same, ?_, fun r6 hr6 => ?_⟩
      · rw [List.length_map, List.length_map, List.length_append]
        omega
      rw [mc]
      have z6 := Same.lay (o := .lst ((ls.take j ++ ((ls.drop j).take 2).reverse ++ ls.drop (j + 2)).map V.str)) hr6
      have f := fin _ (ls.take j ++ ((ls.drop j).take 2).reverse ++ ls.drop (j + 2)) (fun _ _ z => z6 _ _ (z5 _ _ (z4 _ _ (z3 _ _ (z2 _ _ (z1 _ _ z)))))) (ca (ca (et j) em) (ed (j + 2))) (by rw [wt_app, wt_app]; omega)
      exact ⟨⟨_, rfl⟩, _, rfl, "\n", r6, _, rfl, rfl, .inl (SqL.of upd_same), f.1, f.2⟩
end
end Toy
set_option maxRecDepth 100000
namespace Toy
open PySem L2 TL LamX ClX Dg
abbrev s__law_page : Stmt := top 50
def PageOk (pg : Str) : Prop := ChOk pg ∧ pg.length ≤ 700 ∧ errU (linesT pg) = none
theorem lines_one {w : Str} (h : 10 ∉ tl w) : linesT w = [w] := by
  have := TL.split_join (y := ("\n" : Str)) (s := 10) (S := []) (by decide +kernel) (by decide +kernel) (parts := [w]) (by simp) (fun p hp => by rw [List.mem_singleton.mp hp]; exact h)
  rw [join1] at this
  exact this
theorem num_free (n : Nat) : 32 ∉ tl (numT n) ∧ 10 ∉ tl (numT n) := by
  rw [tl_numT]
  exact ⟨numL_free (.inl (by decide)), numL_free (.inl (by decide))⟩
theorem num_ch (n : Nat) : ChOk (numT n) := fun c hc => by
  have := of_decide_eq_true (List.all_eq_true.mp (digB_num n) c hc)
  omega
def clashP (x y i j : Nat) : Str := Str.ofString "clash " ++ numT x ++ Str.ofString " " ++ numT y ++ Str.ofString " " ++ numT i ++ Str.ofString " " ++ numT j
theorem clash_page {x y i j : Nat} (hx : x ≤ 10 ^ 40) (hy : y ≤ 10 ^ 40) (hi : i ≤ 15) (hj : j ≤ 15) : PageOk (clashP x y i j) := by
  have e : clashP x y i j = Txt.join " " [Str.ofString "clash", numT x, numT y, numT i, numT j] := by
    unfold clashP
    rw [TL.join_eq]
    refine str_ext ?_
    rw [TL.tl_join]
    simp only [List.map, TL.tl_append, joinL]
    have e1 : tl (Str.ofString "clash ") = tl (Str.ofString "clash") ++ tl (" " : Str) := by decide +kernel
    rw [e1]
    simp only [List.append_assoc]
  have w1 : 32 ∉ tl (Str.ofString "clash") ∧ 10 ∉ tl (Str.ofString "clash") := by decide +kernel
  have fr : ∀ p ∈ [Str.ofString "clash", numT x, numT y, numT i, numT j], 32 ∉ tl p ∧ 10 ∉ tl p := fun p hp => by
    simp only [List.mem_cons, List.not_mem_nil, or_false] at hp
    rcases hp with rfl | rfl | rfl | rfl | rfl
    · exact w1
    all_goals exact num_free _
  have ew : wordsT (clashP x y i j) = [Str.ofString "clash", numT x, numT y, numT i, numT j] := by
    rw [e]
    exact TL.split_join (y := (" " : Str)) (s := 32) (S := []) (by decide +kernel) (by decide +kernel) (by simp) fun p hp => (fr p hp).1
  have n10 : 10 ∉ tl (clashP x y i j) := fun h => by
    rw [e, TL.join_eq, TL.tl_join] at h
    rcases ch_mem_joinL h with h | ⟨p, hp, h⟩
    · exact absurd h (by decide +kernel)
    · obtain ⟨w, hw, rfl⟩ := List.mem_map.mp hp
      exact (fr w hw).2 h
  refine ⟨?_, ?_, ?_⟩
  · rw [e]
    refine ch_join (ch_of (by decide +kernel)) fun p hp => ?_
    simp only [List.mem_cons, List.not_mem_nil, or_false] at hp
    rcases hp with rfl | rfl | rfl | rfl | rfl
    · exact ch_of (by decide +kernel)
    all_goals exact num_ch _
  · have l1 := num41 hx
    have l2 := num41 hy
    have l3 := num41 (Nat.le_trans hi (by decide +kernel))
    have l4 := num41 (Nat.le_trans hj (by decide +kernel))
    have e3 : (Str.ofString "clash ").length = 6 := by decide +kernel
    unfold clashP
    simp only [PySem.Str.length_append, sp1L, e3]
    omega
  · rw [lines_one n10]
    unfold errU
    rw [show head0 [clashP x y i j] = wordsT (clashP x y i j) from rfl, ew, if_pos (show [Str.ofString "clash", numT x, numT y, numT i, numT j][0]? = some (Str.ofString "clash") from rfl)]
    have : dueN b4 ([Str.ofString "clash", numT x, numT y, numT i, numT j].drop 1) = none := by
      show dueN [10 ^ 40, 10 ^ 40, 15, 15] [numT x, numT y, numT i, numT j] = none
      rw [dueN_step (w := numT x) rfl (numW_num hx)]
      rw [show [numT x, numT y, numT i, numT j].drop 1 = [numT y, numT i, numT j] from rfl, dueN_step (w := numT y) rfl (numW_num hy)]
      rw [show [numT y, numT i, numT j].drop 1 = [numT i, numT j] from rfl, dueN_step (w := numT i) rfl (numW_num hi)]
      rw [show [numT i, numT j].drop 1 = [numT j] from rfl, dueN_step (w := numT j) rfl (numW_num hj)]
      rfl
    rw [this]
    rfl
/-- a line of a paper of tables -/
def GoodL (l : Str) : Prop := l = Str.ofString "table" ∨ ∃ zs, RowOk zs ∧ l = rowT zs
theorem row_strs {zs : List Int} (h : ∀ z ∈ zs, 0 ≤ z ∧ z ≤ 1000000) : (zs.map fun z => (toString z : Str)) = zs.map fun z => numT z.toNat := List.map_congr_left fun z hz => (row_num (h z hz)).1
theorem row_words {zs : List Int} (h : RowOk zs) : wordsT (rowT zs) = zs.map fun z => numT z.toNat := by
  unfold rowT
  rw [row_strs h.2]
  refine TL.split_join (y := (" " : Str)) (s := 32) (S := []) (by decide +kernel) (by decide +kernel) (fun z => ?_) fun p hp => ?_
  · have := h.1
    rw [List.map_eq_nil_iff.mp z] at this
    cases this
  · obtain ⟨z, _, rfl⟩ := List.mem_map.mp hp
    exact (num_free _).1
theorem dueN_nums {b : Nat} : ∀ zs : List Int, (∀ z ∈ zs, 0 ≤ z ∧ z ≤ b) → dueN (List.replicate zs.length b) (zs.map fun z => numT z.toNat) = none
  | [], _ => rfl
  | z :: zs, h => by
    have hz := h z List.mem_cons_self
    rw [List.length_cons, List.replicate_succ, List.map_cons, dueN_step (w := numT z.toNat) rfl (numW_num (by omega))]
    show Option.map _ (dueN (List.replicate zs.length b) (zs.map fun z => numT z.toNat)) = none
    rw [dueN_nums zs fun y hy => h y (List.mem_cons_of_mem _ hy)]
    rfl
theorem good_err : ∀ {r : List Str} {b : Bool} {n : Nat}, (∀ l ∈ r, GoodL l) → (b = true ∨ r = [] ∨ r[0]? = some (Str.ofString "table")) → errL b n r = none
  | [], _, _, _, _ => rfl
  | l :: r, b, n, h, hb => by
    have wt0 : wordsT (Str.ofString "table") = [Str.ofString "table"] := by decide +kernel
    have ih := good_err (r := r) (b := true) (n := n + 1) (fun x hx => h x (List.mem_cons_of_mem _ hx)) (.inl rfl)
    rw [errL_cons]
    rcases h l List.mem_cons_self with rfl | ⟨zs, hz, rfl⟩
    · have it : isTab (Str.ofString "table") = true := decide_eq_true (by rw [wt0]; rfl)
      rw [if_pos it, if_neg (by rw [wt0]; decide)]
      exact ih
    · have nt : rowT zs ≠ Str.ofString "table" := fun e => by
        have := row_words hz
        rw [e, wt0] at this
        have l7 := congrArg List.length this
        rw [List.length_map, hz.1] at l7
        exact absurd l7 (by decide)
      have ni : ¬ isTab (rowT zs) = true := fun e => by
        have := of_decide_eq_true e
        rw [row_words hz] at this
        match zs, hz.1 with
        | z :: zs, _ =>
          have e2 : numT z.toNat = Str.ofString "table" := Option.some.inj this
          have := digB_num z.toNat
          rw [e2] at this
          exact absurd this (by decide +kernel)
      have nb : b ≠ false := fun e => by
        rcases hb with hb | hb | hb
        · rw [hb] at e
          cases e
        · cases hb
        · exact nt (Option.some.inj hb)
      rw [if_neg ni, if_neg nb, row_words hz]
      have : dueN b7 (zs.map fun z => numT z.toNat) = none := by
        have e := dueN_nums (b := 10 ^ 6) zs (fun z hh => ⟨(hz.2 z hh).1, (hz.2 z hh).2⟩)
        rw [hz.1] at e
        exact e
      rw [this]
      exact ih
theorem good_chars {l : Str} (h : GoodL l) : ChOk l ∧ 10 ∉ tl l ∧ l.length ≤ 60 := by
  rcases h with rfl | ⟨zs, hz, rfl⟩
  · exact ⟨ch_of (by decide +kernel), by decide +kernel, by decide +kernel⟩
  · have e := row_strs hz.2
    refine ⟨?_, fun h => ?_, row_len hz⟩
    · unfold rowT
      rw [e]
      refine ch_join (ch_of (by decide +kernel)) fun p hp => ?_
      obtain ⟨z, _, rfl⟩ := List.mem_map.mp hp
      exact num_ch _
    · unfold rowT at h
      rw [e, TL.join_eq, TL.tl_join] at h
      rcases ch_mem_joinL h with h | ⟨p, hp, h⟩
      · exact absurd h (by decide +kernel)
      · obtain ⟨w, hw, rfl⟩ := List.mem_map.mp hp
        obtain ⟨z, _, rfl⟩ := List.mem_map.mp hw
        exact (num_free _).2 h
theorem free_page {r : List Str} (h : ∀ l ∈ r, GoodL l) (hb : r = [] ∨ r[0]? = some (Str.ofString "table")) (lr : r.length ≤ 9) : PageOk (Txt.join "\n" (Str.ofString "free" :: r)) := by
  have f1 : ChOk (Str.ofString "free") ∧ 10 ∉ tl (Str.ofString "free") ∧ (Str.ofString "free").length ≤ 60 := ⟨ch_of (by decide +kernel), by decide +kernel, by decide +kernel⟩
  have al : ∀ l ∈ Str.ofString "free" :: r, ChOk l ∧ 10 ∉ tl l ∧ l.length ≤ 60 := fun l hl => by
    rcases List.mem_cons.mp hl with rfl | hl
    · exact f1
    · exact good_chars (h l hl)
  have el : linesT (Txt.join "\n" (Str.ofString "free" :: r)) = Str.ofString "free" :: r := TL.split_join (y := ("\n" : Str)) (s := 10) (S := []) (by decide +kernel) (by decide +kernel) (by simp) fun p hp => (al p hp).2.1
  have ws : ∀ l : List Str, (∀ x ∈ l, x.length ≤ 60) → wt l ≤ 61 * l.length := by
    intro l
    induction l with
    | nil => intro _; exact Nat.le_refl _
    | cons x r ih =>
      intro hx
      have h1 := ih fun y hy => hx y (List.mem_cons_of_mem _ hy)
      have h2 := hx x List.mem_cons_self
      have e : wt (x :: r) = x.length + 1 + wt r := by simp [wt]
      rw [e, List.length_cons]
      omega
  refine ⟨ch_join (ch_of (by decide +kernel)) fun p hp => (al p hp).1, ?_, ?_⟩
  · have h1 := join_le (sep := "\n") (s := 10) (ws := Str.ofString "free" :: r) rfl
    have h2 := ws _ fun x hx => (al x hx).2.2
    rw [List.length_cons] at h2
    omega
  · rw [el]
    have wf : wordsT (Str.ofString "free") = [Str.ofString "free"] := by decide +kernel
    unfold errU
    rw [show head0 (Str.ofString "free" :: r) = wordsT (Str.ofString "free") from rfl, wf]
    rw [if_neg (by decide +kernel), if_pos (by rfl), if_neg (by decide)]
    exact good_err h (.inr hb)
def spPage : Sp := fun vs H Q _ => ∃ (p l : Addr) (ns : List Int) (a b : Int), vs = [.ref p] ∧ PenAt H p l ns a b ∧ a ≤ 900000 ∧
  ∀ (H' : Hp) (pg : Str) (a' b' : Int), But p H H' → PenAt H' p l ns a' b' → a ≤ a' → a' ≤ a + 150 → PageOk pg → Q (.str pg) H'
section
variable {P : Program} {w : World} {K : PySem.W.Frag} {mg : Str → Option Value} {base : Heap}
abbrev N__law_page : List Str := ["_law_pen_here", "_law_lines", "_law_turn_so", "_law_row_so", "_law_part"]
theorem sc__law_page : FnScope N__law_page ["_law_pen_here"] (defScope s__law_page) := ⟨rfl, rfl, rfl, by decide +kernel, rfl, by decide +kernel, by decide +kernel⟩
set_option maxHeartbeats 4000000 in
theorem ok__law_page {f fD fPk : Addr} {fd fdD fdPk : FuncData} (F : Fun K "_law_page" "_law_page" s__law_page f fd) (T : TR mg)
    (GD : FnOk P w K mg base CX0 1 fD fdD ["_law_pen_here", "_law_many"] spDraw) (gD : mg "_law_draw" = some (.ref fD)) (kD : PySem.W.keepIn K (.ref fD) = true) (bD : Binds K fdD ["_law_pen_here", "_law_many"] [])
    (GPk : FnOk P w K mg base CX0 2 fPk fdPk ["_law_pen_here", "_law_some"] (spPick K)) (gPk : mg "_law_pick" = some (.ref fPk)) (kPk : PySem.W.keepIn K (.ref fPk) = true) (bPk : Binds K fdPk ["_law_pen_here", "_law_some"] []) :
    FnOk P w K mg base CX0 3 f fd ["_law_pen_here"] spPage := by
  refine F.ok sc__law_page (fun vs H Q E h => ?_) (fun cdv A outer s H vs Q E hrD2 h => ?_)
  · obtain ⟨p, l, ns, a, b, rfl, _⟩ := h
    rfl
  · obtain ⟨p, l, ns, a, b, rfl, hP, ha, k⟩ := h
    have hrD1 : Room 1 _ := hrD2.mono (by decide)
    refine ⟨_, (pss_cons (ps_if (pt_cmpR op_eq (pe_call GD hrD1 rfl gD kD bD .nil pass0 (pa_cons (pv 0) (pa_cons pe_int pa_nil))) pe_int (nomark _)) (pss_one (ps_ret (pe_op op_add_str (pe_op op_add_str (pe_op op_add_str (pe_op op_add_str (pe_op op_add_str (pe_op op_add_str (pe_op op_add_str pe_str (pe_callTy call_str_int (by rfl) T.m_str (by decide +kernel) (pa_cons (pe_call GD hrD1 rfl gD kD bD .nil pass0 (pa_cons (pv 0) (pa_cons (pe_op op_pow pe_int pe_int) pa_nil))) pa_nil))) pe_str) (pe_callTy call_str_int (by rfl) T.m_str (by decide +kernel) (pa_cons (pe_op op_sub (pe_op op_pow pe_int pe_int) (pe_call GD hrD1 rfl gD kD bD .nil pass0 (pa_cons (pv 0) (pa_cons pe_int pa_nil)))) pa_nil))) pe_str) (pe_callTy call_str_int (by rfl) T.m_str (by decide +kernel) (pa_cons (pe_call GD hrD1 rfl gD kD bD .nil pass0 (pa_cons (pv 0) (pa_cons pe_int pa_nil))) pa_nil))) pe_str) (pe_callTy call_str_int (by rfl) T.m_str (by decide +kernel) (pa_cons (pe_call GD hrD1 rfl gD kD bD .nil pass0 (pa_cons (pv 0) (pa_cons pe_int pa_nil))) pa_nil))))) pss_nil)
 (pss_cons (ps_set (i := 1) sc__law_page.nd rfl (Or.inl rfl) (pe_lst (pa_cons pe_str pa_nil)))
 (pss_cons (ps_for PassesOwn.never rfl (pi_range1 rfl T.m_range (pa_cons (pe_call GD hrD1 rfl gD kD bD .nil pass0 (pa_cons (pv 0) (pa_cons pe_int pa_nil))) pa_nil)) (pg_name (i := 2) sc__law_page.nd rfl (Or.inl rfl))
 (pss_cons (ps_expr (pe_bm PySem.F.plainAttrs_list PySem.F.slot_list_append PySem.F.type_list_append mt_append (pv 1) (pa_cons pe_str pa_nil)))
 (pss_one (ps_for PassesOwn.never rfl (pi_range1 rfl T.m_range (pa_cons (pe_call GD hrD1 rfl gD kD bD .nil pass0 (pa_cons (pv 0) (pa_cons pe_int pa_nil))) pa_nil)) (pg_name (i := 3) sc__law_page.nd rfl (Or.inl rfl))
 (pss_one (ps_expr (pe_bm PySem.F.plainAttrs_list PySem.F.slot_list_append PySem.F.type_list_append mt_append (pv 1) (pa_cons (pe_m1 PySem.F.slot_str_join PySem.F.type_str_join mt_join pe_str (pe_lc (own := [("_law_part", 4)]) (g := (gName 4)) (tt := tYes) rfl sc__law_page.nd (pi_range1 rfl T.m_range (pa_cons pe_int pa_nil)) (blkOk_by (N := N__law_page) (sc := defScope s__law_page) (by decide +kernel)) (fun _ _ _ _ _ => (pg_name (i := 4) sc__law_page.nd rfl (Or.inl rfl))) (fun _ _ _ _ _ => pts_nil) (fun _ _ _ _ _ => (pe_callTy call_str_int (by rfl) T.m_str (by decide +kernel) (pa_cons (pe_call GPk hrD2 rfl gPk kPk bPk .nil pass0 (pa_cons (pv 0) (pa_cons (pe_lst (pa_cons pe_int (pa_cons pe_int (pa_cons (pe_call GD hrD1 rfl gD kD bD .nil pass0 (pa_cons (pv 0) (pa_cons pe_int pa_nil))) (pa_cons (pe_op op_pow pe_int pe_int) pa_nil))))) pa_nil))) pa_nil))))) pa_nil))))))))
 (pss_one (ps_ret (pe_m1 PySem.F.slot_str_join PySem.F.type_str_join mt_join pe_str (pv 1))))))), ?_⟩
    have sz : PySem.sizeLine = 16777216 := rfl
    have low := hP.low
    refine ⟨_, rfl, p, l, ns, a, b, 3, rfl, hP, by omega, by decide, by decide +kernel, fun H1 d0 a1 b1 z0 z1 h10 h11 bt1 P1 => ⟨rfl, _, rfl, ?_⟩⟩
    refine ite2 (fun c => ?_) (fun c => ?_)
    · have e10 : ∀ {z : Int}, 0 ≤ z → (Str.ofString (toString z)) = numT z.toNat := fun {z} h => by
        unfold numT
        rw [Int.toNat_of_nonneg h]
      have lgz : ∀ {z : Int}, 0 ≤ z → z ≤ 10 ^ 40 → z.natAbs.log2 < 1920 := fun {z} h1 h2 => by
        have := log_small (n := z.toNat) (Nat.lt_of_le_of_lt (show z.toNat ≤ 10 ^ 40 by omega) (by decide +kernel))
        rw [Int.toNat_of_nonneg h1] at this
        exact this
      refine ⟨_, rfl, _, _, rfl, rfl, ⟨by decide, by decide, by decide⟩, p, l, ns, _, _, _, rfl, P1, by omega, by decide +kernel, by decide +kernel, fun H2 x a2 b2 x0 x1 h20 h21 bt2 P2 => ?_⟩
      have x40 : x ≤ 10 ^ 40 := by
        have e9 : ((10 : Int) ^ (9 : Int).toNat) = 1000000000 := by decide +kernel
        have e40 : (10 : Int) ^ 40 = 10000000000000000000000000000000000000000 := by decide +kernel
        omega
      have l41 : ∀ {z : Int}, 0 ≤ z → z ≤ 10 ^ 40 → (Str.ofString (toString z)).length ≤ 41 := fun {z} h1 h2 => by
        rw [e10 h1]
        exact num41 (by omega)
      have e6 : (Str.ofString "clash ").length = 6 := by decide +kernel
      have lx := l41 x0 x40
      refine ⟨_, rfl, lgz x0 x40, _, _, rfl, rfl, by rw [e6]; omega, _, _, rfl, rfl, by simp only [PySem.Str.length_append, e6, sp1L]; omega, ?_⟩
      refine ⟨_, _, rfl, rfl, ⟨by decide, by decide, by decide⟩, _, rfl, p, l, ns, _, _, 3, rfl, P2, by omega, by decide, by decide +kernel, fun H3 d a3 b3 d0' d1' h30 h31 bt3 P3 => ?_⟩
      have e40 : ((10 : Int) ^ (40 : Int).toNat) = 10 ^ 40 := by decide +kernel
      have e40b : (10 : Int) ^ 40 = 10000000000000000000000000000000000000000 := by decide +kernel
      have y0 : 0 ≤ (10 : Int) ^ (40 : Int).toNat - d := by omega
      have y40 : (10 : Int) ^ (40 : Int).toNat - d ≤ 10 ^ 40 := by omega
      have ly := l41 y0 y40
      refine ⟨_, _, rfl, rfl, _, rfl, lgz y0 y40, _, _, rfl, rfl, by
        show (Str.ofString "clash " ++ Str.ofString (toString x) ++ Str.ofString " ").length + (Str.ofString (toString ((10 : Int) ^ (40 : Int).toNat - d))).length ≤ _
        simp only [PySem.Str.length_append, e6, sp1L]
        omega, _, _, rfl, rfl, by
        show (Str.ofString "clash " ++ Str.ofString (toString x) ++ Str.ofString " " ++ Str.ofString (toString ((10 : Int) ^ (40 : Int).toNat - d))).length + (Str.ofString " ").length ≤ _
        simp only [PySem.Str.length_append, e6, sp1L]
        omega, ?_⟩
      refine ⟨_, rfl, p, l, ns, _, _, 16, rfl, P3, by omega, by decide, by decide +kernel, fun H4 u a4 b4 u0 u1 h40 h41 bt4 P4 => ?_⟩
      have u40 : u ≤ 10 ^ 40 := by omega
      have lu := l41 u0 u40
      refine ⟨_, rfl, lgz u0 u40, _, _, rfl, rfl, by
        show (Str.ofString "clash " ++ Str.ofString (toString x) ++ Str.ofString " " ++ Str.ofString (toString ((10 : Int) ^ (40 : Int).toNat - d)) ++ Str.ofString " ").length + (Str.ofString (toString u)).length ≤ _
        simp only [PySem.Str.length_append, e6, sp1L]
        omega, _, _, rfl, rfl, by
        show (Str.ofString "clash " ++ Str.ofString (toString x) ++ Str.ofString " " ++ Str.ofString (toString ((10 : Int) ^ (40 : Int).toNat - d)) ++ Str.ofString " " ++ Str.ofString (toString u)).length + (Str.ofString " ").length ≤ _
        simp only [PySem.Str.length_append, e6, sp1L]
        omega, ?_⟩
      refine ⟨_, rfl, p, l, ns, _, _, 16, rfl, P4, by omega, by decide, by decide +kernel, fun H5 v a5 b5 v0 v1 h50 h51 bt5 P5 => ?_⟩
      have v40 : v ≤ 10 ^ 40 := by omega
      have lv := l41 v0 v40
      refine ⟨_, rfl, lgz v0 v40, _, _, rfl, rfl, by
        show (Str.ofString "clash " ++ Str.ofString (toString x) ++ Str.ofString " " ++ Str.ofString (toString ((10 : Int) ^ (40 : Int).toNat - d)) ++ Str.ofString " " ++ Str.ofString (toString u) ++ Str.ofString " ").length + (Str.ofString (toString v)).length ≤ _
        simp only [PySem.Str.length_append, e6, sp1L]
        omega, ?_⟩
      have pk := clash_page (x := x.toNat) (y := ((10 : Int) ^ (40 : Int).toNat - d).toNat) (i := u.toNat) (j := v.toNat) (by omega) (by omega) (by omega) (by omega)
      have z := k H5 _ a5 b5 (((bt1.trans bt2).trans bt3).trans bt4 |>.trans bt5) P5 (by omega) (by omega) pk
      unfold clashP at z
      rw [← e10 x0, ← e10 y0, ← e10 u0, ← e10 v0] at z
      exact z
    · refine ⟨(by show 1 ≤ PySem.sizeLine; decide), fun L hL => ?_⟩
      have y1 := Same.lay (o := .lst [V.str "free"]) hL
      have hL1 : (upd H1 L (.lst [V.str "free"])) L = some (.lst [V.str "free"]) := upd_same
      have nLp : L ≠ p := (ne_of_none P1.pen hL).symm
      have P2 := P1.new (o := .lst [V.str "free"]) hL
      have nLH : ∀ {c : Addr} {o : HO}, c ≠ p → H c = some o → c ≠ L := fun n e => ne_of_none (bt1 _ _ n e) hL
      have btL : ∀ c o, c ≠ p → H c = some o → (upd H1 L (.lst [V.str "free"])) c = some o := fun c o n e => y1 _ _ (bt1 _ _ n e)
      have nLl : l ≠ L := ne_of_none P1.cells hL
      change gName 1 (V.ref L) _ (upd H1 L (.lst [V.str "free"])) _
      generalize upd H1 L (.lst [V.str "free"]) = H2 at hL1 P2 btL ⊢
      clear y1 hL
      refine ⟨_, rfl, p, l, ns, _, _, 4, rfl, P2, by omega, by decide, by decide +kernel, fun H3 m a3 b3 m0 m1 h30 h31 bt3 P3 => ?_⟩
      obtain ⟨m', rfl⟩ : ∃ m' : Nat, m = ((m' : Nat) : Int) := ⟨m.toNat, (Int.toNat_of_nonneg m0).symm⟩
      refine ⟨_, rfl, by omega, by omega, for_it walk_range (fun i σ G => ∃ (u2 u3 u4 : Option V) (a' b' : Int) (r : List Str), σ = [some (.ref p), some (.ref L), u2, u3, u4] ∧ PenAt G p l ns a' b' ∧ a ≤ a' ∧ a' ≤ a + 2 + 30 * (i : Int) ∧ (∀ c o, c ≠ p → H c = some o → G c = some o) ∧ G L = some (.lst ((Str.ofString "free" :: r).map V.str)) ∧ (∀ x ∈ r, GoodL x) ∧ (r = [] ∨ r[0]? = some (Str.ofString "table")) ∧ r.length ≤ 3 * i) ⟨none, none, none, a3, b3, [], rfl, P3, by omega, by omega, fun c o n e => bt3 _ _ n (btL c o n e), bt3 _ _ nLp hL1, (fun _ h => nomatch h), .inl rfl, Nat.le_refl _⟩ (fun _ _ _ _ _ => trivial) ?_ ?_⟩
      · rintro i v σ G G' hi ⟨u2, u3, u4, a', b', r, rfl, PG, lo, hi', btG, gL, gr, hr, lr⟩ ⟨rfl, rfl⟩
        have i3 : i < 4 := by
          have : (((m' : Nat) : Int)).toNat = m' := rfl
          omega
        have penL : ∀ {G : Hp} {o : HO} {x y : Int}, PenAt G p l ns x y → PenAt (upd G L o) p l ns x y := fun P => ⟨by rw [upd_ne nLp.symm]; exact P.pen, by rw [upd_ne nLl]; exact P.cells, P.few, P.bits, P.low⟩
        refine ⟨_, rfl, .inl ⟨rfl, _, SqL.of gL⟩, L, _, _, rfl, rfl, gL, by rw [List.length_map, List.length_cons, sz]; omega, ?_⟩
        have P4 := penL (o := .lst ((Str.ofString "free" :: r).map V.str ++ [V.str "table"])) PG
        have hL4 : (upd G' L (.lst ((Str.ofString "free" :: r).map V.str ++ [V.str "table"]))) L = some (.lst ((Str.ofString "free" :: (r ++ [Str.ofString "table"])).map V.str)) := by
          rw [upd_same, List.map_cons, List.map_cons, List.map_append]
          rfl
        have bt4 : ∀ c o, c ≠ p → H c = some o → (upd G' L (.lst ((Str.ofString "free" :: r).map V.str ++ [V.str "table"]))) c = some o := fun c o n e => by
          rw [upd_ne (nLH n e)]
          exact btG c o n e
        have gr4 : ∀ x ∈ r ++ [Str.ofString "table"], GoodL x := fun x hx => by
          rcases List.mem_append.mp hx with hx | hx
          · exact gr x hx
          · exact .inl (List.mem_singleton.mp hx)
        have hr4 : (r ++ [Str.ofString "table"])[0]? = some (Str.ofString "table") := by
          rcases hr with rfl | hr
          · rfl
          · cases r with
            | nil => cases hr
            | cons x r => exact hr
        have lr4 : (r ++ [Str.ofString "table"]).length ≤ 3 * i + 1 := by
          rw [List.length_append, List.length_singleton]
          omega
        generalize upd G' L (.lst ((Str.ofString "free" :: r).map V.str ++ [V.str "table"])) = G4 at P4 hL4 bt4 ⊢
        generalize r ++ [Str.ofString "table"] = r4 at hL4 gr4 hr4 lr4
        clear gL btG PG gr hr lr
        refine ⟨_, rfl, p, l, ns, _, _, 3, rfl, P4, by omega, by decide, by decide +kernel, fun H5 m2 a5 b5 q0 q1 h50 h51 bt5 P5 => ?_⟩
        obtain ⟨m2', rfl⟩ : ∃ m' : Nat, m2 = ((m' : Nat) : Int) := ⟨m2.toNat, (Int.toNat_of_nonneg q0).symm⟩
        refine ⟨_, rfl, by omega, by omega, for_it walk_range (fun j σ G => ∃ (u3 u4 : Option V) (a' b' : Int) (r : List Str), σ = [some (.ref p), some (.ref L), some (.int (0 + (i : Int))), u3, u4] ∧ PenAt G p l ns a' b' ∧ a ≤ a' ∧ a' ≤ a + 3 + 30 * (i : Int) + 14 * (j : Int) ∧ (∀ c o, c ≠ p → H c = some o → G c = some o) ∧ G L = some (.lst ((Str.ofString "free" :: r).map V.str)) ∧ (∀ x ∈ r, GoodL x) ∧ r[0]? = some (Str.ofString "table") ∧ r.length ≤ 3 * i + 1 + j) ⟨u3, u4, a5, b5, r4, rfl, P5, by omega, by omega, fun c o n e => bt5 _ _ n (bt4 c o n e), bt5 _ _ nLp hL4, gr4, hr4, lr4⟩ (fun _ _ _ _ _ => trivial) ?_ ?_⟩
        · rintro j v σ G6 G7 hj ⟨v3, v4, a6, b6, r6, rfl, P6, lo6, hi6, bt6, gL6, gr6, hr6, lr6⟩ ⟨rfl, rfl⟩
          have j3 : j < 3 := by
            have : (((m2' : Nat) : Int)).toNat = m2' := rfl
            omega
          refine ⟨_, rfl, .inl ⟨rfl, _, SqL.of gL6⟩, ⟨_, rfl⟩, 7, rfl, by decide, by decide, fun D hD => ?_⟩
          have nDp : D ≠ p := (ne_of_none P6.pen hD).symm
          have nDL : D ≠ L := (ne_of_none gL6 hD).symm
          have vD := Same.lay (o := .lst []) hD
          refine lc_it walk_range (fun e G => ∃ (a7 b7 : Int) (zs : List Int), PenAt G p l ns a7 b7 ∧ a6 ≤ a7 ∧ a7 ≤ a6 + 2 * (e : Int) ∧ (∀ c o, c ≠ p → c ≠ D → G7 c = some o → G c = some o) ∧ G D = some (.lst ((zs.map fun z => (toString z : Str)).map V.str)) ∧ zs.length = e ∧ ∀ z ∈ zs, 0 ≤ z ∧ z ≤ 1000000) ⟨a6, b6, [], P6.new hD, Int.le_refl _, by omega, fun c o n1 n2 e => vD _ _ e, upd_same, rfl, fun _ h => nomatch h⟩ (fun _ _ _ _ => trivial) ?_ ?_
          · rintro e x G8 G9 he ⟨a7, b7, zs, P7, lo7, hi7, bt7, gD, lz, hz⟩ ⟨rfl, rfl⟩
            have e7 : e < 7 := he
            refine ⟨rfl, _, rfl, _, rfl, p, l, ns, _, _, 30, rfl, P7, by omega, by decide, by decide +kernel, fun H8 d a8 b8 d0 d1 h80 h81 bt8 P8 => ?_⟩
            refine ⟨_, _, rfl, rfl, ⟨by decide, by decide, by decide⟩, (by show 4 ≤ PySem.sizeLine; decide), fun q hq => ?_⟩
            have nqp : q ≠ p := (ne_of_none P8.pen hq).symm
            have e6 : ((10 : Int) ^ (6 : Int).toNat) = 1000000 := by decide +kernel
            have y9 := fun o : HO => Same.lay (o := o) hq
            refine ⟨p, l, q, ns, _, _, _, rfl, P8.new hq, by omega, SqL.of upd_same, nqp, (by show 0 < 4; decide), (by show 4 ≤ 1000; decide), fun H9 ix v a9 b9 hv h90 h91 bt9 P9 => ?_⟩
            obtain ⟨z, rfl, hz0, hz1⟩ : ∃ z : Int, v = .int z ∧ 0 ≤ z ∧ z ≤ 1000000 := by
              have mv := List.mem_of_getElem? hv
              simp only [List.mem_cons, List.not_mem_nil, or_false] at mv
              rcases mv with rfl | rfl | rfl | rfl
              · exact ⟨0, rfl, by decide, by decide⟩
              · exact ⟨1, rfl, by decide, by decide⟩
              · exact ⟨d, rfl, d0, by omega⟩
              · exact ⟨_, rfl, by decide +kernel, by decide +kernel⟩
            have gD9 := bt9 _ _ nDp (y9 _ _ _ (bt8 _ _ nDp gD))
            refine ⟨z, rfl, ?_, _, gD9, small1000 (by rw [List.length_map, List.length_map]; omega), a9, b9, zs ++ [z], ?_, by omega, by omega, fun c o n1 n2 ee => ?_, ?_, by rw [List.length_append, lz]; rfl, fun z' hz' => ?_⟩
            · have := log_small (n := z.toNat) (Nat.lt_of_le_of_lt (show z.toNat ≤ 1000000 by omega) (by decide +kernel))
              rw [Int.toNat_of_nonneg hz0] at this
              exact this
            · have nDl : l ≠ D := fun ee => by
                have h1 := P7.cells
                rw [ee, gD] at h1
                cases zs with
                | nil =>
                  cases ns with
                  | nil =>
                    exact ne_of_none P6.cells hD ee
                  | cons _ _ => cases h1
                | cons _ _ =>
                  cases ns with
                  | nil => cases h1
                  | cons _ _ => cases h1
              exact ⟨by rw [upd_ne nDp.symm]; exact P9.pen, by rw [upd_ne nDl]; exact P9.cells, P9.few, P9.bits, P9.low⟩
            · rw [upd_ne n2]
              exact bt9 _ _ n1 (y9 _ _ _ (bt8 _ _ n1 (bt7 c o n1 n2 ee)))
            · rw [upd_same, List.map_append, List.map_append]
              rfl
            · rcases List.mem_append.mp hz' with hz' | hz'
              · exact hz z' hz'
              · rw [List.mem_singleton.mp hz']
                exact ⟨hz0, hz1⟩
          · rintro G8 ⟨a7, b7, zs, P7, lo7, hi7, bt7, gD, lz, hz⟩
            have ok : RowOk zs := ⟨lz, hz⟩
            have fit := row_fit ok
            have gL8 := bt7 _ _ nLp nDL.symm gL6
            refine ⟨_, D, _, rfl, rfl, .inl (SqL.of gD), by rw [sp1L]; omega, L, _, _, rfl, rfl, gL8, by rw [List.length_map, List.length_cons, sz]; omega, _, _, a7, b7, r6 ++ [rowT zs], rfl, penL P7, by omega, ?_, fun c o n e => ?_, ?_, fun x hx => ?_, ?_, ?_⟩
            · have : ((7 : Int).toNat : Int) = 7 := rfl
              omega
            · rw [upd_ne (nLH n e)]
              have h6 := bt6 c o n e
              exact bt7 c o n (ne_of_none h6 hD) h6
            · rw [upd_same, List.map_cons, List.map_cons, List.map_append]
              rfl
            · rcases List.mem_append.mp hx with hx | hx
              · exact gr6 x hx
              · exact .inr ⟨zs, ok, List.mem_singleton.mp hx⟩
            · cases r6 with
              | nil => cases hr6
              | cons x r => exact hr6
            · rw [List.length_append, List.length_singleton]
              omega
        · rintro σ G6 ⟨v3, v4, a6, b6, r6, rfl, P6, lo6, hi6, bt6, gL6, gr6, hr6, lr6⟩
          rw [show (((m2' : Nat) : Int)).toNat = m2' from rfl] at hi6 lr6
          exact ⟨_, _, _, a6, b6, r6, rfl, P6, lo6, by omega, bt6, gL6, gr6, .inr hr6, by omega⟩
      · rintro σ G ⟨u2, u3, u4, a', b', r, rfl, PG, lo, hi', btG, gL, gr, hr, lr⟩
        have m3 : m' ≤ 3 := by omega
        rw [show (((m' : Nat) : Int)).toNat = m' from rfl] at lr hi'
        have pk := free_page gr hr (by omega)
        have ws : ∀ l : List Str, (∀ x ∈ l, x.length ≤ 60) → (l.map (·.length)).sum ≤ 60 * l.length := by
          intro l
          induction l with
          | nil => intro _; exact Nat.le_refl _
          | cons x r ih =>
            intro hx
            have h1 := ih fun y hy => hx y (List.mem_cons_of_mem _ hy)
            have h2 := hx x List.mem_cons_self
            rw [List.map_cons, List.sum_cons, List.length_cons]
            omega
        have h2 := ws (Str.ofString "free" :: r) fun x hx => by
          rcases List.mem_cons.mp hx with rfl | hx
          · decide +kernel
          · exact (good_chars (gr x hx)).2.2
        have e1 : (Str.ofString "\n").length = 1 := by decide +kernel
        rw [List.length_cons] at h2
        refine ⟨⟨_, rfl⟩, _, rfl, _, L, _, rfl, rfl, .inl (SqL.of gL), by rw [e1, List.length_cons]; omega, ?_⟩
        exact k G _ a' b' btG PG lo (by omega) pk
end
end Toy
set_option maxRecDepth 100000
namespace Toy
open PySem L2 TL LamX ClX Dg
abbrev s_law : Stmt := top 51
def spTabs (K : PySem.W.Frag) (ts : List (Addr × Addr)) : Sp := fun vs H Q _ => ∃ (a : Addr) (ns : List Int), vs = [.ref a] ∧ SqL K H a (ns.map V.int) ∧ ns.length ≤ 63 ∧ (∀ z ∈ ns, Builtin.Int.intBits z ≤ 1048576) ∧ (∀ p ∈ ts, H p.2 = some (.tbl #[])) ∧ ∀ H', Q (.bl true) H'
theorem pen_ext {H H' : Hp} {p l : Addr} {ns : List Int} {a b : Int} (e : ExtN H H') (P : PenAt H p l ns a b) : PenAt H' p l ns a b := ⟨e _ _ P.pen (fun _ z => by cases z), e _ _ P.cells (fun _ z => by cases z), P.few, P.bits, P.low⟩
theorem tabs_but {p : Addr} {T : List (Addr × Str)} {G G' : Hp} {xs : List V} (hp : G p = some (.lst xs)) (bt : But p G G') (t : Tabs T G) : Tabs T G' := fun y hy => by
  obtain ⟨ps, h1, h2, h3⟩ := t y hy
  refine ⟨ps, bt _ _ (fun z => ?_) h1, h2, fun pos cv hc => ?_⟩
  · rw [z, hp] at h1
    cases h1
  · obtain ⟨c, e1, e2⟩ := h3 pos cv hc
    refine ⟨c, e1, bt _ _ (fun z => ?_) e2⟩
    rw [z, hp] at e2
    have e3 : HO.lst xs = HO.ext _ := Option.some.inj e2
    cases e3
def someW : List Str := ["", "-", "0", "1", "15", "16", "1000000", "1000001", "free", "table", "clash", "01", "-1", "a", "0 0 0 0 0 0 0", Str.ofString (toString ((10 : Int) ^ (40 : Int).toNat + 1))]
theorem some_ok : ∀ w ∈ someW, ChOk w ∧ w.length ≤ 45 := fun w hw => by
  have z : ∀ w ∈ someW, chB w = true ∧ w.length ≤ 45 := by decide +kernel
  exact ⟨ch_of (z w hw).1, (z w hw).2⟩
def fixA : List Str := ["", "free", "free ", "free\n", "free\ntable", "free\ntable\n", "free\n0 0 0 0 0 0 0", "free\ntable\n0 0 0 0 0 0", "clash", "clash 1 5 0"]
def fixB : List Str := ["clash 1 5 0 3 0", "clash 1 5 0 3\n", "clash 1 5 0 16", "-", "free\ntable table", "table"]
theorem fix_err : (fixA ++ fixB).map (fun w => errU (linesT w)) = [some (0, 0), none, some (0, 1), some (1, 0), none, some (2, 0), some (1, 0), some (2, 6), some (0, 1), some (0, 4), some (0, 5), some (1, 0), some (0, 4), some (0, 0), some (1, 1), some (0, 0)] := by decide +kernel
/-- which of the written texts are read -/
theorem fix_at {i : Nat} {w : Str} (h : (fixA ++ fixB)[i]? = some w) : errU (linesT w) = none ↔ (i == 1 || i == 4) = true := by
  have e : ((fixA ++ fixB).map (fun w => errU (linesT w)))[i]? = _ := congrArg (fun l => l[i]?) fix_err
  rw [List.getElem?_map, h] at e
  have hi := (List.getElem?_eq_some_iff.mp h).1
  have key : ∀ i, i < 16 → ∀ x : Option (Nat × Nat), some x = ([some (0, 0), none, some (0, 1), some (1, 0), none, some (2, 0), some (1, 0), some (2, 6), some (0, 1), some (0, 4), some (0, 5), some (1, 0), some (0, 4), some (0, 0), some (1, 1), some (0, 0)] : List (Option (Nat × Nat)))[i]? → (x = none ↔ (i == 1 || i == 4) = true) := by
    intro i hi
    match i, hi with
    | 0, _ => intro x h; rw [Option.some.inj h]; simp
    | 1, _ => intro x h; rw [Option.some.inj h]; simp
    | 2, _ => intro x h; rw [Option.some.inj h]; simp
    | 3, _ => intro x h; rw [Option.some.inj h]; simp
    | 4, _ => intro x h; rw [Option.some.inj h]; simp
    | 5, _ => intro x h; rw [Option.some.inj h]; simp
    | 6, _ => intro x h; rw [Option.some.inj h]; simp
    | 7, _ => intro x h; rw [Option.some.inj h]; simp
    | 8, _ => intro x h; rw [Option.some.inj h]; simp
    | 9, _ => intro x h; rw [Option.some.inj h]; simp
    | 10, _ => intro x h; rw [Option.some.inj h]; simp
    | 11, _ => intro x h; rw [Option.some.inj h]; simp
    | 12, _ => intro x h; rw [Option.some.inj h]; simp
    | 13, _ => intro x h; rw [Option.some.inj h]; simp
    | 14, _ => intro x h; rw [Option.some.inj h]; simp
    | 15, _ => intro x h; rw [Option.some.inj h]; simp
    | n + 16, h => exact absurd h (by omega)
  exact key i hi _ e
def goodI (i : Nat) : List Int := ((List.range i).filter fun j => j == 1 || j == 4).map fun j => ((j : Nat) : Int)
theorem goodI_succ (i : Nat) : goodI (i + 1) = if (i == 1 || i == 4) = true then goodI i ++ [((i : Nat) : Int)] else goodI i := by
  unfold goodI
  rw [List.range_succ, List.filter_append, List.map_append]
  by_cases c : (i == 1 || i == 4) = true
  · rw [if_pos c]
    simp only [List.filter_cons, c, if_true, List.filter_nil, List.map_cons, List.map_nil]
  · rw [if_neg c]
    have c' : (i == 1 || i == 4) = false := Bool.eq_false_iff.mpr c
    simp only [List.filter_cons, c', List.filter_nil]
    simp
theorem goodI_len (i : Nat) : (goodI i).length ≤ i := by
  unfold goodI
  rw [List.length_map]
  exact Nat.le_trans (List.length_filter_le ..) (by rw [List.length_range]; exact Nat.le_refl _)
theorem ok_one {w : Str} (h : ChOk w) (l : w.length ≤ 900) : OkS w ∧ (linesT w).length ≤ 1000 := by
  refine ⟨⟨h, by omega⟩, ?_⟩
  have h1 := wt_len (linesT w)
  have h2 : wt (linesT w) = w.length + 1 := split_wt (s := 10) rfl
  omega
theorem fix_ok : ∀ w ∈ fixA ++ fixB, ChOk w ∧ w.length ≤ 900 := fun w hw => by
  have z : ∀ w ∈ fixA ++ fixB, chB w = true ∧ w.length ≤ 900 := by decide +kernel
  exact ⟨ch_of (z w hw).1, (z w hw).2⟩
section
variable {P : Program} {w : World} {K : PySem.W.Frag} {mg : Str → Option Value} {base : Heap} {CW B CC CF : Addr}
abbrev N_law : List Str := ["_law_script", "_law_pen_here", "_law_some", "_law_turn_so", "_law_page_here", "_law_lap_so", "_law_bent_here", "_law_fixed", "_law_at", "_law_odd"]
theorem sc_law : FnScope N_law ["_law_script"] (defScope s_law) := ⟨rfl, rfl, rfl, by decide +kernel, rfl, by decide +kernel, by decide +kernel⟩
set_option maxHeartbeats 4000000 in
theorem ok_law {f fPn fPk fPg fBe fDu fOr fRu fFI fHe c TR_ TL cR cL : Addr} {fdPn fdPk fdPg fdBe fdDu fdOr fdRu fdFI : FuncData} {oc kV doc pm ct : Value} {od an : Option Addr} {osl : Array (Option Value)} {och kVh doch pmh cdvh cth : Value} {odh anh : Option Addr} {oslh : Array (Option Value)}
    (lk : K.lookup f = some ⟨oc, od, .func (PySem.W.fnOf "law" "law" (defArgs s_law) (defBody s_law) (defScope s_law) .none kV doc pm an (.ref c) ct), osl⟩) (hcd : PySem.W.codeIn K (.ref c) "law" = true) (TBl : TabB base mg c TL) (dis : TR_ ≠ TL)
    (T : TR mg) (TP : TPap K mg CC CF) (PC : PapCls K CC CF) (THd : THeard K mg CW B)
    (GPn : FnOk P w K mg base CX0 1 fPn fdPn ["_law_script"] (spPen K)) (gPn : mg "_law_pen" = some (.ref fPn)) (kPn : PySem.W.keepIn K (.ref fPn) = true) (bPn : Binds K fdPn ["_law_script"] [])
    (GPk : FnOk P w K mg base CX0 2 fPk fdPk ["_law_pen_here", "_law_some"] (spPick K)) (gPk : mg "_law_pick" = some (.ref fPk)) (kPk : PySem.W.keepIn K (.ref fPk) = true) (bPk : Binds K fdPk ["_law_pen_here", "_law_some"] [])
    (GPg : FnOk P w K mg base CX0 3 fPg fdPg ["_law_pen_here"] spPage) (gPg : mg "_law_page" = some (.ref fPg)) (kPg : PySem.W.keepIn K (.ref fPg) = true) (bPg : Binds K fdPg ["_law_pen_here"] [])
    (GBe : FnOk P w K mg base CX0 3 fBe fdBe ["_law_pen_here", "_law_page_here", "_law_some"] spBent) (gBe : mg "_law_bent" = some (.ref fBe)) (kBe : PySem.W.keepIn K (.ref fBe) = true) (bBe : Binds K fdBe ["_law_pen_here", "_law_page_here", "_law_some"] [])
    (GDu : FnOk P w K mg base CX0 3 fDu fdDu ["_law_page_here"] spLDue) (gDu : mg "_law_due" = some (.ref fDu)) (kDu : PySem.W.keepIn K (.ref fDu) = true) (bDu : Binds K fdDu ["_law_page_here"] [])
    (GOr : FnG P w K mg base CX0 8 fOr fdOr ["_law_page_here"] (spOne TR_ TL)) (gOr : mg "_law_one_right" = some (.ref fOr)) (kOr : PySem.W.keepIn K (.ref fOr) = true) (bOr : Binds K fdOr ["_law_page_here"] [])
    (GRu : FnOk P w K mg base (L2.CX P w) 5 fRu fdRu ["text"] (spReadUnit CW CC CF K)) (gRu : mg "read_unit" = some (.ref fRu)) (kRu : PySem.W.keepIn K (.ref fRu) = true) (bRu : Binds K fdRu ["text"] [])
    (MFI : Mk K CF fFI) (GFI : FnOk P w K mg base CX0 1 fFI fdFI ["self", "tables"] (spFInit CF)) (bFI : Binds K fdFI ["self", "tables"] [])
    (gHe : mg "_law_heard" = some (.ref fHe)) (kHe : PySem.W.keepIn K (.ref fHe) = true) (lkHe : K.lookup fHe = some ⟨och, odh, .func (PySem.W.fnOf "_law_heard" "_law_heard" (defArgs s__law_heard) (defBody s__law_heard) (defScope s__law_heard) .none kVh doch pmh anh cdvh cth), oslh⟩) (hcHe : PySem.W.codeIn K cdvh "_law_heard" = true)
    (bHe : L2.Binds K (PySem.W.fnOf "_law_heard" "_law_heard" (defArgs s__law_heard) (defBody s__law_heard) (defScope s__law_heard) .none kVh doch pmh anh cdvh cth) ["_law_ask"] []) :
    FnG P w K mg base CX0 9 f (PySem.W.fnOf "law" "law" (defArgs s_law) (defBody s_law) (defScope s_law) .none kV doc pm an (.ref c) ct) ["_law_script"] (spTabs K [(cR, TR_), (cL, TL)]) := by
  refine fnG_of lk hcd sc_law (fun vs H Q E h => ?_) (fun A outer s H vs Q E hgd hr h => ?_)
  · obtain ⟨a, ns, rfl, _⟩ := h
    rfl
  · obtain ⟨a, ns, rfl, hS, hl, hb, hTs, k⟩ := h
    have hrT : Room 8 _ := hr
    have hrH : Room 7 _ := hr.mono (by decide)
    have hrD3 : Room 3 _ := hr.mono (by decide)
    have hrM : Room 2 _ := hr.mono (by decide)
    have hrD2 : Room 2 _ := hr.mono (by decide)
    have hrD1 : Room 1 _ := hr.mono (by decide)
    have sz : PySem.sizeLine = 16777216 := rfl
    refine ⟨_, (pss_cons (ps_set (i := 1) sc_law.nd rfl (Or.inl rfl) (by exact (pe_call GPn hrD1 rfl gPn kPn bPn .nil pass0 (pa_cons (pv 0) pa_nil))))
 (pss_cons (ps_set (i := 2) sc_law.nd rfl (Or.inl rfl) (pe_lst (pa_cons pe_str (pa_cons pe_str (pa_cons pe_str (pa_cons pe_str (pa_cons pe_str (pa_cons pe_str (pa_cons pe_str (pa_cons pe_str (pa_cons pe_str (pa_cons pe_str (pa_cons pe_str (pa_cons pe_str (pa_cons pe_str (pa_cons pe_str (pa_cons pe_str (pa_cons (pe_callTy call_str_int (by rfl) T.m_str (by decide +kernel) (pa_cons (pe_op op_add (pe_op op_pow pe_int pe_int) pe_int) pa_nil)) pa_nil))))))))))))))))))
 (pss_cons (ps_for PassesOwn.never rfl (pi_range1 rfl T.m_range (pa_cons pe_int pa_nil)) (pg_name (i := 3) sc_law.nd rfl (Or.inl rfl))
 (pss_cons (ps_set (i := 4) sc_law.nd rfl (Or.inl rfl) (by exact (pe_call GPg hrD3 rfl gPg kPg bPg .nil pass0 (pa_cons (pv 1) pa_nil))))
 (pss_cons (ps_if (PW.pt (pw_or (pt_cmpR op_notN (pe_call GDu hrD3 rfl gDu kDu bDu .nil pass0 (pa_cons (pv 4) pa_nil)) pe_non (nomark _)) (pw_or1 (pt_not (pt_val (pe_callG GOr hgd hrT rfl gOr kOr bOr .nil pass0 (pa_cons (pv 4) pa_nil))))))) (pss_one (ps_ret pe_bl)) pss_nil)
 (pss_one (ps_for PassesOwn.never rfl (pi_range1 rfl T.m_range (pa_cons pe_int pa_nil)) (pg_name (i := 5) sc_law.nd rfl (Or.inl rfl))
 (pss_cons (ps_set (i := 6) sc_law.nd rfl (Or.inl rfl) (by exact (pe_call GBe hrD3 rfl gBe kBe bBe .nil pass0 (pa_cons (pv 1) (pa_cons (pv 4) (pa_cons (pv 2) pa_nil))))))
 (pss_one (ps_if (PW.pt (pw_or (pt_not (pt_val (pe_callG GOr hgd hrT rfl gOr kOr bOr .nil pass0 (pa_cons (pv 6) pa_nil)))) (pw_or1 (pt_not (pt_val (pe_callG GOr hgd hrT rfl gOr kOr bOr .nil pass0 (pa_cons (pe_call GBe hrD3 rfl gBe kBe bBe .nil pass0 (pa_cons (pv 1) (pa_cons (pv 6) (pa_cons (pv 2) pa_nil)))) pa_nil))))))) (pss_one (ps_ret pe_bl)) pss_nil))))))))
 (pss_cons (ps_set (i := 7) sc_law.nd rfl (Or.inr rfl) (pe_lst (pa_cons pe_str (pa_cons pe_str (pa_cons pe_str (pa_cons pe_str (pa_cons pe_str (pa_cons pe_str (pa_cons pe_str (pa_cons pe_str (pa_cons pe_str (pa_cons pe_str pa_nil))))))))))))
 (pss_cons (ps_set (i := 7) sc_law.nd rfl (Or.inr rfl) (pe_op op_cat (pv 7) (pe_lst (pa_cons pe_str (pa_cons pe_str (pa_cons pe_str (pa_cons pe_str (pa_cons pe_str (pa_cons pe_str pa_nil)))))))))
 (pss_cons (ps_if (PW.pt (pw_or (pt_cmpR (op_neD hrD1.units) (pe_lc (own := [("_law_page_here", 4)]) (g := (gName 4)) rfl sc_law.nd (pi_list (pv 7)) (blkOk_by (N := N_law) (sc := defScope s_law) (by decide +kernel)) (fun _ _ _ _ _ => (pg_name (i := 4) sc_law.nd rfl (Or.inl rfl))) (fun _ _ _ _ _ => (pts_one (pt_not (pt_val (pe_callG GOr hgd hrT rfl gOr kOr bOr .nil pass0 (pa_cons (pv 4) pa_nil)))))) (fun _ _ _ _ _ => (pv 4))) (pe_lst pa_nil) (nomark _)) (pw_or1 (pt_cmpR (op_neD hrD1.units) (pe_lc (own := [("_law_at", 8)]) (g := (gName 8)) rfl sc_law.nd (pi_range1 rfl T.m_range (pa_cons pe_int pa_nil)) (blkOk_by (N := N_law) (sc := defScope s_law) (by decide +kernel)) (fun _ _ _ _ _ => (pg_name (i := 8) sc_law.nd rfl (Or.inl rfl))) (fun _ _ _ _ _ => (pts_one (pt_cmpR op_isN (pe_call GDu hrD3 rfl gDu kDu bDu .nil pass0 (pa_cons (pe_ix (show IxR _ (rIxL K) from ix_list) (pv 7) (pv 8) (fun _ _ => rfl)) pa_nil)) pe_non (nomark _)))) (fun _ _ _ _ _ => (pv 8))) (pe_lst (pa_cons pe_int (pa_cons pe_int pa_nil))) (nomark _))))) (pss_one (ps_ret pe_bl)) pss_nil)
 (pss_cons (ps_set (i := 9) sc_law.nd rfl (Or.inr rfl) (by exact (pe_call GPk hrD2 rfl gPk kPk bPk .nil pass0 (pa_cons (pv 1) (pa_cons (pe_lst (pa_cons pe_non (pa_cons pe_int (pa_cons pe_bl (pa_cons (pe_tup (pa_cons pe_str pa_nil)) (pa_cons (pe_lst (pa_cons pe_str pa_nil)) (pa_cons pe_dnewK (pa_cons (pe_make MFI GFI hrM rfl TP.gF bFI .nil pass0 (pa_cons (pe_tup pa_nil) pa_nil)) pa_nil)))))))) pa_nil)))))
 (pss_one (ps_ret (pe_and (pe_cmpR (op_eqD hrD1.units) (pe_lamcall (T := T2 TR_ TL) (TT := TTH CW) (k := 5) (t := (fun E => (tCall (spReadUnit CW CC CF K) [] E (tCons (tVar 9) tNil)))) rfl gHe kHe lkHe hcHe bHe sc__law_heard rfl (Or.inl rfl) (heard_gives THd hrH hgd) TBl rfl t2_l (t2u_l dis) hrH (lamS_by (show lamSB (defScope s_law) _ = true by decide +kernel)) rfl (fun _ _ _ _ _ => rfl) (fun A outer s H E f c' hr => (pe_call GRu hr rfl gRu kRu bRu .nil (passes_call (takes_of rfl rfl rfl rfl) fun _ _ _ _ h => h) (pa_cons (pv 9) pa_nil)))) (pe_tup (pa_cons pe_str (pa_cons pe_str (pa_cons pe_str pa_nil)))) (nomark _)) (pe_one (pe_cmpR (op_eqD hrD1.units) (pe_call GDu hrD3 rfl gDu kDu bDu .nil pass0 (pa_cons (pe_ix ix_list (pv 7) pe_int (fun _ _ => rfl)) pa_nil)) (pe_tup (pa_cons pe_str (pa_cons pe_str (pa_cons pe_str pa_nil)))) (nomark _))))))))))))), ?_⟩
    refine ⟨_, rfl, a, ns, rfl, hS, hl, hb, fun H1 p l s1 np P1 => ?_⟩
    refine ⟨_, _, rfl, rfl, ⟨by decide, by decide, by decide⟩, _, _, rfl, rfl, _, rfl, by decide +kernel, (by show 16 ≤ PySem.sizeLine; decide), fun S gS => ?_⟩
    have nSp : S ≠ p := (ne_of_none P1.pen gS).symm
    have y1 := Same.lay (o := .lst (someW.map V.str)) gS
    have hS0 : (upd H1 S (.lst (someW.map V.str))) S = some (.lst (someW.map V.str)) := upd_same
    have P2 := P1.new (o := .lst (someW.map V.str)) gS
    have S1 : Same H (upd H1 S (.lst (someW.map V.str))) := fun _ _ z => y1 _ _ (s1 _ _ z)
    change gName 2 (V.ref S) _ (upd H1 S (.lst (someW.map V.str))) _
    generalize upd H1 S (.lst (someW.map V.str)) = H2 at hS0 P2 S1 ⊢
    clear y1 gS s1 P1 np
    refine ⟨8, rfl, by decide, by decide, for_it walk_range (fun i σ G => ∃ (a' b' : Int) (u3 u4 u5 u6 u7 u8 u9 : Option V), σ = [some (.ref a), some (.ref p), some (.ref S), u3, u4, u5, u6, u7, u8, u9] ∧ PenAt G p l ns a' b' ∧ a' ≤ 400 * (i : Int) ∧ G S = some (.lst (someW.map V.str)) ∧ Tabs (Toy.T2 TR_ TL) G) ?_ (fun _ _ _ _ _ => trivial) ?_ ?_⟩
    · refine ⟨0, 0, none, none, none, none, none, none, none, rfl, P2, by omega, hS0, fun y hy => ?_⟩
      have h1 := hTs _ List.mem_cons_self
      have h2 := hTs _ (List.mem_cons_of_mem _ List.mem_cons_self)
      rcases t2_cases hy with rfl | rfl
      · exact TabS.nil (S1 _ _ h1)
      · exact TabS.nil (S1 _ _ h2)
    · rintro i v σ G G' hi ⟨a', b', u3, u4, u5, u6, u7, u8, u9, rfl, PG, ha, hSG, tb⟩ ⟨rfl, rfl⟩
      have hi2 : i < 8 := hi
      refine ⟨_, rfl, p, l, ns, a', b', rfl, PG, by omega, fun G1 pg a1 b1 bt1 PP1 h11 h12 ⟨cp, lp, ep⟩ => ?_⟩
      have tb1 := tabs_but PG.pen bt1 tb
      have hS1 := bt1 _ _ nSp hSG
      obtain ⟨ok1, ll1⟩ := ok_one cp (by omega)
      refine ⟨_, rfl, pg, rfl, ok1, ll1, (fun i k hk => by rw [ep] at hk; cases hk), fun _ G2 s2 => ⟨rfl, _, rfl, iteF ?_⟩⟩
      refine ⟨_, rfl, pg, rfl, ok1, ll1, tb1.ext s2, fun G3 e3 t3 => ⟨_, rfl, iteF ?_⟩⟩
      have P3 := pen_ext e3 (⟨s2 _ _ PP1.pen, s2 _ _ PP1.cells, PP1.few, PP1.bits, PP1.low⟩ : PenAt G2 p l ns a1 b1)
      have hS3 := e3 _ _ (s2 _ _ hS1) fun _ z => by cases z
      clear bt1 PG tb hSG tb1 hS1 PP1
      refine ⟨4, rfl, by decide, by decide, for_it walk_range (fun j σ G => ∃ (a' b' : Int) (u5 u6 : Option V), σ = [some (.ref a), some (.ref p), some (.ref S), some (.int (0 + (i : Int))), some (.str pg), u5, u6, u7, u8, u9] ∧ PenAt G p l ns a' b' ∧ a' ≤ a1 + 20 * (j : Int) ∧ G S = some (.lst (someW.map V.str)) ∧ Tabs (Toy.T2 TR_ TL) G) ⟨a1, b1, u5, u6, rfl, P3, by omega, hS3, t3⟩ (fun _ _ _ _ _ => trivial) ?_ ?_⟩
      · rintro j v σ G4 G5 hj ⟨a4, b4', v5, v6, rfl, P4, h4, hS4, t4⟩ ⟨rfl, rfl⟩
        have hj2 : j < 4 := hj
        refine ⟨_, rfl, _, rfl, _, rfl, p, l, S, ns, _, _, pg, someW, rfl, P4, by omega, cp, by omega, hS4, nSp, by decide, by decide, some_ok, fun G6 u a6 b6 bt6 P6 l61 l62 cu lu => ?_⟩
        obtain ⟨ok2, ll2⟩ := ok_one cu (by omega)
        refine ⟨_, rfl, u, rfl, ok2, ll2, tabs_but P4.pen bt6 t4, fun G7 e7 t7 => ⟨_, rfl, iteF ?_⟩⟩
        have P7 := pen_ext e7 P6
        have hS7 := e7 _ _ (bt6 _ _ nSp hS4) fun _ z => by cases z
        refine ⟨_, rfl, _, rfl, _, rfl, p, l, S, ns, _, _, u, someW, rfl, P7, by omega, cu, by omega, hS7, nSp, by decide, by decide, some_ok, fun G8 u2 a8 b8 bt8 P8 l81 l82 cu2 lu2 => ?_⟩
        obtain ⟨ok3, ll3⟩ := ok_one cu2 (by omega)
        refine ⟨u2, rfl, ok3, ll3, tabs_but P7.pen bt8 t7, fun G9 e9 t9 => ⟨_, rfl, iteF ?_⟩⟩
        exact ⟨a8, b8, _, _, rfl, pen_ext e9 P8, by omega, e9 _ _ (bt8 _ _ nSp hS7) (fun _ z => by cases z), t9⟩
      · rintro σ G4 ⟨a4, b4', v5, v6, rfl, P4, h4, hS4, t4⟩
        have : ((4 : Int).toNat : Int) = 4 := rfl
        exact ⟨a4, b4', _, _, _, _, _, _, _, rfl, P4, by omega, hS4, t4⟩
    · rintro σ G ⟨a', b', u3, u4, u5, u6, u7, u8, u9, rfl, PG, ha, hSG, tb⟩
      have ha2 : a' ≤ 4000 := by
        have : ((8 : Int).toNat : Int) = 8 := rfl
        omega
      clear hSG hS0
      refine ⟨(by show 10 ≤ PySem.sizeLine; decide), fun c1 g1 => ?_⟩
      change gName 7 (V.ref c1) _ (upd G c1 (.lst (fixA.map V.str))) _
      have s1 : Same G (upd G c1 (.lst (fixA.map V.str))) := Same.lay g1
      have h1 : (upd G c1 (.lst (fixA.map V.str))) c1 = some (.lst (fixA.map V.str)) := upd_same
      generalize upd G c1 (.lst (fixA.map V.str)) = G1 at s1 h1 ⊢
      refine ⟨_, rfl, (by show 6 ≤ PySem.sizeLine; decide), fun c2 g2 => ?_⟩
      have y2 := Same.lay (o := .lst (fixB.map V.str)) g2
      refine ⟨c1, c2, fixA.map V.str, fixB.map V.str, rfl, rfl, y2 _ _ h1, upd_same, by decide, fun F g3 => ?_⟩
      have y3 := Same.lay (o := .lst ((fixA ++ fixB).map V.str)) g3
      change gName 7 (V.ref F) _ (upd (upd G1 c2 (.lst (fixB.map V.str))) F (.lst ((fixA ++ fixB).map V.str))) _
      have s3 : Same G (upd (upd G1 c2 (.lst (fixB.map V.str))) F (.lst ((fixA ++ fixB).map V.str))) := fun _ _ z => y3 _ _ (y2 _ _ (s1 _ _ z))
      have hF : (upd (upd G1 c2 (.lst (fixB.map V.str))) F (.lst ((fixA ++ fixB).map V.str))) F = some (.lst ((fixA ++ fixB).map V.str)) := upd_same
      generalize upd (upd G1 c2 (.lst (fixB.map V.str))) F (.lst ((fixA ++ fixB).map V.str)) = GS at s3 hF ⊢
      clear y2 y3 s1 h1 g1 g2 g3
      have tbS := tb.ext s3
      have PS : PenAt GS p l ns a' b' := ⟨s3 _ _ PG.pen, s3 _ _ PG.cells, PG.few, PG.bits, PG.low⟩
      refine ⟨_, rfl, F, rfl, ⟨_, SqL.of hF⟩, fun D3 hD3 => ?_⟩
      have y3 := Same.lay (o := .lst []) hD3
      refine lc_it (walk_list (xs := (fixA ++ fixB).map V.str)) (fun i G => ExtN (upd GS D3 (.lst [])) G ∧ Tabs (Toy.T2 TR_ TL) G) ⟨ExtN.refl _, tbS.ext y3⟩ (fun i G _ z => SqL.of (z.1 _ _ (y3 _ _ hF) fun _ y => by cases y)) ?_ ?_
      · rintro i x G3 G4 hi ⟨eG, tG⟩ ⟨rfl, hx⟩
        rw [List.getElem?_map] at hx
        obtain ⟨w, hw, rfl⟩ := Option.map_eq_some_iff.mp hx
        obtain ⟨cw, lw⟩ := fix_ok w (List.mem_of_getElem? hw)
        obtain ⟨ok4, ll4⟩ := ok_one cw lw
        refine ⟨rfl, _, rfl, w, rfl, ok4, ll4, tG, fun G5 e5 t5 => ⟨_, rfl, iteF ⟨ExtN.trans eG e5, t5⟩⟩⟩
      rintro G3 ⟨eG, tG⟩
      have hD := eG _ _ upd_same fun _ y => by cases y
      have PG3 := pen_ext eG (⟨y3 _ _ PS.pen, y3 _ _ PS.cells, PS.few, PS.bits, PS.low⟩ : PenAt (upd GS D3 (.lst [])) p l ns a' b')
      have hF3 := eG _ _ (y3 _ _ hF) fun _ y => by cases y
      refine ⟨(by show 0 ≤ PySem.sizeLine; decide), fun E1 hE1 => ?_⟩
      have y4 := Same.lay (o := .lst []) hE1
      refine ⟨.list [], .list [], .lst (SqL.of (y4 _ _ hD)) .nil, .lst (SqL.of upd_same) .nil, rfl, rfl, _, rfl, ?_⟩
      refine iteF ?_
      have PA : PenAt (upd G3 E1 (.lst [])) p l ns a' b' := ⟨y4 _ _ PG3.pen, y4 _ _ PG3.cells, PG3.few, PG3.bits, PG3.low⟩
      have tA := tG.ext y4
      have hFA := y4 _ _ hF3
      generalize upd G3 E1 (.lst []) = G at PA tA hFA ⊢
      clear y4 y3 hD hE1 eG tG PG3 PG tb PS tbS s3 hF hD3 hF3
      refine ⟨16, rfl, by decide, by decide, fun D2 hD2 => ?_⟩
      have vD := Same.lay (o := .lst []) hD2
      have nD : ∀ {c : Addr} {o : HO}, G c = some o → c ≠ D2 := fun e => ne_of_none e hD2
      refine lc_it walk_range (fun i G2 => But D2 (upd G D2 (.lst [])) G2 ∧ G2 D2 = some (.lst ((goodI i).map V.int))) ⟨But.refl _ _, upd_same⟩ (fun _ _ _ _ => trivial) ?_ ?_
      · rintro i x G2 G3 hi ⟨bt, hL⟩ ⟨rfl, rfl⟩
        have hi2 : i < 16 := hi
        obtain ⟨w, hw⟩ : ∃ w, (fixA ++ fixB)[i]? = some w := ⟨_, List.getElem?_eq_getElem (show i < (fixA ++ fixB).length from hi2)⟩
        obtain ⟨cw, lw⟩ := fix_ok w (List.mem_of_getElem? hw)
        obtain ⟨ok4, ll4⟩ := ok_one cw lw
        have hF2 := bt _ _ (nD hFA) (vD _ _ hFA)
        have e0 : (0 + (i : Int)) = ((i : Nat) : Int) := by omega
        have atw : atI ((fixA ++ fixB).map V.str) (0 + (i : Int)) = some (.str w) := by
          rw [e0]
          exact atI_nat (by rw [List.getElem?_map, hw]; rfl)
        refine ⟨rfl, _, rfl, _, rfl, F, _, _, .str w, rfl, rfl, SqL.of hF2, atw, w, rfl, ok4, ll4, (fun a' b' hk G4 t s4 ht => ?_), (fun hn G4 s4 => ?_)⟩
        · have ng : ¬ (i == 1 || i == 4) = true := fun c => by
            rw [(fix_at hw).mpr c] at hk
            cases hk
          refine ⟨rfl, _, rfl, iteF ⟨But.trans bt (But.of s4), ?_⟩⟩
          rw [goodI_succ, if_neg ng]
          exact s4 _ _ hL
        · have yg := (fix_at hw).mp hn
          have gl := goodI_len i
          refine ⟨rfl, _, rfl, iteT ⟨_, rfl, _, s4 _ _ hL, by rw [List.length_map, sz]; omega, (But.trans bt (But.of s4)).put, ?_⟩⟩
          rw [upd_same, goodI_succ, if_pos yg, List.map_append]
          show some (HO.lst (_ ++ [V.int (0 + (i : Int))])) = _
          rw [e0]
          rfl
      rintro G2 ⟨bt, hL⟩
      have s2 : Same G G2 := fun c o z => bt c o (nD z) (vD _ _ z)
      have PB : PenAt G2 p l ns a' b' := ⟨s2 _ _ PA.pen, s2 _ _ PA.cells, PA.few, PA.bits, PA.low⟩
      have tB := tA.ext s2
      have hFB := s2 _ _ hFA
      refine ⟨(by show 2 ≤ PySem.sizeLine; decide), fun E2 hE2 => ?_⟩
      have y5 := Same.lay (o := .lst [V.int 1, V.int 4]) hE2
      refine ⟨.list [.int 1, .int 4], .list [.int 1, .int 4], .lst (SqL.of (y5 _ _ hL)) (.cons (.int _) (.cons (.int _) .nil)), .lst (SqL.of upd_same) (.cons (.int _) (.cons (.int _) .nil)), by decide +kernel, by decide +kernel, _, rfl, ?_⟩
      rw [show (!PyData.eqv (.list [.int 1, .int 4]) (.list [.int 1, .int 4])) = false by decide +kernel]
      refine iteF ?_
      have PC2 : PenAt (upd G2 E2 (.lst [V.int 1, V.int 4])) p l ns a' b' := ⟨y5 _ _ PB.pen, y5 _ _ PB.cells, PB.few, PB.bits, PB.low⟩
      have tBC := tB.ext y5
      have hFC := y5 _ _ hFB
      generalize upd G2 E2 (.lst [V.int 1, V.int 4]) = G at PC2 tBC hFC ⊢
      clear y5 bt hL s2 PB tB hFB vD nD hD2 hFA tA PA hE2
      refine ⟨_, rfl, ?_⟩
      refine ⟨(by show 1 ≤ PySem.sizeLine; decide), fun e1 g1 => ?_⟩
      have y1 := Same.lay (o := .tup [V.str "free"]) g1
      refine ⟨(by show 1 ≤ PySem.sizeLine; decide), fun e2 g2 => ?_⟩
      have y2 := Same.lay (o := .lst [V.str "free"]) g2
      refine fun e3 g3 => ?_
      have y3 := Same.lay (o := .dK []) g3
      refine ⟨(by show 0 ≤ PySem.sizeLine; decide), fun e4 g4 => ?_⟩
      have y4 := Same.lay (o := .tup []) g4
      refine fun x dx nx ndx ne => ⟨x, dx, _, rfl, upd_same, rfl, ?_⟩
      have y5 : ∀ (H0 : Hp) (b : Addr) (o : HO), H0 x = none → H0 dx = none → H0 b = some o → (upd (upd (upd H0 dx (.own x)) x (.ins CF dx [])) x (.ins CF dx [("tables", .ref e4)])) b = some o := fun H0 b o n1 n2 z => by
        rw [upd_ne (ne_of_none z n1), upd_ne (ne_of_none z n1), upd_ne (ne_of_none z n2)]
        exact z
      have k1 := y5 _ _ _ nx ndx (y4 _ _ (y3 _ _ (y2 _ _ upd_same)))
      have k2 := y5 _ _ _ nx ndx (y4 _ _ (y3 _ _ upd_same))
      have k3 := y5 _ _ _ nx ndx (y4 _ _ upd_same)
      have s3 : Same G _ := fun _ _ z => y5 _ _ _ nx ndx (y4 _ _ (y3 _ _ (y2 _ _ (y1 _ _ z))))
      refine ⟨(by show 7 ≤ PySem.sizeLine; decide), fun L6 hL6 => ?_⟩
      have y6 := fun o : HO => Same.lay (o := o) hL6
      have iE : _ = some (HO.ins CF dx [("tables", V.ref e4)]) := y6 (.lst [V.non, V.int 0, V.bl true, V.ref e1, V.ref e2, V.ref e3, V.ref x]) x _ upd_same
      have k1' := y6 (.lst [V.non, V.int 0, V.bl true, V.ref e1, V.ref e2, V.ref e3, V.ref x]) _ _ k1
      have k2' := y6 (.lst [V.non, V.int 0, V.bl true, V.ref e1, V.ref e2, V.ref e3, V.ref x]) _ _ k2
      have k3' := y6 (.lst [V.non, V.int 0, V.bl true, V.ref e1, V.ref e2, V.ref e3, V.ref x]) _ _ k3
      have S6 : Same G _ := fun _ _ z => y6 (.lst [V.non, V.int 0, V.bl true, V.ref e1, V.ref e2, V.ref e3, V.ref x]) _ _ (s3 _ _ z)
      have PE1 : PenAt _ p l ns a' b' := ⟨S6 _ _ PC2.pen, S6 _ _ PC2.cells, PC2.few, PC2.bits, PC2.low⟩
      have tE := tBC.ext S6
      have hFE := S6 _ _ hFC
      have nL6 : L6 ≠ p := (ne_of_none (s3 _ _ PC2.pen) hL6).symm
      refine ⟨p, l, L6, ns, a', b', _, rfl, PE1, by omega, SqL.of upd_same, nL6, (by show 0 < 7; decide), (by show 7 ≤ 1000; decide), fun GF j v a6 b6 hv h61 h62 bt6 P6 => ?_⟩
      have ne2 : e2 ≠ p := fun z => by
        have := PE1.pen
        rw [← z, k2'] at this
        cases this
      have neF : F ≠ p := fun z => by
        have := PE1.pen
        rw [← z] at this
        exact absurd (congrArg List.length (HO.lst.inj (Option.some.inj (hFE.symm.trans this)))) (by show ¬ (16 = 3); decide)
      have net : ∀ {c : Addr} {o : HO}, (∀ xs, o ≠ .lst xs) → _ = some o → c ≠ p := fun {c o} hn hc z => by
        have := PE1.pen
        rw [← z] at this
        exact hn _ (Option.some.inj (hc.symm.trans this))
      have f1 := bt6 _ _ (net (fun xs z => by cases z) k1') k1'
      have f2 := bt6 _ _ ne2 k2'
      have f3 := bt6 _ _ (net (fun xs z => by cases z) k3') k3'
      have fE := bt6 _ _ (net (fun xs z => by cases z) iE) iE
      have fF := bt6 _ _ neF hFE
      have tF := tabs_but PE1.pen bt6 tE
      clear y5 y6 S6 s3 y1 y2 y3 y4 k1 k2 k3
      refine ⟨tF, fun G2 e2x T2x => ?_⟩
      have nst2 : NotStr K G2 v := by
        have hv2 := List.mem_of_getElem? hv
        simp only [List.mem_cons, List.not_mem_nil, or_false] at hv2
        rcases hv2 with rfl | rfl | rfl | rfl | rfl | rfl | rfl
        · exact ⟨_, (Plain.non (K := K)).ty, rfl⟩
        · exact ⟨_, (Plain.int (K := K) 0).ty, rfl⟩
        · exact ⟨_, (Plain.bl (K := K) true).ty, rfl⟩
        · exact ⟨_, (Plain.tup (K := K) (e2x _ _ f1 fun _ z => by cases z)).ty, rfl⟩
        · exact ⟨_, (Plain.lst (K := K) (e2x _ _ f2 fun _ z => by cases z)).ty, rfl⟩
        · exact ⟨_, (Plain.dK (K := K) (e2x _ _ f3 fun _ z => by cases z)).ty, rfl⟩
        · exact ⟨_, .base (.ins (e2x _ _ fE fun _ z => by cases z) TP.clF PC.haF PC.hn PC.ht PC.hmF), PC.kFs⟩
      have hF2 := e2x _ _ fF fun _ z => by cases z
      refine ⟨_, rfl, v, rfl, .inr ⟨nst2, fun d H' hd s5 hx => ?_⟩⟩
      refine ⟨[.str "text", .str (numT 0), .str (numT 0)], ⟨d, rfl, rfl, _, _, _, _, hx, shows_num (k := 0) (by decide), shows_num (k := 0) (by decide), rfl⟩, fun H3 w s6 hw => ?_⟩
      rw [n0] at hw
      refine ⟨(by show 3 ≤ PySem.sizeLine; decide), fun t ht => ?_⟩
      have y7 := Same.lay (o := .tup [V.str "text", V.str "0", V.str "0"]) ht
      have sh := shaped3 (x := "text") (y := "0") (z := "0") (by decide +kernel) (by decide +kernel) (by decide +kernel)
      refine ⟨.tuple [.str "text", .str "0", .str "0"], .tuple [.str "text", .str "0", .str "0"], .tup (SqT.of (y7 _ _ hw)) (.cons (.str _) (.cons (.str _) (.cons (.str _) .nil))), .tup (SqT.of upd_same) (.cons (.str _) (.cons (.str _) (.cons (.str _) .nil))), sh, sh, ?_⟩
      rw [PySem.SeqAt.eqv_refl _ (SeqAt.canLay_of_shaped sh)]
      have hF7 := y7 _ _ (s6 _ _ (s5 _ _ hF2))
      generalize upd H3 t (.tup [V.str "text", V.str "0", V.str "0"]) = H7 at hF7 ⊢
      refine ⟨_, rfl, iteT ?_⟩
      obtain ⟨c6, l6⟩ := fix_ok (Str.ofString "free\n0 0 0 0 0 0 0") (by decide +kernel)
      obtain ⟨ok6, ll6⟩ := ok_one c6 l6
      have e6 : errU (linesT (Str.ofString "free\n0 0 0 0 0 0 0")) = some (1, 0) := by decide +kernel
      refine ⟨_, rfl, F, _, 6, .str (Str.ofString "free\n0 0 0 0 0 0 0"), rfl, rfl, SqL.of hF7, atI_nat (j := 6) rfl, _, rfl, ok6, ll6, (fun i' k' hk H8 t8 s8 ht8 => ?_), (fun hn => by rw [e6] at hn; cases hn)⟩
      rw [e6] at hk
      obtain ⟨rfl, rfl⟩ := Prod.mk.inj (Option.some.inj hk)
      rw [n0, n1] at ht8
      refine ⟨(by show 3 ≤ PySem.sizeLine; decide), fun t9 ht9 => ?_⟩
      have y9 := Same.lay (o := .tup [V.str "text", V.str "1", V.str "0"]) ht9
      have sh9 := shaped3 (x := "text") (y := "1") (z := "0") (by decide +kernel) (by decide +kernel) (by decide +kernel)
      refine ⟨.tuple [.str "text", .str "1", .str "0"], .tuple [.str "text", .str "1", .str "0"], .tup (SqT.of (y9 _ _ ht8)) (.cons (.str _) (.cons (.str _) (.cons (.str _) .nil))), .tup (SqT.of upd_same) (.cons (.str _) (.cons (.str _) (.cons (.str _) .nil))), sh9, sh9, ?_⟩
      rw [PySem.SeqAt.eqv_refl _ (SeqAt.canLay_of_shaped sh9)]
      exact k _
end
end Toy
/-! isinstance of an own class: what the top has written of it -/
namespace L2
open PySem
structure OCls (K : PySem.W.Frag) (C : Addr) : Prop where
  cl : Cls K C
  ha : PySem.W.findIn K (.ref C) "__class__" = some (some (.builtin "object.__class__"))
  hn : PySem.W.specialIn K (.builtin "object.__class__") "__get__" = some (some (.builtin "getset_descriptor.__get__"))
  ht : PySem.W.takesIn K (.builtin "object.__class__") = some true
  hm : PySem.W.mroIn K C (.type "object") = some true
  kC : PySem.W.kitOne K (.ref C) (.ref C) = some true
  kT : PySem.W.kitOne K (.type "tuple") (.ref C) = some false
  kS : ∀ S ∈ plainTys, PySem.W.kitOne K (.type S) (.ref C) = some false
def oclsB (K : PySem.W.Frag) (C : Addr) : Bool := decide (PySem.W.findIn K (.ref C) "__class__" = some (some (.builtin "object.__class__"))) && (decide (PySem.W.specialIn K (.builtin "object.__class__") "__get__" = some (some (.builtin "getset_descriptor.__get__"))) && (decide (PySem.W.takesIn K (.builtin "object.__class__") = some true) &&
  (decide (PySem.W.mroIn K C (.type "object") = some true) && (decide (PySem.W.kitOne K (.ref C) (.ref C) = some true) && (decide (PySem.W.kitOne K (.type "tuple") (.ref C) = some false) && plainTys.all fun S => decide (PySem.W.kitOne K (.type S) (.ref C) = some false))))))
theorem ocls_of {K : PySem.W.Frag} {C : Addr} (cl : Cls K C) (q : oclsB K C = true) : OCls K C := by
  unfold oclsB at q
  simp only [Bool.and_eq_true, decide_eq_true_eq] at q
  obtain ⟨h1, h2, h3, h4, h5, h6, h7⟩ := q
  exact ⟨cl, h1, h2, h3, h4, h5, h6, fun S hS => of_decide_eq_true (List.all_eq_true.mp h7 S hS)⟩
end L2
set_option maxRecDepth 100000
namespace L2
open PySem PySem.Spec PyProof.Rows He
/-! a head by defs at told places, one Bool, and the table of one def that makes lambdas -/
structure DefA where
  at_ : PySem.W.Frag → Addr
  name : Str
  qual : Str
  st : Stmt
def fnA (K : PySem.W.Frag) (d : DefA) : FnW := match K.lookup (d.at_ K) with
  | some ⟨_, _, .func fd, _⟩ => some (fd.name, fd.qualname, fd.params, fd.body, fd.scope, fd.globals, fd.closure, fd.builtins)
  | _ => none
def DefA.val (d : DefA) : FnW := some (d.name, d.qual, defArgs d.st, .stmts (defBody d.st), defScope d.st, mainGlobals, [], builtinsNs)
def DefA.ok (K : PySem.W.Frag) (d : DefA) : Bool := PySem.W.keepIn K (.ref (d.at_ K)) && (match K.lookup (d.at_ K) with
  | some ⟨_, _, .func fd, _⟩ => PySem.W.codeIn K fd.code d.qual && decide (fd.defaults = .none)
  | _ => false)
theorem DefA.to {K : PySem.W.Frag} {d : DefA} (e : fnA K d = d.val) (c : d.ok K = true) : ∃ fd, Fun K d.name d.qual d.st (d.at_ K) fd := by
  obtain ⟨kp, c2⟩ := ba c
  unfold fnA at e
  split at e
  · rename_i oc od fd osl q
    rw [q] at c2
    obtain ⟨m1, m2, m3, m4, m5, m6, m7, m8, m9, m10, m11, m12, m13, m14, m15⟩ := fd
    have e2 := Option.some.inj e
    simp only [Prod.mk.injEq] at e2
    obtain ⟨h1, h2, h3, h4, h5, h6, h7, h8⟩ := e2
    subst h1 h2 h3 h4 h5 h6 h7 h8
    obtain ⟨k1, k2⟩ := ba c2
    have k3 := of_decide_eq_true k2
    dsimp only at k3
    subst k3
    exact ⟨_, ⟨oc, od, _, _, _, _, _, _, osl, rfl, q, k1⟩, kp⟩
  · cases e
structure SaysH (ds : List DefA) (p : Defn) (ex : PySem.W.Frag → Bool) (h : Heap) (K : PySem.W.Frag) : Prop where
  more : ex K = true
  defs : ∀ d ∈ ds, ∃ fd, Fun K d.name d.qual d.st (d.at_ K) fd
  hd : PySem.W.codeHdIn K (cT K p).1 (cT K p).2 = true
  out : K.lookup (cT K p).2 = none
  empty : h.get? (cT K p).2 = some { cls := .none, data := .fields #[] }
def obsH (n : Nat) (ds : List DefA) (p : Defn) (ex : PySem.W.Frag → Bool) (g : Addr → Option Obj) : Bool × List FnW :=
  (ex (frT g (asD g n)) && ((ds.all fun d => d.ok (frT g (asD g n))) && tabsB g [p] (frT g (asD g n))), ds.map (fnA (frT g (asD g n))))
theorem says_of {n : Nat} {ds : List DefA} {p : Defn} {ex : PySem.W.Frag → Bool} {h : Heap} (e : obsH n ds p ex h.get? = (true, ds.map DefA.val)) : SaysH ds p ex h (frT h.get? (asD h.get? n)) := by
  have e1 : (ex (frT h.get? (asD h.get? n)) && ((ds.all fun d => d.ok (frT h.get? (asD h.get? n))) && tabsB h.get? [p] (frT h.get? (asD h.get? n)))) = true := congrArg (·.1) e
  have e2 : ds.map (fnA (frT h.get? (asD h.get? n))) = ds.map DefA.val := congrArg (·.2) e
  obtain ⟨x1, x2⟩ := ba e1
  obtain ⟨x3, x4⟩ := ba x2
  obtain ⟨y1, y2⟩ := ba (List.all_eq_true.mp x4 p (List.mem_singleton.mpr rfl))
  obtain ⟨o, o1, o2⟩ : ∃ o, h.get? (cT (frT h.get? (asD h.get? n)) p).2 = some o ∧ emptyTab o = true := by
    split at y2
    · rename_i o q
      exact ⟨o, q, y2⟩
    · cases y2
  refine ⟨x1, fun d hd => ?_, y1, frT_none o1 o2, by rw [o1, emptyTab_eq o2]⟩
  obtain ⟨i, hi, ei⟩ := List.mem_iff_getElem.mp hd
  refine DefA.to ?_ (List.all_eq_true.mp x3 d hd)
  have z : (ds.map (fnA (frT h.get? (asD h.get? n))))[i]? = (ds.map DefA.val)[i]? := by rw [e2]
  rw [List.getElem?_map, List.getElem?_map, List.getElem?_eq_getElem hi, ei] at z
  exact Option.some.inj z
def hookH (n : Nat) (ds : List DefA) (p : Defn) (ex : PySem.W.Frag → Bool) : PySem.W.Hook where
  α := Bool × List FnW
  obs := fun s => obsH n ds p ex s.heap.get?
  val := fun _ => (true, ds.map DefA.val)
  says := fun _ h => ∃ K : PySem.W.Frag, K.In h ∧ SaysH ds p ex h K
  of := fun _ _ e => ⟨_, frT_in, says_of e⟩
  keeps := fun _ _ _ ⟨K, hK, c⟩ k => ⟨K, PySem.W.Frag.In.keeps hK k, ⟨c.more, c.defs, c.hd, c.out, k _ _ c.empty⟩⟩
theorem obsH_eq {n : Nat} {ds : List DefA} {p : Defn} {ex : PySem.W.Frag → Bool} {g : Addr → Option Obj} {s : Shared} (h : ∀ a, g a = s.heap.get? a) : obsH n ds p ex g = (hookH n ds p ex).obs s := by
  obtain rfl : g = s.heap.get? := funext h
  rfl
end L2
set_option maxRecDepth 100000
namespace L2
open PySem PySem.Spec PyProof.Rows He
/-! a head by defs at told places, one Bool, and the tables of several defs that make lambdas -/
structure SaysHs (ds : List DefA) (ps : List Defn) (ex : PySem.W.Frag → Bool) (h : Heap) (K : PySem.W.Frag) : Prop where
  more : ex K = true
  defs : ∀ d ∈ ds, ∃ fd, Fun K d.name d.qual d.st (d.at_ K) fd
  hd : ∀ p ∈ ps, PySem.W.codeHdIn K (cT K p).1 (cT K p).2 = true
  out : ∀ p ∈ ps, K.lookup (cT K p).2 = none
  empty : ∀ p ∈ ps, h.get? (cT K p).2 = some { cls := .none, data := .fields #[] }
def obsHs (n : Nat) (ds : List DefA) (ps : List Defn) (ex : PySem.W.Frag → Bool) (g : Addr → Option Obj) : Bool × List FnW :=
  (ex (frT g (asD g n)) && ((ds.all fun d => d.ok (frT g (asD g n))) && tabsB g ps (frT g (asD g n))), ds.map (fnA (frT g (asD g n))))
theorem saysHs_of {n : Nat} {ds : List DefA} {ps : List Defn} {ex : PySem.W.Frag → Bool} {h : Heap} (e : obsHs n ds ps ex h.get? = (true, ds.map DefA.val)) : SaysHs ds ps ex h (frT h.get? (asD h.get? n)) := by
  have e1 : (ex (frT h.get? (asD h.get? n)) && ((ds.all fun d => d.ok (frT h.get? (asD h.get? n))) && tabsB h.get? ps (frT h.get? (asD h.get? n)))) = true := congrArg (·.1) e
  have e2 : ds.map (fnA (frT h.get? (asD h.get? n))) = ds.map DefA.val := congrArg (·.2) e
  obtain ⟨x1, x2⟩ := ba e1
  obtain ⟨x3, x4⟩ := ba x2
  have one : ∀ p ∈ ps, PySem.W.codeHdIn (frT h.get? (asD h.get? n)) (cT (frT h.get? (asD h.get? n)) p).1 (cT (frT h.get? (asD h.get? n)) p).2 = true ∧ ∃ o, h.get? (cT (frT h.get? (asD h.get? n)) p).2 = some o ∧ emptyTab o = true := fun p hp => by
    obtain ⟨y1, y2⟩ := ba (List.all_eq_true.mp x4 p hp)
    refine ⟨y1, ?_⟩
    split at y2
    · rename_i o q
      exact ⟨o, q, y2⟩
    · cases y2
  refine ⟨x1, fun d hd => ?_, fun p hp => (one p hp).1, fun p hp => ?_, fun p hp => ?_⟩
  · obtain ⟨i, hi, ei⟩ := List.mem_iff_getElem.mp hd
    refine DefA.to ?_ (List.all_eq_true.mp x3 d hd)
    have z : (ds.map (fnA (frT h.get? (asD h.get? n))))[i]? = (ds.map DefA.val)[i]? := by rw [e2]
    rw [List.getElem?_map, List.getElem?_map, List.getElem?_eq_getElem hi, ei] at z
    exact Option.some.inj z
  · obtain ⟨_, o, o1, o2⟩ := one p hp
    exact frT_none o1 o2
  · obtain ⟨_, o, o1, o2⟩ := one p hp
    rw [o1, emptyTab_eq o2]
def hookHs (n : Nat) (ds : List DefA) (ps : List Defn) (ex : PySem.W.Frag → Bool) : PySem.W.Hook where
  α := Bool × List FnW
  obs := fun s => obsHs n ds ps ex s.heap.get?
  val := fun _ => (true, ds.map DefA.val)
  says := fun _ h => ∃ K : PySem.W.Frag, K.In h ∧ SaysHs ds ps ex h K
  of := fun _ _ e => ⟨_, frT_in, saysHs_of e⟩
  keeps := fun _ _ _ ⟨K, hK, c⟩ k => ⟨K, PySem.W.Frag.In.keeps hK k, ⟨c.more, c.defs, c.hd, c.out, fun p hp => k _ _ (c.empty p hp)⟩⟩
theorem obsHs_eq {n : Nat} {ds : List DefA} {ps : List Defn} {ex : PySem.W.Frag → Bool} {g : Addr → Option Obj} {s : Shared} (h : ∀ a, g a = s.heap.get? a) : obsHs n ds ps ex g = (hookHs n ds ps ex).obs s := by
  obtain rfl : g = s.heap.get? := funext h
  rfl
end L2
set_option maxRecDepth 100000
namespace L2
open PySem PySem.Spec PyProof.Rows He
/-! the head once more: defs with defaults besides, and the interpreter's own statics -/
def frC (g : Addr → Option Obj) (n : Nat) : PySem.W.Frag := frT g (He5.asA g n)
structure SaysHc (ds : List DefA) (dd : List He5.DefA) (ps : List Defn) (ex : PySem.W.Frag → Bool) (h : Heap) (K : PySem.W.Frag) : Prop where
  more : ex K = true
  defs : ∀ d ∈ ds, ∃ fd, Fun K d.name d.qual d.st (d.at_ K) fd
  defd : ∀ d ∈ dd, ∃ fd, FunD K d.name d.qual d.params d.body d.scope (d.dvs K) (d.kws K) (d.at_ K) fd
  hd : ∀ p ∈ ps, PySem.W.codeHdIn K (cT K p).1 (cT K p).2 = true
  out : ∀ p ∈ ps, K.lookup (cT K p).2 = none
  empty : ∀ p ∈ ps, h.get? (cT K p).2 = some { cls := .none, data := .fields #[] }
def obsHc (n : Nat) (ds : List DefA) (dd : List He5.DefA) (ps : List Defn) (ex : PySem.W.Frag → Bool) (g : Addr → Option Obj) : Bool × List FnW :=
  (ex (frC g n) && ((ds.all fun d => d.ok (frC g n)) && ((dd.all fun d => d.ok (frC g n)) && tabsB g ps (frC g n))), ds.map (fnA (frC g n)) ++ dd.map fun d => He5.fnA (frC g n) (d.at_ (frC g n)))
def valHc (ds : List DefA) (dd : List He5.DefA) : Bool × List FnW := (true, ds.map DefA.val ++ dd.map He5.DefA.val)
theorem saysHc_of {n : Nat} {ds : List DefA} {dd : List He5.DefA} {ps : List Defn} {ex : PySem.W.Frag → Bool} {h : Heap} (e : obsHc n ds dd ps ex h.get? = valHc ds dd) : SaysHc ds dd ps ex h (frC h.get? n) := by
  have e1 : (ex (frC h.get? n) && ((ds.all fun d => d.ok (frC h.get? n)) && ((dd.all fun d => d.ok (frC h.get? n)) && tabsB h.get? ps (frC h.get? n)))) = true := congrArg (·.1) e
  have e2 : ds.map (fnA (frC h.get? n)) ++ (dd.map fun d => He5.fnA (frC h.get? n) (d.at_ (frC h.get? n))) = ds.map DefA.val ++ dd.map He5.DefA.val := congrArg (·.2) e
  obtain ⟨x1, x2⟩ := ba e1
  obtain ⟨x3, x4⟩ := ba x2
  obtain ⟨x5, x6⟩ := ba x4
  obtain ⟨e3, e4⟩ := List.append_inj e2 (by rw [List.length_map, List.length_map])
  have one : ∀ p ∈ ps, PySem.W.codeHdIn (frC h.get? n) (cT (frC h.get? n) p).1 (cT (frC h.get? n) p).2 = true ∧ ∃ o, h.get? (cT (frC h.get? n) p).2 = some o ∧ emptyTab o = true := fun p hp => by
    obtain ⟨y1, y2⟩ := ba (List.all_eq_true.mp x6 p hp)
    refine ⟨y1, ?_⟩
    split at y2
    · rename_i o q
      exact ⟨o, q, y2⟩
    · cases y2
  refine ⟨x1, fun d hd => ?_, fun d hd => ?_, fun p hp => (one p hp).1, fun p hp => ?_, fun p hp => ?_⟩
  · obtain ⟨i, hi, ei⟩ := List.mem_iff_getElem.mp hd
    refine DefA.to ?_ (List.all_eq_true.mp x3 d hd)
    have z : (ds.map (fnA (frC h.get? n)))[i]? = (ds.map DefA.val)[i]? := by rw [e3]
    rw [List.getElem?_map, List.getElem?_map, List.getElem?_eq_getElem hi, ei] at z
    exact Option.some.inj z
  · obtain ⟨i, hi, ei⟩ := List.mem_iff_getElem.mp hd
    refine He5.DefA.funD ?_ (List.all_eq_true.mp x5 d hd)
    have z : (dd.map fun d => He5.fnA (frC h.get? n) (d.at_ (frC h.get? n)))[i]? = (dd.map He5.DefA.val)[i]? := by rw [e4]
    rw [List.getElem?_map, List.getElem?_map, List.getElem?_eq_getElem hi, ei] at z
    exact Option.some.inj z
  · obtain ⟨_, o, o1, o2⟩ := one p hp
    exact frT_none o1 o2
  · obtain ⟨_, o, o1, o2⟩ := one p hp
    rw [o1, emptyTab_eq o2]
def hookHc (n : Nat) (ds : List DefA) (dd : List He5.DefA) (ps : List Defn) (ex : PySem.W.Frag → Bool) : PySem.W.Hook where
  α := Bool × List FnW
  obs := fun s => obsHc n ds dd ps ex s.heap.get?
  val := fun _ => valHc ds dd
  says := fun _ h => ∃ K : PySem.W.Frag, K.In h ∧ SaysHc ds dd ps ex h K
  of := fun _ _ e => ⟨_, frT_in, saysHc_of e⟩
  keeps := fun _ _ _ ⟨K, hK, c⟩ k => ⟨K, PySem.W.Frag.In.keeps hK k, ⟨c.more, c.defs, c.defd, c.hd, c.out, fun p hp => k _ _ (c.empty p hp)⟩⟩
theorem obsHc_eq {n : Nat} {ds : List DefA} {dd : List He5.DefA} {ps : List Defn} {ex : PySem.W.Frag → Bool} {g : Addr → Option Obj} {s : Shared} (h : ∀ a, g a = s.heap.get? a) : obsHc n ds dd ps ex g = (hookHc n ds dd ps ex).obs s := by
  obtain rfl : g = s.heap.get? := funext h
  rfl
/-- a class's attributes are read as a type's are -/
def creadB (K : PySem.W.Frag) (C : Addr) : Bool := PySem.W.readsIn K C (.type "type") && eqO (PySem.W.specialIn K (.ref C) "__getattribute__") (some (some (.builtin "type.__getattribute__")))
theorem cread_of {K : PySem.W.Frag} {C : Addr} (h : creadB K C = true) : ClX.CRead K C (.type "type") := by
  obtain ⟨h1, h2⟩ := ba h
  exact ⟨h1, eqO_ok h2⟩
def cmB (K : PySem.W.Frag) (C : Addr) (m : Str) : Bool := He5.wrapB K C "classmethod" "classmethod.__get__" m && PySem.W.fnIn K (He5.wf K C "classmethod" m)
theorem cm_of {K : PySem.W.Frag} {C : Addr} {m : Str} (h : cmB K C m = true) : ClX.CMet K C (.type "type") m (He.ma K C m) (He5.wf K C "classmethod" m) := by
  obtain ⟨h1, h2⟩ := ba h
  exact He5.cmet_of h1 h2
end L2
set_option maxRecDepth 100000
namespace L2
open PySem PySem.Spec PyProof.Rows He PySem.Calls
/-! the head's run, its looks in parts (each part runs the top anew, so that no part needs the memory of all), over the fragment of the whole heap -/
/-- the fragment: all of the heap's objects at the top's end, the last laid first (no search for what the names reach) -/
def frR (g : Addr → Option Obj) (n : Nat) : PySem.W.Frag := frT g (mainGlobals :: (List.range n).reverse)
def obsHr (n : Nat) (ds : List DefA) (dd : List He5.DefA) (ps : List Defn) (ex : PySem.W.Frag → Bool) (g : Addr → Option Obj) : Bool × List FnW :=
  (ex (frR g n) && ((ds.all fun d => d.ok (frR g n)) && ((dd.all fun d => d.ok (frR g n)) && tabsB g ps (frR g n))), ds.map (fnA (frR g n)) ++ dd.map fun d => He5.fnA (frR g n) (d.at_ (frR g n)))
theorem saysHr_of {n : Nat} {ds : List DefA} {dd : List He5.DefA} {ps : List Defn} {ex : PySem.W.Frag → Bool} {h : Heap} (e : obsHr n ds dd ps ex h.get? = valHc ds dd) : SaysHc ds dd ps ex h (frR h.get? n) := by
  have e1 : (ex (frR h.get? n) && ((ds.all fun d => d.ok (frR h.get? n)) && ((dd.all fun d => d.ok (frR h.get? n)) && tabsB h.get? ps (frR h.get? n)))) = true := congrArg (·.1) e
  have e2 : ds.map (fnA (frR h.get? n)) ++ (dd.map fun d => He5.fnA (frR h.get? n) (d.at_ (frR h.get? n))) = ds.map DefA.val ++ dd.map He5.DefA.val := congrArg (·.2) e
  obtain ⟨x1, x2⟩ := ba e1
  obtain ⟨x3, x4⟩ := ba x2
  obtain ⟨x5, x6⟩ := ba x4
  obtain ⟨e3, e4⟩ := List.append_inj e2 (by rw [List.length_map, List.length_map])
  have one : ∀ p ∈ ps, PySem.W.codeHdIn (frR h.get? n) (cT (frR h.get? n) p).1 (cT (frR h.get? n) p).2 = true ∧ ∃ o, h.get? (cT (frR h.get? n) p).2 = some o ∧ emptyTab o = true := fun p hp => by
    obtain ⟨y1, y2⟩ := ba (List.all_eq_true.mp x6 p hp)
    refine ⟨y1, ?_⟩
    split at y2
    · rename_i o q
      exact ⟨o, q, y2⟩
    · cases y2
  refine ⟨x1, fun d hd => ?_, fun d hd => ?_, fun p hp => (one p hp).1, fun p hp => ?_, fun p hp => ?_⟩
  · obtain ⟨i, hi, ei⟩ := List.mem_iff_getElem.mp hd
    refine DefA.to ?_ (List.all_eq_true.mp x3 d hd)
    have z : (ds.map (fnA (frR h.get? n)))[i]? = (ds.map DefA.val)[i]? := by rw [e3]
    rw [List.getElem?_map, List.getElem?_map, List.getElem?_eq_getElem hi, ei] at z
    exact Option.some.inj z
  · obtain ⟨i, hi, ei⟩ := List.mem_iff_getElem.mp hd
    refine He5.DefA.funD ?_ (List.all_eq_true.mp x5 d hd)
    have z : (dd.map fun d => He5.fnA (frR h.get? n) (d.at_ (frR h.get? n)))[i]? = (dd.map He5.DefA.val)[i]? := by rw [e4]
    rw [List.getElem?_map, List.getElem?_map, List.getElem?_eq_getElem hi, ei] at z
    exact Option.some.inj z
  · obtain ⟨_, o, o1, o2⟩ := one p hp
    exact frT_none o1 o2
  · obtain ⟨_, o, o1, o2⟩ := one p hp
    rw [o1, emptyTab_eq o2]
def hookHr (n : Nat) (ds : List DefA) (dd : List He5.DefA) (ps : List Defn) (ex : PySem.W.Frag → Bool) : PySem.W.Hook where
  α := Bool × List FnW
  obs := fun s => obsHr n ds dd ps ex s.heap.get?
  val := fun _ => valHc ds dd
  says := fun _ h => ∃ K : PySem.W.Frag, K.In h ∧ SaysHc ds dd ps ex h K
  of := fun _ _ e => ⟨_, frT_in, saysHr_of e⟩
  keeps := fun _ _ _ ⟨K, hK, c⟩ k => ⟨K, PySem.W.Frag.In.keeps hK k, ⟨c.more, c.defs, c.defd, c.hd, c.out, fun p hp => k _ _ (c.empty p hp)⟩⟩
theorem obsHr_eq {n : Nat} {ds : List DefA} {dd : List He5.DefA} {ps : List Defn} {ex : PySem.W.Frag → Bool} {g : Addr → Option Obj} {s : Shared} (h : ∀ a, g a = s.heap.get? a) : obsHr n ds dd ps ex g = (hookHr n ds dd ps ex).obs s := by
  obtain rfl : g = s.heap.get? := funext h
  rfl
noncomputable def runQ (M : Nat) (p : Program) (w : World) : Option (Shared × PySem.W.SharedT) := HandSHeadRun.wholeF (fun q => HandSHeadRun.stepQ (HandSHeadRun.denQ HandSHeadRun.tabQ) q w) HandSHeadRun.fenceQ M p
theorem run_parts {r : PySem.W.OpenRow} {q : Program} {n M : Nat} {ds : List DefA} {dd : List He5.DefA} {ps : List Defn} {ex e1 e2 e3 : PySem.W.Frag → Bool} {loose : List Str} {w : World} (he : ∀ K, ex K = (e1 K && (e2 K && e3 K)))
    (h0 : (runQ M r.prog w).map (fun x => (HandSHeadRun.looksF r.prog x.1.heap x.2.abs, HandSHeadRun.seenQ q loose (importedModules r.prog.main.body) (fun s => PySem.W.xlAt q [] s && PySem.W.recOk r.toRowW.records s) x.2.abs)) = some (true, PySem.W.openGood q loose))
    (h1 : (runQ M r.prog w).map (fun x => e1 (frR (HandSHeadRun.getT x.2) n)) = some true) (h2 : (runQ M r.prog w).map (fun x => e2 (frR (HandSHeadRun.getT x.2) n)) = some true) (h3 : (runQ M r.prog w).map (fun x => e3 (frR (HandSHeadRun.getT x.2) n)) = some true)
    (h4 : (runQ M r.prog w).map (fun x => (obsHr n ds dd ps (fun _ => true) (HandSHeadRun.getT x.2))) = some (valHc ds dd)) :
    HandSHeadRun.RunEqI r q (hookHr n ds dd ps ex) (fun s => obsHr n ds dd ps ex (HandSHeadRun.getT s)) M loose w := by
  unfold HandSHeadRun.RunEqI
  unfold runQ at h0 h1 h2 h3 h4
  cases c : HandSHeadRun.wholeF (fun q => HandSHeadRun.stepQ (HandSHeadRun.denQ HandSHeadRun.tabQ) q w) HandSHeadRun.fenceQ M r.prog with
  | none =>
    rw [c] at h1
    cases h1
  | some x =>
    rw [c] at h0 h1 h2 h3 h4
    have g0 := Option.some.inj h0
    have g1 : e1 (frR (HandSHeadRun.getT x.2) n) = true := Option.some.inj h1
    have g2 : e2 (frR (HandSHeadRun.getT x.2) n) = true := Option.some.inj h2
    have g3 : e3 (frR (HandSHeadRun.getT x.2) n) = true := Option.some.inj h3
    have g4 : obsHr n ds dd ps (fun _ => true) (HandSHeadRun.getT x.2) = valHc ds dd := Option.some.inj h4
    have g5 : obsHr n ds dd ps ex (HandSHeadRun.getT x.2) = valHc ds dd := by
      rw [← g4]
      unfold obsHr
      rw [he, g1, g2, g3]
      rfl
    show some (HandSHeadRun.looksF r.prog x.1.heap x.2.abs, HandSHeadRun.seenQ q loose (importedModules r.prog.main.body) (fun s => PySem.W.xlAt q [] s && PySem.W.recOk r.toRowW.records s) x.2.abs, obsHr n ds dd ps ex (HandSHeadRun.getT x.2)) = some (true, PySem.W.openGood q loose, valHc ds dd)
    rw [g5]
    obtain ⟨a, b⟩ := Prod.mk.inj g0
    rw [a, b]
end L2
set_option maxRecDepth 100000
namespace Toy
open PySem L2 LamX
/-! the head: what the top leaves, by one run -/
abbrev R : PySem.W.OpenRow := PySem.W.OpenLaw.row PySem.Challenge.rw_lanebanks_k87_texts_that_are_no_papers_o
def fa1 : List He.Fa := [.glo "is_integer", .glo "is_within", .glo "whole_in", .glo "lines_of", .glo "words_at", .glo "check_no_line", .glo "check_no_word", .glo "word_in", .glo "number_in", .glo "is_row_below", .glo "is_clash", .glo "are_tables", .glo "unit_text", .glo "clash_in", .glo "row_in", .glo "tables_in", .glo "read_unit", .glo "_law_pen", .glo "_law_draw", .glo "_law_pick", .glo "_law_heard", .glo "_law_is_number", .glo "_law_numbers_due", .glo "_law_due", .glo "_law_bent", .glo "_law_page", .glo "_law_one_right", .glo "law", .glo "BankError", .glo "BadText", .glo "BadUnit", .glo "BadRule", .glo "BadLog"]
def fa2 : List He.Fa := [.glo "BadSet", .glo "Clash", .glo "Free", .free "isinstance", .free "int", .free "bool", .free "len", .free "all", .free "str", .free "list", .free "tuple", .free "range", .free "zip", .free "repr", .free "enumerate", .free "abs", .int "GREATEST_STRIDE" (10 ^ 40), .int "GREATEST_PART" (10 ^ 6), .int "ROW_PARTS" 7, .int "MOST_LANES" 16, .str "DIGITS" "0123456789", .cls "Clash", .cls "Free", .noat "Clash" "stride", .noat "Clash" "start", .noat "Clash" "one", .noat "Clash" "other", .noat "Free" "tables", .noat "BadText" "line", .noat "BadText" "word", .noat "BadUnit" "part", .mkr "Clash", .mkr "Free", .exm "BadText" "BankError" true]
def initB (K : PySem.W.Frag) (x : Str) : Bool := decide (PySem.W.findIn K (.ref (He.ga K x)) "__init__" = some (some (.ref (He.ma K (He.ga K x) "__init__")))) && decide (PySem.W.typeIn K (.ref (He.ma K (He.ga K x) "__init__")) = some (.type "function"))
def kitB' (K : PySem.W.Frag) (x y : Str) (b : Bool) : Bool := decide (PySem.W.kitOne K (.ref (He.ga K x)) (.ref (He.ga K y)) = some b)
def ex1 (K : PySem.W.Frag) : Bool := fa1.all fun f => f.ok K
def ex2 (K : PySem.W.Frag) : Bool := fa2.all fun f => f.ok K
def ex3 (K : PySem.W.Frag) : Bool := xlB K (He.ga K "BadText") (He.ga K "BankError") && (xlB K (He.ga K "BadUnit") (He.ga K "BankError") && (xcB K (He.ga K "BadText") && (xcB K (He.ga K "BadUnit") && (initB K "BadText" && (initB K "BadUnit" && (kitB' K "BadText" "BadText" true && (kitB' K "BadText" "BadUnit" false && (kitB' K "BadUnit" "BadText" false && (kitB' K "BadUnit" "BadUnit" true && (oclsB K (He.ga K "Clash") && (oclsB K (He.ga K "Free") && (decide (PySem.W.kitOne K (.ref (He.ga K "Free")) (.ref (He.ga K "Clash")) = some false) && (decide (PySem.W.kitOne K (.ref (He.ga K "Free")) (.type "str") = some false) && (decide (PySem.W.kitAny K (.ref (He.ga K "Clash")) [.ref (He.ga K "Clash"), .ref (He.ga K "Free")] = some true) && (decide (PySem.W.kitAny K (.ref (He.ga K "Free")) [.ref (He.ga K "Clash"), .ref (He.ga K "Free")] = some true) && (decide ((He.cT K ("_law_one_right", none)).2 ≠ (He.cT K ("law", none)).2)))))))))))))))))
def ex (K : PySem.W.Frag) : Bool := ex1 K && (ex2 K && ex3 K)
def ds : List DefA := [
⟨fun K => He.ga K "is_integer", "is_integer", "is_integer", s_is_integer⟩,
  ⟨fun K => He.ga K "is_within", "is_within", "is_within", s_is_within⟩,
  ⟨fun K => He.ga K "whole_in", "whole_in", "whole_in", s_whole_in⟩,
  ⟨fun K => He.ga K "lines_of", "lines_of", "lines_of", s_lines_of⟩,
  ⟨fun K => He.ga K "words_at", "words_at", "words_at", s_words_at⟩,
  ⟨fun K => He.ga K "check_no_line", "check_no_line", "check_no_line", s_check_no_line⟩,
  ⟨fun K => He.ga K "check_no_word", "check_no_word", "check_no_word", s_check_no_word⟩,
  ⟨fun K => He.ga K "word_in", "word_in", "word_in", s_word_in⟩,
  ⟨fun K => He.ga K "number_in", "number_in", "number_in", s_number_in⟩,
  ⟨fun K => He.ga K "is_row_below", "is_row_below", "is_row_below", s_is_row_below⟩,
  ⟨fun K => He.ga K "is_clash", "is_clash", "is_clash", s_is_clash⟩,
  ⟨fun K => He.ga K "are_tables", "are_tables", "are_tables", s_are_tables⟩,
  ⟨fun K => He.ga K "unit_text", "unit_text", "unit_text", s_unit_text⟩,
  ⟨fun K => He.ga K "clash_in", "clash_in", "clash_in", s_clash_in⟩,
  ⟨fun K => He.ga K "row_in", "row_in", "row_in", s_row_in⟩,
  ⟨fun K => He.ga K "tables_in", "tables_in", "tables_in", s_tables_in⟩,
  ⟨fun K => He.ga K "read_unit", "read_unit", "read_unit", s_read_unit⟩,
  ⟨fun K => He.ga K "_law_pen", "_law_pen", "_law_pen", s__law_pen⟩,
  ⟨fun K => He.ga K "_law_draw", "_law_draw", "_law_draw", s__law_draw⟩,
  ⟨fun K => He.ga K "_law_pick", "_law_pick", "_law_pick", s__law_pick⟩,
  ⟨fun K => He.ga K "_law_heard", "_law_heard", "_law_heard", s__law_heard⟩,
  ⟨fun K => He.ga K "_law_is_number", "_law_is_number", "_law_is_number", s__law_is_number⟩,
  ⟨fun K => He.ga K "_law_numbers_due", "_law_numbers_due", "_law_numbers_due", s__law_numbers_due⟩,
  ⟨fun K => He.ga K "_law_due", "_law_due", "_law_due", s__law_due⟩,
  ⟨fun K => He.ga K "_law_bent", "_law_bent", "_law_bent", s__law_bent⟩,
  ⟨fun K => He.ga K "_law_page", "_law_page", "_law_page", s__law_page⟩,
  ⟨fun K => He.ga K "_law_one_right", "_law_one_right", "_law_one_right", s__law_one_right⟩,
  ⟨fun K => He.ga K "law", "law", "law", s_law⟩,
  ⟨fun K => He.ma K (He.ga K "BadText") "__init__", "__init__", "BadText.__init__", s_BadText⟩,
  ⟨fun K => He.ma K (He.ga K "BadUnit") "__init__", "__init__", "BadUnit.__init__", s_BadUnit⟩,
  ⟨fun K => He.ma K (He.ga K "Clash") "__init__", "__init__", "Clash.__init__", s_Clash___init__⟩,
  ⟨fun K => He.ma K (He.ga K "Free") "__init__", "__init__", "Free.__init__", s_Free___init__⟩]
def tabsOf : List He.Defn := [("_law_one_right", none), ("law", none)]
def dd : List He5.DefA := []
abbrev hk : PySem.W.Hook := hookHr 900 ds dd tabsOf ex
def ob (s : PySem.W.SharedT) : Bool × List He.FnW := obsHr 900 ds dd tabsOf ex (HandSHeadRun.getT s)
theorem ob_eq (s : PySem.W.SharedT) : ob s = hk.obs s.abs := obsHr_eq (HandSHeadRun.getT_eq s)
def names : List Str := ["__name__", "is_integer", "is_within", "BankError", "BadSet", "BadRule", "BadUnit", "BadLog", "BadText", "DIGITS", "whole_in", "Verdict", "lines_of", "words_at", "check_no_line", "word_in", "number_in", "check_no_word", "MOST_LANES", "Free", "Clash"]
def names2 : List Str := ["is_row_below", "GREATEST_STRIDE", "GREATEST_PART", "ROW_PARTS", "unit_text", "is_clash", "are_tables", "read_unit", "clash_in", "tables_in", "row_in", "_law_pen", "_law_draw", "_law_pick", "_law_heard", "_law_is_number", "_law_numbers_due", "_law_due", "_law_bent", "_law_one_right", "_law_page"]
abbrev vw : Program := PySem.W.view R.prog [51]
set_option maxHeartbeats 0 in
theorem run0 (w : World) : (runQ 40000 R.prog w).map (fun x => (HandSHeadRun.looksF R.prog x.1.heap x.2.abs, HandSHeadRun.seenQ vw (names ++ names2) (importedModules R.prog.main.body) (fun s => PySem.W.xlAt vw [] s && PySem.W.recOk R.toRowW.records s) x.2.abs)) = some (true, PySem.W.openGood vw (names ++ names2)) := by
  kernel_rfl
set_option maxHeartbeats 0 in
theorem run1 (w : World) : (runQ 40000 R.prog w).map (fun x => ex1 (frR (HandSHeadRun.getT x.2) 900)) = some true := by
  kernel_rfl
set_option maxHeartbeats 0 in
theorem run2 (w : World) : (runQ 40000 R.prog w).map (fun x => ex2 (frR (HandSHeadRun.getT x.2) 900)) = some true := by
  kernel_rfl
set_option maxHeartbeats 0 in
theorem run3 (w : World) : (runQ 40000 R.prog w).map (fun x => ex3 (frR (HandSHeadRun.getT x.2) 900)) = some true := by
  kernel_rfl
set_option maxHeartbeats 0 in
theorem run4 (w : World) : (runQ 40000 R.prog w).map (fun x => obsHr 900 ds dd tabsOf (fun _ => true) (HandSHeadRun.getT x.2)) = some (valHc ds dd) := by
  kernel_rfl
theorem run (w : World) : HandSHeadRun.RunEqI R vw hk ob 40000 (names ++ names2) w := run_parts (fun _ => rfl) (run0 w) (run1 w) (run2 w) (run3 w) (run4 w)
end Toy
set_option maxRecDepth 100000
namespace Toy
open PySem L2 LamX
set_option maxHeartbeats 4000000 in
theorem facts {P : Program} {w : World} {K : PySem.W.Frag} {h : Heap} {mg : Str → Option Value} {f : Addr} (X : K.In h) (G : h.Ns mainGlobals mg) (hfa : mg ("law" : Str) = some (.ref f)) (c : SaysHc ds dd tabsOf ex h K) :
    ∃ fd : FuncData, (∀ (s : Shared) (v : Value), BindsTo s fd ⟨[v], []⟩ [("_law_script", v)]) ∧ ∀ base : Heap, K.In base → base.Ns mainGlobals mg → (∀ p ∈ tabsOf.map (He.cT K), TabB base mg p.1 p.2) →
      FnG P w K mg base CX0 9 f fd ["_law_script"] (spTabs K (tabsOf.map (He.cT K))) := by
  obtain ⟨f01, zz⟩ := He.ba (show (ex1 K && (ex2 K && ex3 K)) = true from c.more)
  obtain ⟨f02, z0⟩ := He.ba zz
  unfold ex1 at f01
  unfold ex2 at f02
  unfold ex3 at z0
  obtain ⟨xBadText, z1⟩ := He.ba z0
  obtain ⟨xBadUnit, z2⟩ := He.ba z1
  obtain ⟨yBadText, z3⟩ := He.ba z2
  obtain ⟨yBadUnit, z4⟩ := He.ba z3
  obtain ⟨iBadText, z5⟩ := He.ba z4
  obtain ⟨iBadUnit, z6⟩ := He.ba z5
  obtain ⟨kBadTextBadText, z7⟩ := He.ba z6
  obtain ⟨kBadTextBadUnit, z8⟩ := He.ba z7
  obtain ⟨kBadUnitBadText, z9⟩ := He.ba z8
  obtain ⟨kBadUnitBadUnit, z10⟩ := He.ba z9
  obtain ⟨rcc, z11⟩ := He.ba z10
  obtain ⟨rcf, z12⟩ := He.ba z11
  obtain ⟨kfc, z13⟩ := He.ba z12
  obtain ⟨kfs, z14⟩ := He.ba z13
  obtain ⟨kac, z15⟩ := He.ba z14
  obtain ⟨kaf, z16⟩ := He.ba z15
  have pp01 := z16
  have fi1 : ∀ (i : Nat) (q : He.Fa), fa1[i]? = some q → q.ok K = true := fun i q hq => List.all_eq_true.mp f01 q (List.mem_of_getElem? hq)
  have fi2 : ∀ (i : Nat) (q : He.Fa), fa2[i]? = some q → q.ok K = true := fun i q hq => List.all_eq_true.mp f02 q (List.mem_of_getElem? hq)
  have di : ∀ (i : Nat) (d : DefA), ds[i]? = some d → ∃ fd, Fun K d.name d.qual d.st (d.at_ K) fd := fun i d hd => c.defs d (List.mem_of_getElem? hd)
  obtain ⟨fd_is_integer, F_is_integer'⟩ := di 0 _ rfl
  have F_is_integer : Fun K "is_integer" "is_integer" s_is_integer (He.ga K "is_integer") fd_is_integer := F_is_integer'
  have b_is_integer : Binds K fd_is_integer ["value"] [] := F_is_integer.binds (ps := ["value"]) fun _ _ _ _ _ _ us hl => match us, hl with | [_], _ => rfl
  obtain ⟨fd_is_within, F_is_within'⟩ := di 1 _ rfl
  have F_is_within : Fun K "is_within" "is_within" s_is_within (He.ga K "is_within") fd_is_within := F_is_within'
  have b_is_within : Binds K fd_is_within ["value", "least", "most"] [] := F_is_within.binds (ps := ["value", "least", "most"]) fun _ _ _ _ _ _ us hl => match us, hl with | [_, _, _], _ => rfl
  obtain ⟨fd_whole_in, F_whole_in'⟩ := di 2 _ rfl
  have F_whole_in : Fun K "whole_in" "whole_in" s_whole_in (He.ga K "whole_in") fd_whole_in := F_whole_in'
  have b_whole_in : Binds K fd_whole_in ["word", "most"] [] := F_whole_in.binds (ps := ["word", "most"]) fun _ _ _ _ _ _ us hl => match us, hl with | [_, _], _ => rfl
  obtain ⟨fd_lines_of, F_lines_of'⟩ := di 3 _ rfl
  have F_lines_of : Fun K "lines_of" "lines_of" s_lines_of (He.ga K "lines_of") fd_lines_of := F_lines_of'
  have b_lines_of : Binds K fd_lines_of ["text"] [] := F_lines_of.binds (ps := ["text"]) fun _ _ _ _ _ _ us hl => match us, hl with | [_], _ => rfl
  obtain ⟨fd_words_at, F_words_at'⟩ := di 4 _ rfl
  have F_words_at : Fun K "words_at" "words_at" s_words_at (He.ga K "words_at") fd_words_at := F_words_at'
  have b_words_at : Binds K fd_words_at ["lines", "line"] [] := F_words_at.binds (ps := ["lines", "line"]) fun _ _ _ _ _ _ us hl => match us, hl with | [_, _], _ => rfl
  obtain ⟨fd_check_no_line, F_check_no_line'⟩ := di 5 _ rfl
  have F_check_no_line : Fun K "check_no_line" "check_no_line" s_check_no_line (He.ga K "check_no_line") fd_check_no_line := F_check_no_line'
  have b_check_no_line : Binds K fd_check_no_line ["lines", "line"] [] := F_check_no_line.binds (ps := ["lines", "line"]) fun _ _ _ _ _ _ us hl => match us, hl with | [_, _], _ => rfl
  obtain ⟨fd_check_no_word, F_check_no_word'⟩ := di 6 _ rfl
  have F_check_no_word : Fun K "check_no_word" "check_no_word" s_check_no_word (He.ga K "check_no_word") fd_check_no_word := F_check_no_word'
  have b_check_no_word : Binds K fd_check_no_word ["words", "line", "at"] [] := F_check_no_word.binds (ps := ["words", "line", "at"]) fun _ _ _ _ _ _ us hl => match us, hl with | [_, _, _], _ => rfl
  obtain ⟨fd_word_in, F_word_in'⟩ := di 7 _ rfl
  have F_word_in : Fun K "word_in" "word_in" s_word_in (He.ga K "word_in") fd_word_in := F_word_in'
  have b_word_in : Binds K fd_word_in ["words", "line", "at", "choices"] [] := F_word_in.binds (ps := ["words", "line", "at", "choices"]) fun _ _ _ _ _ _ us hl => match us, hl with | [_, _, _, _], _ => rfl
  obtain ⟨fd_number_in, F_number_in'⟩ := di 8 _ rfl
  have F_number_in : Fun K "number_in" "number_in" s_number_in (He.ga K "number_in") fd_number_in := F_number_in'
  have b_number_in : Binds K fd_number_in ["words", "line", "at", "least", "most"] [] := F_number_in.binds (ps := ["words", "line", "at", "least", "most"]) fun _ _ _ _ _ _ us hl => match us, hl with | [_, _, _, _, _], _ => rfl
  obtain ⟨fd_is_row_below, F_is_row_below'⟩ := di 9 _ rfl
  have F_is_row_below : Fun K "is_row_below" "is_row_below" s_is_row_below (He.ga K "is_row_below") fd_is_row_below := F_is_row_below'
  have b_is_row_below : Binds K fd_is_row_below ["value", "sizes"] [] := F_is_row_below.binds (ps := ["value", "sizes"]) fun _ _ _ _ _ _ us hl => match us, hl with | [_, _], _ => rfl
  obtain ⟨fd_is_clash, F_is_clash'⟩ := di 10 _ rfl
  have F_is_clash : Fun K "is_clash" "is_clash" s_is_clash (He.ga K "is_clash") fd_is_clash := F_is_clash'
  have b_is_clash : Binds K fd_is_clash ["paper"] [] := F_is_clash.binds (ps := ["paper"]) fun _ _ _ _ _ _ us hl => match us, hl with | [_], _ => rfl
  obtain ⟨fd_are_tables, F_are_tables'⟩ := di 11 _ rfl
  have F_are_tables : Fun K "are_tables" "are_tables" s_are_tables (He.ga K "are_tables") fd_are_tables := F_are_tables'
  have b_are_tables : Binds K fd_are_tables ["value"] [] := F_are_tables.binds (ps := ["value"]) fun _ _ _ _ _ _ us hl => match us, hl with | [_], _ => rfl
  obtain ⟨fd_unit_text, F_unit_text'⟩ := di 12 _ rfl
  have F_unit_text : Fun K "unit_text" "unit_text" s_unit_text (He.ga K "unit_text") fd_unit_text := F_unit_text'
  have b_unit_text : Binds K fd_unit_text ["value"] [] := F_unit_text.binds (ps := ["value"]) fun _ _ _ _ _ _ us hl => match us, hl with | [_], _ => rfl
  obtain ⟨fd_clash_in, F_clash_in'⟩ := di 13 _ rfl
  have F_clash_in : Fun K "clash_in" "clash_in" s_clash_in (He.ga K "clash_in") fd_clash_in := F_clash_in'
  have b_clash_in : Binds K fd_clash_in ["words"] [] := F_clash_in.binds (ps := ["words"]) fun _ _ _ _ _ _ us hl => match us, hl with | [_], _ => rfl
  obtain ⟨fd_row_in, F_row_in'⟩ := di 14 _ rfl
  have F_row_in : Fun K "row_in" "row_in" s_row_in (He.ga K "row_in") fd_row_in := F_row_in'
  have b_row_in : Binds K fd_row_in ["words", "line", "known"] [] := F_row_in.binds (ps := ["words", "line", "known"]) fun _ _ _ _ _ _ us hl => match us, hl with | [_, _, _], _ => rfl
  obtain ⟨fd_tables_in, F_tables_in'⟩ := di 15 _ rfl
  have F_tables_in : Fun K "tables_in" "tables_in" s_tables_in (He.ga K "tables_in") fd_tables_in := F_tables_in'
  have b_tables_in : Binds K fd_tables_in ["lines"] [] := F_tables_in.binds (ps := ["lines"]) fun _ _ _ _ _ _ us hl => match us, hl with | [_], _ => rfl
  obtain ⟨fd_read_unit, F_read_unit'⟩ := di 16 _ rfl
  have F_read_unit : Fun K "read_unit" "read_unit" s_read_unit (He.ga K "read_unit") fd_read_unit := F_read_unit'
  have b_read_unit : Binds K fd_read_unit ["text"] [] := F_read_unit.binds (ps := ["text"]) fun _ _ _ _ _ _ us hl => match us, hl with | [_], _ => rfl
  obtain ⟨fd__law_pen, F__law_pen'⟩ := di 17 _ rfl
  have F__law_pen : Fun K "_law_pen" "_law_pen" s__law_pen (He.ga K "_law_pen") fd__law_pen := F__law_pen'
  have b__law_pen : Binds K fd__law_pen ["_law_script"] [] := F__law_pen.binds (ps := ["_law_script"]) fun _ _ _ _ _ _ us hl => match us, hl with | [_], _ => rfl
  obtain ⟨fd__law_draw, F__law_draw'⟩ := di 18 _ rfl
  have F__law_draw : Fun K "_law_draw" "_law_draw" s__law_draw (He.ga K "_law_draw") fd__law_draw := F__law_draw'
  have b__law_draw : Binds K fd__law_draw ["_law_pen_here", "_law_many"] [] := F__law_draw.binds (ps := ["_law_pen_here", "_law_many"]) fun _ _ _ _ _ _ us hl => match us, hl with | [_, _], _ => rfl
  obtain ⟨fd__law_pick, F__law_pick'⟩ := di 19 _ rfl
  have F__law_pick : Fun K "_law_pick" "_law_pick" s__law_pick (He.ga K "_law_pick") fd__law_pick := F__law_pick'
  have b__law_pick : Binds K fd__law_pick ["_law_pen_here", "_law_some"] [] := F__law_pick.binds (ps := ["_law_pen_here", "_law_some"]) fun _ _ _ _ _ _ us hl => match us, hl with | [_, _], _ => rfl
  obtain ⟨fd__law_heard, F__law_heard'⟩ := di 20 _ rfl
  have F__law_heard : Fun K "_law_heard" "_law_heard" s__law_heard (He.ga K "_law_heard") fd__law_heard := F__law_heard'
  have b__law_heard : Binds K fd__law_heard ["_law_ask"] [] := F__law_heard.binds (ps := ["_law_ask"]) fun _ _ _ _ _ _ us hl => match us, hl with | [_], _ => rfl
  obtain ⟨fd__law_is_number, F__law_is_number'⟩ := di 21 _ rfl
  have F__law_is_number : Fun K "_law_is_number" "_law_is_number" s__law_is_number (He.ga K "_law_is_number") fd__law_is_number := F__law_is_number'
  have b__law_is_number : Binds K fd__law_is_number ["_law_word", "_law_least", "_law_most"] [] := F__law_is_number.binds (ps := ["_law_word", "_law_least", "_law_most"]) fun _ _ _ _ _ _ us hl => match us, hl with | [_, _, _], _ => rfl
  obtain ⟨fd__law_numbers_due, F__law_numbers_due'⟩ := di 22 _ rfl
  have F__law_numbers_due : Fun K "_law_numbers_due" "_law_numbers_due" s__law_numbers_due (He.ga K "_law_numbers_due") fd__law_numbers_due := F__law_numbers_due'
  have b__law_numbers_due : Binds K fd__law_numbers_due ["_law_words", "_law_bounds"] [] := F__law_numbers_due.binds (ps := ["_law_words", "_law_bounds"]) fun _ _ _ _ _ _ us hl => match us, hl with | [_, _], _ => rfl
  obtain ⟨fd__law_due, F__law_due'⟩ := di 23 _ rfl
  have F__law_due : Fun K "_law_due" "_law_due" s__law_due (He.ga K "_law_due") fd__law_due := F__law_due'
  have b__law_due : Binds K fd__law_due ["_law_page_here"] [] := F__law_due.binds (ps := ["_law_page_here"]) fun _ _ _ _ _ _ us hl => match us, hl with | [_], _ => rfl
  obtain ⟨fd__law_bent, F__law_bent'⟩ := di 24 _ rfl
  have F__law_bent : Fun K "_law_bent" "_law_bent" s__law_bent (He.ga K "_law_bent") fd__law_bent := F__law_bent'
  have b__law_bent : Binds K fd__law_bent ["_law_pen_here", "_law_page_here", "_law_some"] [] := F__law_bent.binds (ps := ["_law_pen_here", "_law_page_here", "_law_some"]) fun _ _ _ _ _ _ us hl => match us, hl with | [_, _, _], _ => rfl
  obtain ⟨fd__law_page, F__law_page'⟩ := di 25 _ rfl
  have F__law_page : Fun K "_law_page" "_law_page" s__law_page (He.ga K "_law_page") fd__law_page := F__law_page'
  have b__law_page : Binds K fd__law_page ["_law_pen_here"] [] := F__law_page.binds (ps := ["_law_pen_here"]) fun _ _ _ _ _ _ us hl => match us, hl with | [_], _ => rfl
  obtain ⟨fd__law_one_right, F__law_one_right'⟩ := di 26 _ rfl
  have F__law_one_right : Fun K "_law_one_right" "_law_one_right" s__law_one_right (He.ga K "_law_one_right") fd__law_one_right := F__law_one_right'
  have b__law_one_right : Binds K fd__law_one_right ["_law_page_here"] [] := F__law_one_right.binds (ps := ["_law_page_here"]) fun _ _ _ _ _ _ us hl => match us, hl with | [_], _ => rfl
  obtain ⟨fd_law, F_law'⟩ := di 27 _ rfl
  have F_law : Fun K "law" "law" s_law (He.ga K "law") fd_law := F_law'
  have b_law : Binds K fd_law ["_law_script"] [] := F_law.binds (ps := ["_law_script"]) fun _ _ _ _ _ _ us hl => match us, hl with | [_], _ => rfl
  obtain ⟨fd_BadText___init__, F_BadText___init__'⟩ := di 28 _ rfl
  have F_BadText___init__ : Fun K "__init__" "BadText.__init__" s_BadText (He.ma K (He.ga K "BadText") "__init__") fd_BadText___init__ := F_BadText___init__'
  have b_BadText___init__ : Binds K fd_BadText___init__ ["self", "line", "word"] [] := F_BadText___init__.binds (ps := ["self", "line", "word"]) fun _ _ _ _ _ _ us hl => match us, hl with | [_, _, _], _ => rfl
  obtain ⟨fd_BadUnit___init__, F_BadUnit___init__'⟩ := di 29 _ rfl
  have F_BadUnit___init__ : Fun K "__init__" "BadUnit.__init__" s_BadUnit (He.ma K (He.ga K "BadUnit") "__init__") fd_BadUnit___init__ := F_BadUnit___init__'
  have b_BadUnit___init__ : Binds K fd_BadUnit___init__ ["self", "part"] [] := F_BadUnit___init__.binds (ps := ["self", "part"]) fun _ _ _ _ _ _ us hl => match us, hl with | [_, _], _ => rfl
  obtain ⟨fd_Clash___init__, F_Clash___init__'⟩ := di 30 _ rfl
  have F_Clash___init__ : Fun K "__init__" "Clash.__init__" s_Clash___init__ (He.ma K (He.ga K "Clash") "__init__") fd_Clash___init__ := F_Clash___init__'
  have b_Clash___init__ : Binds K fd_Clash___init__ ["self", "stride", "start", "one", "other"] [] := F_Clash___init__.binds (ps := ["self", "stride", "start", "one", "other"]) fun _ _ _ _ _ _ us hl => match us, hl with | [_, _, _, _, _], _ => rfl
  obtain ⟨fd_Free___init__, F_Free___init__'⟩ := di 31 _ rfl
  have F_Free___init__ : Fun K "__init__" "Free.__init__" s_Free___init__ (He.ma K (He.ga K "Free") "__init__") fd_Free___init__ := F_Free___init__'
  have b_Free___init__ : Binds K fd_Free___init__ ["self", "tables"] [] := F_Free___init__.binds (ps := ["self", "tables"]) fun _ _ _ _ _ _ us hl => match us, hl with | [_, _], _ => rfl
  have ddi : ∀ (i : Nat) (d : He5.DefA), dd[i]? = some d → ∃ fd, FunD K d.name d.qual d.params d.body d.scope (d.dvs K) (d.kws K) (d.at_ K) fd := fun i d hd => c.defd d (List.mem_of_getElem? hd)
  have g_is_integer := He.glo_ok X G (fi1 0 (.glo "is_integer") rfl)
  have g_is_within := He.glo_ok X G (fi1 1 (.glo "is_within") rfl)
  have g_whole_in := He.glo_ok X G (fi1 2 (.glo "whole_in") rfl)
  have g_lines_of := He.glo_ok X G (fi1 3 (.glo "lines_of") rfl)
  have g_words_at := He.glo_ok X G (fi1 4 (.glo "words_at") rfl)
  have g_check_no_line := He.glo_ok X G (fi1 5 (.glo "check_no_line") rfl)
  have g_check_no_word := He.glo_ok X G (fi1 6 (.glo "check_no_word") rfl)
  have g_word_in := He.glo_ok X G (fi1 7 (.glo "word_in") rfl)
  have g_number_in := He.glo_ok X G (fi1 8 (.glo "number_in") rfl)
  have g_is_row_below := He.glo_ok X G (fi1 9 (.glo "is_row_below") rfl)
  have g_is_clash := He.glo_ok X G (fi1 10 (.glo "is_clash") rfl)
  have g_are_tables := He.glo_ok X G (fi1 11 (.glo "are_tables") rfl)
  have g_unit_text := He.glo_ok X G (fi1 12 (.glo "unit_text") rfl)
  have g_clash_in := He.glo_ok X G (fi1 13 (.glo "clash_in") rfl)
  have g_row_in := He.glo_ok X G (fi1 14 (.glo "row_in") rfl)
  have g_tables_in := He.glo_ok X G (fi1 15 (.glo "tables_in") rfl)
  have g_read_unit := He.glo_ok X G (fi1 16 (.glo "read_unit") rfl)
  have g__law_pen := He.glo_ok X G (fi1 17 (.glo "_law_pen") rfl)
  have g__law_draw := He.glo_ok X G (fi1 18 (.glo "_law_draw") rfl)
  have g__law_pick := He.glo_ok X G (fi1 19 (.glo "_law_pick") rfl)
  have g__law_heard := He.glo_ok X G (fi1 20 (.glo "_law_heard") rfl)
  have g__law_is_number := He.glo_ok X G (fi1 21 (.glo "_law_is_number") rfl)
  have g__law_numbers_due := He.glo_ok X G (fi1 22 (.glo "_law_numbers_due") rfl)
  have g__law_due := He.glo_ok X G (fi1 23 (.glo "_law_due") rfl)
  have g__law_bent := He.glo_ok X G (fi1 24 (.glo "_law_bent") rfl)
  have g__law_page := He.glo_ok X G (fi1 25 (.glo "_law_page") rfl)
  have g__law_one_right := He.glo_ok X G (fi1 26 (.glo "_law_one_right") rfl)
  have g_law := He.glo_ok X G (fi1 27 (.glo "law") rfl)
  have g_BankError := He.glo_ok X G (fi1 28 (.glo "BankError") rfl)
  have g_BadText := He.glo_ok X G (fi1 29 (.glo "BadText") rfl)
  have g_BadUnit := He.glo_ok X G (fi1 30 (.glo "BadUnit") rfl)
  have g_BadRule := He.glo_ok X G (fi1 31 (.glo "BadRule") rfl)
  have g_BadLog := He.glo_ok X G (fi1 32 (.glo "BadLog") rfl)
  have g_BadSet := He.glo_ok X G (fi2 0 (.glo "BadSet") rfl)
  have g_Clash := He.glo_ok X G (fi2 1 (.glo "Clash") rfl)
  have g_Free := He.glo_ok X G (fi2 2 (.glo "Free") rfl)
  have m_isinstance := He.free_ok X G (fi2 3 (.free "isinstance") rfl)
  have m_int := He.free_ok X G (fi2 4 (.free "int") rfl)
  have m_bool := He.free_ok X G (fi2 5 (.free "bool") rfl)
  have m_len := He.free_ok X G (fi2 6 (.free "len") rfl)
  have m_all := He.free_ok X G (fi2 7 (.free "all") rfl)
  have m_str := He.free_ok X G (fi2 8 (.free "str") rfl)
  have m_list := He.free_ok X G (fi2 9 (.free "list") rfl)
  have m_tuple := He.free_ok X G (fi2 10 (.free "tuple") rfl)
  have m_range := He.free_ok X G (fi2 11 (.free "range") rfl)
  have m_zip := He.free_ok X G (fi2 12 (.free "zip") rfl)
  have m_repr := He.free_ok X G (fi2 13 (.free "repr") rfl)
  have m_enumerate := He.free_ok X G (fi2 14 (.free "enumerate") rfl)
  have m_abs := He.free_ok X G (fi2 15 (.free "abs") rfl)
  have c_GREATEST_STRIDE := He.int_ok X G (fi2 16 (.int "GREATEST_STRIDE" (10 ^ 40)) rfl)
  have c_GREATEST_PART := He.int_ok X G (fi2 17 (.int "GREATEST_PART" (10 ^ 6)) rfl)
  have c_ROW_PARTS := He.int_ok X G (fi2 18 (.int "ROW_PARTS" 7) rfl)
  have c_MOST_LANES := He.int_ok X G (fi2 19 (.int "MOST_LANES" 16) rfl)
  have e := hfa.symm.trans g_law
  cases e
  have xl_BadText := xl_of xBadText
  have xc_BadText := xc_of xl_BadText yBadText
  obtain ⟨n_BadText, t_BadText⟩ := He.ba iBadText
  have n_BadText' := of_decide_eq_true n_BadText
  have t_BadText' := of_decide_eq_true t_BadText
  have xl_BadUnit := xl_of xBadUnit
  have xc_BadUnit := xc_of xl_BadUnit yBadUnit
  obtain ⟨n_BadUnit, t_BadUnit⟩ := He.ba iBadUnit
  have n_BadUnit' := of_decide_eq_true n_BadUnit
  have t_BadUnit' := of_decide_eq_true t_BadUnit
  have T : TR mg := ⟨m_isinstance, m_int, m_bool, m_len, m_all, m_str, m_list, m_tuple, m_range, m_zip, m_repr, m_enumerate, He.str_ok X G (fi2 20 (.str "DIGITS" "0123456789") rfl), c_GREATEST_STRIDE, c_GREATEST_PART, c_ROW_PARTS, c_MOST_LANES⟩
  have TBo : TB mg := ⟨m_int, m_abs, m_len, m_list⟩
  have TE : TErr K mg (He.ga K "BadText") (He.ga K "BadUnit") (He.ma K (He.ga K "BadText") "__init__") (He.ma K (He.ga K "BadUnit") "__init__") fd_BadText___init__ fd_BadUnit___init__ := ⟨g_BadText, ⟨xc_BadText, n_BadText', t_BadText'⟩, F_BadText___init__, He.noat_ok (fi2 28 (.noat "BadText" "line") rfl), He.noat_ok (fi2 29 (.noat "BadText" "word") rfl), b_BadText___init__, g_BadUnit, ⟨xc_BadUnit, n_BadUnit', t_BadUnit'⟩, F_BadUnit___init__, He.noat_ok (fi2 30 (.noat "BadUnit" "part") rfl), b_BadUnit___init__⟩
  have TP : TPap K mg (He.ga K "Clash") (He.ga K "Free") := ⟨He.cls_ok (fi2 21 (.cls "Clash") rfl), He.noat_ok (fi2 23 (.noat "Clash" "stride") rfl), He.noat_ok (fi2 24 (.noat "Clash" "start") rfl), He.noat_ok (fi2 25 (.noat "Clash" "one") rfl), He.noat_ok (fi2 26 (.noat "Clash" "other") rfl), g_Clash, He.cls_ok (fi2 22 (.cls "Free") rfl), He.noat_ok (fi2 27 (.noat "Free" "tables") rfl), g_Free⟩
  have MCI := He.mkr_ok (fi2 31 (.mkr "Clash") rfl)
  have MFI := He.mkr_ok (fi2 32 (.mkr "Free") rfl)
  have RCC := ocls_of TP.clC rcc
  have RCF := ocls_of TP.clF rcf
  have PC : PapCls K (He.ga K "Clash") (He.ga K "Free") := ⟨RCC.ha, RCF.ha, RCC.hn, RCC.ht, RCC.hm, RCF.hm, RCC.kC, of_decide_eq_true kfc, RCF.kC, of_decide_eq_true kfs, of_decide_eq_true kac, of_decide_eq_true kaf⟩
  obtain ⟨och, odh, kVh, doch, pmh, anh, cdvh, cth, oslh, eh, lkHe, hcHe⟩ := id F__law_heard.ex
  subst eh
  have THd : THeard K mg (He.ga K "BadText") (He.ga K "BankError") := ⟨g_BankError, g_BadText, ⟨_, g_BadRule⟩, ⟨_, g_BadUnit⟩, ⟨_, g_BadLog⟩, ⟨_, g_BadSet⟩, xc_BadText, TE.nWord, TE.nLine, He.exm_ok (fi2 33 (.exm "BadText" "BankError" true) rfl), of_decide_eq_true kBadTextBadText, m_isinstance, m_repr⟩
  obtain ⟨ocM, odM, kVM, docM, pmM, anM, cdvM, ctM, oslM, eM, lkM, hcM⟩ := id F__law_one_right.ex
  obtain ⟨ocl, odl, kVl, docl, pml, anl, cdvl, ctl, osll, el, lkL, hcL⟩ := id F_law.ex
  subst eM el
  obtain ⟨c0, rfl⟩ := He.codeIn_ref hcM
  obtain ⟨c1, rfl⟩ := He.codeIn_ref hcL
  have ec0 : He.codeOf K ("_law_one_right", none) = c0 := He.codeOf_eq lkM rfl
  have ec1 : He.codeOf K ("law", none) = c1 := He.codeOf_eq lkL rfl
  have dis := of_decide_eq_true pp01
  refine ⟨PySem.W.fnOf "law" "law" (defArgs s_law) (defBody s_law) (defScope s_law) .none kVl docl pml anl (.ref c1) ctl, fun s v => .of_eq rfl, fun base _ _ tb => ?_⟩
  have TBR : TabB base mg c0 (He.cT K ("_law_one_right", none)).2 := by
    rw [← ec0]
    exact tb _ List.mem_cons_self
  have TBl : TabB base mg c1 (He.cT K ("law", none)).2 := by
    rw [← ec1]
    exact tb _ (List.mem_cons_of_mem _ List.mem_cons_self)
  have GD : FnOk P w K mg base CX0 1 _ fd__law_draw ["_law_pen_here", "_law_many"] spDraw := ok__law_draw F__law_draw TBo
  have GPk : FnOk P w K mg base CX0 2 _ fd__law_pick ["_law_pen_here", "_law_some"] (spPick K) := ok__law_pick F__law_pick TBo F__law_draw g__law_draw b__law_draw
  have GPn : FnOk P w K mg base CX0 1 _ fd__law_pen ["_law_script"] (spPen K) := ok__law_pen F__law_pen TBo
  have GW := ok_is_within (P := P) (w := w) (base := base) F_is_within T F_is_integer g_is_integer b_is_integer
  have GCI := ok_Clash_init (P := P) (w := w) (mg := mg) (base := base) F_Clash___init__ TP
  have GFI := ok_Free_init (P := P) (w := w) (mg := mg) (base := base) F_Free___init__ TP
  have GWh := ok_whole_in (P := P) (w := w) (base := base) F_whole_in T
  have GRb := ok_is_row_below (P := P) (w := w) (base := base) F_is_row_below T GW g_is_within F_is_within.kp b_is_within
  have GIc := ok_is_clash (P := P) (w := w) (base := base) F_is_clash T TP GW g_is_within F_is_within.kp b_is_within
  have GAt := ok_are_tables (P := P) (w := w) (base := base) F_are_tables T GRb g_is_row_below F_is_row_below.kp b_is_row_below
  have GUt := ok_unit_text (P := P) (w := w) (base := base) F_unit_text T TE TP PC GIc g_is_clash F_is_clash.kp b_is_clash GAt g_are_tables F_are_tables.kp b_are_tables
  have GLo := ok_lines_of (P := P) (w := w) (base := base) F_lines_of T TE
  have GWa := ok_words_at (P := P) (w := w) (base := base) F_words_at T TE
  have GCn := ok_check_no_line (P := P) (w := w) (base := base) F_check_no_line T TE
  have GCw := ok_check_no_word (P := P) (w := w) (base := base) F_check_no_word T TE
  have GWi := ok_word_in (P := P) (w := w) (base := base) F_word_in T TE
  have GNu := ok_number_in (P := P) (w := w) (base := base) F_number_in T TE GWh g_whole_in F_whole_in.kp b_whole_in
  have GCi := ok_clash_in (P := P) (w := w) (base := base) F_clash_in T TP GNu g_number_in F_number_in.kp b_number_in GCw g_check_no_word F_check_no_word.kp b_check_no_word MCI GCI b_Clash___init__
  have GRi := ok_row_in (P := P) (w := w) (base := base) F_row_in T TE GWh g_whole_in F_whole_in.kp b_whole_in
  have GTi := ok_tables_in (P := P) (w := w) (base := base) F_tables_in T TE GWa g_words_at F_words_at.kp b_words_at GCw g_check_no_word F_check_no_word.kp b_check_no_word GRi g_row_in F_row_in.kp b_row_in
  have GRu := ok_read_unit (P := P) (w := w) (base := base) F_read_unit T TP GLo g_lines_of F_lines_of.kp b_lines_of GWa g_words_at F_words_at.kp b_words_at GWi g_word_in F_word_in.kp b_word_in GCi g_clash_in F_clash_in.kp b_clash_in GCn g_check_no_line F_check_no_line.kp b_check_no_line GCw g_check_no_word F_check_no_word.kp b_check_no_word GTi g_tables_in F_tables_in.kp b_tables_in MFI GFI b_Free___init__
  have GIn := ok__law_is_number (P := P) (w := w) (base := base) F__law_is_number T
  have GNd := ok__law_numbers_due (P := P) (w := w) (base := base) F__law_numbers_due T GIn g__law_is_number F__law_is_number.kp b__law_is_number
  have GDu := ok__law_due (P := P) (w := w) (base := base) F__law_due T GNd g__law_numbers_due F__law_numbers_due.kp b__law_numbers_due
  have GBe := ok__law_bent (P := P) (w := w) (base := base) F__law_bent T GD g__law_draw F__law_draw.kp b__law_draw GPk g__law_pick F__law_pick.kp b__law_pick
  have GPg := ok__law_page (P := P) (w := w) (base := base) F__law_page T GD g__law_draw F__law_draw.kp b__law_draw GPk g__law_pick F__law_pick.kp b__law_pick
  have GOr := ok__law_one_right (P := P) (w := w) (base := base) lkM hcM TBR dis T TP PC THd GDu g__law_due F__law_due.kp b__law_due GRu g_read_unit F_read_unit.kp b_read_unit GUt g_unit_text F_unit_text.kp b_unit_text g__law_heard F__law_heard.kp lkHe hcHe b__law_heard
  exact ok_law lkL hcL TBl dis T TP PC THd GPn g__law_pen F__law_pen.kp b__law_pen GPk g__law_pick F__law_pick.kp b__law_pick GPg g__law_page F__law_page.kp b__law_page GBe g__law_bent F__law_bent.kp b__law_bent GDu g__law_due F__law_due.kp b__law_due GOr g__law_one_right F__law_one_right.kp b__law_one_right GRu g_read_unit F_read_unit.kp b_read_unit MFI GFI b_Free___init__ g__law_heard F__law_heard.kp lkHe hcHe b__law_heard

end Toy
open PySem PySem.W PySem.Calls PyProof.Rows
set_option maxRecDepth 100000 in
set_option maxHeartbeats 0 in
theorem PySem.Challenge.cw_lanebanks_k87_texts_that_are_no_papers_o_holds : PySem.Challenge.rw_lanebanks_k87_texts_that_are_no_papers_o.Holds := by
  w_on; o_law
  refine HandSHeadRun.head_imp (r := OpenLaw.row PySem.Challenge.rw_lanebanks_k87_texts_that_are_no_papers_o) (q := Toy.vw) (H := Toy.hk) (ob := Toy.ob) (M := 40000) (loose := Toy.names ++ Toy.names2) (d := HandSHeadRun.topDef (OpenLaw.row PySem.Challenge.rw_lanebanks_k87_texts_that_are_no_papers_o).prog 51) (kwd := []) Toy.ob_eq
    Toy.run (by kernel_rfl) (by kernel_rfl) (by kernel_rfl) (by rfl) (by first | assumption | decide +kernel) (by decide +kernel) ⟨rfl, rfl, rfl, rfl, rfl, by decide +kernel⟩ ?hw ?hc
  case hw => w_witness2
  case hc =>
    refine L2.walk_tabs (l := PySem.Challenge.rw_lanebanks_k87_texts_that_are_no_papers_o) (n := 63) (k := 9) (x := "_law_script") (sp := fun K ts => Toy.spTabs K ts) rfl (by decide) (by kernel_rfl) ⟨rfl, by decide, by decide⟩ ?F (fun K ts H a ns hl hb hT hS => ⟨a, ns, rfl, hS, hl, hb, hT, fun _ => rfl⟩)
    intro w mg fa h Y G hmg0
    obtain ⟨K, KX, c⟩ := Y
    have hmg : mg ("law" : PySem.Str) = some (.ref fa) := by
      have e : (HandSHeadRun.topDef (OpenLaw.row PySem.Challenge.rw_lanebanks_k87_texts_that_are_no_papers_o).prog 51).name = ("law" : PySem.Str) := by kernel_rfl
      rw [← e]
      exact hmg0
    obtain ⟨fd, hb, hF⟩ := Toy.facts (P := (PySem.Challenge.rw_lanebanks_k87_texts_that_are_no_papers_o).prog) (w := w) KX G hmg c
    refine ⟨K, Toy.tabsOf.map (He.cT K), fd, KX, fun p hp => ?_, fun p hp => ?_, fun p hp => ?_, hb, hF⟩
    all_goals
      obtain ⟨d, hd, rfl⟩ := List.mem_map.mp hp
    · exact c.empty d hd
    · exact c.out d hd
    · exact PySem.W.codeHd_of_K KX (c.hd d hd)
