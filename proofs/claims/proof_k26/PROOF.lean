import PyProof.Rows.All
import Wide.All
import OpenK.AllK
import Wide.FinOn
import HandS.ForMost
import HandS.ForExc
import HandS.ExcInit
import HandS.IsInst
import HandS.Wide
import HandS.EndBits
import HandS.Conv
import HandS.Defaults
import KE.KExcIs
import HandS.MakeKw
import HandS.Codes
import HandS.ExcValue
import HandS.Walk
import HandS.Style
import HandS.TupMul
import HandS.TupAny
import HandS.ExcOwn
import HandS.WordsExc
import HandS.Property
import KE.KAssignIn
import HandS.OwnEq
import HandS.More
import HandS.HeadHook2
import KE.GoesEnum
import KE.KDictZip
import HandS.Zip
import HandS.ListItems
import HandS.Star
import HandS.Words
import HandS.Text
import PyProof.Rows.RegReprOcc
import PyProof.Rows.StrRev
import PyProof.FString
import PyProof.FString3
import HandS.Small
import PyProof.Rows.StrIntSpec
import HandS.FStr
import PyProof.Rows.StrStep
import HandS.Lambda
import KE.KOpsOwn
import KE.KMathGC
import HandS.Gcd
import KE.KCallOwn
import HandS.ClsMeth
import HandS.IterVal
import KE.KOwnIter
import OpenK.KOps
import OpenK.KMeth
import HandS.SetFor
import HandS.Strs
import PyProof.StrBlock2
import HandS.Iter
import PyProof.Rows.StrSplitAre
import HandS.HeadNt
import KE.KTupTruth
import HandS.EndTab
import PyProof.P3Eq
import HandS.HeadHook4
import HandS.Head3
import KE.KStateDown
import Lean
import HandS.Head0
import HandS.Head1
import HandS.Head2
import HandS.HeadEnd
import PySem.Challenge.RW_lanebanks_k26_texts_of_rules
set_option Elab.async false
set_option linter.all false
set_option maxRecDepth 100000
namespace L2
open PySem PySem.Spec PyProof.Rows
/-! exceptions of the program's own as values -/
structure XvC (K : PySem.W.Frag) (C : Addr) : Prop where
  oex : OexC K C
  ga : PySem.W.findIn K (.ref C) "__getattribute__" = some (some (.builtin "BaseException.__getattribute__"))
  gg : PySem.W.findIn K (.ref C) "__getattr__" = some none
  dd : PySem.W.hasDictIn K C = true
  ic : (PySem.W.clsIn K C).isSome = true
  ca : PySem.W.findIn K (.ref C) "__class__" = some (some (.builtin "object.__class__"))
  gs : PySem.W.specialIn K (.builtin "object.__class__") "__get__" = some (some (.builtin "getset_descriptor.__get__"))
  tk : PySem.W.takesIn K (.builtin "object.__class__") = some true
  mo : PySem.W.mroIn K C (.type "object") = some true
/-- an exception object with (some) dict -/
def XvD (H : Hp) (d : Option Addr) : Prop := ∀ b, d = some b → ∃ fs, H b = some (exd b fs)
section
variable {X : Cx} {pins : List (Addr × Obj)} {σ : St} {H : Hp} {s : Shared}
theorem xv_inst {a C : Addr} {d : Option Addr} (I : Inv X pins σ H s) (e : H a = some (exo a C d)) (hd : XvD H d) : ∃ oe od, PySem.W.InstAt s.heap a oe C od := by
  obtain ⟨t1, ho⟩ := exo_at I.hok e
  cases d with
  | none => exact ⟨_, none, ho, rfl, rfl, trivial⟩
  | some b =>
    obtain ⟨fs, eb⟩ := hd b rfl
    obtain ⟨mA, hns, hr⟩ := exd_at I.hok eb
    obtain ⟨od, hod, hl⟩ := lookIn_ns hns
    exact ⟨_, some od, ho, rfl, rfl, hod⟩
/-- e.f off such a value -/
def tXat (K : PySem.W.Frag) (te : TE) (f : Str) : TE := fun σ H Q => te σ H fun x H1 => ∃ (a C d : Addr) (fs : List (Str × V)) (v : V), x = .ref a ∧ H1 a = some (exo a C (some d)) ∧ H1 d = some (exd d fs) ∧ XvC K C ∧ PySem.W.findIn K (.ref C) f = some none ∧ fs.lookup f = some v ∧ Q v H1
theorem pe_xat {e : Expr} {te : TE} {f : Str} {pos : Pos} (he : PE X e te) (hb : attributeBase e f X.env (eval e X.env) = eval e X.env := by rfl) : PE X (.Attribute e f pos) (tXat X.K te f) := by
  refine ⟨fun pins s σ H Q I h => ?_⟩
  refine attr_of hb (thn (he.run pins s σ H _ I h) fun u s1 hh => ?_)
  obtain ⟨x, H1, I1, rx, a, C, d, fs, v, ex, ea, ed, T, no, l, q⟩ := hh
  subst ex
  obtain rfl : u = Value.ref a := rx
  obtain ⟨t1, ho⟩ := exo_at I1.hok ea
  obtain ⟨mA, hns, hr⟩ := exd_at I1.hok ed
  obtain ⟨od, hod, hl⟩ := lookIn_ns hns
  obtain ⟨u, hu, ru⟩ := RelO.some_of (v := v) (o := mA f) (by rw [← l]; exact hr f)
  have J : PySem.W.InstAt s1.heap a _ C (some od) := ⟨ho, rfl, rfl, hod⟩
  exact HandSPX.exc_get I1.kIn J T.ga T.gg T.oex.exC (PySem.W.findObj_own T.dd no rfl (by rw [hl, hu])) (handed_of ru) ⟨v, H1, I1.tok _, ru, q⟩
/-- isinstance(e, c) -/
def rIsX (K : PySem.W.Frag) : List V → Hp → VK → Prop := fun xs H Q => ∃ (a C : Addr) (d : Option Addr) (c : V) (cv : Value) (b : Bool), xs = [.ref a, c] ∧ H a = some (exo a C d) ∧ XvD H d ∧ XvC K C ∧ ClsV c cv ∧ PySem.W.kitOne K (.ref C) cv = some b ∧ Q (.bl b) H
theorem call_isx : CallR X (.builtin "isinstance") (rIsX X.K) := by
  intro pins s σ H xs us Q I r h
  obtain ⟨a, C, d, c, cv, b, rfl, ea, hd, T, k, e, q⟩ := h
  obtain ⟨u1, u2, rfl, r1, r2⟩ := vals2 r
  have e2 := k.eq r2
  subst e2
  obtain rfl : u1 = Value.ref a := r1
  obtain ⟨oe, od, J⟩ := xv_inst I ea hd
  exact PySem.W.kia_one (PySem.W.kitx_exc T.ic T.ga T.gg T.oex.exC T.ca T.gs T.tk T.mo) I.kIn J e (fun z => nomatch z) fun tk => ⟨.bl b, H, I.tok tk, rfl, q⟩
end
end L2
set_option maxRecDepth 100000
namespace PySem
namespace XKw
open Builtin Builtin.ObjectAttr PySem.HandSPX
section
variable {M : Model} {A : Around} {E : Value → Shared → Prop} {hh : Heap} {gg : Array GenState} {dr : Drawn} {tt : Nat} {oss : OsState}
variable {nm q : Str} {C N : Addr} {bs bm bmB : List Value} {hdct : Bool} {sn : List Str} {sub : List Value} {ab : Bool} {col : Option Bool} {dd : Option Addr} {k0 k1 k2 k3 k5 : Option Value} {B nid iid : String}
theorem chk_new (FF : ExcBaseFacts B nid iid bmB) (hT : ∀ Y : String, bm.contains (.type Y) = bmB.contains (.type Y)) {us : List Value} {kw : List (Str × Value)} {Q : Unit → Shared → Prop}
    (hC : hh.get? C = some (excClassObj nm q C N bs bm hdct sn sub ab col dd k0 k1 k2 k3 k5 nid))
    (hq : Q () ⟨hh, gg, dr, tt, oss⟩) : wpAny M A (checkBuiltinCall nid ⟨.ref C :: us, kw⟩) Q E ⟨hh, gg, dr, tt, oss⟩ := by
  have hc : (Value.ref C :: bm).contains (.type B) = true := by rw [List.contains_cons, hT, FF.hasB]; exact Bool.or_true _
  have hs := FF.noStar
  simp only [checkBuiltinCall, FF.newKind, FF.newSplit, FF.newRow]
  repeat (first
    | refine wpAny_loadPart_at hC ?_
    | (refine wpAny_isSubtype_exc hC ?_; rw [hc])
    | refine wpAny_staticBase_exc hC ?_
    | refine wpAny_madeBy_exc hC ?_
    | simp only [bne_self_eq_false, Bool.false_eq_true, if_false]
    | wp_step)
  exact hq
end
section
variable {prog : Program} {w : World} {A : Around} {E : Value → Shared → Prop} {R : Result → Shared → Prop} {hh : Heap} {gg : Array GenState} {dr : Drawn} {tt : Nat} {oss : OsState}
variable {nm q : Str} {C N : Addr} {bs bm bmB : List Value} {hdct : Bool} {sn : List Str} {sub : List Value} {ab : Bool} {col : Option Bool} {dd : Option Addr} {k0 k1 k2 k3 k5 : Option Value} {B nid iid : String} {kw : List (Str × Value)}
theorem mk_new (FF : ExcBaseFacts B nid iid bmB) (hT : ∀ Y : String, bm.contains (.type Y) = bmB.contains (.type Y)) {us : List Value}
    (hC : hh.get? C = some (excClassObj nm q C N bs bm hdct sn sub ab col dd k0 k1 k2 k3 k5 nid))
    (hq : R (.ok (.ret (.ref (hh.objs.size + 1)))) ⟨(hh.push (W.kdv_tup us)).push (excO C hh.objs.size), gg, dr, tt, oss⟩) (hu : us.length ≤ sizeLine) :
    codeAny (model prog w) A (.builtin nid ⟨.ref C :: us, kw⟩) R ⟨hh, gg, dr, tt, oss⟩ := by
  have he := FF.ends
  have c1 : (Value.ref C :: bm).contains (.type B) = true := by rw [List.contains_cons, hT, FF.hasB]; exact Bool.or_true _
  have c2 : (Value.ref C :: bm).contains (.type "AttributeError") = false := by rw [List.contains_cons, hT, FF.noAttr]; exact Bool.or_false _
  have c3 : (Value.ref C :: bm).contains (.type "NameError") = false := by rw [List.contains_cons, hT, FF.noName]; exact Bool.or_false _
  refine codeAny_builtinAt FF.entry ?_
  unfold Builtin.«BaseException.__new__»
  refine wpAt_bind ?_
  show wpAt _ _ _ (PySem.stack >>= _) _ _ _
  refine wpAt_bind (wpAt_stack fun _ _ => wpAt_of_wpAny ?_)
  wp_walk
  refine wpAt_of_wpAny ?_
  rw [FF.owner]
  repeat (first
    | with_reducible refine wpAny_madeHere_exc FF.canon hC ?_
    | with_reducible refine wpAny_loadPart_at hC ?_
    | (with_reducible refine wpAny_isSubtype_exc hC ?_; first | rw [c1] | rw [c2] | rw [c3])
    | wp_step)
  show R _ _
  rw [Heap.size_push]
  exact hq
theorem mk_type (FF : ExcBaseFacts B nid iid bmB) (hT : ∀ Y : String, bm.contains (.type Y) = bmB.contains (.type Y)) {us : List Value} {fI : Addr} {Q : Fin → Shared → Prop}
    (hC : hh.get? C = some (excClassObj nm q C N bs bm hdct sn sub ab col dd k0 k1 k2 k3 k5 nid))
    (hi : W.Looks (model prog w) hh (typeLookup (.ref C) "__init__") (some (.ref fI)))
    (hb : ∀ y, W.Looks (model prog w) hh (bindSpecial (.ref fI) y) (.ref fI, [y])) (hu : us.length ≤ sizeLine)
    (hq : codeAny (model prog w) A (.call (.ref fI) ⟨.ref (hh.objs.size + 1) :: us, kw⟩)
      (fun r z => match r with
        | .ok (.ret v) => v = .none ∧ Q (.done (.ret (.ref (hh.objs.size + 1)))) z
        | .ok _ => False
        | .error e => E e z)
      ⟨(hh.push (W.kdv_tup us)).push (excO C hh.objs.size), gg, dr, tt, oss⟩) :
    wpAny (model prog w) A (Builtin.«type.__call__» ⟨.ref C :: us, kw⟩) Q E ⟨hh, gg, dr, tt, oss⟩ := by
  repeat (first
    | with_reducible refine wpAny_loadPart_at hC ?_
    | with_reducible refine wpAny_madeBy_exc hC ?_
    | wp_step)
  refine codeAny_call_builtin_code (Code.quiet_builtin _ FF.quiet) (chk_new FF hT hC ?_)
  refine mk_new FF hT hC ?_ hu
  show wpAny _ _ _ _ _ _
  have k : ∀ b o, hh.get? b = some o → ((hh.push (W.kdv_tup us)).push (excO C hh.objs.size)).get? b = some o :=
    fun _ _ e => Heap.get?_push_of_some _ (Heap.get?_push_of_some _ e)
  have hC1 := k _ _ hC
  have hg : ((hh.push (W.kdv_tup us)).push (excO C hh.objs.size)).get? (hh.objs.size + 1) = some (excO C hh.objs.size) := by
    heap_get
  have cC : (Value.ref C :: bm).contains (.ref C) = true := by simp
  have i1 := hi.keeps k
  have b1 := (hb (.ref (hh.objs.size + 1))).keeps k
  unfold isInstance
  repeat (first
    | with_reducible refine wpAny_loadPart_at hg ?_
    | (with_reducible refine wpAny_isSubtype_exc hC1 ?_; rw [cC])
    | wp_step)
  show wpAny _ _ (typeLookup (.ref C) _) _ _ _
  refine i1.at ?_
  refine wpAny_holding (wpAny_bind (b1.at ?_))
  refine wpAny_bind (wpAny_call (codeAny_mono hq fun r z y => ?_))
  cases r with
  | error e => exact y
  | ok fl =>
    cases fl with
    | ret v =>
      obtain ⟨rfl, y⟩ := y
      first
        | exact wpAny_pure (wpAny_pure y)
        | (wp_walk; done)
        | (wp_walk; exact y)
    | next => exact y.elim
    | brk => exact y.elim
    | cont => exact y.elim
theorem mk_call (FF : ExcBaseFacts B nid iid bmB) (hT : ∀ Y : String, bm.contains (.type Y) = bmB.contains (.type Y)) {us : List Value} {fI : Addr}
    (hC : hh.get? C = some (excClassObj nm q C N bs bm hdct sn sub ab col dd k0 k1 k2 k3 k5 nid))
    (hi : W.Looks (model prog w) hh (typeLookup (.ref C) "__init__") (some (.ref fI)))
    (hb : ∀ y, W.Looks (model prog w) hh (bindSpecial (.ref fI) y) (.ref fI, [y])) (hu : us.length ≤ sizeLine)
    (hq : codeAny (model prog w) (A.under (.builtin "type.__call__" ⟨.ref C :: us, kw⟩)) (.call (.ref fI) ⟨.ref (hh.objs.size + 1) :: us, kw⟩) (W.InitBack (hh.objs.size + 1) R)
      ⟨(hh.push (W.kdv_tup us)).push (excO C hh.objs.size), gg, dr, tt, oss⟩) :
    codeAny (model prog w) A (.call (.ref C) ⟨us, kw⟩) R ⟨hh, gg, dr, tt, oss⟩ := by
  have f1 := tc_lookup
  have f2 := tc_bind (.ref C)
  have hTy : (⟨hh, gg, dr, tt, oss⟩ : Shared).TypeIs (.ref C) "type" := ⟨_, hC, rfl⟩
  refine codeAny_of_tree ?_
  show wpAny _ _ (callAny (.ref C) _) _ _ _
  repeat (any_goals (first
    | assumption
    | with_reducible refine wpAny_loadPart_at hC ?_
    | wp_step))
  refine ⟨rfl, ?_⟩
  refine codeAny_call_builtin_at (Code.quiet_builtin _ (by decide +kernel)) entry_typeCall (wpAny_check_type_call_sub hC (mk_type FF hT hC hi hb hu ?_))
  refine codeAny_mono hq fun r z y => ?_
  rcases r with e | (v | _ | _ | _) <;> exact y
end
end XKw
end PySem
set_option maxRecDepth 100000
namespace L2
open PySem PySem.Spec PyProof.Rows
/-- a def's promise where nothing is being shown around it (repr asks that) -/
structure FnG (P : Program) (w : World) (K : PySem.W.Frag) (mg : Str → Option Value) (base : Heap) (CX : CXT) (k : Nat) (f : Addr) (fd : FuncData) (ps : List Str) (sp : Sp) : Prop where
  len : ∀ vs H Q E, sp vs H Q E → vs.length = ps.length
  run : ∀ (A : Around) (outer : List Env) (s : Shared) (H : Hp) (args : Args) (us : List Value) (vs : List V) (Q : VK) (E : XK), A.guards = some [] → Room k A →
    Env0 P w K mg base A outer s H → BindsTo s fd args (ps.zip us) → Vals vs us → sp vs H Q E →
    codeAny (model P w) A (.call (.ref f) args) (CR CX outer P w H s Q E) s
section
variable {P : Program} {w : World} {K : PySem.W.Frag} {mg : Str → Option Value} {base : Heap} {CX : CXT} {k : Nat} {f : Addr} {fd : FuncData} {ps : List Str} {sp : Sp}
theorem FnOk.g (F : FnOk P w K mg base CX k f fd ps sp) : FnG P w K mg base CX k f fd ps sp :=
  ⟨F.len, fun A o s H a us vs Q E _ => F.run A o s H a us vs Q E⟩
theorem FnG.mono {j : Nat} (F : FnG P w K mg base CX j f fd ps sp) (h : j ≤ k) : FnG P w K mg base CX k f fd ps sp :=
  ⟨F.len, fun A o s H a us vs Q E g r => F.run A o s H a us vs Q E g (r.mono h)⟩
end
/-- a def by its body -/
theorem Fun.okG {P : Program} {w : World} {K : PySem.W.Frag} {mg : Str → Option Value} {base : Heap} {x qual : Str} {st : Stmt} {f : Addr} {fd : FuncData} {N ps : List Str} {k : Nat} {sp : Sp}
    (F : Fun K x qual st f fd) (S : FnScope N ps (defScope st)) (len : ∀ vs H Q E, sp vs H Q E → vs.length = ps.length)
    (body : ∀ (cdv : Value) (A : Around) (outer : List Env) (s : Shared) (H : Hp) (vs : List V) (Q : VK) (E : XK), A.guards = some [] →
      Room k (A.deeper (envOfC qual (defScope st) s.heap.objs.size f cdv)) → sp vs H Q E →
      ∃ t, PSs (cxOf CX0 P w K mg base N qual (defScope st) f cdv A outer s H E).nox (defBody st) t ∧
        t { nx := fun _ H' => Q .non H', rt := Q } (start N vs) H) :
    FnG P w K mg base CX0 (k + 1) f fd ps sp := by
  obtain ⟨oc, od, kV, doc, pm, an, cdv, ct, osl, rfl, lk, hcd⟩ := F.ex
  refine ⟨len, fun A outer s H args us vs Q E hgd hr e0 hb r hsp => ?_⟩
  have hn := len _ _ _ _ hsp
  have bk : ∀ b o, base.get? b = some o → s.heap.get? b = some o := fun b o e => (e0.bs b o e).1
  have kin := e0.mod.kin.keeps bk
  have lim := e0.mod.nolimit.keeps bk
  have kinds : ∀ y ∈ ps.zip us, (defScope st).names.lookup y.1 = some .local ∨
      ((defScope st).names.lookup y.1 = some .cell ∧ ((cellsFrom (s.heap.objs.size + 1) (defScope st).names []).lookup y.1).isSome = true) := by
    rintro ⟨n, v⟩ hy
    cases S.par n (List.of_mem_zip hy).1 with
    | inl q => exact .inl q
    | inr q => exact .inr ⟨q, PySem.W.cellsFrom_some _ _ _ (.inl q)⟩
  refine codeAny_call_function hr.depth (kin _ _ lk) rfl S.co S.gen rfl (PySem.W.codeRec_of kin hcd) (hb _ _ _ _ ?_)
  refine wpAny_newFunctionEnv_cells S.kind kinds fun env he s1 x => ?_
  subst he
  refine ⟨lim.keeps x.toInCall.keep, codeAny_func ?_⟩
  obtain ⟨t, ht, hq⟩ := body cdv A outer s H vs Q E hgd (hr.deeper _) hsp
  have I := inv_start (CX := CX0) (P := P) (w := w) (K := K) (mg := mg) (base := base) (E := E) S hr.hd e0 hn r x
  refine wpAny_mono (ht.nox.run [] s1 (start N vs) H _ I hq) (fun fl s' hs => ?_) fun _ _ hs => hs
  cases fl with
  | brk =>
    obtain ⟨_, _, _, q⟩ := hs
    exact q.elim
  | cont =>
    obtain ⟨_, _, _, q⟩ := hs
    exact q.elim
  | next =>
    obtain ⟨σ', H', J, q⟩ := hs
    exact ⟨V.non, H', J.os, J.bare, J.base, J.hok, rfl, q⟩
  | ret u =>
    obtain ⟨v, σ', H', J, rv, q⟩ := hs
    exact ⟨v, H', J.os, J.bare, J.base, J.hok, rv, q⟩
section
variable {X : Cx} {CX : CXT} {k : Nat} {f : Addr} {fd : FuncData} {ps ks : List Str} {sp : Sp} {dvs : List V} {ds : List Value} {E : XK} {x : Str} {p pos : Pos} {e : Expr} {es : List Expr} {t : TA}
theorem run_g {pins : List (Addr × Obj)} {σ : St} {H : Hp} {s : Shared} {Q : VK} {us : List Value} {vs : List V} (F : FnG X.prog X.w X.K X.mg X.base CX k f fd ps sp) (gd : X.A.guards = some []) (hr : Room k X.A)
    (hb : Binds X.K fd ps ds) (hd : Vals dvs ds) (hx : Passes CX X E) (I : Inv X pins σ H s) (r : Vals vs us) (h : sp (vs ++ dvs) H Q E) :
    wpAny (model X.prog X.w) X.A (call (.ref f) us) (EP X pins σ Q) X.xe s := by
  have rr := Vals.append r hd
  have hl : (us ++ ds).length = ps.length := (rr.length.symm).trans (F.len _ _ _ _ h)
  refine wpAny_call (codeAny_mono (F.run X.A X.stack s H _ _ _ Q E gd hr I.env0 (hb s us I.kIn hl) rr h) fun r s' hq => ?_)
  cases r with
  | error er => exact hx pins σ H s er s' I hq
  | ok fl =>
    cases fl with
    | ret u => exact I.after hq
    | next => exact hq.elim
    | brk => exact hq.elim
    | cont => exact hq.elim
theorem pe_callG (F : FnG X.prog X.w X.K X.mg X.base CX k f fd ps sp) (gd : X.A.guards = some []) (hr : Room k X.A) (hg : Gl X x) (hm : X.mg x = some (.ref f)) (hk : PySem.W.keepIn X.K (.ref f) = true)
    (hb : Binds X.K fd ps ds) (hd : Vals dvs ds) (hx : Passes CX X E) (ha : PA X (e :: es) t) (hdb : (x == ("__debug__" : Str)) = false := by decide)
    (he : starEach (e :: es) X.env = (false, eval e X.env) :: starEach es X.env := by rfl) (hpl : (backTo pos (starEach es X.env)).any (·.1) = false := by rfl) :
    PE X (.Call (.Name x p) (e :: es) [] pos) (tCall sp dvs E t) := by
  refine ⟨fun pins s σ H Q I h => wpAny_Call_Name_kw (ld_glob I hg hm ?_ hdb)⟩
  refine PySem.W.callWith_K (h₀ := X.base) I.ok.mod.kin hk (thn (ha.run pos pins s σ H _ I h) fun us s1 hh => ?_) he hpl
  obtain ⟨vs, H1, I1, r, q⟩ := hh
  exact ⟨I1.kIn, run_g F gd hr hb hd hx I1 r q⟩
/-! repr -/
/-- x reads as d, in every state over H -/
def RdV (X : Cx) (H : Hp) (x : V) (d : PyData) : Prop := ∀ (pins : List (Addr × Obj)) (σ : St) (s : Shared) (u : Value), Inv X pins σ H s → RelV x u → ∃ as, Reads s.heap u d as ∧ (d.hasDict = true → sysModules ∉ as)
def rRepr (X : Cx) : List V → Hp → VK → Prop := fun xs H Q => ∃ (x : V) (d : PyData), xs = [x] ∧ RdV X H x d ∧ d.showable = true ∧ d.depth ≤ 20 ∧ d.shown.length ≤ sizeLine ∧ Q (.str d.shown) H
theorem call_reprG (gd : X.A.guards = some []) (hu : X.A.units + 64 < cLine) : CallR X (.builtin "repr") (rRepr X) := by
  intro pins s σ H xs us Q I r h
  obtain ⟨x, d, rfl, rd, sh, dp, sz, q⟩ := h
  obtain ⟨u, rfl, ru⟩ : ∃ u, us = [u] ∧ RelV x u := by
    cases r with
    | cons a b =>
      cases b
      exact ⟨_, rfl, a⟩
  obtain ⟨as, rr, hsm⟩ := rd pins σ s u I ru
  have fin : ∀ (h' : Heap) (t : Tok) (tk : Nat), (∀ b o, s.heap.get? b = some o → h'.get? b = some o) → EP X pins σ Q (.str d.shown t) { s with heap := h', toks := tk } :=
    fun h' t tk k => ⟨.str d.shown, H, I.kept (t' := tk) k, ⟨t, rfl⟩, q⟩
  cases rr with
  | none => exact PySem.P.repr_of_none (fin s.heap s.toks _ fun _ _ z => z)
  | bool b => exact PySem.P.repr_of_bool (fin s.heap s.toks _ fun _ _ z => z)
  | int i t =>
    have hb : i.natAbs.log2 < 1920 := by simpa [PyData.showable] using sh
    exact PySem.P.repr_of_int hb (fin s.heap s.toks _ fun _ _ z => z)
  | str y t => exact PySem.P.repr_of_str (fin s.heap s.toks _ fun _ _ z => z) sz
  | list h1 h2 h3 h4 => exact repr_of_reads' (.list h1 h2 h3 h4) sh hsm gd (by omega) (fun _ _ z => z) (fun h' u tk k => fin h' u tk k) sz
  | tuple h1 h2 h3 h4 => exact repr_of_reads' (.tuple h1 h2 h3 h4) sh hsm gd (by omega) (fun _ _ z => z) (fun h' u tk k => fin h' u tk k) sz
  | dict h1 h2 h3 h4 h5 => exact repr_of_reads' (.dict h1 h2 h3 h4 h5) sh hsm gd (by omega) (fun _ _ z => z) (fun h' u tk k => fin h' u tk k) sz
end
end L2
set_option maxRecDepth 100000
namespace L2
open PySem PySem.Spec PyProof.Rows
/-- the law's call, by a promise that holds where nothing is being shown -/
theorem end_core {P : Program} {w : World} {K : PySem.W.Frag} {mg mb : Str → Option Value} {k : Nat} {fa a : Addr} {fd : FuncData} {x : Str} {sp : Sp} {s₁ : Shared} {vs : List Value} {H : Hp}
    (KX : K.In s₁.heap) (hns : s₁.heap.Ns mainGlobals mg) (hb : s₁.heap.Ns builtinsNs mb) (hbb : ∀ y : Str, y ≠ "__name__" → mb y = bootBuiltins y)
    (lim : s₁.heap.NoLimit) (hg : s₁.gens = #[]) (ha : s₁.heap.get? a = some { cls := .type "list", data := .seq vs.toArray }) (hr : Room k callerA)
    (F : ∀ base : Heap, K.In base → base.Ns mainGlobals mg → FnG P w K mg base CX0 k fa fd [x] sp) (bind : ∀ (s : Shared) (u : Value), BindsTo s fd ⟨[u], []⟩ [(x, u)])
    (hO : Only H) (hok : HOk P w H s₁.heap) (hA : ∀ b, H b ≠ none → b = a) (hK : H a ≠ none → K.lookup a = none)
    (hsp : sp [.ref a] H (fun v _ => v = .bl true) fun _ _ _ => False) :
    codeAny (model P w) callerA (.call (.ref fa) ⟨[.ref a], []⟩) (fun r s' => r = .ok (.ret (.bool true)) ∧ OldK s₁.heap s'.heap ∧ s'.os = s₁.os ∧ AllBare s'.gens) s₁ := by
  have free : ∀ {b : Addr} {o : Obj} {es : Array DictEntry} {ep : Nat}, s₁.heap.get? b = some o → o.data = .dict es ep → H b = none := by
    intro b o es ep e d
    refine Classical.byContradiction fun n => ?_
    have eb := hA b n
    subst eb
    have eo := Option.some.inj (e.symm.trans ha)
    subst eo
    cases d
  have ns' : ∀ {b : Addr} {m : Str → Option Value}, s₁.heap.Ns b m → (hidT s₁.heap H).Ns b m := by
    rintro b m ⟨o, es, ep, e, d, r⟩
    exact ⟨o, es, ep, hidT_get e (free e d), d, r⟩
  have kb : K.In (hidT s₁.heap H) := by
    intro b o e
    refine hidT_get (KX b o e) (Classical.byContradiction fun n => ?_)
    have eb := hA b n
    subst eb
    rw [hK n] at e
    cases e
  have md : Mod K mg (hidT s₁.heap H) := by
    obtain ⟨mc, h1, h2⟩ := lim
    exact ⟨kb, ns' hns, ⟨mb, ns' hb, hbb⟩, ⟨mc, ns' h1, h2⟩⟩
  have ev : Env0 P w K mg (hidT s₁.heap H) callerA [] s₁ H :=
    ⟨rfl, md, fun b o e => of_hidT e, Nat.le_of_eq (hidT_size _ _), trivial, fun b hb => (nomatch hb), hok, .of_eq hg⟩
  refine codeAny_mono ((F _ kb (ns' hns)).run callerA [] s₁ H _ [.ref a] [.ref a] _ _ rfl hr ev (bind s₁ (.ref a)) (.cons rfl .nil) hsp) fun r s' h => ?_
  cases r with
  | error e => exact (h : False).elim
  | ok fl =>
    cases fl with
    | next => exact (h : False).elim
    | brk => exact (h : False).elim
    | cont => exact (h : False).elim
    | ret u =>
      obtain ⟨v, H', os, bare, un, hok', r', q⟩ := h
      have q' : v = .bl true := q
      subst q'
      obtain rfl : u = Value.bool true := r'
      refine ⟨rfl, OldK.of_keep fun b o e => ?_, os, bare⟩
      rcases hO b with z | ⟨ob, xs, z⟩
      · exact un.keep b o e z (fun m => nomatch m) (fun m => nomatch m)
      · have e1 := (hok b _ z).1
        have e2 := (hok' b _ (un.frzs b ob _ z)).1
        exact (Option.some.inj (e.symm.trans e1)) ▸ e2
theorem end_call {P : Program} {w : World} {K : PySem.W.Frag} {mg mb : Str → Option Value} {k : Nat} {fa a : Addr} {fd : FuncData} {x : Str} {sp : Sp} {s₁ : Shared} {vs : List Value} {ns : List Int}
    (KX : K.In s₁.heap) (hns : s₁.heap.Ns mainGlobals mg) (hb : s₁.heap.Ns builtinsNs mb) (hbb : ∀ y : Str, y ≠ "__name__" → mb y = bootBuiltins y)
    (lim : s₁.heap.NoLimit) (hg : s₁.gens = #[]) (ha : s₁.heap.get? a = some { cls := .type "list", data := .seq vs.toArray }) (hi : IntsAre vs ns) (hl : ns.length ≤ sizeLine) (hr : Room k callerA)
    (F : ∀ base : Heap, K.In base → base.Ns mainGlobals mg → FnG P w K mg base CX0 k fa fd [x] sp) (bind : ∀ (s : Shared) (u : Value), BindsTo s fd ⟨[u], []⟩ [(x, u)])
    (hsp : ∀ H : Hp, Only H → SqL K H a (ns.map V.int) → sp [.ref a] H (fun v _ => v = .bl true) fun _ _ _ => False) :
    codeAny (model P w) callerA (.call (.ref fa) ⟨[.ref a], []⟩) (fun r s' => r = .ok (.ret (.bool true)) ∧ OldK s₁.heap s'.heap ∧ s'.os = s₁.os ∧ AllBare s'.gens) s₁ := by
  have rv := vals_ints hi
  cases hk : K.lookup a with
  | some o =>
    have eo := Option.some.inj ((KX a o hk).symm.trans ha)
    subst eo
    refine end_core (H := fun _ => none) KX hns hb hbb lim hg ha hr F bind (fun _ => .inl rfl) (fun _ _ z => nomatch z) (fun _ z => (z rfl).elim) (fun z => (z rfl).elim) (hsp _ (fun _ => .inl rfl) ?_)
    exact .inr ⟨_, vs.toArray, _, hk, rfl, rfl, rfl, by rw [List.size_toArray, hi.length]; exact hl, by simpa using rv⟩
  | none =>
    have at_ : ∀ b, (if b = a then some (HO.frz { cls := .type "list", data := .seq vs.toArray } (.lst (ns.map V.int))) else none) ≠ none → b = a := by
      intro b n
      refine Classical.byContradiction fun z => n (if_neg z)
    have on : Only (fun b => if b = a then some (HO.frz { cls := .type "list", data := .seq vs.toArray } (.lst (ns.map V.int))) else none) := by
      intro b
      by_cases eb : b = a
      · exact .inr ⟨_, _, if_pos eb⟩
      · exact .inl (if_neg eb)
    refine end_core KX hns hb hbb lim hg ha hr F bind on (fun b u z => ?_) at_ (fun _ => hk) (hsp _ on (.inl (.inr ⟨_, if_pos rfl⟩)))
    have eb := at_ b (fun n => nomatch z.symm.trans n)
    subst eb
    have eu := Option.some.inj ((if_pos rfl).symm.trans z)
    subst eu
    exact ⟨ha, by rw [List.length_map]; exact hl, vs, _, rv, ha⟩
theorem walk_ofG {l : PySem.W.OpenLaw} {n k : Nat} {q : Program} {loose : List Str} {XP : (Str → Option Value) → Heap → Prop} {YP : World → Heap → Prop} {d : DefRec} {K : Params → PySem.W.Frag} {sp : World → Sp} {x : Str}
    (hn : l.most = some n) (hn2 : n ≤ sizeLine) (hdf : d.params.defaults = []) (hr : Room k callerA)
    (hY : ∀ (w : World) (h : Heap), YP w h → (K w.params).In h)
    (F : ∀ (w : World) (mg : Str → Option Value) (fa : Addr) (h : Heap), (K w.params).In h → h.Ns mainGlobals mg → mg d.name = some (.ref fa) →
      ∃ fd : FuncData, (∀ (s : Shared) (u : Value), BindsTo s fd ⟨[u], []⟩ [(x, u)]) ∧
        ∀ base : Heap, (K w.params).In base → base.Ns mainGlobals mg → FnG l.prog w (K w.params) mg base CX0 k fa fd [x] (sp w))
    (hsp : ∀ (w : World) (H : Hp) (a : Addr) (ns : List Int), ns.length ≤ n → (∀ z ∈ ns, Builtin.Int.intBits z ≤ 1048576) → Only H → SqL (K w.params) H a (ns.map V.int) →
      sp w [.ref a] H (fun v _ => v = .bl true) fun _ _ _ => False) :
    PySem.W.WalkO q loose XP YP l.row.toRowW d [] (fun f vs => PySem.call f vs) := by
  refine Att.attach_callB hn hdf fun w s₀ s₁ mg mb fa o pm cd doc a vs ns G Y ho hd hcd hmg hobj hints hlen hbits hg => ?_
  obtain ⟨fd, b, f⟩ := F w mg fa _ (hY w _ Y) G.T.g hmg
  exact end_call (hY w _ Y) G.T.g G.T.b G.T.builtins G.T.nolimit hg hobj hints (Nat.le_trans hlen hn2) hr f b fun H hO hS => hsp w H a ns hlen hbits hO hS
end L2
set_option maxRecDepth 100000
namespace L2
open PySem PySem.Spec PyProof.Rows
/-- an own exception class with an own __init__ -/
structure XvI (K : PySem.W.Frag) (C fI : Addr) : Prop where
  cls : XvC K C
  ini : PySem.W.findIn K (.ref C) "__init__" = some (some (.ref fI))
  ty : PySem.W.typeIn K (.ref fI) = some (.type "function")
theorem Vals.rev : ∀ {xs : List V} {us : List Value}, Vals xs us → Vals xs.reverse us.reverse
  | _, _, .nil => .nil
  | _, _, .cons r t => by
    rw [List.reverse_cons, List.reverse_cons]
    exact Vals.append (Vals.rev t) (.cons r .nil)
theorem Fun.kbn {K : PySem.W.Frag} {x qual : Str} {st : Stmt} {f : Addr} {fd : FuncData} {ps : List Str} (F : Fun K x qual st f fd) (n : Nat) (ks : List Str) (g : List Value → List Value → List Value) (gV : List V → List V → List V)
    (h : ∀ (kV doc pm : Value) (an : Option Addr) (cdv ct : Value) (us ws : List Value), us.length = n → ws.length = ks.length →
      bindArgs (PySem.W.fnOf x qual (defArgs st) (defBody st) (defScope st) .none kV doc pm an cdv ct) ⟨us, ks.zip ws⟩ = pure (ps.zip (g us ws)))
    (rel : ∀ {vs : List V} {us : List Value} {zs : List V} {ws : List Value}, Vals vs us → Vals zs ws → Vals (gV vs zs) (g us ws)) : KBn K fd ps n ks g gV := by
  obtain ⟨oc, od, kV, doc, pm, an, cdv, ct, osl, rfl, lk, hcd⟩ := F.ex
  exact ⟨fun s us ws _ l1 l2 => BindsTo.of_eq (h kV doc pm an cdv ct us ws l1 l2), rel⟩
section
variable {X : Cx} {k n : Nat} {fI C : Addr} {fd : FuncData} {ps ks : List Str} {sp : Sp} {x : Str} {p pos : Pos} {e : Expr} {es : List Expr} {kws : List Keyword} {t tk : TA} {g : List Value → List Value → List Value} {gV : List V → List V → List V}
theorem run_mkx {pins : List (Addr × Obj)} {σ : St} {H : Hp} {s : Shared} {Q : VK} {us ws : List Value} {vs zs : List V} (T : XvI X.K C fI) (F : FnOk X.prog X.w X.K X.mg X.base CX0 k fI fd ps sp) (hr : Room (k + 1) X.A)
    (hb : KBn X.K fd ps (n + 1) ks g gV) (hn : n ≤ 1000) (I : Inv X pins σ H s) (r : Vals vs us) (rz : Vals zs ws) (l1 : vs.length = n) (l2 : zs.length = ks.length)
    (h : ∀ a, H a = none → sp (gV (.ref a :: vs) zs) (upd H a (exo a C none)) (fun v H2 => v = .non ∧ Q (.ref a) H2) E0) :
    wpAny (model X.prog X.w) X.A (call (.ref C) us (ks.zip ws)) (EP X pins σ Q) X.xe s := by
  obtain ⟨nm, q, N, bs, bm, sn, sub, ab, col, dd, k0, k1, k2, k3, k5, hC, hbm⟩ := T.cls.oex.cls
  obtain ⟨hp, gn, dr, tt, oss⟩ := s
  have sz : hp.objs.size ≤ hp.objs.size + 1 := Nat.le_succ _
  have keep : ∀ b o, hp.get? b = some o → ((hp.push (PySem.W.kdv_tup us)).push (PySem.HandSPX.excO C hp.objs.size)).get? b = some o :=
    fun _ _ e => Heap.get?_push_of_some _ (Heap.get?_push_of_some _ e)
  have at_ : ((hp.push (PySem.W.kdv_tup us)).push (PySem.HandSPX.excO C hp.objs.size)).get? (hp.objs.size + 1) = some (PySem.HandSPX.excO C hp.objs.size) := by
    heap_get
  have I2 := I.laid (t' := tt) (a := hp.objs.size + 1) (o := exo (hp.objs.size + 1) C none) keep sz (exo_ok at_)
  have hq := h (hp.objs.size + 1) (I.hok.fresh sz)
  have rs : Vals (V.ref (hp.objs.size + 1) :: vs) (Value.ref (hp.objs.size + 1) :: us) := .cons rfl r
  have ln : (Value.ref (hp.objs.size + 1) :: us).length = n + 1 := by rw [List.length_cons, ← r.length, l1]
  have hus : us.length ≤ sizeLine := by
    rw [← r.length, l1, sizeLine_eq]
    omega
  refine wpAny_call (PySem.XKw.mk_call PySem.F.excBase_ValueError (fun Y => PySem.HandSPX.refsVE_contains Y bm hbm) (I.kIn _ _ hC) (PySem.W.looks_findIn I.kIn T.ini)
    (fun y => PySem.W.bind_fn I.kIn y T.ty) hus ?_)
  refine codeAny_mono (F.run _ X.stack _ _ _ _ _ _ _ (hr.make C us (ks.zip ws)) (I2.env0.make C us (ks.zip ws)) (hb.to _ _ ws I2.kIn ln (rz.length.symm.trans l2)) (hb.rel rs rz) hq) fun r s' hq' => ?_
  cases r with
  | error er => exact (hq' : False).elim
  | ok fl =>
    cases fl with
    | ret u =>
      obtain ⟨v, H3, I3, rv, ev, q3⟩ := I2.after hq'
      subst ev
      exact ⟨rv, V.ref (hp.objs.size + 1), H3, I3, rfl, q3⟩
    | next => exact (hq' : False).elim
    | brk => exact (hq' : False).elim
    | cont => exact (hq' : False).elim
/-- C(e, ..) -/
def tMkX (C : Addr) (n : Nat) (sp : Sp) (gV : List V → List V → List V) (t : TA) : TE := fun σ H Q => t σ H fun vs H1 => vs.length = n ∧ ∀ a, H1 a = none → sp (gV (.ref a :: vs) []) (upd H1 a (exo a C none)) (fun v H2 => v = .non ∧ Q (.ref a) H2) E0
theorem pe_mkx (T : XvI X.K C fI) (F : FnOk X.prog X.w X.K X.mg X.base CX0 k fI fd ps sp) (hr : Room (k + 1) X.A) (hb : KBn X.K fd ps (n + 1) [] g gV) (hg : Gl X x) (hm : X.mg x = some (.ref C)) (ha : PA X (e :: es) t)
    (hn : n ≤ 1000 := by decide) (hdb : (x == ("__debug__" : Str)) = false := by decide)
    (he : starEach (e :: es) X.env = (false, eval e X.env) :: starEach es X.env := by rfl) (hpl : (backTo pos (starEach es X.env)).any (·.1) = false := by rfl) :
    PE X (.Call (.Name x p) (e :: es) [] pos) (tMkX C n sp gV t) := by
  refine ⟨fun pins s σ H Q I h => wpAny_Call_Name_kw (ld_glob I hg hm ?_ hdb)⟩
  refine PySem.W.callWith_K (h₀ := X.base) I.ok.mod.kin T.cls.oex.kC (thn (ha.run pos pins s σ H _ I h) fun us s1 hh => ?_) he hpl
  obtain ⟨vs, H1, I1, r, l1, q⟩ := hh
  exact ⟨I1.kIn, run_mkx (ws := []) (zs := []) T F hr hb hn I1 r .nil l1 rfl q⟩
/-- C(k = v, ..) -/
def tMkXK (C : Addr) (m : Nat) (sp : Sp) (gV : List V → List V → List V) (tk : TA) : TE := fun σ H Q => tk σ H fun zs H1 => zs.length = m ∧ ∀ a, H1 a = none → sp (gV [.ref a] zs) (upd H1 a (exo a C none)) (fun v H2 => v = .non ∧ Q (.ref a) H2) E0
theorem pe_mkxK (T : XvI X.K C fI) (F : FnOk X.prog X.w X.K X.mg X.base CX0 k fI fd ps sp) (hr : Room (k + 1) X.A) (hb : KBn X.K fd ps 1 ks g gV) (hg : Gl X x) (hm : X.mg x = some (.ref C)) (hkw : PK X kws tk)
    (hall : (backToKw pos (keywordEach kws X.env)).all (·.1.isSome) = true := by rfl) (hks : (backToKw pos (keywordEach kws X.env)).filterMap (·.1) = ks := by rfl) (hdb : (x == ("__debug__" : Str)) = false := by decide)
    (hpl : ((backTo pos (starEach [] X.env)).any (·.1) || (backToKw pos (keywordEach kws X.env)).any (·.1.isNone)) = false := by rfl) :
    PE X (.Call (.Name x p) [] kws pos) (tMkXK C ks.length sp gV tk) := by
  refine ⟨fun pins s σ H Q I h => wpAny_Call_Name_kw (ld_glob I hg hm ?_ hdb)⟩
  refine PySem.W.callWith_KW0 (h₀ := X.base) I.ok.mod.kin T.cls.oex.kC hall ?_ hpl
  refine thn (hkw.run pos pins s σ H _ I h) fun ws s2 hh => ?_
  obtain ⟨zs, H2, I2, rz, l2, q2⟩ := hh
  refine ⟨I2.kIn, ?_⟩
  rw [hks]
  exact run_mkx (n := 0) (us := []) (vs := []) T F hr hb (Nat.zero_le _) I2 .nil rz rfl l2 q2
/-- C(), no __init__ of its own -/
theorem pe_mkx0 {bmB : List Value} {B newId initId : String} (FF : ExcBaseFacts B newId initId bmB) (q : PySem.W.excIn X.K C bmB newId = true) (kC : PySem.W.keepIn X.K (.ref C) = true) (hg : Gl X x) (hm : X.mg x = some (.ref C))
    (hdb : (x == ("__debug__" : Str)) = false := by decide) : PE X (.Call (.Name x p) [] [] pos) (fun _ H Q => ∀ a, H a = none → Q (.ref a) (upd H a (exo a C none))) := by
  refine ⟨fun pins s σ H Q I h => wpAny_Call_Name_kw (ld_glob I hg hm ?_ hdb)⟩
  refine PySem.W.callWith_K0 I.kIn kC ?_
  obtain ⟨bm, N, nm, qn, bs, hdct, sn, sub, ab, col, dd, k0, k1, k2, k3, k5, mN, hC, hN, hni, T⟩ := exc_obj I.kIn q
  refine wpAny_call_exc_subT FF T hC hN hni (fun h' a hm => ?_) (Nat.zero_le _)
  have hn : H a = none := I.hok.gone hm.new
  obtain ⟨t, ht, _⟩ := hm.there
  exact ⟨V.ref a, upd H a (exo a C none), I.laidN hm.keeps hm.new hn (exo_ok ht), rfl, h a hn⟩
end
end L2
set_option maxRecDepth 100000
namespace Toy
open PySem L2
def top (i : Nat) : Stmt := PySem.Challenge.pw_lanebanks_k26_texts_of_rules.main.body.getD i (.Pass ⟨0, 0, 0, 0⟩)
abbrev s__law_pen : Stmt := top 36
abbrev s__law_draw : Stmt := top 37
abbrev s__law_pick : Stmt := top 38
/-- the built-ins' names stand for themselves -/
structure TB (mg : Str → Option Value) : Prop where
  m_int : mg "int" = none
  m_abs : mg "abs" = none
  m_len : mg "len" = none
  m_list : mg "list" = none
/-- the pen at p: the cells ns at l, how many were drawn, what is left of a great one -/
structure PenAt (H : Hp) (p l : Addr) (ns : List Int) (at_ left : Int) : Prop where
  pen : H p = some (.lst [.ref l, .int at_, .int left])
  cells : H l = some (.lst (ns.map V.int))
  few : ns.length ≤ 63
  bits : ∀ z ∈ ns, Builtin.Int.intBits z ≤ 1048576
  low : 0 ≤ at_
theorem PenAt.ne {H : Hp} {p l : Addr} {ns : List Int} {a b : Int} (P : PenAt H p l ns a b) : l ≠ p := fun e => by
  have h1 := P.cells
  rw [e, P.pen] at h1
  cases ns with
  | nil => cases h1
  | cons z r => cases r with
    | nil => cases h1
    | cons y r => cases h1
theorem PenAt.put {H : Hp} {p l : Addr} {ns : List Int} {a b : Int} (P : PenAt H p l ns a b) (c d : Int) (h : 0 ≤ c) : PenAt (upd H p (.lst [.ref l, .int c, .int d])) p l ns c d :=
  ⟨upd_same, by rw [upd_ne P.ne]; exact P.cells, P.few, P.bits, h⟩
/-- all that was tracked but p is as it was -/
def But (p : Addr) (H H' : Hp) : Prop := ∀ b o, b ≠ p → H b = some o → H' b = some o
theorem But.refl (p : Addr) (H : Hp) : But p H H := fun _ _ _ h => h
theorem But.of {p : Addr} {H H' : Hp} (h : Same H H') : But p H H' := fun b o _ e => h b o e
theorem But.trans {p : Addr} {H H1 H2 : Hp} (a : But p H H1) (b : But p H1 H2) : But p H H2 := fun c o n h => b c o n (a c o n h)
theorem But.put {p : Addr} {H H1 : Hp} {o : HO} (a : But p H H1) : But p H (upd H1 p o) := fun c u n h => by
  rw [upd_ne n]
  exact a c u n h
theorem But.new {p q : Addr} {H H1 : Hp} {o : HO} (a : But p H H1) (hq : H1 q = none) : But p H (upd H1 q o) := fun c u n h => by
  rw [upd_ne (ne_of_none (a c u n h) hq)]
  exact a c u n h
theorem But.free {p q : Addr} {H H1 : Hp} (a : But p H H1) (hq : H1 q = none) (n : q ≠ p) : H q = none := by
  cases e : H q with
  | none => rfl
  | some o =>
    rw [a q o n e] at hq
    cases hq
theorem PenAt.new {H : Hp} {p l q : Addr} {ns : List Int} {a b : Int} {o : HO} (P : PenAt H p l ns a b) (hq : H q = none) : PenAt (upd H q o) p l ns a b :=
  ⟨by rw [upd_ne (ne_of_none P.pen hq)]; exact P.pen, by rw [upd_ne (ne_of_none P.cells hq)]; exact P.cells, P.few, P.bits, P.low⟩
theorem atI_of {α : Type} {xs : List α} {i : Int} {v : α} (h0 : 0 ≤ i) (h : xs[i.toNat]? = some v) : atI xs i = some v := by
  have e : i = ((i.toNat : Nat) : Int) := (Int.toNat_of_nonneg h0).symm
  rw [e]
  exact atI_nat h
theorem dp_ints {K : PySem.W.Frag} {H : Hp} : ∀ ns : List Int, DpAll K H (ns.map V.int) (ns.map PyData.int)
  | [] => .nil
  | z :: r => .cons (.int z) (dp_ints r)
theorem shaped_ints (ns : List Int) : SeqAt.shaped (.list (ns.map PyData.int)) = true := by
  have h : ∀ ns : List Int, PyData.canLayAll0 (ns.map PyData.int) = true ∧ PyData.depthAll (ns.map PyData.int) = 0 := by
    intro ns
    induction ns with
    | nil => exact ⟨rfl, rfl⟩
    | cons z r ih => exact ⟨by simp [PyData.canLayAll0, PyData.canLay0, ih.1], by simp [PyData.depthAll, PyData.depth, ih.2]⟩
  simp [SeqAt.shaped, PyData.canLay0, PyData.depth, h ns]
/-- _law_pen(script) -/
def spPen (K : PySem.W.Frag) : Sp := fun vs H Q _ => ∃ (a : Addr) (ns : List Int), vs = [.ref a] ∧ SqL K H a (ns.map V.int) ∧ ns.length ≤ 63 ∧ (∀ z ∈ ns, Builtin.Int.intBits z ≤ 1048576) ∧
  ∀ (H' : Hp) (p l : Addr), Same H H' → H p = none → PenAt H' p l ns 0 0 → Q (.ref p) H'
/-- _law_draw(pen, many): some digit below many; the pen goes on -/
def spDraw : Sp := fun vs H Q _ => ∃ (p l : Addr) (ns : List Int) (a b many : Int), vs = [.ref p, .int many] ∧ PenAt H p l ns a b ∧ a ≤ 1000000 ∧ 0 < many ∧ many.natAbs.log2 < 9000 ∧
  ∀ (H' : Hp) (d a' b' : Int), 0 ≤ d → d < many → a ≤ a' → a' ≤ a + 1 → But p H H' → PenAt H' p l ns a' b' → Q (.int d) H'
/-- _law_pick(pen, some): one of a list's items -/
def spPick (K : PySem.W.Frag) : Sp := fun vs H Q _ => ∃ (p l q : Addr) (ns : List Int) (a b : Int) (xs : List V), vs = [.ref p, .ref q] ∧ PenAt H p l ns a b ∧ a ≤ 1000000 ∧ SqL K H q xs ∧ q ≠ p ∧ 0 < xs.length ∧ xs.length ≤ 1000 ∧
  ∀ (H' : Hp) (i : Nat) (v : V) (a' b' : Int), xs[i]? = some v → a ≤ a' → a' ≤ a + 1 → But p H H' → PenAt H' p l ns a' b' → Q v H'
theorem sq_lt {a : Int} (h0 : 0 ≤ a) (h : a ≤ 1000000) : 0 ≤ a * a ∧ a * a ≤ 1000000000000 := by
  refine ⟨Int.mul_nonneg h0 h0, ?_⟩
  have := Int.mul_le_mul h h h0 (by decide)
  omega
theorem mul_lt_of {x y m n : Int} (h0 : 0 ≤ x) (h1 : x ≤ m) (h2 : 0 ≤ y) (h3 : y ≤ n) : 0 ≤ x * y ∧ x * y ≤ m * n :=
  ⟨Int.mul_nonneg h0 h2, Int.mul_le_mul h1 h3 h2 (Int.le_trans h0 h1)⟩
theorem mix_ok {x a c d : Int} (h0 : 0 ≤ x) (h1 : x < 2147483629) (a0 : 0 ≤ a) (a1 : a ≤ 1000000) (c0 : 0 ≤ c) (c1 : c ≤ 1000000) (d0 : 0 ≤ d) (d1 : d ≤ 1000000) :
    0 ≤ x * (2 * a + c) + d * a * a + 13 ∧ x * (2 * a + c) + d * a * a + 13 < 18446744073709551616 := by
  have h2 := mul_lt_of (m := 2147483629) (n := 3000000) h0 (by omega) (show 0 ≤ 2 * a + c by omega) (by omega)
  have h3 := mul_lt_of (m := 1000000) (n := 1000000000000) d0 d1 (sq_lt a0 a1).1 (sq_lt a0 a1).2
  rw [Int.mul_assoc d a a]
  omega
theorem natAbs_lt_of {x : Int} (h0 : 0 ≤ x) (h : x < 18446744073709551616) : x.natAbs < 2 ^ 64 := by
  have e : (2 : Nat) ^ 64 = 18446744073709551616 := by decide
  rw [e]
  omega
section
variable {P : Program} {w : World} {K : PySem.W.Frag} {mg : Str → Option Value} {base : Heap}
abbrev N__law_pen : List Str := ["_law_script"]
theorem sc__law_pen : FnScope N__law_pen ["_law_script"] (defScope s__law_pen) := ⟨rfl, rfl, rfl, by decide +kernel, rfl, by decide +kernel, by decide +kernel⟩
theorem ok__law_pen {f : Addr} {fd : FuncData} (F : Fun K "_law_pen" "_law_pen" s__law_pen f fd) (T : TB mg) : FnOk P w K mg base CX0 1 f fd ["_law_script"] (spPen K) := by
  refine F.ok sc__law_pen (fun vs H Q E h => ?_) (fun cdv A outer s H vs Q E hr h => ?_)
  · obtain ⟨a, ns, rfl, _⟩ := h
    rfl
  · obtain ⟨a, ns, rfl, hS, hl, hb, k⟩ := h
    refine ⟨_, (pss_one (ps_ret (pe_lst (pa_cons (pe_callTy call_list_of (by rfl) T.m_list (by decide +kernel) (pa_cons (pe_slice sl_list (pv 0) po_none (po_some pe_int)) pa_nil)) (pa_cons pe_int (pa_cons pe_int pa_nil)))))), ?_⟩
    refine ⟨_, rfl, _, rfl, _, _, rfl, hS, fun q hq => ?_⟩
    have e : cutV (ns.map V.int) none (some 63) = ns.map V.int := by
      show ((ns.map V.int).drop 0).take (HT.sIx _ _ _ - 0) = _
      have h2 : (ns.map V.int).length ≤ HT.sIx (ns.map V.int).length (ns.map V.int).length (some 63) - 0 := by
        rw [List.length_map]
        simp [HT.sIx]
        omega
      rw [List.drop_zero, List.take_of_length_le h2]
    refine ⟨q, _, rfl, .inl (SqL.of upd_same), fun l hl2 => ?_⟩
    have nlq : l ≠ q := fun e => by
      rw [e, upd_same] at hl2
      cases hl2
    refine ⟨(by show 3 ≤ sizeLine; decide), fun p hp => ?_⟩
    have npl : p ≠ l := fun e => by
      rw [e, upd_same] at hp
      cases hp
    rw [upd_ne npl] at hp
    have npq : p ≠ q := fun e => by
      rw [e, upd_same] at hp
      cases hp
    rw [upd_ne npq] at hp
    refine k _ p l (fun b o e2 => ?_) hp ⟨upd_same, ?_, hl, hb, Int.le_refl 0⟩
    · rw [upd_ne (ne_of_none e2 hp)]
      have hl3 := hl2
      rw [upd_ne nlq] at hl3
      rw [upd_ne (ne_of_none e2 hl3), upd_ne (ne_of_none e2 hq)]
      exact e2
    · rw [upd_ne npl.symm, upd_same, e]
abbrev N__law_draw : List Str := ["_law_pen_here", "_law_many", "_law_digit", "_law_at", "_law_cell", "_law_great", "_law_mixed"]
theorem sc__law_draw : FnScope N__law_draw ["_law_pen_here", "_law_many"] (defScope s__law_draw) := ⟨rfl, rfl, rfl, by decide +kernel, rfl, by decide +kernel, by decide +kernel⟩
set_option maxHeartbeats 4000000 in
theorem ok__law_draw {f : Addr} {fd : FuncData} (F : Fun K "_law_draw" "_law_draw" s__law_draw f fd) (T : TB mg) : FnOk P w K mg base CX0 1 f fd ["_law_pen_here", "_law_many"] spDraw := by
  refine F.ok sc__law_draw (fun vs H Q E h => ?_) (fun cdv A outer s H vs Q E hr h => ?_)
  · obtain ⟨p, l, ns, a, b, m, rfl, _⟩ := h
    rfl
  · obtain ⟨p, l, ns, a, b, m, rfl, hP, ha, hm, hml, k⟩ := h
    have hp := hP.pen
    have hc := hP.cells
    have h0 := hP.low
    refine ⟨_, (pss_cons (ps_if (pt_cmpR op_gt (pe_ix ix_list (pv 0) pe_int (fun _ _ => rfl)) pe_int (nomark _)) (pss_cons (ps_set (i := 2) sc__law_draw.nd rfl (Or.inl rfl) (pe_op op_mod (pe_callTy call_int1 (by rfl) T.m_int (by decide +kernel) (pa_cons (pe_ix ix_list (pv 0) pe_int (fun _ _ => rfl)) pa_nil)) (pv 1)))
 (pss_cons (ps_asg (pe_op op_fdivW (pe_callTy call_int1 (by rfl) T.m_int (by decide +kernel) (pa_cons (pe_ix ix_list (pv 0) pe_int (fun _ _ => rfl)) pa_nil)) (pv 1)) (pg_sub (pv 0) pe_int set_list))
 (pss_one (ps_ret (pv 2))))) pss_nil)
 (pss_cons (ps_set (i := 3) sc__law_draw.nd rfl (Or.inl rfl) (pe_ix ix_list (pv 0) pe_int (fun _ _ => rfl)))
 (pss_cons (ps_asg (pe_op op_add (pv 3) pe_int) (pg_sub (pv 0) pe_int set_list))
 (pss_cons (ps_set (i := 4) sc__law_draw.nd rfl (Or.inl rfl) (pe_op op_add (pe_op op_mul pe_int (pv 3)) pe_int))
 (C8.pss_cut (ps_if (pt_cmpR (op_neD hr.units) (pe_ix ix_list (pv 0) pe_int (fun _ _ => rfl)) (pe_lst pa_nil) (nomark _)) (pss_one (ps_set (i := 4) sc__law_draw.nd rfl (Or.inl rfl) (pe_ix ix_list (pe_ix ix_list (pv 0) pe_int (fun _ _ => rfl)) (pe_op op_mod (pe_callTy call_int1 (by rfl) T.m_int (by decide +kernel) (pa_cons (pv 3) pa_nil)) (pe_callB call_len_seq (by rfl) T.m_len (by decide +kernel) (pa_cons (pe_ix ix_list (pv 0) pe_int (fun _ _ => rfl)) pa_nil))) (fun _ _ => rfl)))) pss_nil)
 (C8.pss_cut (ps_if (PW.pt (pw_and (pt_cmpR op_lt (pv 3) (pe_callB call_len_seq (by rfl) T.m_len (by decide +kernel) (pa_cons (pe_ix ix_list (pv 0) pe_int (fun _ _ => rfl)) pa_nil)) (nomark _)) (pw_and1 (pt_cmpR op_ge (pe_callB call_abs (by rfl) T.m_abs (by decide +kernel) (pa_cons (pv 4) pa_nil)) (pe_op op_pow pe_int pe_int) (nomark _))))) (pss_cons (ps_set (i := 5) sc__law_draw.nd rfl (Or.inl rfl) (pe_op op_add (pe_op op_mul pe_int (pe_op op_sub (pe_callB call_abs (by rfl) T.m_abs (by decide +kernel) (pa_cons (pv 4) pa_nil)) (pe_op op_pow pe_int pe_int))) (pe_callTy call_int1 (by rfl) T.m_int (by decide +kernel) (pa_cons (pe_cmpR op_lt (pv 4) pe_int (nomark _)) pa_nil))))
 (pss_cons (ps_asg (pe_op op_fdivW (pe_callTy call_int1 (by rfl) T.m_int (by decide +kernel) (pa_cons (pv 5) pa_nil)) (pv 1)) (pg_sub (pv 0) pe_int set_list))
 (pss_one (ps_ret (pe_op op_mod (pe_callTy call_int1 (by rfl) T.m_int (by decide +kernel) (pa_cons (pv 5) pa_nil)) (pv 1)))))) pss_nil)
 (pss_cons (ps_set (i := 6) sc__law_draw.nd rfl (Or.inl rfl) (pe_op op_mod (pe_callTy call_int1 (by rfl) T.m_int (by decide +kernel) (pa_cons (pe_op op_pow (pe_op op_add (pe_op op_add (pe_op op_mod (pe_callTy call_int1 (by rfl) T.m_int (by decide +kernel) (pa_cons (pv 4) pa_nil)) pe_int) (pe_op op_mul pe_int (pv 3))) pe_int) pe_int) pa_nil)) pe_int))
 (pss_cons (ps_set (i := 6) sc__law_draw.nd rfl (Or.inl rfl) (pe_op op_mod (pe_callTy call_int1 (by rfl) T.m_int (by decide +kernel) (pa_cons (pe_op op_pow (pe_op op_add (pe_op op_add (pe_op op_mul (pv 6) (pe_op op_add (pe_op op_mul pe_int (pv 3)) pe_int)) (pe_op op_mul (pe_op op_mul pe_int (pv 3)) (pv 3))) pe_int) pe_int) pa_nil)) pe_int))
 (pss_one (ps_ret (pe_op op_mod (pe_callTy call_int1 (by rfl) T.m_int (by decide +kernel) (pa_cons (pe_op op_fdivW (pv 6) pe_int) pa_nil)) (pv 1)))))))))))), ?_⟩
    refine ⟨_, rfl, p, _, _, _, rfl, rfl, SqL.of hp, rfl, _, _, rfl, rfl, _, rfl, ?_⟩
    refine ite2 (fun c1 => ?_) (fun c1 => ?_)
    · -- a digit of what is left
      refine ⟨_, rfl, p, _, _, _, rfl, rfl, SqL.of hp, rfl, .inl ⟨_, rfl, _, rfl, _, _, rfl, rfl, hm, ?_⟩⟩
      refine ⟨_, rfl, p, _, _, _, rfl, rfl, SqL.of hp, rfl, .inl ⟨_, rfl, _, rfl, _, _, rfl, rfl, ⟨hm, hml⟩, ?_⟩⟩
      refine ⟨_, rfl, p, _, _, _, rfl, rfl, hp, rfl, ?_⟩
      refine ⟨_, rfl, ?_⟩
      exact k _ _ _ _ (Int.emod_nonneg _ (Int.ne_of_gt hm)) (Int.emod_lt_of_pos _ hm) (Int.le_refl _) (by omega) (But.refl _ _).put (hP.put _ _ h0)
    · refine ⟨_, rfl, p, _, _, _, rfl, rfl, SqL.of hp, rfl, ?_⟩
      refine ⟨_, rfl, _, _, rfl, rfl, _, rfl, p, _, _, _, rfl, rfl, hp, rfl, ?_⟩
      have hP1 : PenAt (upd H p (.lst [.ref l, .int (a + 1), .int b])) p l ns (a + 1) b := hP.put _ _ (by omega)
      have hB1 : But p H (upd H p (.lst [.ref l, .int (a + 1), .int b])) := (But.refl _ _).put
      refine ⟨_, rfl, _, _, rfl, rfl, .inl ⟨by omega, by omega⟩, _, _, rfl, rfl, ?_⟩
      refine ⟨fun σ H' => ∃ cell : Int, σ = [some (.ref p), some (.int m), none, some (.int a), some (.int cell), none, none] ∧ PenAt H' p l ns (a + 1) b ∧ But p H H', ?_, ?_⟩
      · refine ⟨_, rfl, p, _, _, _, rfl, rfl, SqL.of hP1.pen, rfl, Nat.zero_le _, fun q hq => ?_⟩
        have hP2 := hP1.new (o := .lst []) hq
        have hB2 := hB1.new (o := .lst []) hq
        refine ⟨.list (ns.map .int), .list [], .lst (SqL.of hP2.cells) (dp_ints ns), .lst (SqL.of upd_same) .nil, shaped_ints ns, rfl, _, rfl, ?_⟩
        refine ite2 (fun c2 => ?_) (fun c2 => ?_)
        · have hne : ns ≠ [] := by
            rintro rfl
            exact absurd c2 (by decide +kernel)
          have hpos : 0 < ns.length := List.length_pos_iff.mpr hne
          have hm1 := Int.emod_nonneg a (b := (ns.length : Int)) (by omega)
          have hm2 := Int.emod_lt_of_pos a (b := (ns.length : Int)) (by omega)
          have hi : (a % (ns.length : Int)).toNat < ns.length := by omega
          have hat : atI (ns.map V.int) (a % (ns.length : Int)) = some (.int ns[(a % (ns.length : Int)).toNat]) := atI_of hm1 (by
            rw [List.getElem?_map, List.getElem?_eq_getElem hi]
            rfl)
          refine ⟨_, rfl, p, _, _, _, rfl, rfl, SqL.of hP2.pen, rfl, ?_⟩
          refine ⟨_, rfl, .inl ⟨_, rfl, _, rfl, p, _, _, _, rfl, rfl, SqL.of hP2.pen, rfl, l, _, rfl, .inl (SqL.of hP2.cells), _, _, rfl, rfl, by rw [List.length_map]; omega, ?_⟩⟩
          refine ⟨l, _, _, _, rfl, rfl, SqL.of hP2.cells, by rw [List.length_map]; exact hat, ?_⟩
          exact ⟨_, rfl, hP2, hB2⟩
        · exact ⟨_, rfl, hP2, hB2⟩
      · rintro σ H' ⟨cell, rfl, hQ, hB⟩
        have hpw : CPow 10 18 := ⟨by decide, by decide, by decide⟩
        refine ⟨fun σ H3 => σ = [some (.ref p), some (.int m), none, some (.int a), some (.int cell), none, none] ∧ PenAt H3 p l ns (a + 1) b ∧ But p H H3, ?_, ?_⟩
        rotate_left
        · rintro σ H3 ⟨rfl, hR, hC⟩
          have b1 := Int.emod_nonneg cell (b := 2147483563) (by decide)
          have b2 := Int.emod_lt_of_pos cell (b := 2147483563) (by decide)
          refine ⟨_, rfl, .inl ⟨_, rfl, _, _, rfl, rfl, (by show (0 : Int) < 2147483563; decide), _, rfl, _, _, rfl, rfl, .inl ⟨by decide, by decide⟩, _, _, rfl, rfl, _, _, rfl, rfl, _, _, rfl, rfl, ⟨by decide, by decide, natAbs_lt_of (by omega) (by omega)⟩, ?_⟩⟩
          refine .inl ⟨_, rfl, _, _, rfl, rfl, (by show (0 : Int) < 2147483629; decide), ?_⟩
          have x1 := Int.emod_nonneg ((cell % 2147483563 + 79798 * a + 4934) ^ 5) (b := 2147483629) (by decide)
          have x2 := Int.emod_lt_of_pos ((cell % 2147483563 + 79798 * a + 4934) ^ 5) (b := 2147483629) (by decide)
          have mx := mix_ok (c := 393) (d := 54894) x1 x2 h0 ha (by decide) (by decide) (by decide) (by decide)
          refine ⟨_, rfl, _, rfl, _, _, rfl, rfl, .inl ⟨by decide, by decide⟩, _, _, rfl, rfl, _, _, rfl, rfl, .inl ⟨Int.lt_of_lt_of_le (by decide) x1, Int.lt_trans x2 (by decide)⟩, ?_⟩
          refine ⟨_, rfl, _, _, rfl, rfl, .inl ⟨by decide, by decide⟩, _, rfl, _, _, rfl, rfl, .inl ⟨by omega, by omega⟩, _, _, rfl, rfl, _, _, rfl, rfl, _, _, rfl, rfl, ⟨by decide, by decide, natAbs_lt_of mx.1 mx.2⟩, ?_⟩
          refine .inl ⟨_, rfl, _, _, rfl, rfl, (by show (0 : Int) < 2147483587; decide), ?_⟩
          refine ⟨_, rfl, _, _, rfl, rfl, ⟨by decide, by decide⟩, .inl ⟨_, rfl, _, rfl, _, _, rfl, rfl, hm, ?_⟩⟩
          exact k _ _ _ _ (Int.emod_nonneg _ (Int.ne_of_gt hm)) (Int.emod_lt_of_pos _ hm) (by omega) (Int.le_refl _) hC hR
        refine ⟨_, rfl, _, rfl, p, _, _, _, rfl, rfl, SqL.of hQ.pen, rfl, l, _, rfl, .inl (SqL.of hQ.cells), _, _, rfl, rfl, _, rfl, ?_⟩
        refine ite2 (fun c2 => ?_) (fun c2 => ?_)
        · refine ⟨_, rfl, _, rfl, _, _, rfl, rfl, hpw, _, _, rfl, rfl, _, rfl, ?_⟩
          refine ite2 (fun c3 => ?_) (fun c3 => ?_)
          · refine ⟨_, rfl, _, rfl, _, _, rfl, rfl, hpw, _, _, rfl, rfl, _, _, rfl, rfl, .inl ⟨by decide, by decide⟩, _, rfl, _, _, rfl, rfl, .inr ⟨_, rfl, _, _, rfl, rfl, ?_⟩⟩
            refine ⟨_, rfl, .inl ⟨_, rfl, _, rfl, _, _, rfl, rfl, ⟨hm, hml⟩, _, rfl, p, _, _, _, rfl, rfl, hQ.pen, rfl, ?_⟩⟩
            refine ⟨_, rfl, .inl ⟨_, rfl, _, rfl, _, _, rfl, rfl, hm, ?_⟩⟩
            exact k _ _ _ _ (Int.emod_nonneg _ (Int.ne_of_gt hm)) (Int.emod_lt_of_pos _ hm) (by omega) (Int.le_refl _) hB.put (hQ.put _ _ (by omega))
          · exact ⟨rfl, hQ, hB⟩
        · exact ⟨rfl, hQ, hB⟩
abbrev N__law_pick : List Str := ["_law_pen_here", "_law_some"]
theorem sc__law_pick : FnScope N__law_pick ["_law_pen_here", "_law_some"] (defScope s__law_pick) := ⟨rfl, rfl, rfl, by decide +kernel, rfl, by decide +kernel, by decide +kernel⟩
theorem ok__law_pick {f fD : Addr} {fd fdD : FuncData} (F : Fun K "_law_pick" "_law_pick" s__law_pick f fd) (T : TB mg) (FD : Fun K "_law_draw" "_law_draw" s__law_draw fD fdD) (gD : mg "_law_draw" = some (.ref fD)) (bD : Binds K fdD ["_law_pen_here", "_law_many"] []) :
    FnOk P w K mg base CX0 2 f fd ["_law_pen_here", "_law_some"] (spPick K) := by
  have GD : FnOk P w K mg base CX0 1 fD fdD ["_law_pen_here", "_law_many"] spDraw := ok__law_draw FD T
  have kD := FD.kp
  refine F.ok sc__law_pick (fun vs H Q E h => ?_) (fun cdv A outer s H vs Q E hr h => ?_)
  · obtain ⟨p, l, q, ns, a, b, xs, rfl, _⟩ := h
    rfl
  · obtain ⟨p, l, q, ns, a, b, xs, rfl, hP, ha, hq, nq, x0, x1, k⟩ := h
    refine ⟨_, (pss_one (ps_ret (pe_ix ix_list (pv 1) (pe_call GD hr rfl gD kD bD .nil pass0 (pa_cons (pv 0) (pa_cons (pe_callB call_len_seq (by rfl) T.m_len (by decide +kernel) (pa_cons (pv 1) pa_nil)) pa_nil))) (fun _ _ => rfl)))), ?_⟩
    refine ⟨_, rfl, _, rfl, _, rfl, q, _, rfl, .inl hq, p, l, ns, a, b, _, rfl, hP, ha, by omega, ?_, fun H' d a' b' d0 d1 e1 e2 hB hR => ?_⟩
    · have h2 : (xs.length : Int).natAbs < 2 ^ 10 := by
        have e : (2 : Nat) ^ 10 = 1024 := by decide
        rw [e]
        omega
      exact Nat.lt_of_lt_of_le (PySem.Flt.log2_lt_of (by decide) h2) (by decide)
    · have hi : d.toNat < xs.length := by omega
      refine ⟨q, xs, d, xs[d.toNat], rfl, rfl, ?_, atI_of d0 (List.getElem?_eq_getElem hi), k H' d.toNat _ a' b' (List.getElem?_eq_getElem hi) e1 e2 hB hR⟩
      rcases hq with (h | ⟨o, h⟩) | h
      · exact .inl (.inl (hB _ _ nq h))
      · exact .inl (.inr ⟨o, hB _ _ nq h⟩)
      · exact .inr h
end
end Toy
set_option maxRecDepth 100000
namespace L2
open PySem PySem.Spec PyProof.Rows
section
variable {X : Cx} {CX : CXT} {k n : Nat} {f : Addr} {fd : FuncData} {ps ks : List Str} {sp : Sp} {E : XK} {x : Str} {p pos : Pos} {kws : List Keyword} {tk : TA} {g : List Value → List Value → List Value} {gV : List V → List V → List V}
/-- f(k = v, ..) -/
def tCallK0 (m : Nat) (sp : Sp) (gV : List V → List V → List V) (E : XK) (tk : TA) : TE := fun σ H Q => tk σ H fun zs H1 => zs.length = m ∧ sp (gV [] zs) H1 Q E
theorem pe_callK0 (F : FnOk X.prog X.w X.K X.mg X.base CX k f fd ps sp) (hr : Room k X.A) (hg : Gl X x) (hm : X.mg x = some (.ref f)) (hk : PySem.W.keepIn X.K (.ref f) = true) (hb : KBn X.K fd ps 0 ks g gV) (hx : Passes CX X E) (hkw : PK X kws tk)
    (hall : (backToKw pos (keywordEach kws X.env)).all (·.1.isSome) = true := by rfl) (hks : (backToKw pos (keywordEach kws X.env)).filterMap (·.1) = ks := by rfl) (hdb : (x == ("__debug__" : Str)) = false := by decide)
    (hpl : ((backTo pos (starEach [] X.env)).any (·.1) || (backToKw pos (keywordEach kws X.env)).any (·.1.isNone)) = false := by rfl) :
    PE X (.Call (.Name x p) [] kws pos) (tCallK0 ks.length sp gV E tk) := by
  refine ⟨fun pins s σ H Q I h => wpAny_Call_Name_kw (ld_glob I hg hm ?_ hdb)⟩
  refine PySem.W.callWith_KW0 (h₀ := X.base) I.ok.mod.kin hk hall ?_ hpl
  refine thn (hkw.run pos pins s σ H _ I h) fun ws s2 hh => ?_
  obtain ⟨zs, H2, I2, rz, l2, q2⟩ := hh
  refine ⟨I2.kIn, ?_⟩
  rw [hks]
  exact run_fnN (n := 0) (us := []) (vs := []) F hr hb hx I2 .nil rz rfl l2 q2
end
/-- kinds of plain values -/
inductive Plain (K : PySem.W.Frag) (H : Hp) : V → String → Prop where
  | non : Plain K H .non "NoneType"
  | bl (b : Bool) : Plain K H (.bl b) "bool"
  | int (i : Int) : Plain K H (.int i) "int"
  | str (z : Str) : Plain K H (.str z) "str"
  | lst {a : Addr} {xs : List V} (e : H a = some (.lst xs)) : Plain K H (.ref a) "list"
  | tup {a : Addr} {xs : List V} (e : H a = some (.tup xs)) : Plain K H (.ref a) "tuple"
  | dK {a : Addr} {kvs : List (Key × V)} (e : H a = some (.dK kvs)) : Plain K H (.ref a) "dict"
theorem Plain.ty {K : PySem.W.Frag} {H : Hp} {x : V} {T : String} (h : Plain K H x T) : TyX K H x (.type T) := by
  cases h with
  | non => exact .base .non
  | bl b => exact .base (.bl b)
  | int i => exact .base (.int i)
  | str z => exact .base (.str z)
  | lst e => exact .base (.lst e)
  | tup e => exact .base (.tup e)
  | dK e => exact .base (.dK e)
def isI : V → Bool
  | .int _ => true
  | _ => false
def isB : V → Bool
  | .bl _ => true
  | _ => false
def isS : V → Bool
  | .str _ => true
  | _ => false
theorem Plain.kInt {K : PySem.W.Frag} {H : Hp} {x : V} {T : String} (h : Plain K H x T) : PySem.W.kitOne K (.type T) (.type "int") = some (isI x || isB x) := by
  cases h <;> first
    | exact kit_ty (show kitB _ _ = some true by decide +kernel)
    | exact kit_ty (show kitB _ _ = some false by decide +kernel)
theorem Plain.kBool {K : PySem.W.Frag} {H : Hp} {x : V} {T : String} (h : Plain K H x T) : PySem.W.kitOne K (.type T) (.type "bool") = some (isB x) := by
  cases h <;> first
    | exact kit_ty (show kitB _ _ = some true by decide +kernel)
    | exact kit_ty (show kitB _ _ = some false by decide +kernel)
theorem Plain.kStr {K : PySem.W.Frag} {H : Hp} {x : V} {T : String} (h : Plain K H x T) : PySem.W.kitOne K (.type T) (.type "str") = some (isS x) := by
  cases h <;> first
    | exact kit_ty (show kitB _ _ = some true by decide +kernel)
    | exact kit_ty (show kitB _ _ = some false by decide +kernel)
end L2
set_option maxRecDepth 100000
namespace L2
open PySem PySem.Spec PyProof.Rows
theorem PE.imp {X : Cx} {e : Expr} {t t' : TE} (h : PE X e t) (i : ∀ σ H Q, t' σ H Q → t σ H Q) : PE X e t' :=
  ⟨fun pins s σ H Q I q => h.run pins s σ H Q I (i σ H Q q)⟩
/-- an own exception's __init__ of n arguments that stores fields -/
def spX (C : Addr) (n : Nat) (fs : List V → List (Str × V)) : Sp := fun vs H Q _ => ∃ (a : Addr) (ys : List V), vs = .ref a :: ys ∧ ys.length = n ∧ H a = some (exo a C none) ∧
  ∀ (dx : Addr) (H' : Hp), H dx = none → dx ≠ a → H' a = some (exo a C (some dx)) → H' dx = some (exd dx (fs ys)) → (∀ b, b ≠ a → b ≠ dx → H' b = H b) → Q .non H'
/-- an exception of the class at C with these fields -/
def ErrAt (H : Hp) (a C : Addr) (fs : List (Str × V)) : Prop := ∃ d, H a = some (exo a C (some d)) ∧ H d = some (exd d fs)
theorem ErrAt.same {H H' : Hp} {a C : Addr} {fs : List (Str × V)} (s : Same H H') (h : ErrAt H a C fs) : ErrAt H' a C fs :=
  let ⟨d, h1, h2⟩ := h
  ⟨d, s _ _ h1, s _ _ h2⟩
theorem Same.new {H H' : Hp} {q : Addr} {o : HO} (s : Same H H') (hq : H' q = none) : Same H (upd H' q o) := fun b u e => by
  rw [upd_ne (ne_of_none (s b u e) hq)]
  exact s b u e
theorem spX_new {C : Addr} {n : Nat} {fs : List V → List (Str × V)} {H : Hp} {Q : VK} {a : Addr} {ys : List V} (ha : H a = none) (hn : ys.length = n)
    (h : ∀ H', Same H H' → ErrAt H' a C (fs ys) → Q (.ref a) H') : spX C n fs (.ref a :: ys) (upd H a (exo a C none)) (fun v H2 => v = .non ∧ Q (.ref a) H2) E0 := by
  refine ⟨a, ys, rfl, hn, upd_same, fun dx H' hd nd h1 h2 h3 => ⟨rfl, h H' (fun b o e => ?_) ⟨dx, h1, h2⟩⟩⟩
  have hd' : H dx = none := by
    rw [upd_ne nd] at hd
    exact hd
  rw [h3 b (ne_of_none e ha) (ne_of_none e hd'), upd_ne (ne_of_none e ha)]
  exact e
section
variable {X : Cx} {k n : Nat} {fI C : Addr} {fd : FuncData} {ps ks : List Str} {fs : List V → List (Str × V)} {x : Str} {p pos : Pos} {e : Expr} {es : List Expr} {kws : List Keyword} {t tk : TA} {g : List Value → List Value → List Value} {gV : List V → List V → List V}
/-- C(e, ..) where __init__ stores fields -/
def tNewX (C : Addr) (n : Nat) (fs : List V → List (Str × V)) (t : TA) : TE := fun σ H Q => t σ H fun vs H1 => vs.length = n ∧ ∀ a H', H1 a = none → Same H1 H' → ErrAt H' a C (fs vs) → Q (.ref a) H'
end
/-- the readings of argument lists go on with what follows -/
def Mono (t : TA) : Prop := ∀ σ H (Q Q' : List V → Hp → Prop), (∀ vs H', Q vs H' → Q' vs H') → t σ H Q → t σ H Q'
theorem mono_nil : Mono tNil := fun _ _ _ _ h q => h _ _ q
theorem mono_var {i : Nat} {t : TA} (h : Mono t) : Mono (tCons (tVar i) t) := fun σ H Q Q' i q => by
  obtain ⟨v, e, q⟩ := q
  exact ⟨v, e, h _ _ _ _ (fun vs H' z => i _ _ z) q⟩
section
variable {X : Cx} {k n : Nat} {fI C : Addr} {fd : FuncData} {ps ks : List Str} {fs : List V → List (Str × V)} {x : Str} {p pos : Pos} {e : Expr} {es : List Expr} {kws : List Keyword} {t tk : TA} {g : List Value → List Value → List Value} {gV : List V → List V → List V}
theorem pe_newX (T : XvI X.K C fI) (F : FnOk X.prog X.w X.K X.mg X.base CX0 k fI fd ps (spX C n fs)) (hr : Room (k + 1) X.A) (hb : KBn X.K fd ps (n + 1) [] g fun vs zs => vs ++ zs) (hg : Gl X x) (hm : X.mg x = some (.ref C)) (mo : Mono t) (ha : PA X (e :: es) t)
    (hn : n ≤ 1000 := by decide) (hdb : (x == ("__debug__" : Str)) = false := by decide)
    (he : starEach (e :: es) X.env = (false, eval e X.env) :: starEach es X.env := by rfl) (hpl : (backTo pos (starEach es X.env)).any (·.1) = false := by rfl) :
    PE X (.Call (.Name x p) (e :: es) [] pos) (tNewX C n fs t) := by
  refine (pe_mkx T F hr hb hg hm ha hn hdb he hpl).imp fun σ H Q q => mo _ _ _ _ (fun vs H1 z => ⟨z.1, fun a ha => ?_⟩) q
  show spX C n fs ((V.ref a :: vs) ++ []) _ _ _
  rw [List.append_nil]
  exact spX_new ha z.1 (z.2 a · ha)
/-- C(k = v, ..): the fields by all the values, in the parameters' order -/
def tNewXK (C : Addr) (m : Nat) (fs : List V → List (Str × V)) (tk : TA) : TE := fun σ H Q => tk σ H fun zs H1 => zs.length = m ∧ ∀ a H', H1 a = none → Same H1 H' → ErrAt H' a C (fs zs) → Q (.ref a) H'
theorem pe_newXK (T : XvI X.K C fI) (F : FnOk X.prog X.w X.K X.mg X.base CX0 k fI fd ps (spX C n fs)) (hr : Room (k + 1) X.A) (ord : List V → List V) (hb : KBn X.K fd ps 1 ks g fun vs zs => vs ++ ord zs) (ho : ∀ zs, (ord zs).length = zs.length) (hl : ks.length = n) (hg : Gl X x) (hm : X.mg x = some (.ref C)) (mo : Mono tk) (hkw : PK X kws tk)
    (hall : (backToKw pos (keywordEach kws X.env)).all (·.1.isSome) = true := by rfl) (hks : (backToKw pos (keywordEach kws X.env)).filterMap (·.1) = ks := by rfl) (hdb : (x == ("__debug__" : Str)) = false := by decide)
    (hpl : ((backTo pos (starEach [] X.env)).any (·.1) || (backToKw pos (keywordEach kws X.env)).any (·.1.isNone)) = false := by rfl) :
    PE X (.Call (.Name x p) [] kws pos) (tNewXK C ks.length (fun zs => fs (ord zs)) tk) := by
  refine (pe_mkxK T F hr hb hg hm hkw hall hks hdb hpl).imp fun σ H Q q => mo _ _ _ _ (fun zs H1 z => ⟨z.1, fun a ha => ?_⟩) q
  show spX C n fs (V.ref a :: ord zs) _ _ _
  exact spX_new ha ((ho zs).trans (z.1.trans hl)) (z.2 a · ha)
/-- e.f off an error -/
theorem xat_err {K : PySem.W.Frag} {f : Str} {H : Hp} {a C : Addr} {fs : List (Str × V)} {v : V} {Q : VK} (h : ErrAt H a C fs) (T : XvC K C) (no : PySem.W.findIn K (.ref C) f = some none) (l : fs.lookup f = some v) (q : Q v H) :
    ∃ (a' C' d : Addr) (fs' : List (Str × V)) (v' : V), V.ref a = .ref a' ∧ H a' = some (exo a' C' (some d)) ∧ H d = some (exd d fs') ∧ XvC K C' ∧ PySem.W.findIn K (.ref C') f = some none ∧ fs'.lookup f = some v' ∧ Q v' H :=
  let ⟨d, h1, h2⟩ := h
  ⟨a, C, d, fs, v, rfl, h1, h2, T, no, l, q⟩
/-- (C(e, ..), C(k = v, ..).f): the pair -/
def tRow (K : PySem.W.Frag) (C : Addr) (n m : Nat) (fs fs' : List V → List (Str × V)) (f : Str) (t tk : TA) : TE := fun σ H Q => ∃ (vs zs : List V) (v : V), (∀ H Q, Q vs H → t σ H Q) ∧ (∀ H Q, Q zs H → tk σ H Q) ∧ vs.length = n ∧ zs.length = m ∧
  XvC K C ∧ PySem.W.findIn K (.ref C) f = some none ∧ (fs' zs).lookup f = some v ∧ ∀ (p a : Addr) (H' : Hp), Same H H' → H p = none → H' p = some (.tup [.ref a, v]) → ErrAt H' a C (fs vs) → Q (.ref p) H'
theorem pe_row {m : Nat} {fs' : List V → List (Str × V)} {e1 e2 : Expr} {f : Str} {b : Nat} {p1 p2 : Pos} (h1 : PE X e1 (tNewX C n fs t)) (h2 : PE X e2 (tNewXK C m fs' tk)) (hb : attributeBase e2 f X.env (eval e2 X.env) = eval e2 X.env := by rfl)
    (hs : starEach [e1, .Attribute e2 f p1] X.env = (false, eval e1 X.env) :: starEach [.Attribute e2 f p1] X.env := by rfl) :
    PE X (.Tuple [e1, .Attribute e2 f p1] b p2) (tRow X.K C n m fs fs' f t tk) := by
  refine (pe_tup (pa_cons h1 (hs := hs) (pa_cons (pe_xat h2 hb) pa_nil))).imp fun σ H Q q => ?_
  obtain ⟨vs, zs, v, a1, a2, l1, l2, T, no, lk, q⟩ := q
  refine a1 _ _ ⟨l1, fun a Ha na sa ea => a2 _ _ ⟨l2, fun c Hc nc sc ec => ?_⟩⟩
  refine xat_err ec T no lk ⟨(by show 2 ≤ sizeLine; decide), fun p hp => ?_⟩
  have s2 : Same H Hc := sa.trans sc
  refine q p a _ (s2.new hp) (s2.free hp) upd_same ((ea.same sc).same ((Same.refl _).new hp))
end
end L2
set_option maxRecDepth 100000
namespace L2
open PySem PySem.Spec PyProof.Rows
/-! try: .. except X as n: suite, where the error outlives the suite by another name: it is tracked from then on -/
/-- at a: an error of the class cls that has been caught, its dict at d -/
def exz (a : Addr) (cls : Value) (d : Option Addr) : HO := .ext fun h => ∃ (oe : Obj) (vs : Array Value), h.get? a = some oe ∧ Zc cls d oe ∧ oe.data = .fields vs
theorem exz_ok {P : Program} {w : World} {H : Hp} {h : Heap} {a : Addr} {cls : Value} {d : Option Addr} {oe : Obj} {vs : Array Value} (e : h.get? a = some oe) (z : Zc cls d oe) (f : oe.data = .fields vs) : ObjOk P w H h a (exz a cls d) :=
  ⟨⟨oe, vs, e, z, f⟩, ⟨oe, e⟩, fun _ _ ⟨o, ws, e1, z1, f1⟩ k => ⟨o, ws, k _ e1, z1, f1⟩⟩
theorem exz_at {P : Program} {w : World} {H : Hp} {h : Heap} {a : Addr} {cls : Value} {d : Option Addr} (hok : HOk P w H h) (e : H a = some (exz a cls d)) : ∃ (oe : Obj) (vs : Array Value), h.get? a = some oe ∧ Zc cls d oe ∧ oe.data = .fields vs := by
  have x : ObjOk P w H h a (.ext fun h => ∃ (oe : Obj) (vs : Array Value), h.get? a = some oe ∧ Zc cls d oe ∧ oe.data = .fields vs) := hok a _ e
  exact x.1
theorem exz_ne_own {a x : Addr} {cls : Value} {d : Option Addr} : exz a cls d ≠ .own x := fun z => by
  have z2 : HO.ext _ = HO.own x := z
  cases z2
section
variable {X : Cx} {pins : List (Addr × Obj)} {σ : St} {H : Hp} {s : Shared}
/-- what was not tracked, is not of the entry and no cell, is tracked from now on -/
theorem Inv.track {a : Addr} {o : HO} (I : Inv X pins σ H s) (na : H a = none) (n0 : X.s_0.heap.get? a = none) (nl : a ≠ X.env.locals) (nc : ∀ x c, X.env.cells.lookup x = some c → c ≠ a) (np : ∀ p ∈ X.pn ++ pins, p.1 ≠ a)
    (new : ObjOk X.prog X.w (upd H a o) s.heap a o) : Inv X pins σ (upd H a o) s := by
  have old : ∀ {b : Addr} {u : Obj}, X.s_0.heap.get? b = some u → b ≠ a := fun {b u} e z => by
    rw [z, n0] at e
    cases e
  have tr : ∀ {b : Addr} {u : HO}, H b = some u → b ≠ a := fun e => ne_of_none e na
  refine ⟨I.ok, I.os, I.bare, ⟨I.base.keep, I.base.slot, fun b u e n x => ?_, I.base.there, fun b xs e => ?_, fun b u v e => ?_, fun b ps e => ?_⟩, I.loc, I.cell, ?_, fun x c e => ?_, fun p hp => ?_, fun b u e => ?_, I.len⟩
  · rw [upd_ne (old e)]
    exact I.base.free b u e n x
  · have q := I.base.tups b xs e
    rw [upd_ne (tr q)]
    exact q
  · have q := I.base.frzs b u v e
    rw [upd_ne (tr q)]
    exact q
  · obtain ⟨more, q⟩ := I.base.tbls b ps e
    exact ⟨more, by rw [upd_ne (tr q)]; exact q⟩
  · rw [upd_ne nl.symm]
    exact I.free
  · rw [upd_ne (nc x c e)]
    exact I.freeC x c e
  · obtain ⟨h1, h2, h3⟩ := I.pin p hp
    exact ⟨h1, by rw [upd_ne (np p hp)]; exact h2, h3⟩
  · by_cases hb : b = a
    · subst hb
      rw [upd_same] at e
      cases e
      exact new
    · rw [upd_ne hb] at e
      exact (I.hok b u e).stay (fun _ _ _ z => z) (fun _ z => by rw [upd_ne (tr z)]; exact z) fun _ _ z => by rw [upd_ne (tr z)]; exact z
/-- fewer pins -/
theorem Inv.unpin {q : Addr × Obj} (I : Inv X (q :: pins) σ H s) : Inv X pins σ H s :=
  ⟨I.ok, I.os, I.bare, I.base, I.loc, I.cell, I.free, I.freeC, fun p hp => I.pin p ((List.mem_append.mp hp).elim (fun z => List.mem_append_left _ z) fun z => List.mem_append_right _ (List.mem_cons_of_mem _ z)), I.hok, I.len⟩
/-- out of a suite, the error's object still pinned -/
theorem Inv.offSuite {a : Addr} {q : Addr × Obj} (I : Inv (X.suite a (q :: (X.pn ++ pins))) [] σ H s) (ok : X.Ok) : Inv X (q :: pins) σ H s := by
  refine ⟨ok, I.os, I.bare, I.base, I.loc, I.cell, I.free, I.freeC, fun p hp => I.pin p (List.mem_append_left _ ?_), I.hok, I.len⟩
  rcases List.mem_append.mp hp with z | z
  · exact List.mem_cons_of_mem _ (List.mem_append_left _ z)
  · rcases List.mem_cons.mp z with z | z
    · rw [z]
      exact List.mem_cons_self ..
    · exact List.mem_cons_of_mem _ (List.mem_append_right _ z)
end
/-- what the clause wishes: at the suite's end the error is tracked -/
def wKeep (K : PySem.W.Frag) (c : Value) (i m : Nat) (ts : Addr → Value → Option Addr → TS) (Wout : WX) (D : Ends) : WX := fun cls d σ H => ∃ b, PySem.W.exmOne K cls c = some b ∧
  (b = true → σ.length = m → ∀ a, H a = none → ts a cls d { nx := fun τ G => D.nx (τ.set i none) (upd G a (exz a cls d)), rt := fun _ _ => False, bk := fun _ _ => False, ct := fun _ _ => False } (σ.set i (some (.ref a))) H) ∧ (b = false → Wout cls d σ H)
section
variable {X : Cx} {x n : Str} {c : Value} {i : Nat} {body rest : List Stmt} {first : Stmt} {p1 p2 p3 : Pos} {tb : WX → TS} {ts : Addr → Value → Option Addr → TS} {Wout : WX}
theorem ps_try_keep (st : X.stack = X.env :: X.outer) (fr : X.env.frame = some X.env.locals) (nd : X.N.Nodup) (hi : X.N[i]? = some n) (kd : X.env.kindOf n = some .local) (nm : Names X x c) (tk : Takes X Wout) (nx : X.ex = [])
    (hb : ∀ (W : WX) (pn : List (Addr × Obj)) (xe : Value → Shared → Prop), Takes (X.tr pn xe) W → PassesOwn (model X.prog X.w) X.A X.env xe → PSs (X.tr pn xe) body (tb W))
    (hsu : ∀ (a : Addr) (oe : Obj) (cls : Value) (d : Option Addr) (pn : List (Addr × Obj)), Zc cls d oe → (∃ vs, oe.data = .fields vs) → PSs (X.suite a ((a, oe) :: pn)) (first :: rest) (ts a cls d)) :
    PS X (.Try body [.ExceptHandler (some (.Name x p1)) (some n) (first :: rest) p2] [] [] p3) (fun D σ H => tb (wKeep X.K c i X.N.length ts Wout D) D σ H) := by
  refine ⟨fun pins s σ H D I h => wpAny_Try_except ?_⟩
  have ok := I.ok
  have afr : X.A.frames = some (X.env :: X.outer) := by
    rw [ok.frames, st]
  let nxt : Value → Shared → Prop := fun e s₁ => wpAny (model X.prog X.w) X.A (noteFrame e X.env) (fun _ s₂ => wpAny (model X.prog X.w) X.A (setFlight e none)
    (fun _ s₃ => wpAny (model X.prog X.w) X.A (handleBy e X.env [.ExceptHandler (some (.Name x p1)) (some n) (first :: rest) p2]) (SP X pins D) X.xe s₃) X.xe s₂) X.xe s₁
  have caught : ∀ u s', XE (X.tr (X.pn ++ pins) nxt) (wKeep X.K c i X.N.length ts Wout D) u s' → nxt u s' := by
    rintro u s' ⟨a, B, sI, pinsI, σ1, H1, cls, d, rfl, J0, gb, us, sky, na, eo, ab, b, hm, yes, no⟩
    have J : Inv X pins σ1 H1 sI := J0.ofTry ok
    rw [show (X.tr (X.pn ++ pins) nxt).stack = X.env :: X.outer from st] at sky
    refine Sky.land Zc.steady afr fr sky fun hA flA uA => ?_
    have JA : Inv X pins σ1 H1 { s' with heap := hA } := J.landed gb flA.1 (us.trans uA) eo ab
    have off : ∀ {g : Heap} {o : Obj} {ws : Array Value}, g.FunFrames B (X.env :: X.outer) → g.get? a = some o → o.data = .fields ws → a ∉ frs (X.env :: X.outer) := by
      intro g o ws ff e dd z
      obtain ⟨_, o2, e2, k⟩ := ff.mem z
      rw [e] at e2
      cases e2
      exact k _ dd
    obtain ⟨o3, w3, a3, z3, d3⟩ := flA.there
    have nfr := off flA.2.2.1 a3 d3
    have nL : a ≠ X.env.locals := fun z => nfr (List.mem_filterMap.mpr ⟨X.env, List.mem_cons_self, by rw [fr, z]⟩)
    have nF : a ∉ X.fs := fun z => by
      obtain ⟨e, he, q⟩ := List.mem_filterMap.mp z
      exact nfr (List.mem_filterMap.mpr ⟨e, List.mem_cons_of_mem _ he, q⟩)
    have new : sI.heap.get? a = none := by
      cases q : sI.heap.get? a with
      | none => rfl
      | some o =>
        have z := gb a o q (by rw [show (X.tr (X.pn ++ pins) nxt).stack = X.env :: X.outer from st]; exact nfr)
        rw [flA.2.1] at z
        cases z
    have n0 : X.s_0.heap.get? a = none := by
      cases q : X.s_0.heap.get? a with
      | none => rfl
      | some o =>
        obtain ⟨o2, z⟩ := J.base.there a o q (by rw [nx]; simp)
        rw [new] at z
        cases z
    have np : ∀ p ∈ X.pn ++ pins, p.1 ≠ a := fun p hp z => by
      have q := (J.pin p hp).1
      rw [z, new] at q
      cases q
    have SA := JA.suite a3 d3 na nL nF
    have look : PySem.W.Looks (model X.prog X.w) hA (typeOf (.ref a)) cls := fun A Q E s k q => wpAny_typeOf_ref (k _ _ a3) (by rw [z3.1]; exact q)
    have which := PySem.W.exm_one (M := model X.prog X.w) JA.kIn look hm
    have name : ∀ {Q E : Value → Shared → Prop}, Q c { s' with heap := hA } → wpAny (model X.prog X.w) (X.A.mark (some (.ref a))) (eval (.Name x p1) X.env) Q E { s' with heap := hA } := by
      intro Q E q
      obtain ⟨g, db, g2⟩ := nm
      rcases g2 with g2 | ⟨g2, bv, nn⟩
      · exact ld_glob (X := X.suite a ((a, o3) :: (X.pn ++ pins))) SA g g2 q db
      · exact ld_blt (X := X.suite a ((a, o3) :: (X.pn ++ pins))) SA g g2 bv q nn db
    refine wpAny_handleBy_cons (codeAny_handlers_test (name (which.here ?_))) (by intro q; cases q)
    cases b with
    | true =>
      refine codeAny_handlers_suite_as (HandSPX.lands_againZ flA fun hB flB uB => ?_)
      have JB : Inv X pins σ1 H1 { s' with heap := hB } := J.landed gb flB.1 ((us.trans uA).trans uB) eo ab
      obtain ⟨o4, w4, a4, z4, d4⟩ := flB.there
      have SB := JB.suite a4 d4 na nL nF
      refine store_ok (X := X.suite a ((a, o4) :: (X.pn ++ pins))) (v := .ref a) SB nd hi (.inl kd) rfl (fun s5 S5 => ?_) (.inr kd)
      refine wpAny_mono ((hsu a o4 cls d (X.pn ++ pins) z4 ⟨_, d4⟩).run [] s5 _ H1 _ S5 (yes rfl J.len a na)) (fun f s6 sp => ?_) fun _ _ z => z.elim
      cases f with
      | next =>
        obtain ⟨σ6, H6, S6, q6⟩ := sp
        refine gone_ok (S6.offSuite ok) nd hi kd fun s7 J7 => ?_
        obtain ⟨at7, n7, _⟩ := J7.pin (a, o4) (List.mem_append_right _ (List.mem_cons_self ..))
        have cells : ∀ y c', X.env.cells.lookup y = some c' → c' ≠ a := fun y c' e z => by
          obtain ⟨v, o, ho, hd⟩ := J7.cell y c' e
          rw [z, at7] at ho
          cases ho
          rw [d4] at hd
          cases hd
        exact ⟨_, _, J7.unpin.track n7 n0 nL cells np (exz_ok at7 z4 d4), q6⟩
      | brk =>
        obtain ⟨_, _, _, q6⟩ := sp
        exact q6.elim
      | cont =>
        obtain ⟨_, _, _, q6⟩ := sp
        exact q6.elim
      | ret u =>
        obtain ⟨_, _, _, _, _, q6⟩ := sp
        exact q6.elim
    | false =>
      refine wpAny_handleBy_nil ?_
      obtain ⟨f1, f2, f3, oe, vs, T, oT, tr, e1, e2, e3, e4, e5⟩ := id flA
      have out : wpAny (model X.prog X.w) X.A (setFlight (.ref a) X.env.frame) (fun _ s4 => wpAny (model X.prog X.w) X.A (throw (.ref a) : Sem Flow) (SP X pins D) X.xe s4) X.xe { s' with heap := hA } := by
        rw [fr]
        refine HandSPX.setFlight_upZ flA fun hB up uB => wpAny_throw (tk _ _ ⟨a, B, sI, pins, σ1, H1, cls, d, rfl, J, gb, (us.trans uA).trans uB, .inr (.inr (by rw [st]; exact up)), na, eo, ab, no rfl⟩)
      unfold PySem.passOn
      refine wpAny_bind (wpAny_field e1 e3 e4 ?_)
      rw [if_neg (show ¬ (Value.ref T == Value.none) = true by simp)]
      first
        | exact wpAny_bind (wpAny_pure (wpAny_bind out))
        | exact wpAny_bind out
  refine wpAny_mono ((hb _ (X.pn ++ pins) nxt caught PassesOwn.looking).run [] s σ H D (I.toTry _) h) (fun f s1 sp => ?_) fun _ _ z => z
  cases f with
  | next =>
    obtain ⟨σ2, H2, J, q⟩ := sp
    exact wpAny_execs_nil ⟨σ2, H2, J.ofTry ok, q⟩
  | brk =>
    obtain ⟨σ2, H2, J, q⟩ := sp
    exact ⟨σ2, H2, J.ofTry ok, q⟩
  | cont =>
    obtain ⟨σ2, H2, J, q⟩ := sp
    exact ⟨σ2, H2, J.ofTry ok, q⟩
  | ret u =>
    obtain ⟨v, σ2, H2, J, r, q⟩ := sp
    exact ⟨v, σ2, H2, J.ofTry ok, r, q⟩
end
end L2
set_option maxRecDepth 100000
namespace L2
open PySem PySem.Spec PyProof.Rows
/-! a caught error by another name: its class asked, its fields read -/
/-- at a: a caught error of the class at C, with these fields -/
def Caught (H : Hp) (a C : Addr) (fs : List (Str × V)) : Prop := ∃ d, H a = some (exz a (.ref C) (some d)) ∧ H d = some (.xd fs)
theorem xd_at {P : Program} {w : World} {H : Hp} {h : Heap} {d : Addr} {fs : List (Str × V)} (hok : HOk P w H h) (e : H d = some (.xd fs)) : ∃ mA, h.Ns1 d mA ∧ ∀ f, RelO (fs.lookup f) (mA f) := by
  have x : ObjOk P w H h d (.xd fs) := hok d _ e
  exact x
theorem Caught.same {H H' : Hp} {a C : Addr} {fs : List (Str × V)} (s : Same H H') (h : Caught H a C fs) : Caught H' a C fs :=
  let ⟨d, h1, h2⟩ := h
  ⟨d, s _ _ h1, s _ _ h2⟩
section
variable {X : Cx} {pins : List (Addr × Obj)} {σ : St} {H : Hp} {s : Shared}
theorem caught_inst {a C : Addr} {fs : List (Str × V)} (I : Inv X pins σ H s) (h : Caught H a C fs) : ∃ (oe od : Obj) (mA : Str → Option Value), PySem.W.InstAt s.heap a oe C (some od) ∧ (∀ f, PySem.W.lookIn f od = some (mA f)) ∧ ∀ f, RelO (fs.lookup f) (mA f) := by
  obtain ⟨d, ea, ed⟩ := h
  obtain ⟨oe, vs, e1, z, e2⟩ := exz_at I.hok ea
  obtain ⟨mA, hns, hr⟩ := xd_at I.hok ed
  obtain ⟨od, hod, hl⟩ := lookIn_ns hns
  refine ⟨oe, od, mA, ⟨e1, z.1, ?_, ?_⟩, hl, hr⟩
  · unfold PySem.W.notCls
    rw [e2]
  · rw [z.2]
    exact hod
/-- isinstance(e, c) -/
def rIsZ (K : PySem.W.Frag) : List V → Hp → VK → Prop := fun xs H Q => ∃ (a C : Addr) (fs : List (Str × V)) (c : V) (cv : Value) (b : Bool), xs = [.ref a, c] ∧ Caught H a C fs ∧ XvC K C ∧ ClsV c cv ∧ PySem.W.kitOne K (.ref C) cv = some b ∧ Q (.bl b) H
theorem call_isz : CallR X (.builtin "isinstance") (rIsZ X.K) := by
  intro pins s σ H xs us Q I r h
  obtain ⟨a, C, fs, c, cv, b, rfl, ea, T, k, e, q⟩ := h
  obtain ⟨u1, u2, rfl, r1, r2⟩ := vals2 r
  have e2 := k.eq r2
  subst e2
  obtain rfl : u1 = Value.ref a := r1
  obtain ⟨oe, od, mA, J, _⟩ := caught_inst I ea
  exact PySem.W.kia_one (PySem.W.kitx_exc T.ic T.ga T.gg T.oex.exC T.ca T.gs T.tk T.mo) I.kIn J e (fun z => nomatch z) fun tk => ⟨.bl b, H, I.tok tk, rfl, q⟩
/-- e.f -/
def tZat (K : PySem.W.Frag) (te : TE) (f : Str) : TE := fun σ H Q => te σ H fun x H1 => ∃ (a C : Addr) (fs : List (Str × V)) (v : V), x = .ref a ∧ Caught H1 a C fs ∧ XvC K C ∧ PySem.W.findIn K (.ref C) f = some none ∧ fs.lookup f = some v ∧ Q v H1
theorem pe_zat {e : Expr} {te : TE} {f : Str} {pos : Pos} (he : PE X e te) (hb : attributeBase e f X.env (eval e X.env) = eval e X.env := by rfl) : PE X (.Attribute e f pos) (tZat X.K te f) := by
  refine ⟨fun pins s σ H Q I h => attr_of hb (thn (he.run pins s σ H _ I h) fun u s1 hh => ?_)⟩
  obtain ⟨x, H1, I1, rx, a, C, fs, v, ex, ea, T, no, l, q⟩ := hh
  subst ex
  obtain rfl : u = Value.ref a := rx
  obtain ⟨oe, od, mA, J, hl, hr⟩ := caught_inst I1 ea
  obtain ⟨u, hu, ru⟩ : ∃ u, mA f = some u ∧ RelV v u := RelO.some_of (v := v) (o := mA f) (by rw [← l]; exact hr f)
  exact HandSPX.exc_get I1.kIn J T.ga T.gg T.oex.exC (PySem.W.findObj_own T.dd no rfl (by rw [hl, hu])) (handed_of ru) ⟨v, H1, I1.tok _, ru, q⟩
end
end L2
set_option maxRecDepth 100000
set_option maxHeartbeats 4000000
namespace L2
open PySem PySem.Spec PyProof.Rows
/-! a tuple taken once: t * 1 is t itself -/
theorem tuple_mul_one (l : Addr) (its : Array Value) (n : Nat) (dd : Option Addr) (sl : Array (Option Value)) (u : Tok) :
    Meets (Builtin.«tuple.__mul__» ⟨[.ref l, .int 1 u], []⟩) (fun _ R s => s.heap.get? l = some { cls := .type "tuple", dict := dd, data := .seq its n, slots := sl } ∧ R (.ok (.ret (.ref l))) s) :=
  .of_wp fun prog w A R s h => by
    obtain ⟨hp, g, d, tk, os⟩ := s
    obtain ⟨hl, h⟩ := h
    have f1 := AutoSeq1.idx_int
    have c1 : (its.isEmpty || (1 : Int) == 1) = true := by simp
    wp_walk using wpAny_loadPart' hl
    repeat (first
      | (refine wpAny_ite_true (decide_eq_true c1) ?_; wp_walk using wpAny_loadPart' hl)
      | (refine wpAny_ite_false (decide_eq_false (by decide)) ?_; wp_walk using wpAny_loadPart' hl))
    exact ⟨_, rfl, h⟩
def rRep1 (K : PySem.W.Frag) : R2 := fun x y H Q => ∃ l xs, x = .ref l ∧ y = .int 1 ∧ SqT K H l xs ∧ Q (.ref l) H
theorem op_rep1 {X : Cx} : OpR X (binaryOp .Mult) (rRep1 X.K) := by
  intro pins s σ H x y v u Q I rx ry h
  obtain ⟨l, xs, rfl, rfl, hT, q⟩ := h
  cases rx
  obtain ⟨t, rfl⟩ := ry
  obtain ⟨its, r, ⟨⟨cls, dd, data, sl⟩, ho, hc, n, hd⟩, hs⟩ := I.tuple hT
  simp only at hc hd
  subst hc hd
  exact wpAny_binaryOp_repeat_ref (T := "tuple") (U := "int") (by decide) ⟨_, ho, rfl⟩ (fun s' => typeIs_int s' 1 t) noFill_tuple_mul F.fills_int_mul F.slot_int_rmul repeat_tuple F.slot_int_index.lookup
    (call_meets F.slot_int_rmul (typeIs_int s 1 t) F.entry_int_rmul (F.args_int_rmul_2 _ _) (int_rmul_tuple 1 t l its.toArray n dd sl)
      ⟨ho, rfl, ⟨_, ho, rfl⟩, call_meets F.slot_tuple_mul ⟨_, ho, rfl⟩ F.entry_tuple_mul (F.args_tuple_mul_2 _ _) (tuple_mul_one l its.toArray n dd sl t) ⟨ho, ⟨.ref l, H, I, rfl, q⟩⟩⟩)
/-- t * k -/
theorem op_repA {X : Cx} : OpR X (binaryOp .Mult) (fun x y H Q => rRep1 X.K x y H Q ∨ rRepT X.K x y H Q) := by
  intro pins s σ H x y v u Q I rx ry h
  rcases h with h | h
  · exact op_rep1 pins s σ H x y v u Q I rx ry h
  · exact op_repT pins s σ H x y v u Q I rx ry h
end L2
set_option maxRecDepth 100000
namespace L2
open PySem PySem.Spec PyProof.Rows
/-! a list or a tuple, walked -/
def Seq (K : PySem.W.Frag) (H : Hp) (a : Addr) (xs : List V) : Prop := SqL K H a xs ∨ SqT K H a xs
def iSeq (K : PySem.W.Frag) (tl : TE) : TI := fun σ H R => tl σ H fun x H1 => ∃ (a : Addr) (xs : List V), x = .ref a ∧ ((SqL K H1 a xs ∧ R (Itl K a) H1) ∨ (SqT K H1 a xs ∧ R (Itt K a) H1))
theorem pi_seq {X : Cx} {tg l : Expr} {tl : TE} (hl : PE X l tl) : PI X tg l (iSeq X.K tl) := by
  constructor
  intro pins s σ H R I h
  refine thn (hl.run pins s σ H _ I h) ?_
  rintro v s1 ⟨x, G, J, r, a, xs, rfl, q⟩
  obtain rfl : v = Value.ref a := r
  have fresh : ∀ b ∈ [s1.heap.objs.size], b = s1.heap.objs.size := fun b hb => List.mem_singleton.mp hb
  have nw := J.hok.fresh (Nat.le_refl s1.heap.objs.size)
  rcases q with ⟨hq, q⟩ | ⟨hq, q⟩
  · obtain ⟨_, _, p, _⟩ := J.list hq
    exact wpAny_pyIter_list p.isList ⟨_, [s1.heap.objs.size], _, _, G, rfl, J.kept (t' := s1.toks) (fun _ _ z => Heap.get?_push_of_some _ z), turn_list a _, ⟨_, Heap.get?_push_size _ rfl, rfl, rfl⟩, fun b hb => by rw [fresh b hb]; exact J.fpOk (Nat.le_refl _) nw, q⟩
  · obtain ⟨_, _, p, _⟩ := J.tuple hq
    exact wpAny_pyIter_tuple (show Heap.IsTuple s1.heap a _ from p) ⟨_, [s1.heap.objs.size], _, _, G, rfl, J.kept (t' := s1.toks) (fun _ _ z => Heap.get?_push_of_some _ z), turn_tuple a _, ⟨_, Heap.get?_push_size _ rfl, rfl, rfl⟩, fun b hb => by rw [fresh b hb]; exact J.fpOk (Nat.le_refl _) nw, q⟩
theorem Same.seqT {K : PySem.W.Frag} {H H' : Hp} {a : Addr} {xs : List V} (e : Same H H') (h : SqT K H a xs) : SqT K H' a xs := by
  rcases h with (z | ⟨o, z⟩) | z
  · exact .inl (.inl (e a _ z))
  · exact .inl (.inr ⟨o, e a _ z⟩)
  · exact .inr z
theorem Seq.same {K : PySem.W.Frag} {H H' : Hp} {a : Addr} {xs : List V} (s : Same H H') (h : Seq K H a xs) : Seq K H' a xs := h.elim (fun z => .inl (s.seq z)) fun z => .inr (s.seqT z)
end L2
set_option maxRecDepth 100000
namespace Toy
open PySem L2
abbrev s_is_integer : Stmt := top 3
abbrev s_is_within : Stmt := top 4
abbrev s_is_number : Stmt := top 5
abbrev s_banks_by : Stmt := top 9
abbrev s_are_moduli : Stmt := top 10
abbrev s_are_banks : Stmt := top 11
structure TR (mg : Str → Option Value) : Prop where
  m_isinstance : mg "isinstance" = none
  m_int : mg "int" = none
  m_bool : mg "bool" = none
  m_len : mg "len" = none
  m_all : mg "all" = none
  m_list : mg "list" = none
  m_tuple : mg "tuple" = none
  m_range : mg "range" = none
  m_sum : mg "sum" = none
  m_zip : mg "zip" = none
  m_enumerate : mg "enumerate" = none
  g_MOST_MODULI : ∃ t, mg "MOST_MODULI" = some (.int 5 t)
  g_MOST_BANKS : ∃ t, mg "MOST_BANKS" = some (.int 32 t)
  g_MOST_PLACES : ∃ t, mg "MOST_PLACES" = some (.int 24 t)
def spIsInt (K : PySem.W.Frag) : Sp := fun vs H Q _ => ∃ (x : V) (S : String), vs = [x] ∧ Plain K H x S ∧ Q (.bl (isI x)) H
def numV : V → Bool
  | .int i => decide (0 ≤ i)
  | _ => false
def withinV (lo hi : Int) : V → Bool
  | .int i => decide (lo ≤ i ∧ i ≤ hi)
  | _ => false
def spNumber (K : PySem.W.Frag) : Sp := fun vs H Q _ => ∃ (x : V) (S : String), vs = [x] ∧ Plain K H x S ∧ Q (.bl (numV x)) H
def spWithin (K : PySem.W.Frag) : Sp := fun vs H Q _ => ∃ (x : V) (S : String) (lo hi : Int), vs = [x, .int lo, .int hi] ∧ Plain K H x S ∧ Q (.bl (withinV lo hi x)) H
/-- a list or a tuple -/
def SeqAt (H : Hp) (a : Addr) (xs : List V) : Prop := H a = some (.lst xs) ∨ H a = some (.tup xs)
theorem SeqAt.same {H H' : Hp} {a : Addr} {xs : List V} (s : Same H H') (h : SeqAt H a xs) : SeqAt H' a xs := h.elim (fun z => .inl (s _ _ z)) fun z => .inr (s _ _ z)
theorem plain_same {K : PySem.W.Frag} {H H' : Hp} {x : V} {S : String} (s : Same H H') (h : Plain K H x S) : Plain K H' x S := by
  cases h with
  | non => exact .non
  | bl b => exact .bl b
  | int i => exact .int i
  | str z => exact .str z
  | lst e => exact .lst (s _ _ e)
  | tup e => exact .tup (s _ _ e)
  | dK e => exact .dK (s _ _ e)
/-- what a caller may hand in: a list or tuple of plain values, or a plain value of another kind -/
inductive Arg (K : PySem.W.Frag) (H : Hp) : V → Option (List V) → Prop where
  | seq {a : Addr} {xs : List V} (e : SeqAt H a xs) (p : ∀ y ∈ xs, ∃ S, Plain K H y S) (l : xs.length ≤ 1000) : Arg K H (.ref a) (some xs)
  | other {x : V} {S : String} (p : Plain K H x S) (h : PySem.W.kitAny K (.type S) [.type "list", .type "tuple"] = some false) : Arg K H x none
theorem Arg.same {K : PySem.W.Frag} {H H' : Hp} {x : V} {o : Option (List V)} (s : Same H H') (h : Arg K H x o) : Arg K H' x o := by
  cases h with
  | seq e p l => exact .seq (e.same s) (fun y hy => let ⟨S, q⟩ := p y hy; ⟨S, plain_same s q⟩) l
  | other p h => exact .other (plain_same s p) h
theorem Arg.ty {K : PySem.W.Frag} {H : Hp} {x : V} {o : Option (List V)} (h : Arg K H x o) : ∃ t, TyX K H x t ∧ PySem.W.kitAny K t [.type "list", .type "tuple"] = some o.isSome := by
  cases h with
  | seq e p l =>
    rcases e with e | e
    · exact ⟨_, (Plain.lst (K := K) e).ty, rfl⟩
    · exact ⟨_, (Plain.tup (K := K) e).ty, rfl⟩
  | other p h => exact ⟨_, p.ty, h⟩
def intOf : V → Int
  | .int i => i
  | _ => 0
def prodV (xs : List V) : Int := xs.foldl (fun p x => p * intOf x) 1
def okMod : Option (List V) → Bool
  | none => false
  | some xs => decide (1 ≤ xs.length ∧ xs.length ≤ 5) && (xs.all (withinV 2 32) && decide (prodV xs ≤ 32))
def okBanks (n : Int) : Option (List V) → Bool
  | none => false
  | some xs => xs.all (withinV 0 (n - 1))
theorem within_int {lo hi : Int} {x : V} (h : withinV lo hi x = true) : ∃ i, x = .int i ∧ lo ≤ i ∧ i ≤ hi := by
  cases x with
  | int i => exact ⟨i, rfl, (of_decide_eq_true h).1, (of_decide_eq_true h).2⟩
  | _ => cases h
def spBanksBy (K : PySem.W.Frag) : Sp := fun vs H Q _ => ∃ (a : Addr) (xs : List V), vs = [.ref a] ∧ SeqAt H a xs ∧ xs.all (withinV 2 32) = true ∧ Q (.int (prodV xs)) H
def spAreModuli (K : PySem.W.Frag) : Sp := fun vs H Q _ => ∃ (x : V) (o : Option (List V)), vs = [x] ∧ Arg K H x o ∧ ∀ H', Same H H' → Q (.bl (okMod o)) H'
def spAreBanks (K : PySem.W.Frag) : Sp := fun vs H Q _ => ∃ (x : V) (n : Int) (o : Option (List V)), vs = [x, .int n] ∧ Arg K H x o ∧ ∀ H', Same H H' → Q (.bl (okBanks n o)) H'
section
variable {P : Program} {w : World} {K : PySem.W.Frag} {mg : Str → Option Value} {base : Heap}
theorem sc_is_integer : FnScope ["value"] ["value"] (defScope s_is_integer) := ⟨rfl, rfl, rfl, by decide +kernel, rfl, by decide +kernel, by decide +kernel⟩
theorem ok_is_integer {f : Addr} {fd : FuncData} (F : Fun K "is_integer" "is_integer" s_is_integer f fd) (T : TR mg) : FnOk P w K mg base CX0 1 f fd ["value"] (spIsInt K) := by
  refine F.ok sc_is_integer (fun vs H Q E h => ?_) (fun cdv A outer s H vs Q E hr h => ?_)
  · obtain ⟨x, S, rfl, _⟩ := h
    rfl
  · obtain ⟨x, S, rfl, hx, k⟩ := h
    refine ⟨_, (pss_one (ps_ret (pe_and (pe_callB call_isi (by rfl) T.m_isinstance (by decide +kernel) (pa_cons (pv 0) (pa_cons (pe_bltn (v := .ty "int") (u := .type "int") rfl T.m_int (by decide +kernel) rfl) pa_nil))) (pe_one (pe_not (pe_callB call_isi (by rfl) T.m_isinstance (by decide +kernel) (pa_cons (pv 0) (pa_cons (pe_bltn (v := .ty "bool") (u := .type "bool") rfl T.m_bool (by decide +kernel) rfl) pa_nil)))))))), ?_⟩
    refine ⟨_, rfl, _, _, _, _, _, rfl, .ty _, hx.ty, hx.kInt, _, rfl, ?_⟩
    cases hi : isI x with
    | true =>
      refine ⟨_, rfl, _, _, _, _, _, rfl, .ty _, hx.ty, hx.kBool, _, rfl, ?_⟩
      have hb : isB x = false := by
        cases x <;> first | rfl | (cases hi)
      rw [hb]
      rw [hi] at k
      exact k
    | false =>
      cases hb : isB x with
      | true =>
        refine ⟨_, rfl, _, _, _, _, _, rfl, .ty _, hx.ty, hx.kBool, _, rfl, ?_⟩
        rw [hb]
        rw [hi] at k
        exact k
      | false =>
        rw [hi] at k
        exact k
theorem sc_is_number : FnScope ["value"] ["value"] (defScope s_is_number) := ⟨rfl, rfl, rfl, by decide +kernel, rfl, by decide +kernel, by decide +kernel⟩
theorem ok_is_number {f fI : Addr} {fd fdI : FuncData} (F : Fun K "is_number" "is_number" s_is_number f fd) (T : TR mg) (FI : Fun K "is_integer" "is_integer" s_is_integer fI fdI) (gI : mg "is_integer" = some (.ref fI)) (bI : Binds K fdI ["value"] []) :
    FnOk P w K mg base CX0 2 f fd ["value"] (spNumber K) := by
  have GI : FnOk P w K mg base CX0 1 fI fdI ["value"] (spIsInt K) := ok_is_integer FI T
  have kI := FI.kp
  refine F.ok sc_is_number (fun vs H Q E h => ?_) (fun cdv A outer s H vs Q E hr h => ?_)
  · obtain ⟨x, S, rfl, _⟩ := h
    rfl
  · obtain ⟨x, S, rfl, hx, k⟩ := h
    refine ⟨_, (pss_one (ps_ret (pe_and (pe_call GI hr rfl gI kI bI .nil pass0 (pa_cons (pv 0) pa_nil)) (pe_one (pe_cmpR op_ge (pv 0) pe_int (nomark _)))))), ?_⟩
    refine ⟨_, rfl, _, _, rfl, hx, _, rfl, ?_⟩
    cases x with
    | int i => exact ⟨_, rfl, _, _, rfl, rfl, k⟩
    | _ => exact k
theorem sc_is_within : FnScope ["value", "least", "most"] ["value", "least", "most"] (defScope s_is_within) := ⟨rfl, rfl, rfl, by decide +kernel, rfl, by decide +kernel, by decide +kernel⟩
theorem ok_is_within {f fI : Addr} {fd fdI : FuncData} (F : Fun K "is_within" "is_within" s_is_within f fd) (T : TR mg) (FI : Fun K "is_integer" "is_integer" s_is_integer fI fdI) (gI : mg "is_integer" = some (.ref fI)) (bI : Binds K fdI ["value"] []) :
    FnOk P w K mg base CX0 2 f fd ["value", "least", "most"] (spWithin K) := by
  have GI : FnOk P w K mg base CX0 1 fI fdI ["value"] (spIsInt K) := ok_is_integer FI T
  have kI := FI.kp
  refine F.ok sc_is_within (fun vs H Q E h => ?_) (fun cdv A outer s H vs Q E hr h => ?_)
  · obtain ⟨x, S, lo, hi, rfl, _⟩ := h
    rfl
  · obtain ⟨x, S, lo, hi, rfl, hx, k⟩ := h
    refine ⟨_, (pss_one (ps_ret (pe_and (pe_call GI hr rfl gI kI bI .nil pass0 (pa_cons (pv 0) pa_nil)) (pe_one (pe_chain op_le op_le (pv 1) (pv 0) (pv 2)))))), ?_⟩
    refine ⟨_, rfl, _, _, rfl, hx, _, rfl, ?_⟩
    cases x with
    | int i =>
      refine ⟨_, rfl, _, rfl, _, _, rfl, rfl, _, rfl, ?_⟩
      refine ite2 (fun c1 => ?_) (fun c1 => ?_)
      · refine ⟨_, rfl, _, _, rfl, rfl, ?_⟩
        have e : decide (i ≤ hi) = withinV lo hi (.int i) := by
          have c2 := of_decide_eq_true c1
          simp [withinV, c2]
        show Q (V.bl (decide (i ≤ hi))) H
        rw [e]
        exact k
      · have e : withinV lo hi (.int i) = false := by
          have c2 : ¬ lo ≤ i := fun z => c1 (decide_eq_true z)
          simp [withinV, c2]
        rw [e] at k
        exact k
    | _ => exact k
theorem sc_banks_by : FnScope ["moduli", "banks", "modulus"] ["moduli"] (defScope s_banks_by) := ⟨rfl, rfl, rfl, by decide +kernel, rfl, by decide +kernel, by decide +kernel⟩
theorem ok_banks_by {f : Addr} {fd : FuncData} (F : Fun K "banks_by" "banks_by" s_banks_by f fd) : FnOk P w K mg base CX0 1 f fd ["moduli"] (spBanksBy K) := by
  refine F.ok sc_banks_by (fun vs H Q E h => ?_) (fun cdv A outer s H vs Q E hr h => ?_)
  · obtain ⟨a, xs, rfl, _⟩ := h
    rfl
  · obtain ⟨a, xs, rfl, he, hw, k⟩ := h
    refine ⟨_, (pss_cons (ps_set (i := 1) sc_banks_by.nd rfl (Or.inl rfl) pe_int)
 (pss_cons (ps_for PassesOwn.never rfl (pi_seq (pv 0)) (pg_name (i := 2) sc_banks_by.nd rfl (Or.inl rfl))
 (pss_one (ps_set (i := 1) sc_banks_by.nd rfl (Or.inl rfl) (pe_op op_mul (pv 1) (pv 2)))))
 (pss_one (ps_ret (pv 1))))), ?_⟩
    have turn : ∀ (i : Nat) (x : V) (u : Option V), xs[i]? = some x → ∃ n, x = .int n ∧ 2 ≤ n ∧ n ≤ 32 ∧ prodV (xs.take (i + 1)) = prodV (xs.take i) * n := by
      intro i x u hi
      obtain ⟨n, rfl, h1, h2⟩ := within_int (List.all_eq_true.mp hw x (List.mem_of_getElem? hi))
      refine ⟨n, rfl, h1, h2, ?_⟩
      rw [List.take_add_one, hi]
      simp [prodV, intOf]
    refine ⟨_, rfl, a, xs, rfl, ?_⟩
    rcases he with he | he
    · refine .inl ⟨SqL.of he, for_it walk_list (fun i σ G => G = H ∧ ∃ u, σ = [some (.ref a), some (.int (prodV (xs.take i))), u]) ⟨rfl, none, rfl⟩ (fun i σ G _ p => by rw [p.1]; exact SqL.of he) ?_ ?_⟩
      · rintro i x σ G G' hi ⟨rfl, u, rfl⟩ ⟨rfl, hx⟩
        obtain ⟨n, rfl, h1, h2, e⟩ := turn i x u hx
        refine ⟨_, rfl, _, rfl, _, _, rfl, rfl, .inr ⟨by omega, by omega⟩, rfl, some (.int n), ?_⟩
        rw [e]
        all_goals rfl
      · rintro σ G ⟨rfl, u, rfl⟩
        rw [List.take_length]
        exact ⟨_, rfl, k⟩
    · refine .inr ⟨SqT.of he, for_it walk_tup (fun i σ G => G = H ∧ ∃ u, σ = [some (.ref a), some (.int (prodV (xs.take i))), u]) ⟨rfl, none, rfl⟩ (fun i σ G _ p => by rw [p.1]; exact SqT.of he) ?_ ?_⟩
      · rintro i x σ G G' hi ⟨rfl, u, rfl⟩ ⟨rfl, hx⟩
        obtain ⟨n, rfl, h1, h2, e⟩ := turn i x u hx
        refine ⟨_, rfl, _, rfl, _, _, rfl, rfl, .inr ⟨by omega, by omega⟩, rfl, some (.int n), ?_⟩
        rw [e]
        all_goals rfl
      · rintro σ G ⟨rfl, u, rfl⟩
        rw [List.take_length]
        exact ⟨_, rfl, k⟩
end
end Toy
set_option maxRecDepth 100000
namespace Toy
open PySem L2
section
variable {P : Program} {w : World} {K : PySem.W.Frag} {mg : Str → Option Value} {base : Heap}
theorem cls2 : PySem.Paired ClsV [V.ty "list", V.ty "tuple"] [.type "list", .type "tuple"] := .cons (.ty _) (.cons (.ty _) .nil)
abbrev N_are_banks : List Str := ["value", "banks", "bank"]
theorem sc_are_banks : FnScope N_are_banks ["value", "banks"] (defScope s_are_banks) := ⟨rfl, rfl, rfl, by decide +kernel, rfl, by decide +kernel, by decide +kernel⟩
theorem ok_are_banks {f fI fW : Addr} {fd fdI fdW : FuncData} (F : Fun K "are_banks" "are_banks" s_are_banks f fd) (T : TR mg) (FI : Fun K "is_integer" "is_integer" s_is_integer fI fdI) (gI : mg "is_integer" = some (.ref fI)) (bI : Binds K fdI ["value"] [])
    (FW : Fun K "is_within" "is_within" s_is_within fW fdW) (gW : mg "is_within" = some (.ref fW)) (bW : Binds K fdW ["value", "least", "most"] []) : FnOk P w K mg base CX0 3 f fd ["value", "banks"] (spAreBanks K) := by
  have GW : FnOk P w K mg base CX0 2 fW fdW ["value", "least", "most"] (spWithin K) := ok_is_within FW T FI gI bI
  have kW := FW.kp
  refine F.ok sc_are_banks (fun vs H Q E h => ?_) (fun cdv A outer s H vs Q E hr h => ?_)
  · obtain ⟨x, n, o, rfl, _⟩ := h
    rfl
  · obtain ⟨x, n, o, rfl, ha, k⟩ := h
    refine ⟨_, (pss_one (ps_ret (pe_and (pe_callB call_isiT (by rfl) T.m_isinstance (by decide +kernel) (pa_cons (pv 0) (pa_cons (pe_tup (pa_cons (pe_bltn (v := .ty "list") (u := .type "list") rfl T.m_list (by decide +kernel) rfl) (pa_cons (pe_bltn (v := .ty "tuple") (u := .type "tuple") rfl T.m_tuple (by decide +kernel) rfl) pa_nil))) pa_nil))) (pe_one (pe_callB (cr_all rfl) (by rfl) T.m_all (by decide +kernel) (pa_cons (pe_lc (own := [("bank", 2)]) (g := (gName 2)) (tt := tYes) rfl sc_are_banks.nd (pi_seq (pv 0)) (blkOk_by (N := N_are_banks) (sc := defScope s_are_banks) (by decide +kernel)) (fun _ _ _ _ _ => (pg_name (i := 2) sc_are_banks.nd rfl (Or.inl rfl))) (fun _ _ _ _ _ => pts_nil) (fun _ _ _ _ _ => (pe_call GW hr rfl gW kW bW .nil pass0 (pa_cons (pv 2) (pa_cons pe_int (pa_cons (pe_op op_sub (pv 1) pe_int) pa_nil)))))) pa_nil)))))), ?_⟩
    refine ⟨_, rfl, (by show 2 ≤ sizeLine; decide), fun q hq => ?_⟩
    have s1 : Same H (upd H q (.tup [.ty "list", .ty "tuple"])) := (Same.refl H).new hq
    obtain ⟨t, ht, hk⟩ := (ha.same s1).ty
    refine ⟨_, q, _, t, _, _, rfl, upd_same, cls2, ht, hk, _, rfl, ?_⟩
    cases ha with
    | other p h => exact k _ s1
    | @seq a xs e p l =>
      have e1 := e.same s1
      have szl : ∀ i : Nat, i < xs.length → i < sizeLine := fun i hi => Nat.lt_of_lt_of_le hi (Nat.le_of_lt (small1000 (by omega)))
      have fin : ∀ (D : Addr) (G : Hp), upd H q (.tup [.ty "list", .ty "tuple"]) D = none → G = upd (upd H q (.tup [.ty "list", .ty "tuple"])) D (.lst (((xs.take xs.length).map (withinV 0 (n - 1))).map V.bl)) →
          ∃ (b : Addr) (bs : List Bool), [V.ref D] = [V.ref b] ∧ SqL K G b (bs.map V.bl) ∧ Q (.bl (bs.all id)) G := by
        rintro D G hD rfl
        refine ⟨D, _, rfl, SqL.of upd_same, ?_⟩
        rw [List.take_length, List.all_map]
        exact k _ (s1.new hD)
      refine ⟨_, rfl, a, xs, rfl, ?_⟩
      rcases e1 with e1 | e1
      · refine .inl ⟨SqL.of e1, fun D hD => lc_it walk_list (fun i G => G = upd (upd H q (.tup [.ty "list", .ty "tuple"])) D (.lst (((xs.take i).map (withinV 0 (n - 1))).map V.bl))) rfl (fun i G _ z => by rw [z, ]; exact SqL.of (by rw [upd_ne (ne_of_none e1 hD)]; exact e1)) ?_ (fun G z => fin D G hD z)⟩
        rintro i x G G' hi rfl ⟨rfl, hx⟩
        obtain ⟨S, hS⟩ := p x (List.mem_of_getElem? hx)
        refine ⟨rfl, _, rfl, _, rfl, _, _, rfl, rfl, x, S, 0, n - 1, rfl, plain_same (s1.new hD) hS, _, upd_same, by rw [List.length_map, List.length_map, List.length_take]; exact szl _ (by omega), ?_⟩
        rw [upd_upd, List.take_add_one, hx]
        simp
      · refine .inr ⟨SqT.of e1, fun D hD => lc_it walk_tup (fun i G => G = upd (upd H q (.tup [.ty "list", .ty "tuple"])) D (.lst (((xs.take i).map (withinV 0 (n - 1))).map V.bl))) rfl (fun i G _ z => by rw [z, ]; exact SqT.of (by rw [upd_ne (ne_of_none e1 hD)]; exact e1)) ?_ (fun G z => fin D G hD z)⟩
        rintro i x G G' hi rfl ⟨rfl, hx⟩
        obtain ⟨S, hS⟩ := p x (List.mem_of_getElem? hx)
        refine ⟨rfl, _, rfl, _, rfl, _, _, rfl, rfl, x, S, 0, n - 1, rfl, plain_same (s1.new hD) hS, _, upd_same, by rw [List.length_map, List.length_map, List.length_take]; exact szl _ (by omega), ?_⟩
        rw [upd_upd, List.take_add_one, hx]
        simp
abbrev N_are_moduli : List Str := ["value", "modulus"]
theorem sc_are_moduli : FnScope N_are_moduli ["value"] (defScope s_are_moduli) := ⟨rfl, rfl, rfl, by decide +kernel, rfl, by decide +kernel, by decide +kernel⟩
theorem ok_are_moduli {f fI fW fB : Addr} {fd fdI fdW fdB : FuncData} (F : Fun K "are_moduli" "are_moduli" s_are_moduli f fd) (T : TR mg) (FI : Fun K "is_integer" "is_integer" s_is_integer fI fdI) (gI : mg "is_integer" = some (.ref fI)) (bI : Binds K fdI ["value"] [])
    (FW : Fun K "is_within" "is_within" s_is_within fW fdW) (gW : mg "is_within" = some (.ref fW)) (bW : Binds K fdW ["value", "least", "most"] []) (FB : Fun K "banks_by" "banks_by" s_banks_by fB fdB) (gB : mg "banks_by" = some (.ref fB)) (bB : Binds K fdB ["moduli"] []) :
    FnOk P w K mg base CX0 3 f fd ["value"] (spAreModuli K) := by
  have GW : FnOk P w K mg base CX0 2 fW fdW ["value", "least", "most"] (spWithin K) := ok_is_within FW T FI gI bI
  have GB : FnOk P w K mg base CX0 1 fB fdB ["moduli"] (spBanksBy K) := ok_banks_by FB
  have kW := FW.kp
  have kB := FB.kp
  refine F.ok sc_are_moduli (fun vs H Q E h => ?_) (fun cdv A outer s H vs Q E hr h => ?_)
  · obtain ⟨x, o, rfl, _⟩ := h
    rfl
  · obtain ⟨x, o, rfl, ha, k⟩ := h
    have hrB : Room 1 _ := hr.mono (by decide)
    refine ⟨_, (pss_cons (ps_if (PW.pt (pw_or (pt_not (pt_val (pe_callB call_isiT (by rfl) T.m_isinstance (by decide +kernel) (pa_cons (pv 0) (pa_cons (pe_tup (pa_cons (pe_bltn (v := .ty "list") (u := .type "list") rfl T.m_list (by decide +kernel) rfl) (pa_cons (pe_bltn (v := .ty "tuple") (u := .type "tuple") rfl T.m_tuple (by decide +kernel) rfl) pa_nil))) pa_nil))))) (pw_or1 (pt_not (pt_chain op_le op_le pe_int (pe_callB call_len_seq (by rfl) T.m_len (by decide +kernel) (pa_cons (pv 0) pa_nil)) (pe_glob (v := .int 5) rfl T.g_MOST_MODULI.choose_spec ⟨_, rfl⟩)))))) (pss_one (ps_ret pe_bl)) pss_nil)
 (pss_one (ps_ret (pe_and (pe_callB (cr_all rfl) (by rfl) T.m_all (by decide +kernel) (pa_cons (pe_lc (own := [("modulus", 1)]) (g := (gName 1)) (tt := tYes) rfl sc_are_moduli.nd (pi_seq (pv 0)) (blkOk_by (N := N_are_moduli) (sc := defScope s_are_moduli) (by decide +kernel)) (fun _ _ _ _ _ => (pg_name (i := 1) sc_are_moduli.nd rfl (Or.inl rfl))) (fun _ _ _ _ _ => pts_nil) (fun _ _ _ _ _ => (pe_call GW hr rfl gW kW bW .nil pass0 (pa_cons (pv 1) (pa_cons pe_int (pa_cons (pe_glob (v := .int 32) rfl T.g_MOST_BANKS.choose_spec ⟨_, rfl⟩) pa_nil)))))) pa_nil)) (pe_one (pe_cmpR op_le (pe_call GB hrB rfl gB kB bB .nil pass0 (pa_cons (pv 0) pa_nil)) (pe_glob (v := .int 32) rfl T.g_MOST_BANKS.choose_spec ⟨_, rfl⟩) (nomark _))))))), ?_⟩
    refine ⟨_, rfl, (by show 2 ≤ sizeLine; decide), fun q hq => ?_⟩
    have s1 : Same H (upd H q (.tup [.ty "list", .ty "tuple"])) := (Same.refl H).new hq
    obtain ⟨t, ht, hk⟩ := (ha.same s1).ty
    refine ⟨_, q, _, t, _, _, rfl, upd_same, cls2, ht, hk, _, rfl, ?_⟩
    cases ha with
    | other p h => exact iteT (k _ s1)
    | @seq a xs e p l =>
      have e1 := e.same s1
      have szl : ∀ i : Nat, i < xs.length → i < sizeLine := fun i hi => Nat.lt_of_lt_of_le hi (Nat.le_of_lt (small1000 (by omega)))
      have no : ¬ (1 ≤ xs.length ∧ xs.length ≤ 5) → okMod (some xs) = false := fun z => by
        show (decide _ && _) = false
        rw [decide_eq_false z]
        rfl
      refine iteF ?_
      refine ⟨_, rfl, a, xs, rfl, e1.elim (fun z => .inl (SqL.of z)) (fun z => .inr (SqT.of z)), _, _, rfl, rfl, _, rfl, ?_⟩
      refine ite2 (fun c1 => ?_) (fun c1 => ?_)
      · refine ⟨_, _, rfl, rfl, _, rfl, ?_⟩
        refine ite2 (fun c2 => ?_) (fun c2 => ?_)
        · have a2 : ¬ xs.length ≤ 5 := fun z => by
            have y : decide ((xs.length : Int) ≤ 5) = true := decide_eq_true (by omega)
            rw [y] at c2
            cases c2
          have k' := k _ s1
          rw [no (fun z => a2 z.2)] at k'
          exact k'
        · have ok5 : 1 ≤ xs.length ∧ xs.length ≤ 5 := by
            have a1 := of_decide_eq_true c1
            have a2 : (xs.length : Int) ≤ 5 := by
              cases y : decide ((xs.length : Int) ≤ 5) with
              | true => exact of_decide_eq_true y
              | false => exact absurd (by rw [y]; rfl) c2
            omega
          have okE : okMod (some xs) = (xs.all (withinV 2 32) && decide (prodV xs ≤ 32)) := by
            show (decide _ && _) = _
            rw [decide_eq_true ok5]
            rfl
          rw [okE] at k
          have fin : ∀ (D : Addr) (G : Hp), upd H q (.tup [.ty "list", .ty "tuple"]) D = none → G = upd (upd H q (.tup [.ty "list", .ty "tuple"])) D (.lst (((xs.take xs.length).map (withinV 2 32)).map V.bl)) →
              ∃ bs : List Bool, SqL K G D (bs.map V.bl) ∧ bs.all id = xs.all (withinV 2 32) ∧ Same H G := by
            rintro D G hD rfl
            refine ⟨_, SqL.of upd_same, ?_, s1.new hD⟩
            rw [List.take_length, List.all_map]
            rfl
          refine ⟨_, rfl, a, xs, rfl, ?_⟩
          rcases e1 with e1 | e1
          · refine .inl ⟨SqL.of e1, fun D hD => lc_it walk_list (fun i G => G = upd (upd H q (.tup [.ty "list", .ty "tuple"])) D (.lst (((xs.take i).map (withinV 2 32)).map V.bl))) rfl (fun i G _ z => by rw [z]; exact SqL.of (by rw [upd_ne (ne_of_none e1 hD)]; exact e1)) ?_ (fun G z => ?_)⟩
            · rintro i x G G' hi rfl ⟨rfl, hx⟩
              obtain ⟨S, hS⟩ := p x (List.mem_of_getElem? hx)
              refine ⟨rfl, _, rfl, x, S, 2, 32, rfl, plain_same (s1.new hD) hS, _, upd_same, by rw [List.length_map, List.length_map, List.length_take]; exact szl _ (by omega), ?_⟩
              rw [upd_upd, List.take_add_one, hx]
              simp
            · obtain ⟨bs, b1, b2, b3⟩ := fin D G hD z
              refine ⟨D, bs, rfl, b1, ?_⟩
              rw [b2]
              cases hb : xs.all (withinV 2 32) with
              | false =>
                rw [hb] at k
                exact ⟨_, rfl, iteF (k _ b3)⟩
              | true =>
                rw [hb] at k
                exact ⟨_, rfl, iteT ⟨_, rfl, a, xs, rfl, e.same b3, hb, _, _, rfl, rfl, k _ b3⟩⟩
          · refine .inr ⟨SqT.of e1, fun D hD => lc_it walk_tup (fun i G => G = upd (upd H q (.tup [.ty "list", .ty "tuple"])) D (.lst (((xs.take i).map (withinV 2 32)).map V.bl))) rfl (fun i G _ z => by rw [z]; exact SqT.of (by rw [upd_ne (ne_of_none e1 hD)]; exact e1)) ?_ (fun G z => ?_)⟩
            · rintro i x G G' hi rfl ⟨rfl, hx⟩
              obtain ⟨S, hS⟩ := p x (List.mem_of_getElem? hx)
              refine ⟨rfl, _, rfl, x, S, 2, 32, rfl, plain_same (s1.new hD) hS, _, upd_same, by rw [List.length_map, List.length_map, List.length_take]; exact szl _ (by omega), ?_⟩
              rw [upd_upd, List.take_add_one, hx]
              simp
            · obtain ⟨bs, b1, b2, b3⟩ := fin D G hD z
              refine ⟨D, bs, rfl, b1, ?_⟩
              rw [b2]
              cases hb : xs.all (withinV 2 32) with
              | false =>
                rw [hb] at k
                exact ⟨_, rfl, iteF (k _ b3)⟩
              | true =>
                rw [hb] at k
                exact ⟨_, rfl, iteT ⟨_, rfl, a, xs, rfl, e.same b3, hb, _, _, rfl, rfl, k _ b3⟩⟩
      · have a1 : ¬ 1 ≤ xs.length := fun z => c1 (decide_eq_true (by omega))
        have k' := k _ s1
        rw [no (fun z => a1 z.1)] at k'
        exact ⟨_, rfl, iteT k'⟩
end
end Toy
set_option maxRecDepth 100000
namespace L2
open PySem PySem.Spec PyProof.Rows
/-! operations of tuples, whether the result is a new tuple or an old one -/
section
variable {X : Cx}
theorem OpR.imp {f : Value → Value → Sem Value} {r r' : R2} (h : OpR X f r) (i : ∀ x y H Q, r' x y H Q → r x y H Q) : OpR X f r' := fun pins s σ H x y v u Q I rx ry q => h pins s σ H x y v u Q I rx ry (i x y H Q q)
theorem SlR.imp {r r' : V → Option Int → Option Int → Hp → VK → Prop} (h : SlR X r) (i : ∀ x lo hi H Q, r' x lo hi H Q → r x lo hi H Q) : SlR X r' := fun pins s σ H x v vl vu lo hi sl Q I rx hs pl pu q => h pins s σ H x v vl vu lo hi sl Q I rx hs pl pu (i x lo hi H Q q)
theorem Same.lay {H : Hp} {p : Addr} {o : HO} (h : H p = none) : Same H (upd H p o) := (Same.refl H).new h
theorem cutV_all {xs : List V} {lo hi : Option Int} (h : HT.sIx xs.length 0 lo = 0 ∧ HT.sIx xs.length xs.length hi = xs.length) : cutV xs lo hi = xs := by
  unfold cutV
  rw [h.1, h.2]
  simp
/-- t[i:j] -/
def rSlP : V → Option Int → Option Int → Hp → VK → Prop := fun x lo hi H Q => ∃ (a : Addr) (xs : List V), x = .ref a ∧ H a = some (.tup xs) ∧ ∀ p H', Same H H' → H' p = some (.tup (cutV xs lo hi)) → Q (.ref p) H'
theorem sl_tupP : SlR X rSlP := sl_tupA.imp fun x lo hi H Q ⟨a, xs, e, h, q⟩ => ⟨a, xs, e, SqT.of h, fun z => q a H (Same.refl H) (by rw [cutV_all z]; exact h), fun _ p hp => q p _ (Same.lay hp) upd_same⟩
/-- t * k -/
def rRepP : R2 := fun x y H Q => ∃ (a : Addr) (k : Int) (xs : List V), x = .ref a ∧ y = .int k ∧ H a = some (.tup xs) ∧ xs ≠ [] ∧ 1 ≤ k ∧ k ≤ 1000 ∧ xs.length ≤ 1000 ∧ ∀ p H', Same H H' → H' p = some (.tup (List.replicate k.toNat xs).flatten) → Q (.ref p) H'
theorem op_repP : OpR X (binaryOp .Mult) rRepP := op_repA.imp fun x y H Q ⟨a, k, xs, e1, e2, h, ne, h1, h2, h3, q⟩ => by
  by_cases hk : k = 1
  · subst hk
    exact .inl ⟨a, xs, e1, e2, SqT.of h, q a H (Same.refl H) (by simpa using h)⟩
  · exact .inr ⟨a, k, xs, e1, e2, SqT.of h, ne, by omega, h2, h3, fun p hp => q p _ (Same.lay hp) upd_same⟩
/-- t + u -/
def rCatP : R2 := fun x y H Q => ∃ (a b : Addr) (xs ys : List V), x = .ref a ∧ y = .ref b ∧ H a = some (.tup xs) ∧ H b = some (.tup ys) ∧ xs.length + ys.length ≤ 1000 ∧ ∀ p H', Same H H' → H' p = some (.tup (xs ++ ys)) → Q (.ref p) H'
theorem op_catP : OpR X (binaryOp .Add) rCatP := op_catA.imp fun x y H Q ⟨a, b, xs, ys, e1, e2, h1, h2, l, q⟩ =>
  ⟨a, b, xs, ys, e1, e2, SqT.of h1, SqT.of h2, Nat.le_of_lt (small1000 (by omega)), fun z => q b H (Same.refl H) (by rw [z]; exact h2), fun _ z => q a H (Same.refl H) (by rw [z, List.append_nil]; exact h1), fun _ _ p hp => q p _ (Same.lay hp) upd_same⟩
end
/-! whole numbers in tuples, compared -/
theorem eqvAll_ints : ∀ a b : List Int, PyData.eqvAll (a.map .int) (b.map .int) = decide (a = b)
  | [], [] => rfl
  | [], _ :: _ => rfl
  | _ :: _, [] => rfl
  | x :: xs, y :: ys => by
    have ih := eqvAll_ints xs ys
    show (PyData.eqv (.int x) (.int y) && PyData.eqvAll (xs.map .int) (ys.map .int)) = _
    rw [ih]
    show ((x == y) && decide (xs = ys)) = decide (x :: xs = y :: ys)
    by_cases h : x = y
    · subst h
      simp
    · have h2 : (x == y) = false := by simpa using h
      rw [h2]
      simp [h]
theorem eqv_tups (a b : List Int) : PyData.eqv (.tuple (a.map .int)) (.tuple (b.map .int)) = decide (a = b) := by
  rw [← eqvAll_ints a b]
  rfl
theorem dp_ints' {K : PySem.W.Frag} {H : Hp} : ∀ ns : List Int, DpAll K H (ns.map V.int) (ns.map PyData.int)
  | [] => .nil
  | z :: r => .cons (.int z) (dp_ints' r)
theorem shaped_tup (ns : List Int) : PySem.SeqAt.shaped (.tuple (ns.map PyData.int)) = true := by
  have h : ∀ ns : List Int, PyData.canLayAll0 (ns.map PyData.int) = true ∧ PyData.depthAll (ns.map PyData.int) = 0 := by
    intro ns
    induction ns with
    | nil => exact ⟨rfl, rfl⟩
    | cons z r ih => exact ⟨by simp [PyData.canLayAll0, PyData.canLay0, ih.1], by simp [PyData.depthAll, PyData.depth, ih.2]⟩
  simp [PySem.SeqAt.shaped, PyData.canLay0, PyData.depth, h ns]
/-- t == u of whole numbers -/
def rEqP : R2 := fun x y H Q => ∃ (a b : Addr) (ns ms : List Int), x = .ref a ∧ y = .ref b ∧ H a = some (.tup (ns.map V.int)) ∧ H b = some (.tup (ms.map V.int)) ∧ Q (.bl (decide (ns = ms))) H
theorem op_eqP {X : Cx} (hu : X.A.units + 64 < cLine) : OpR X (compareOp .Eq) rEqP := (op_eqD hu).imp fun x y H Q ⟨a, b, ns, ms, e1, e2, h1, h2, q⟩ =>
  ⟨.tuple (ns.map .int), .tuple (ms.map .int), by rw [e1]; exact .tup (SqT.of h1) (dp_ints' ns), by rw [e2]; exact .tup (SqT.of h2) (dp_ints' ms), shaped_tup ns, shaped_tup ms, by rw [eqv_tups]; exact q⟩
theorem op_neP {X : Cx} (hu : X.A.units + 64 < cLine) : OpR X (compareOp .NotEq) (fun x y H Q => ∃ (a b : Addr) (ns ms : List Int), x = .ref a ∧ y = .ref b ∧ H a = some (.tup (ns.map V.int)) ∧ H b = some (.tup (ms.map V.int)) ∧ Q (.bl (decide (ns ≠ ms))) H) := (op_neD hu).imp fun x y H Q ⟨a, b, ns, ms, e1, e2, h1, h2, q⟩ =>
  ⟨.tuple (ns.map .int), .tuple (ms.map .int), by rw [e1]; exact .tup (SqT.of h1) (dp_ints' ns), by rw [e2]; exact .tup (SqT.of h2) (dp_ints' ms), shaped_tup ns, shaped_tup ms, by rw [eqv_tups, ← decide_not]; exact q⟩
/-- len, its reading by name -/
def rLenS (K : PySem.W.Frag) : List V → Hp → VK → Prop := fun xs H Q => ∃ p ys, xs = [V.ref p] ∧ (SqL K H p ys ∨ SqT K H p ys) ∧ Q (V.int (ys.length : Int)) H
theorem call_lenS {X : Cx} : CallR X (.builtin "len") (rLenS X.K) := call_len_seq
end L2
set_option maxRecDepth 100000
namespace Toy
open PySem L2
abbrev s_shortest_weights : Stmt := top 16
/-! the normal form of weights, as mathematics -/
def perOk (t : List Int) (n : Nat) : Bool := decide ((List.replicate (t.length / n) (t.take n)).flatten = t)
def divsTo (m i : Nat) : List Nat := ((List.range i).map (· + 1)).filter fun n => decide (m % n = 0)
def divs (t : List Int) : List Nat := divsTo t.length t.length
def ivs (ls : List Nat) : List V := ls.map fun (n : Nat) => V.int (n : Int)
theorem divsTo_succ (m i : Nat) : divsTo m (i + 1) = if m % (i + 1) = 0 then divsTo m i ++ [i + 1] else divsTo m i := by
  unfold divsTo
  rw [List.range_succ, List.map_append, List.filter_append]
  by_cases h : m % (i + 1) = 0
  · simp [h]
  · simp [h]
theorem divsTo_len (m i : Nat) : (divsTo m i).length ≤ i := by
  unfold divsTo
  exact Nat.le_trans (List.length_filter_le ..) (by simp)
theorem ivs_snoc (ls : List Nat) (n : Nat) : ivs (ls ++ [n]) = ivs ls ++ [V.int (n : Int)] := by simp [ivs]
def per (t : List Int) : Nat := (((divs t).filter (perOk t)).head?).getD t.length
def rotr (t : List Int) : List Int := t.drop (t.length - 1) ++ t.take (t.length - 1)
def trimW : Nat → List Int → List Int → List Int × List Int
  | 0, a, t => (a, t)
  | n + 1, a, t => if a ≠ [] ∧ a.getLast? = t.getLast? then trimW n a.dropLast (rotr t) else (a, t)
def normW (a t : List Int) : List Int × List Int := trimW a.length a (t.take (per t))
theorem mem_divs {t : List Int} {n : Nat} (h : n ∈ divs t) : 1 ≤ n ∧ n ≤ t.length ∧ t.length % n = 0 := by
  unfold divs divsTo at h
  obtain ⟨h1, h2⟩ := List.mem_filter.mp h
  obtain ⟨m, hm, rfl⟩ := List.mem_map.mp h1
  have := List.mem_range.mp hm
  exact ⟨by omega, by omega, of_decide_eq_true h2⟩
theorem len_in_divs {t : List Int} (h : t ≠ []) : t.length ∈ divs t := by
  have hp : 0 < t.length := List.length_pos_iff.mpr h
  exact List.mem_filter.mpr ⟨List.mem_map.mpr ⟨t.length - 1, List.mem_range.mpr (by omega), by omega⟩, by simp⟩
theorem perOk_len {t : List Int} (h : t ≠ []) : perOk t t.length = true := by
  have hp : 0 < t.length := List.length_pos_iff.mpr h
  unfold perOk
  rw [Nat.div_self hp, List.take_length]
  simp
theorem some_per {t : List Int} (h : t ≠ []) : (divs t).filter (perOk t) ≠ [] := fun z => by
  have m : t.length ∈ (divs t).filter (perOk t) := List.mem_filter.mpr ⟨len_in_divs h, perOk_len h⟩
  rw [z] at m
  cases m
theorem cut_take {xs : List V} {n : Nat} (h : n ≤ xs.length) : cutV xs none (some (n : Int)) = xs.take n := by
  unfold cutV
  rw [HT.sIx_none, HT.sIx_nat, Nat.min_eq_left h]
  simp
theorem sIx_m1 {m d : Nat} : HT.sIx m d (some (-1)) = m - 1 := by
  show (if (-1 : Int) < 0 then ((-1 : Int) + (m : Int)).toNat else min (-1 : Int).toNat m) = m - 1
  rw [if_pos (by decide)]
  omega
theorem cut_but (xs : List V) : cutV xs none (some (-1)) = xs.take (xs.length - 1) := by
  unfold cutV
  rw [HT.sIx_none, sIx_m1]
  simp
theorem cut_end (xs : List V) : cutV xs (some (-1)) none = xs.drop (xs.length - 1) := by
  unfold cutV
  rw [HT.sIx_none, sIx_m1]
  exact List.take_of_length_le (by simp)
theorem getLast_at {xs : List Int} {z : Int} (h : xs.getLast? = some z) : atI (xs.map V.int) (-1) = some (V.int z) := by
  cases hx : xs.length with
  | zero =>
    rw [List.length_eq_zero_iff.mp hx] at h
    cases h
  | succ n =>
    have e : ixN (xs.map V.int).length (-1) = some n := by
      rw [List.length_map, hx]
      show (if _ then _ else _) = _
      simp
      omega
    unfold atI
    rw [e]
    show (xs.map V.int)[n]? = _
    have e2 : xs[n]? = some z := by
      rw [← h, List.getLast?_eq_getElem?, hx]
      simp
    rw [List.getElem?_map, e2]
    rfl
theorem ivs_at {ls : List Nat} {i : Nat} {x : V} (h : (ivs ls)[i]? = some x) : ∃ n, ls[i]? = some n ∧ x = V.int (n : Int) := by
  unfold ivs at h
  rw [List.getElem?_map] at h
  cases e : ls[i]? with
  | none =>
    rw [e] at h
    cases h
  | some n =>
    rw [e] at h
    exact ⟨n, rfl, (Option.some.inj h).symm⟩
theorem take_len {ms : List Int} {n : Nat} (h : n ≤ ms.length) : (ms.take n).length = n := by
  rw [List.length_take]
  omega
/-- the second comprehension's list: the tuples of the periods found so far -/
def Found (ms : List Int) (ls : List Nat) (G : Hp) (rs : List V) : Prop := (rs = [] ∧ ls.filter (perOk ms) = []) ∨ ∃ (p : Addr) (r : List V) (n : Nat) (r' : List Nat), rs = .ref p :: r ∧ ls.filter (perOk ms) = n :: r' ∧ G p = some (.tup ((ms.take n).map V.int))
theorem Found.keep {ms : List Int} {ls : List Nat} {G G' : Hp} {rs : List V} {D : Addr} (h : Found ms ls G rs) (hD : ∃ xs, G D = some (.lst xs)) (k : But D G G') : Found ms ls G' rs := by
  rcases h with h | ⟨p, r, n, r', e1, e2, e3⟩
  · exact .inl h
  · refine .inr ⟨p, r, n, r', e1, e2, k p _ (fun z => ?_) e3⟩
    obtain ⟨xs, hD⟩ := hD
    rw [z, hD] at e3
    cases e3
theorem Found.more {ms : List Int} {ls : List Nat} {G : Hp} {rs : List V} {n : Nat} {p : Addr} (h : Found ms ls G rs) (ok : perOk ms n = true) (e : G p = some (.tup ((ms.take n).map V.int))) : Found ms (ls ++ [n]) G (rs ++ [.ref p]) := by
  have f1 : (ls ++ [n]).filter (perOk ms) = ls.filter (perOk ms) ++ [n] := by
    rw [List.filter_append]
    simp [ok]
  rcases h with ⟨h1, h2⟩ | ⟨q, r, m, r', e1, e2, e3⟩
  · exact .inr ⟨p, [], n, [], by rw [h1]; rfl, by rw [f1, h2]; rfl, e⟩
  · exact .inr ⟨q, r ++ [.ref p], m, r' ++ [n], by rw [e1]; rfl, by rw [f1, e2]; rfl, e3⟩
theorem Found.skip {ms : List Int} {ls : List Nat} {G : Hp} {rs : List V} {n : Nat} (h : Found ms ls G rs) (ok : perOk ms n = false) : Found ms (ls ++ [n]) G rs := by
  have f1 : (ls ++ [n]).filter (perOk ms) = ls.filter (perOk ms) := by
    rw [List.filter_append]
    simp [ok]
  unfold Found
  rw [f1]
  exact h
/-- the loop's measure: how long the tuple in slot 0 is -/
def lenAt (σ : L2.St) (G : Hp) : Nat := match σ with
  | some (.ref a) :: _ => match G a with
    | some (.tup xs) => xs.length
    | _ => 0
  | _ => 0
theorem lenAt_of {σ : L2.St} {G : Hp} {a : Addr} {xs : List V} (h : G a = some (.tup xs)) : lenAt (some (.ref a) :: σ) G = xs.length := by
  simp [lenAt, h]
theorem rotr_len (t : List Int) : (rotr t).length = t.length := by
  unfold rotr
  rw [List.length_append, List.length_drop, List.length_take]
  omega
theorem trim_go {A T : List Int} (h : A ≠ []) (e : A.getLast? = T.getLast?) : trimW A.length A T = trimW A.dropLast.length A.dropLast (rotr T) := by
  cases hA : A.length with
  | zero => exact absurd (List.length_eq_zero_iff.mp hA) h
  | succ n =>
    have e2 : A.dropLast.length = n := by
      rw [List.length_dropLast]
      omega
    rw [e2]
    show (if A ≠ [] ∧ A.getLast? = T.getLast? then _ else _) = _
    rw [if_pos ⟨h, e⟩]
theorem trim_stop {A T : List Int} (h : A = [] ∨ A.getLast? ≠ T.getLast?) : trimW A.length A T = (A, T) := by
  cases hA : A.length with
  | zero => rfl
  | succ n =>
    show (if A ≠ [] ∧ A.getLast? = T.getLast? then _ else _) = _
    rw [if_neg]
    rintro ⟨h1, h2⟩
    rcases h with h | h
    · exact h1 h
    · exact h h2
theorem last_some {A : List Int} (h : A ≠ []) : ∃ z, A.getLast? = some z := by
  cases e : A.getLast? with
  | none => exact absurd (List.getLast?_eq_none_iff.mp e) h
  | some z => exact ⟨z, rfl⟩
def spShort : Sp := fun vs H Q _ => ∃ (a b : Addr) (ns ms : List Int), vs = [.ref a, .ref b] ∧ H a = some (.tup (ns.map V.int)) ∧ H b = some (.tup (ms.map V.int)) ∧ ms ≠ [] ∧ ns.length ≤ 300 ∧ ms.length ≤ 300 ∧
  ∀ (H' : Hp) (p x y : Addr), Same H H' → H' p = some (.tup [.ref x, .ref y]) → H' x = some (.tup ((normW ns ms).1.map V.int)) → H' y = some (.tup ((normW ns ms).2.map V.int)) → Q (.ref p) H'
section
variable {P : Program} {w : World} {K : PySem.W.Frag} {mg : Str → Option Value} {base : Heap}
abbrev N_shortest_weights : List Str := ["ahead", "turn", "lengths", "length"]
theorem sc_shortest_weights : FnScope N_shortest_weights ["ahead", "turn"] (defScope s_shortest_weights) := ⟨rfl, rfl, rfl, by decide +kernel, rfl, by decide +kernel, by decide +kernel⟩
theorem ok_shortest_weights {f : Addr} {fd : FuncData} (F : Fun K "shortest_weights" "shortest_weights" s_shortest_weights f fd) (T : TR mg) : FnOk P w K mg base CX0 1 f fd ["ahead", "turn"] spShort := by
  refine F.ok sc_shortest_weights (fun vs H Q E h => ?_) (fun cdv A outer s H vs Q E hr h => ?_)
  · obtain ⟨a, b, ns, ms, rfl, _⟩ := h
    rfl
  · obtain ⟨a, b, ns, ms, rfl, ea, eb, hne, hn, hm, k⟩ := h
    refine ⟨_, (pss_cons (ps_setLc (i := 2) (own := [("length", 3)]) (g := (gName 3)) rfl sc_shortest_weights.nd rfl rfl (sw_true rfl rfl rfl (by decide +kernel)) (pi_range2 rfl T.m_range (pa_cons pe_int (pa_cons (pe_op op_add (pe_callB (show CallR _ (.builtin "len") (rLenS K) from call_lenS) (by rfl) T.m_len (by decide +kernel) (pa_cons (pv 1) pa_nil)) pe_int) pa_nil))) (blkOk_by (N := N_shortest_weights) (sc := defScope s_shortest_weights) (by decide +kernel)) (fun _ _ _ _ _ => (pg_name (i := 3) sc_shortest_weights.nd rfl (Or.inl rfl))) (fun _ _ _ _ _ => (pts_one (pt_cmpR op_eq (pe_op op_mod (pe_callB (show CallR _ (.builtin "len") (rLenS K) from call_lenS) (by rfl) T.m_len (by decide +kernel) (pa_cons (pv 1) pa_nil)) (pv 3)) pe_int (nomark _)))) (fun _ _ _ _ _ => (pv 3)))
 (pss_cons (ps_set (i := 1) sc_shortest_weights.nd rfl (Or.inr rfl) (pe_ix ix_list (pe_lc (own := [("length", 3)]) (g := (gName 3)) rfl sc_shortest_weights.nd (pi_list (pv 2)) (blkOk_by (N := N_shortest_weights) (sc := defScope s_shortest_weights) (by decide +kernel)) (fun _ _ _ _ _ => (pg_name (i := 3) sc_shortest_weights.nd rfl (Or.inl rfl))) (fun _ _ _ _ _ => (pts_one (pt_cmpR (op_eqP hr.units) (pe_op op_repP (pe_slice sl_tupP (pv 1) po_none (po_some (pv 3))) (pe_op op_fdiv (pe_callB (show CallR _ (.builtin "len") (rLenS K) from call_lenS) (by rfl) T.m_len (by decide +kernel) (pa_cons (pv 1) pa_nil)) (pv 3))) (pv 1) (nomark _)))) (fun _ _ _ _ _ => (pe_slice sl_tupP (pv 1) po_none (po_some (pv 3))))) pe_int (fun _ _ => rfl)))
 (pss_cons (ps_while PassesOwn.never (PW.pt (pw_and (pt_truth (pv 0) (fun _ => rfl)) (pw_and1 (pt_cmpR op_eq (pe_ix ix_tup (pv 0) (pe_un un_neg pe_int) (fun _ _ => rfl)) (pe_ix ix_tup (pv 1) (pe_un un_neg pe_int) (fun _ _ => rfl)) (nomark _)))))
 (pss_cons (ps_set (i := 0) sc_shortest_weights.nd rfl (Or.inl rfl) (pe_slice sl_tupP (pv 0) po_none (po_some (pe_un un_neg pe_int))))
 (pss_one (ps_set (i := 1) sc_shortest_weights.nd rfl (Or.inr rfl) (pe_op op_catP (pe_slice sl_tupP (pv 1) (po_some (pe_un un_neg pe_int)) po_none) (pe_slice sl_tupP (pv 1) po_none (po_some (pe_un un_neg pe_int))))))))
 (pss_one (ps_ret (pe_tup (pa_cons (pv 0) (pa_cons (pv 1) pa_nil)))))))), ?_⟩
    have lm : (ms.map V.int).length = ms.length := List.length_map ..
    have hu : ∀ i : Nat, i < 1000 → i < sizeLine := fun i hi => small1000 (by omega)
    have hp : 0 < ms.length := List.length_pos_iff.mpr hne
    refine ⟨_, rfl, b, _, rfl, .inr (SqT.of eb), _, _, rfl, rfl, _, _, rfl, ⟨by decide, by decide, by rw [lm]; omega, by rw [lm]; omega⟩, fun D hD => ?_⟩
    have eN : (((ms.map V.int).length : Int) + 1 - 1).toNat = ms.length := by rw [lm]; omega
    have nD : ∀ {b : Addr} {o : HO} {u : HO}, H b = some o → (upd H D u) b = some o := fun {b o u} e => by rw [upd_ne (ne_of_none e hD)]; exact e
    refine lc_it walk_range (fun i G => G = upd H D (.lst (ivs (divsTo ms.length i)))) rfl (fun _ _ _ _ => trivial) ?_ ?_
    · rintro i x G G' hi rfl ⟨rfl, rfl⟩
      have hi' : i < ms.length := by omega
      have dl := divsTo_len ms.length i
      refine ⟨rfl, _, rfl, b, _, rfl, .inr (SqT.of (nD eb)), _, rfl, _, _, rfl, rfl, (by show (0 : Int) < 1 + (i : Int); omega), rfl, _, rfl, ?_⟩
      have em : ((ms.map V.int).length : Int) % (1 + (i : Int)) = ((ms.length % (i + 1) : Nat) : Int) := by
        rw [lm, show (1 + (i : Int)) = ((i + 1 : Nat) : Int) by omega]
        rfl
      refine ite2 (fun c => ?_) (fun c => ?_)
      · have c2 : ms.length % (i + 1) = 0 := by
          have z := V.int.inj (of_decide_eq_true c)
          rw [em] at z
          omega
        refine ⟨_, rfl, _, upd_same, hu _ (by unfold ivs; rw [List.length_map]; omega), ?_⟩
        rw [upd_upd, divsTo_succ, if_pos c2, ivs_snoc]
        have e1 : (1 + (i : Int)) = ((i + 1 : Nat) : Int) := by omega
        rw [← e1]
      · have c2 : ¬ ms.length % (i + 1) = 0 := fun z => c (decide_eq_true (by show V.int (_ % _) = V.int 0; rw [em, z]; rfl))
        rw [divsTo_succ, if_neg c2]
    · rintro G rfl
      rw [eN]
      have s1 : Same H (upd H D (.lst (ivs (divs ms)))) := Same.lay hD
      refine ⟨_, rfl, D, rfl, ⟨_, SqL.of upd_same⟩, fun D2 hD2 => ?_⟩
      have nDD : D ≠ D2 := ne_of_none upd_same hD2
      refine lc_it (walk_list (xs := ivs (divs ms))) (fun i G => ∃ rs, But D2 (upd H D (.lst (ivs (divs ms)))) G ∧ G D2 = some (.lst rs) ∧ rs.length ≤ i ∧ Found ms ((divs ms).take i) G rs) ?_ ?_ ?_ ?_
      · exact ⟨[], (But.refl D2 _).put, upd_same, Nat.le_refl _, .inl ⟨rfl, by simp⟩⟩
      · rintro i G _ ⟨rs, kp, _⟩
        exact SqL.of (kp D _ nDD upd_same)
      · rintro i x G G' hi ⟨rs, kp, hG, hl, fo⟩ ⟨rfl, hx⟩
        obtain ⟨n, hn', rfl⟩ := ivs_at hx
        obtain ⟨n1, n2, n3⟩ := mem_divs (List.mem_of_getElem? hn')
        have ebG : G' b = some (.tup (ms.map V.int)) := kp b _ (ne_of_none (s1 _ _ eb) hD2) (s1 _ _ eb)
        have ct : cutV (ms.map V.int) none (some (n : Int)) = (ms.take n).map V.int := by rw [cut_take (by rw [lm]; exact n2), List.map_take]
        refine ⟨rfl, _, rfl, _, rfl, _, rfl, b, _, rfl, ebG, fun p1 G1 s2 h1 => ?_⟩
        rw [ct] at h1
        have q1 : ((ms.length : Int) / (n : Int)) = ((ms.length / n : Nat) : Int) := rfl
        have dv1 : 1 ≤ ms.length / n := (Nat.le_div_iff_mul_le (by omega)).mpr (by omega)
        have dv2 : ms.length / n ≤ ms.length := Nat.div_le_self ..
        have tl : ((ms.take n).map V.int).length = n := by rw [List.length_map, take_len n2]
        refine ⟨_, rfl, b, _, rfl, .inr (SqT.of (s2 _ _ ebG)), _, rfl, _, _, rfl, rfl, ⟨by omega, by omega⟩, p1, ((ms.map V.int).length : Int) / (n : Int), _, rfl, rfl, h1, (fun z => by rw [z] at tl; simp at tl; omega), by rw [lm, q1]; omega, by rw [lm, q1]; omega, by rw [tl]; omega, fun p2 G2 s3 h2 => ?_⟩
        have rp : (List.replicate (((ms.map V.int).length : Int) / (n : Int)).toNat ((ms.take n).map V.int)).flatten = ((List.replicate (ms.length / n) (ms.take n)).flatten).map V.int := by
          rw [lm, q1, Int.toNat_natCast, List.map_flatten, List.map_replicate]
        rw [rp] at h2
        refine ⟨_, rfl, p2, b, _, _, rfl, rfl, h2, s3 _ _ (s2 _ _ ebG), _, rfl, ?_⟩
        have s4 : Same G' G2 := fun _ _ z => s3 _ _ (s2 _ _ z)
        have tk : (divs ms).take (i + 1) = (divs ms).take i ++ [n] := by
          rw [List.take_add_one, hn']
          rfl
        refine ite2 (fun c => ?_) (fun c => ?_)
        · have ok : perOk ms n = true := c
          refine ⟨_, rfl, _, rfl, _, rfl, b, _, rfl, s4 _ _ ebG, fun p3 G3 s5 h3 => ?_⟩
          rw [ct] at h3
          have s6 : Same G' G3 := fun _ _ z => s5 _ _ (s4 _ _ z)
          have n3D : p3 ≠ D2 := fun z => by
            rw [z, s6 _ _ hG] at h3
            cases h3
          have il : i < ms.length := by
            have a1 := divsTo_len ms.length ms.length
            have a2 : (ivs (divs ms)).length = (divs ms).length := List.length_map ..
            have a3 : (divs ms).length ≤ ms.length := a1
            omega
          refine ⟨rs, s6 _ _ hG, hu _ (by omega), rs ++ [.ref p3], fun c' o nc e => ?_, upd_same, by simp; omega, ?_⟩
          · rw [upd_ne nc]
            exact s6 _ _ (kp _ _ nc e)
          · rw [tk]
            exact (fo.keep ⟨_, hG⟩ (fun c' o nc e => by rw [upd_ne nc]; exact s6 _ _ e)).more ok (by rw [upd_ne n3D]; exact h3)
        · have ok : perOk ms n = false := by
            cases z : perOk ms n with
            | true => exact absurd z c
            | false => rfl
          refine ⟨rs, fun c' o nc e => s4 _ _ (kp _ _ nc e), s4 _ _ hG, by omega, ?_⟩
          rw [tk]
          exact (fo.keep ⟨_, hG⟩ fun _ _ _ e => s4 _ _ e).skip ok
      · rintro G ⟨rs, kp, hG, hl, fo⟩
        have a2 : (ivs (divs ms)).length = (divs ms).length := List.length_map ..
        rw [a2, List.take_length] at fo
        have keep : Same H G := fun c' o e => kp c' o (ne_of_none (s1 _ _ e) hD2) (s1 _ _ e)
        obtain ⟨p, r, n, r', rfl, e2, e3⟩ : ∃ (p : Addr) (r : List V) (n : Nat) (r' : List Nat), rs = .ref p :: r ∧ (divs ms).filter (perOk ms) = n :: r' ∧ G p = some (.tup ((ms.take n).map V.int)) := by
          rcases fo with ⟨_, z⟩ | z
          · exact absurd z (some_per hne)
          · exact z
        have pe : per ms = n := by
          unfold per
          rw [e2]
          rfl
        have mn : n ∈ divs ms := by
          have z : n ∈ (divs ms).filter (perOk ms) := by
            rw [e2]
            exact List.mem_cons_self ..
          exact (List.mem_filter.mp z).1
        obtain ⟨n1, n2, _⟩ := mem_divs mn
        refine ⟨D2, _, 0, .ref p, rfl, rfl, SqL.of hG, atI_nat (j := 0) rfl, ?_⟩
        refine while_by (fun σ G2 => ∃ (x y : Addr) (A T : List Int), σ = [some (.ref x), some (.ref y), some (.ref D), none] ∧ Same H G2 ∧ G2 x = some (.tup (A.map V.int)) ∧ G2 y = some (.tup (T.map V.int)) ∧ T ≠ [] ∧ A.length ≤ 300 ∧ T.length ≤ 300 ∧ trimW A.length A T = normW ns ms) lenAt ?_ ?_ ?_
        · refine ⟨a, p, ns, ms.take n, rfl, keep, keep _ _ ea, e3, ?_, hn, ?_, ?_⟩
          · intro z
            have y := take_len n2
            rw [z] at y
            simp at y
            omega
          · rw [take_len n2]
            omega
          · unfold normW
            rw [pe]
        · rintro σ G2 ⟨x, y, A, T', rfl, s2, hx, hy, tne, al, tl, inv⟩
          have lA : (A.map V.int).length = A.length := List.length_map ..
          have lT : (T'.map V.int).length = T'.length := List.length_map ..
          have fin : (A = [] ∨ A.getLast? ≠ T'.getLast?) → ∀ q, G2 q = none → Q (.ref q) (upd G2 q (.tup [.ref x, .ref y])) := by
            intro z q hq
            rw [trim_stop z] at inv
            have s3 : Same G2 (upd G2 q (.tup [.ref x, .ref y])) := Same.lay hq
            exact k _ q x y (fun b o e => s3 _ _ (s2 _ _ e)) upd_same (by rw [← inv]; exact s3 _ _ hx) (by rw [← inv]; exact s3 _ _ hy)
          refine ⟨_, rfl, _, .inr (.inl ⟨_, SqT.of hx, rfl⟩), ?_⟩
          refine ite2 (fun c => ?_) (fun c => ?_)
          · have hA : A ≠ [] := fun z => by
              rw [z] at c
              cases c
            obtain ⟨u, hu1⟩ := last_some hA
            obtain ⟨v, hv1⟩ := last_some tne
            refine ⟨_, rfl, _, rfl, x, _, _, _, rfl, rfl, SqT.of hx, getLast_at hu1, _, rfl, _, rfl, y, _, _, _, rfl, rfl, SqT.of hy, getLast_at hv1, rfl, _, rfl, ?_⟩
            refine ite2 (fun c2 => ?_) (fun c2 => ?_)
            · have euv : u = v := V.int.inj (of_decide_eq_true c2)
              have eL : A.getLast? = T'.getLast? := by rw [hu1, hv1, euv]
              rw [trim_go hA eL] at inv
              refine ⟨_, rfl, _, rfl, _, rfl, x, _, rfl, hx, fun x1 G3 s3 hx1 => ?_⟩
              rw [cut_but, lA] at hx1
              refine ⟨_, rfl, _, rfl, _, rfl, y, _, rfl, s3 _ _ hy, fun y1 G4 s4 hy1 => ?_⟩
              rw [cut_end, lT] at hy1
              refine ⟨_, rfl, _, rfl, _, rfl, y, _, rfl, s4 _ _ (s3 _ _ hy), fun y2 G5 s5 hy2 => ?_⟩
              rw [cut_but, lT] at hy2
              refine ⟨y1, y2, _, _, rfl, rfl, s5 _ _ hy1, hy2, by rw [List.length_drop, List.length_take, lT]; omega, fun y3 G6 s6 hy3 => ?_⟩
              have s7 : Same G2 G6 := fun _ _ z => s6 _ _ (s5 _ _ (s4 _ _ (s3 _ _ z)))
              have hx2 : G6 x1 = some (.tup (A.dropLast.map V.int)) := by
                rw [List.dropLast_eq_take, List.map_take]
                exact s6 _ _ (s5 _ _ (s4 _ _ hx1))
              have hy4 : G6 y3 = some (.tup ((rotr T').map V.int)) := by
                unfold rotr
                rw [List.map_append, List.map_drop, List.map_take]
                exact hy3
              refine ⟨⟨x1, y3, A.dropLast, rotr T', rfl, fun _ _ z => s7 _ _ (s2 _ _ z), hx2, hy4, fun z => ?_, by rw [List.length_dropLast]; omega, by rw [rotr_len]; exact tl, inv⟩, ?_⟩
              · have y' := rotr_len T'
                rw [z] at y'
                exact tne (List.length_eq_zero_iff.mp y'.symm)
              · show lenAt (some (.ref x1) :: _) G6 < lenAt (some (.ref x) :: _) G2
                rw [lenAt_of hx2, lenAt_of hx, List.length_map, List.length_map, List.length_dropLast]
                have := List.length_pos_iff.mpr hA
                omega
            · exact ⟨_, rfl, _, rfl, (by show 2 ≤ sizeLine; decide), fin (.inr fun z => c2 (decide_eq_true (by rw [hu1, hv1] at z; show V.int u = V.int v; rw [Option.some.inj z])))⟩
          · have hA : A = [] := by
              cases A with
              | nil => rfl
              | cons z r => exact absurd rfl c
            exact iteF ⟨_, rfl, _, rfl, (by show 2 ≤ sizeLine; decide), fin (.inl hA)⟩
        · rintro σ G2 Q1 Q2 hi ⟨v, e, kk, ht, h⟩
          refine ⟨v, e, kk, ht, ?_⟩
          cases kk with
          | false => exact hi _ _ h
          | true =>
            obtain ⟨v1, w1, i1, w2, a1, x1, i2, u1, w3, w4, w5, w6, v2, y1, i3, y2, a3, x3, i4, u3, y3, y4, y5, y6, z1, c1, z2, z3⟩ := h
            exact ⟨v1, w1, i1, w2, a1, x1, i2, u1, w3, w4, w5, w6, v2, y1, i3, y2, a3, x3, i4, u3, y3, y4, y5, y6, z1, c1, z2, hi _ _ z3⟩
end
end Toy
set_option maxRecDepth 100000
namespace L2
open PySem PySem.Spec PyProof.Rows
/-- a target o.f among several -/
def gFld (K : PySem.W.Frag) (to : TE) (f : Str) : TG := fun v σ H Q => to σ H fun x H1 => ∃ a C dx fs, x = .ref a ∧ H1 a = some (.ins C dx fs) ∧ Cls K C ∧ NoAttr K C f ∧ fs.length < 1000 ∧ Q σ (upd H1 a (.ins C dx (putF f v fs)))
theorem pg_fld {X : Cx} {o : Expr} {f : Str} {p : Pos} {to : TE} (ho : PE X o to) : PG X (.Attribute o f p) (gFld X.K to f) := by
  constructor
  intro pins s σ H v u Q I r h
  refine PySem.W.kas_attr (thn (ho.run pins s σ H _ I h) ?_)
  rintro ov s1 ⟨x, H1, J, rx, a, C, dx, fs, rfl, ea, c, n, l, q⟩
  obtain rfl : ov = Value.ref a := rx
  exact setattr_ok J ea c n l r fun s2 J2 => ⟨σ, _, J2, q⟩
/-- raise C(e, ..), where C's __init__ stores fields -/
def tRaiseX (C : Addr) (n : Nat) (fs : List V → List (Str × V)) (t : TA) : St → Hp → XK → Prop := fun σ H Q => t σ H fun vs H1 => vs.length = n ∧ ∀ d H', H1 d = none → Same H1 H' → H' d = some (.xd (fs vs)) → Q (.ref C) (some d) H'
theorem pmk_x {X : Cx} {k n : Nat} {fI C : Addr} {fd : FuncData} {ps : List Str} {fs : List V → List (Str × V)} {x : Str} {p pos : Pos} {e : Expr} {es : List Expr} {t : TA} (T : XvI X.K C fI) (F : FnOk X.prog X.w X.K X.mg X.base CX0 k fI fd ps (spX C n fs)) (hr : Room (k + 1) X.A) (hb : Binds X.K fd ps []) (hn : n ≤ 1000)
    (hg : Gl X x) (hm : X.mg x = some (.ref C)) (mo : Mono t) (ha : PA X (e :: es) t) (hdb : (x == ("__debug__" : Str)) = false := by decide)
    (he : starEach (e :: es) X.env = (false, eval e X.env) :: starEach es X.env := by rfl) (hpl : (backTo pos (starEach es X.env)).any (·.1) = false := by rfl) : PMk X (.Call (.Name x p) (e :: es) [] pos) (tRaiseX C n fs t) := by
  intro pins s σ H Q I h
  refine pmk_oex T.cls.oex T.ini T.ty F hr hb .nil pass0 hg hm ha hdb he hpl pins s σ H Q I (mo _ _ _ _ (fun vs H1 z => ⟨by rw [z.1]; exact hn, fun a ha => ?_⟩) h)
  refine ⟨a, vs, by rw [List.append_nil], z.1, upd_same, fun dx H' hd nd h1 h2 h3 => ⟨rfl, dx, _, h1, h2, ?_, z.2 dx _ ?_ ?_ upd_same⟩⟩
  · rw [upd_ne nd] at hd
    exact hd
  · rw [upd_ne nd] at hd
    exact hd
  · intro b o eb
    have hd' : H1 dx = none := by
      rw [upd_ne nd] at hd
      exact hd
    have n1 := ne_of_none eb ha
    have n2 := ne_of_none eb hd'
    rw [upd_ne n2, del_ne n1, h3 b n1 n2, upd_ne n1]
    exact eb
end L2
set_option maxRecDepth 100000
namespace Toy
open PySem L2
abbrev s_BadRule : Stmt := (inClass (top 19) 0)
abbrev s_BadNumber : Stmt := (inClass (top 20) 0)
abbrev s_TooMany : Stmt := (inClass (top 22) 0)
abbrev s_Rule_init : Stmt := (inClass (top 34) 0)
abbrev s_Rule_classes : Stmt := (inClass (top 34) 9)
abbrev s_Rule_banks : Stmt := (inClass (top 34) 8)
/-! errors -/
def fs1 (f : Str) : List V → List (Str × V) := fun ys => match ys with
  | [y] => [(f, y)]
  | _ => []
def fs2 (f g : Str) : List V → List (Str × V) := fun ys => match ys with
  | [y, z] => [(g, z), (f, y)]
  | _ => []
/-- what the top has written of the errors' classes -/
structure TErr (K : PySem.W.Frag) (mg : Str → Option Value) (CR CN CT uR uN uT : Addr) (fdR fdN fdT : FuncData) : Prop where
  gBadRule : mg "BadRule" = some (.ref CR)
  iBadRule : XvI K CR uR
  fBadRule : Fun K "__init__" "BadRule.__init__" s_BadRule uR fdR
  nBadRule : PySem.W.findIn K (.ref CR) "part" = some none
  bBadRule : Binds K fdR ["self", "part"] []
  gBadNumber : mg "BadNumber" = some (.ref CN)
  iBadNumber : XvI K CN uN
  fBadNumber : Fun K "__init__" "BadNumber.__init__" s_BadNumber uN fdN
  nBadNumber : PySem.W.findIn K (.ref CN) "value" = some none
  bBadNumber : Binds K fdN ["self", "value"] []
  gTooMany : mg "TooMany" = some (.ref CT)
  iTooMany : XvI K CT uT
  fTooMany : Fun K "__init__" "TooMany.__init__" s_TooMany uT fdT
  nWhat : PySem.W.findIn K (.ref CT) "what" = some none
  nMost : PySem.W.findIn K (.ref CT) "most" = some none
  bTooMany : Binds K fdT ["self", "what", "most"] []
theorem mono_c {v : V} {t : TA} (h : Mono t) : Mono (tCons (tC v) t) := fun σ H Q Q' i q => h σ H _ _ (fun vs H' z => i _ _ z) q
theorem CallR.imp {X : Cx} {g : Value} {r r' : List V → Hp → VK → Prop} (h : CallR X g r) (i : ∀ xs H Q, r' xs H Q → r xs H Q) : CallR X g r' := fun pins s σ H xs us Q I rr q => h pins s σ H xs us Q I rr (i xs H Q q)
/-- tuple(x) -/
def rTupP : List V → Hp → VK → Prop := fun xs H Q => ∃ (a : Addr) (ys : List V), xs = [.ref a] ∧ SeqAt H a ys ∧ ∀ q H', Same H H' → H' q = some (.tup ys) → Q (.ref q) H'
theorem call_tupP {X : Cx} : CallR X (.type "tuple") rTupP := CallR.imp call_tuple_of fun xs H Q ⟨a, ys, e, h, q⟩ => by
  rcases h with h | h
  · exact ⟨a, ys, e, .inl ⟨SqL.of h, fun l hl => q l _ (Same.lay hl) upd_same⟩⟩
  · exact ⟨a, ys, e, .inr ⟨SqT.of h, q a H (Same.refl H) h⟩⟩
/-! rules -/
theorem ne1 : ¬ (("moduli" : Str) = "ahead") := by decide +kernel
theorem ne2 : ¬ (("moduli" : Str) = "turn") := by decide +kernel
theorem ne3 : ¬ (("ahead" : Str) = "turn") := by decide +kernel
def flds (m a t : V) : List (Str × V) := putF "turn" t (putF "ahead" a (putF "moduli" m []))
theorem flds_m (m a t : V) : (flds m a t).lookup ("moduli" : Str) = some m := by
  unfold flds
  rw [lookup_putF, if_neg ne2, lookup_putF, if_neg ne1, lookup_putF, if_pos rfl]
theorem flds_a (m a t : V) : (flds m a t).lookup ("ahead" : Str) = some a := by
  unfold flds
  rw [lookup_putF, if_neg ne3, lookup_putF, if_pos rfl]
theorem flds_t (m a t : V) : (flds m a t).lookup ("turn" : Str) = some t := by
  unfold flds
  rw [lookup_putF, if_pos rfl]
theorem flds_no {m a t : V} {x : Str} (h1 : ¬ x = "turn") (h2 : ¬ x = "ahead") (h3 : ¬ x = "moduli") : (flds m a t).lookup x = none := by
  unfold flds
  rw [lookup_putF, if_neg h1, lookup_putF, if_neg h2, lookup_putF, if_neg h3]
  rfl
/-- a Rule stands at p: its moduli, the weights ahead and in the round -/
def RuleAt (C : Addr) (H : Hp) (p : Addr) (ms : List V) (as ts : List Int) : Prop := ∃ (dx pm pa pt : Addr), H p = some (.ins C dx (flds (.ref pm) (.ref pa) (.ref pt))) ∧ H pm = some (.tup ms) ∧ H pa = some (.tup (as.map V.int)) ∧ H pt = some (.tup (ts.map V.int))
theorem RuleAt.same {C : Addr} {H H' : Hp} {p : Addr} {ms : List V} {as ts : List Int} (s : Same H H') (h : RuleAt C H p ms as ts) : RuleAt C H' p ms as ts :=
  let ⟨dx, pm, pa, pt, h1, h2, h3, h4⟩ := h
  ⟨dx, pm, pa, pt, s _ _ h1, s _ _ h2, s _ _ h3, s _ _ h4⟩
/-- what the top has written of the class -/
structure TRule (K : PySem.W.Frag) (mg : Str → Option Value) (C pc pb gc gb : Addr) : Prop where
  cl : Cls K C
  nM : NoAttr K C "moduli"
  nA : NoAttr K C "ahead"
  nT : NoAttr K C "turn"
  gC : mg "Rule" = some (.ref C)
  pC : PropOf K C "classes" pc gc
  pB : PropOf K C "banks" pb gb
def spClasses (C : Addr) : Sp := fun vs H Q _ => ∃ (p : Addr) (ms : List V) (as ts : List Int), vs = [.ref p] ∧ RuleAt C H p ms as ts ∧ Q (.int ((as.length : Int) + (ts.length : Int))) H
def spBanks (C : Addr) : Sp := fun vs H Q _ => ∃ (p : Addr) (ms : List V) (as ts : List Int), vs = [.ref p] ∧ RuleAt C H p ms as ts ∧ ms.all (withinV 2 32) = true ∧ Q (.int (prodV ms)) H
section
variable {P : Program} {w : World} {K : PySem.W.Frag} {mg : Str → Option Value} {base : Heap} {CR CN CT uR uN uT : Addr} {fdR fdN fdT : FuncData} {C pc pb gc gb : Addr}
theorem sc_BadRule : FnScope ["self", "part"] ["self", "part"] (defScope s_BadRule) := ⟨rfl, rfl, rfl, by decide +kernel, rfl, by decide +kernel, by decide +kernel⟩
theorem ok_BadRule (T : TErr K mg CR CN CT uR uN uT fdR fdN fdT) : FnOk P w K mg base CX0 1 uR fdR ["self", "part"] (spX CR 1 (fs1 "part")) := by
  refine T.fBadRule.ok sc_BadRule (fun vs H Q E h => ?_) (fun cdv A outer s H vs Q E hr h => ?_)
  · obtain ⟨a, ys, rfl, hl, _⟩ := h
    show ys.length + 1 = 2
    omega
  · obtain ⟨a, ys, rfl, hl, ha, k⟩ := h
    obtain ⟨y, rfl⟩ : ∃ y, ys = [y] := by
      match ys, hl with
      | [y], _ => exact ⟨y, rfl⟩
    refine ⟨_, (pss_one (ps_ost (pv 0) (pv 1))), ?_⟩
    refine ⟨_, rfl, _, rfl, a, CR, rfl, T.iBadRule.cls.oex, T.nBadRule, .inl ⟨ha, fun dx hd nd => ?_⟩⟩
    exact k dx _ hd nd upd_same (by rw [upd_ne nd]; exact upd_same) fun b h1 h2 => by rw [upd_ne h1, upd_ne h2]
theorem sc_BadNumber : FnScope ["self", "value"] ["self", "value"] (defScope s_BadNumber) := ⟨rfl, rfl, rfl, by decide +kernel, rfl, by decide +kernel, by decide +kernel⟩
theorem ok_BadNumber (T : TErr K mg CR CN CT uR uN uT fdR fdN fdT) : FnOk P w K mg base CX0 1 uN fdN ["self", "value"] (spX CN 1 (fs1 "value")) := by
  refine T.fBadNumber.ok sc_BadNumber (fun vs H Q E h => ?_) (fun cdv A outer s H vs Q E hr h => ?_)
  · obtain ⟨a, ys, rfl, hl, _⟩ := h
    show ys.length + 1 = 2
    omega
  · obtain ⟨a, ys, rfl, hl, ha, k⟩ := h
    obtain ⟨y, rfl⟩ : ∃ y, ys = [y] := by
      match ys, hl with
      | [y], _ => exact ⟨y, rfl⟩
    refine ⟨_, (pss_one (ps_ost (pv 0) (pv 1))), ?_⟩
    refine ⟨_, rfl, _, rfl, a, CN, rfl, T.iBadNumber.cls.oex, T.nBadNumber, .inl ⟨ha, fun dx hd nd => ?_⟩⟩
    exact k dx _ hd nd upd_same (by rw [upd_ne nd]; exact upd_same) fun b h1 h2 => by rw [upd_ne h1, upd_ne h2]
theorem sc_TooMany : FnScope ["self", "what", "most"] ["self", "what", "most"] (defScope s_TooMany) := ⟨rfl, rfl, rfl, by decide +kernel, rfl, by decide +kernel, by decide +kernel⟩
theorem ok_TooMany (T : TErr K mg CR CN CT uR uN uT fdR fdN fdT) : FnOk P w K mg base CX0 1 uT fdT ["self", "what", "most"] (spX CT 2 (fs2 "what" "most")) := by
  refine T.fTooMany.ok sc_TooMany (fun vs H Q E h => ?_) (fun cdv A outer s H vs Q E hr h => ?_)
  · obtain ⟨a, ys, rfl, hl, _⟩ := h
    show ys.length + 1 = 3
    omega
  · obtain ⟨a, ys, rfl, hl, ha, k⟩ := h
    obtain ⟨y, z, rfl⟩ : ∃ y z, ys = [y, z] := by
      match ys, hl with
      | [y, z], _ => exact ⟨y, z, rfl⟩
    refine ⟨_, (pss_cons (ps_ost (pv 0) (pv 1)) (pss_one (ps_ost (pv 0) (pv 2)))), ?_⟩
    refine ⟨_, rfl, _, rfl, a, CT, rfl, T.iTooMany.cls.oex, T.nWhat, .inl ⟨ha, fun dx hd nd => ?_⟩⟩
    refine ⟨_, rfl, _, rfl, a, CT, rfl, T.iTooMany.cls.oex, T.nMost, .inr ⟨dx, _, upd_same, (by rw [upd_ne nd]; exact upd_same), (by show 1 ≤ 900; decide), ?_⟩⟩
    exact k dx _ hd nd (by rw [upd_ne nd.symm]; exact upd_same) upd_same fun b h1 h2 => by rw [upd_ne h2, upd_ne h1, upd_ne h2]
theorem sc_Rule_classes : FnScope ["self"] ["self"] (defScope s_Rule_classes) := ⟨rfl, rfl, rfl, by decide +kernel, rfl, by decide +kernel, by decide +kernel⟩
theorem ok_Rule_classes {f : Addr} {fd : FuncData} (F : Fun K "classes" "Rule.classes" s_Rule_classes f fd) (T : TR mg) (TU : TRule K mg C pc pb gc gb) : FnOk P w K mg base CX0 1 f fd ["self"] (spClasses C) := by
  refine F.ok sc_Rule_classes (fun vs H Q E h => ?_) (fun cdv A outer s H vs Q E hr h => ?_)
  · obtain ⟨p, ms, as, ts, rfl, _⟩ := h
    rfl
  · obtain ⟨p, ms, as, ts, rfl, ⟨dx, pm, pa, pt, h1, h2, h3, h4⟩, k⟩ := h
    refine ⟨_, (pss_one (ps_ret (pe_op op_add (pe_callB call_len_seq (by rfl) T.m_len (by decide +kernel) (pa_cons (pe_fld (pv 0) rfl) pa_nil)) (pe_callB call_len_seq (by rfl) T.m_len (by decide +kernel) (pa_cons (pe_fld (pv 0) rfl) pa_nil))))), ?_⟩
    refine ⟨_, rfl, p, C, dx, _, _, rfl, h1, TU.cl, TU.nA, flds_a _ _ _, pa, _, rfl, .inr (SqT.of h3), _, rfl, p, C, dx, _, _, rfl, h1, TU.cl, TU.nT, flds_t _ _ _, pt, _, rfl, .inr (SqT.of h4), _, _, rfl, rfl, ?_⟩
    show Q (.int (((as.map V.int).length : Int) + ((ts.map V.int).length : Int))) H
    rw [List.length_map, List.length_map]
    exact k
theorem sc_Rule_banks : FnScope ["self"] ["self"] (defScope s_Rule_banks) := ⟨rfl, rfl, rfl, by decide +kernel, rfl, by decide +kernel, by decide +kernel⟩
theorem ok_Rule_banks {f fB : Addr} {fd fdB : FuncData} (F : Fun K "banks" "Rule.banks" s_Rule_banks f fd) (T : TR mg) (TU : TRule K mg C pc pb gc gb) (FB : Fun K "banks_by" "banks_by" s_banks_by fB fdB) (gB : mg "banks_by" = some (.ref fB)) (bB : Binds K fdB ["moduli"] []) :
    FnOk P w K mg base CX0 2 f fd ["self"] (spBanks C) := by
  have GB : FnOk P w K mg base CX0 1 fB fdB ["moduli"] (spBanksBy K) := ok_banks_by FB
  have kB := FB.kp
  refine F.ok sc_Rule_banks (fun vs H Q E h => ?_) (fun cdv A outer s H vs Q E hrB h => ?_)
  · obtain ⟨p, ms, as, ts, rfl, _⟩ := h
    rfl
  · obtain ⟨p, ms, as, ts, rfl, ⟨dx, pm, pa, pt, h1, h2, h3, h4⟩, hw, k⟩ := h
    refine ⟨_, (pss_one (ps_ret (pe_call GB hrB rfl gB kB bB .nil pass0 (pa_cons (pe_fld (pv 0) rfl) pa_nil)))), ?_⟩
    exact ⟨_, rfl, p, C, dx, _, _, rfl, h1, TU.cl, TU.nM, flds_m _ _ _, pm, ms, rfl, .inr h2, hw, k⟩
end
end Toy
set_option maxRecDepth 100000
namespace Toy
open PySem L2
/-! Rule.__init__ -/
/-- which part is refused -/
def ruleErr (om oa ot : Option (List V)) : Option Str :=
  if okMod om = false then some "moduli" else
  if okBanks (prodV (om.getD [])) oa = false then some "ahead" else
  if okBanks (prodV (om.getD [])) ot = false ∨ ot = some [] then some "turn" else none
def spInit (CR CT C : Addr) (K : PySem.W.Frag) : Sp := fun vs H Q E => ∃ (p dx : Addr) (m a t : V) (om oa ot : Option (List V)), vs = [.ref p, m, a, t] ∧ H p = some (.ins C dx []) ∧ Arg K H m om ∧ Arg K H a oa ∧ Arg K H t ot ∧
  (∀ ys, oa = some ys → ys.length ≤ 300) ∧ (∀ ys, ot = some ys → ys.length ≤ 300) ∧
  (∀ w, ruleErr om oa ot = some w → ∀ d H', H d = none → But p H H' → H' d = some (.xd [("part", .str w)]) → E (.ref CR) (some d) H') ∧
  (∀ ms ns ts, om = some ms → oa = some (ns.map V.int) → ot = some (ts.map V.int) → ruleErr om oa ot = none →
    (24 < (normW ns ts).1.length + (normW ns ts).2.length → ∀ d H', H d = none → But p H H' → H' d = some (.xd [("most", .int 24), ("what", .str "places")]) → E (.ref CT) (some d) H') ∧
    ((normW ns ts).1.length + (normW ns ts).2.length ≤ 24 → ∀ H', But p H H' → RuleAt C H' p ms (normW ns ts).1 (normW ns ts).2 → Q .non H'))
theorem all_ints {lo hi : Int} : ∀ {xs : List V}, xs.all (withinV lo hi) = true → ∃ ns : List Int, xs = ns.map V.int
  | [], _ => ⟨[], rfl⟩
  | x :: r, h => by
    have h2 : (withinV lo hi x && r.all (withinV lo hi)) = true := h
    obtain ⟨i, rfl, _⟩ := within_int (Bool.and_eq_true_iff.mp h2).1
    obtain ⟨ns, rfl⟩ := all_ints (Bool.and_eq_true_iff.mp h2).2
    exact ⟨i :: ns, rfl⟩
theorem but_same {p : Addr} {H H' : Hp} (h : But p H H') {b : Addr} {o : HO} (e : H b = some o) (n : b ≠ p) : H' b = some o := h b o n e
theorem seq_but {p : Addr} {H H' : Hp} {a : Addr} {xs : List V} (h : SeqAt H a xs) (k : But p H H') (n : a ≠ p) : SeqAt H' a xs := h.elim (fun z => .inl (k a _ n z)) fun z => .inr (k a _ n z)
theorem seq_ne {p : Addr} {H : Hp} {a C dx : Addr} {xs : List V} {fs : List (Str × V)} (h : SeqAt H a xs) (hp : H p = some (.ins C dx fs)) : a ≠ p := fun z => by
  rcases h with h | h
  all_goals
    rw [z, hp] at h
    cases h
section
variable {P : Program} {w : World} {K : PySem.W.Frag} {mg : Str → Option Value} {base : Heap} {CR CN CT uR uN uT : Addr} {fdR fdN fdT : FuncData} {C pc pb gc gb : Addr}
theorem sc_Rule_init : FnScope ["self", "moduli", "ahead", "turn"] ["self", "moduli", "ahead", "turn"] (defScope s_Rule_init) := ⟨rfl, rfl, rfl, by decide +kernel, rfl, by decide +kernel, by decide +kernel⟩
theorem ok_Rule_init {f fI fW fB fM fK fS : Addr} {fd fdI fdW fdB fdM fdK fdS fdC : FuncData} (F : Fun K "__init__" "Rule.__init__" s_Rule_init f fd) (T : TR mg) (TE : TErr K mg CR CN CT uR uN uT fdR fdN fdT) (TU : TRule K mg C pc pb gc gb)
    (FI : Fun K "is_integer" "is_integer" s_is_integer fI fdI) (gI : mg "is_integer" = some (.ref fI)) (bI : Binds K fdI ["value"] [])
    (FW : Fun K "is_within" "is_within" s_is_within fW fdW) (gW : mg "is_within" = some (.ref fW)) (bW : Binds K fdW ["value", "least", "most"] [])
    (FB : Fun K "banks_by" "banks_by" s_banks_by fB fdB) (gB : mg "banks_by" = some (.ref fB)) (bB : Binds K fdB ["moduli"] [])
    (FM : Fun K "are_moduli" "are_moduli" s_are_moduli fM fdM) (gM : mg "are_moduli" = some (.ref fM)) (bM : Binds K fdM ["value"] [])
    (FK : Fun K "are_banks" "are_banks" s_are_banks fK fdK) (gK : mg "are_banks" = some (.ref fK)) (bK : Binds K fdK ["value", "banks"] [])
    (FS : Fun K "shortest_weights" "shortest_weights" s_shortest_weights fS fdS) (gS : mg "shortest_weights" = some (.ref fS)) (bS : Binds K fdS ["ahead", "turn"] [])
    (FC : Fun K "classes" "Rule.classes" s_Rule_classes gc fdC) (bC : Binds K fdC ["self"] []) :
    FnOk P w K mg base (L2.CX P w) 4 f fd ["self", "moduli", "ahead", "turn"] (spInit CR CT C K) := by
  have GB : FnOk P w K mg base CX0 1 fB fdB ["moduli"] (spBanksBy K) := ok_banks_by FB
  have GM : FnOk P w K mg base CX0 3 fM fdM ["value"] (spAreModuli K) := ok_are_moduli FM T FI gI bI FW gW bW FB gB bB
  have GK : FnOk P w K mg base CX0 3 fK fdK ["value", "banks"] (spAreBanks K) := ok_are_banks FK T FI gI bI FW gW bW
  have GS : FnOk P w K mg base CX0 1 fS fdS ["ahead", "turn"] spShort := ok_shortest_weights FS T
  have GC : FnOk P w K mg base CX0 1 gc fdC ["self"] (spClasses C) := ok_Rule_classes FC T TU
  have kB := FB.kp
  have kM := FM.kp
  have kK := FK.kp
  have kS := FS.kp
  refine F.okX sc_Rule_init (fun vs H Q E h => ?_) (fun cdv A outer s H vs Q E hrM h => ?_)
  · obtain ⟨p, dx, m, a, t, om, oa, ot, rfl, _⟩ := h
    rfl
  · obtain ⟨p, dx, m, a, t, om, oa, ot, rfl, hp, hm, ha, ht, la, lt, kE, kQ⟩ := h
    have hrB : Room 1 _ := hrM.mono (by decide)
    have hrE : Room 2 _ := hrM.mono (by decide)
    have hrC : Room 2 _ := hrM.mono (by decide)
    refine ⟨_, (pss_cons (ps_if (pt_not (pt_val (pe_call GM hrM rfl gM kM bM .nil pass0 (pa_cons (pv 1) pa_nil)))) (pss_one (ps_raise rfl (takes_of rfl rfl rfl rfl) (pmk_x TE.iBadRule (ok_BadRule TE) hrE TE.bBadRule (by decide) rfl TE.gBadRule (mono_c mono_nil) (pa_cons pe_str pa_nil)))) pss_nil)
 (pss_cons (ps_if (pt_not (pt_val (pe_call GK hrM rfl gK kK bK .nil pass0 (pa_cons (pv 2) (pa_cons (pe_call GB hrB rfl gB kB bB .nil pass0 (pa_cons (pv 1) pa_nil)) pa_nil))))) (pss_one (ps_raise rfl (takes_of rfl rfl rfl rfl) (pmk_x TE.iBadRule (ok_BadRule TE) hrE TE.bBadRule (by decide) rfl TE.gBadRule (mono_c mono_nil) (pa_cons pe_str pa_nil)))) pss_nil)
 (pss_cons (ps_if (PW.pt (pw_or (pt_not (pt_val (pe_call GK hrM rfl gK kK bK .nil pass0 (pa_cons (pv 3) (pa_cons (pe_call GB hrB rfl gB kB bB .nil pass0 (pa_cons (pv 1) pa_nil)) pa_nil))))) (pw_or1 (pt_cmpR op_eq (pe_callB call_len_seq (by rfl) T.m_len (by decide +kernel) (pa_cons (pv 3) pa_nil)) pe_int (nomark _))))) (pss_one (ps_raise rfl (takes_of rfl rfl rfl rfl) (pmk_x TE.iBadRule (ok_BadRule TE) hrE TE.bBadRule (by decide) rfl TE.gBadRule (mono_c mono_nil) (pa_cons pe_str pa_nil)))) pss_nil)
 (pss_cons (ps_fld (pv 0) (pe_callTy call_tupP (by rfl) T.m_tuple (by decide +kernel) (pa_cons (pv 1) pa_nil)) rfl)
 (pss_cons (ps_asg (pe_call GS hrB rfl gS kS bS .nil pass0 (pa_cons (pe_callTy call_tupP (by rfl) T.m_tuple (by decide +kernel) (pa_cons (pv 2) pa_nil)) (pa_cons (pe_callTy call_tupP (by rfl) T.m_tuple (by decide +kernel) (pa_cons (pv 3) pa_nil)) pa_nil))) (pg_tup rfl (pgs_cons (pg_fld (pv 0)) (pgs_cons (pg_fld (pv 0)) pgs_nil))))
 (pss_one (ps_if (pt_cmpR op_gt (pe_prop (pv 0) TU.cl TU.pC GC hrC bC .nil pass0 rfl) (pe_glob (v := .int 24) rfl T.g_MOST_PLACES.choose_spec ⟨_, rfl⟩) (nomark _)) (pss_one (ps_raise rfl (takes_of rfl rfl rfl rfl) (pmk_x TE.iTooMany (ok_TooMany TE) hrE TE.bTooMany (by decide) rfl TE.gTooMany (mono_c (mono_c mono_nil)) (pa_cons pe_str (pa_cons (pe_glob (v := .int 24) rfl T.g_MOST_PLACES.choose_spec ⟨_, rfl⟩) pa_nil))))) pss_nil))))))), ?_⟩
    refine ⟨_, rfl, m, om, rfl, hm, fun H1 s1 => ⟨_, rfl, ?_⟩⟩
    cases hM : okMod om with
    | false => exact iteT ⟨rfl, fun d H' hd s2 e => kE "moduli" (by simp [ruleErr, hM]) d H' (s1.free hd) ((But.of s1).trans (But.of s2)) e⟩
    | true =>
      refine iteF ?_
      cases hm with
      | other _ _ => cases hM
      | @seq am ms em pm lm =>
        have wm : ms.all (withinV 2 32) = true := by
          have z : (decide (1 ≤ ms.length ∧ ms.length ≤ 5) && (ms.all (withinV 2 32) && decide (prodV ms ≤ 32))) = true := hM
          exact (Bool.and_eq_true_iff.mp (Bool.and_eq_true_iff.mp z).2).1
        refine ⟨_, rfl, _, rfl, am, ms, rfl, em.same s1, wm, a, prodV ms, oa, rfl, ha.same s1, fun H2 s2 => ⟨_, rfl, ?_⟩⟩
        have s12 : Same H H2 := fun _ _ z => s2 _ _ (s1 _ _ z)
        cases hA : okBanks (prodV ms) oa with
        | false => exact iteT ⟨rfl, fun d H' hd s3 e => kE "ahead" (by simp [ruleErr, hM, hA]) d H' (s12.free hd) ((But.of s12).trans (But.of s3)) e⟩
        | true =>
          refine iteF ?_
          refine ⟨_, rfl, _, rfl, am, ms, rfl, em.same s12, wm, t, prodV ms, ot, rfl, ht.same s12, fun H3 s3 => ⟨_, rfl, ?_⟩⟩
          have s13 : Same H H3 := fun _ _ z => s3 _ _ (s12 _ _ z)
          have badT : (okBanks (prodV ms) ot = false ∨ ot = some []) → ∀ d H', H3 d = none → Same H3 H' → H' d = some (.xd [("part", .str "turn")]) → E (.ref CR) (some d) H' := by
            intro z d H' hd s4 e
            refine kE "turn" ?_ d H' (s13.free hd) ((But.of s13).trans (But.of s4)) e
            unfold ruleErr
            rw [if_neg (by rw [hM]; exact Bool.noConfusion), if_neg (by show ¬ okBanks (prodV ms) oa = false; rw [hA]; exact Bool.noConfusion)]
            exact if_pos z
          cases hT : okBanks (prodV ms) ot with
          | false => exact iteT (iteT ⟨rfl, fun d H' hd s4 e => badT (.inl hT) d H' hd s4 e⟩)
          | true =>
            refine iteF ?_
            cases ht with
            | other _ _ => cases hT
            | @seq at_ xt et pt_ lt' =>
              cases ha with
              | other _ _ => cases hA
              | @seq aa xa ea pa_ la' =>
                obtain ⟨ts, rfl⟩ := all_ints (show xt.all (withinV 0 (prodV ms - 1)) = true from hT)
                obtain ⟨ns, rfl⟩ := all_ints (show xa.all (withinV 0 (prodV ms - 1)) = true from hA)
                refine ⟨_, rfl, at_, _, rfl, (et.same s13).elim (fun z => .inl (SqL.of z)) (fun z => .inr (SqT.of z)), rfl, _, rfl, ?_⟩
                refine ite2 (fun c => ?_) (fun c => ?_)
                · have z : ts = [] := by
                    cases ts with
                    | nil => rfl
                    | cons y r =>
                      exfalso
                      have z := V.int.inj (of_decide_eq_true c)
                      simp at z
                      omega
                  exact ⟨rfl, fun d H' hd s4 e => badT (.inr (by rw [z]; rfl)) d H' hd s4 e⟩
                · have tne : ts ≠ [] := fun z => c (decide_eq_true (by rw [z]; rfl))
                  have lns : ns.length ≤ 300 := by
                    have z := la _ rfl
                    rw [List.length_map] at z
                    exact z
                  have lts : ts.length ≤ 300 := by
                    have z := lt _ rfl
                    rw [List.length_map] at z
                    exact z
                  have none_ : ruleErr (some ms) (some (ns.map V.int)) (some (ts.map V.int)) = none := by
                    unfold ruleErr
                    rw [if_neg (by rw [hM]; exact Bool.noConfusion), if_neg (by show ¬ okBanks (prodV ms) _ = false; rw [hA]; exact Bool.noConfusion)]
                    refine if_neg ?_
                    rintro (z | z)
                    · rw [show okBanks (prodV ((some ms).getD [])) (some (ts.map V.int)) = true from hT] at z
                      cases z
                    · exact tne (List.map_eq_nil_iff.mp (Option.some.inj z))
                  obtain ⟨k1, k2⟩ := kQ ms ns ts rfl rfl rfl none_
                  have hp3 : H3 p = some (.ins C dx []) := s13 _ _ hp
                  refine ⟨_, rfl, am, ms, rfl, em.same s13, fun q1 H4 s4 h4 => ⟨_, rfl, p, C, dx, [], rfl, s4 _ _ hp3, TU.cl, TU.nM, (by show 0 < 1000; decide), ?_⟩⟩
                  have b5 : But p H (upd H4 p (.ins C dx (putF "moduli" (.ref q1) []))) := ((But.of s13).trans (But.of s4)).put
                  have n1 : q1 ≠ p := fun z => by
                    rw [z, s4 _ _ hp3] at h4
                    cases h4
                  refine ⟨_, rfl, aa, _, rfl, seq_but ea b5 (seq_ne ea hp), fun q2 H6 s6 h6 => ⟨_, rfl, at_, _, rfl, (seq_but et b5 (seq_ne et hp)).same s6, fun q3 H7 s7 h7 => ?_⟩⟩
                  refine ⟨q2, q3, ns, ts, rfl, s7 _ _ h6, h7, tne, lns, lts, fun H8 r x y s8 h8 hx hy => ?_⟩
                  have s58 : Same (upd H4 p (.ins C dx (putF "moduli" (.ref q1) []))) H8 := fun _ _ z => s8 _ _ (s7 _ _ (s6 _ _ z))
                  have hp8 : H8 p = some (.ins C dx (putF "moduli" (.ref q1) [])) := s58 _ _ upd_same
                  have hq8 : H8 q1 = some (.tup ms) := s58 _ _ (by rw [upd_ne n1]; exact h4)
                  have nx : x ≠ p := fun z => by
                    rw [z, hp8] at hx
                    cases hx
                  have ny : y ≠ p := fun z => by
                    rw [z, hp8] at hy
                    cases hy
                  refine ⟨r, _, rfl, SqT.of h8, rfl, _, _, rfl, _, rfl, p, C, dx, _, rfl, hp8, TU.cl, TU.nA, (by show 1 < 1000; decide), _, _, rfl, _, rfl, p, C, dx, _, rfl, upd_same, TU.cl, TU.nT, (by show 2 < 1000; decide), rfl, ?_⟩
                  rw [upd_upd]
                  have RA : RuleAt C (upd H8 p (.ins C dx (flds (.ref q1) (.ref x) (.ref y)))) p ms (normW ns ts).1 (normW ns ts).2 :=
                    ⟨dx, q1, x, y, upd_same, by rw [upd_ne n1]; exact hq8, by rw [upd_ne nx]; exact hx, by rw [upd_ne ny]; exact hy⟩
                  have b9 : But p H (upd H8 p (.ins C dx (flds (.ref q1) (.ref x) (.ref y)))) := (b5.trans (But.of s58)).put
                  refine ⟨_, rfl, p, dx, _, rfl, upd_same, p, ms, _, _, rfl, RA, _, _, rfl, rfl, _, rfl, ?_⟩
                  refine ite2 (fun c5 => ?_) (fun c5 => ?_)
                  · have c6 : ((normW ns ts).1.length : Int) + ((normW ns ts).2.length : Int) > 24 := of_decide_eq_true c5
                    refine ⟨rfl, fun d H' hd s9 e => k1 (by omega) d H' (b9.free hd fun z => ?_) (b9.trans (But.of s9)) e⟩
                    rw [z, upd_same] at hd
                    cases hd
                  · have c6 : ¬ ((normW ns ts).1.length : Int) + ((normW ns ts).2.length : Int) > 24 := fun z => c5 (decide_eq_true z)
                    exact k2 (by omega) _ b9 RA
end
end Toy
set_option maxRecDepth 100000
namespace L2
open PySem PySem.Spec PyProof.Rows
section
variable {X : Cx} {CX : CXT} {k : Nat} {f C : Addr} {fd : FuncData} {ps ks : List Str} {sp : Sp} {E : XK} {m : Str} {apos pos : Pos} {o : Expr} {kws : List Keyword} {ta : TE} {tk : TA} {g : List Value → List Value → List Value} {gV : List V → List V → List V}
/-- o.m(k = v, ..) -/
def tMethK0 (C : Addr) (m : Str) (n : Nat) (sp : Sp) (gV : List V → List V → List V) (E : XK) (ta : TE) (tk : TA) : TE := fun σ H Q => ta σ H fun x H1 => ∃ a dx fs, x = .ref a ∧ H1 a = some (.ins C dx fs) ∧ fs.lookup m = none ∧ tk σ H1 fun zs H2 => zs.length = n ∧ sp (gV [x] zs) H2 Q E
theorem pe_methK0 {pl : Sem Bool} (he : PE X o ta) (c : Cls X.K C) (hm : Meth X.K C m f) (F : FnOk X.prog X.w X.K X.mg X.base CX k f fd ps sp) (hr : Room k X.A) (hb : KBn X.K fd ps 1 ks g gV) (hx : Passes CX X E) (hkw : PK X kws tk)
    (hall : (backToKw pos (keywordEach kws X.env)).all (·.1.isSome) = true := by rfl) (hks : (backToKw pos (keywordEach kws X.env)).filterMap (·.1) = ks := by rfl)
    (hpl : ((backTo pos (starEach [] X.env)).any (·.1) || (backToKw pos (keywordEach kws X.env)).any (·.1.isNone)) = false := by rfl)
    (ht : eval (.Call (.Attribute o m apos) [] kws pos) X.env = (do
      let ov ← eval o X.env
      standAt apos.atName
      let (f, first) ← holding [ov] (getMethod ov m pl)
      callWith pos f first (backTo pos (starEach [] X.env)) (backToKw pos (keywordEach kws X.env))) := by rfl) :
    PE X (.Call (.Attribute o m apos) [] kws pos) (tMethK0 C m ks.length sp gV E ta tk) := by
  constructor
  intro pins s σ H Q I h
  refine PySem.W.methodCall_KW (pl := pl) (thn (he.run pins s σ H _ I h) ?_) ht
  rintro u s1 ⟨x, H1, J, rx, a, dx, fs, rfl, ea, l, q⟩
  obtain rfl : u = Value.ref a := rx
  refine getmeth_ok J ea c hm l (PySem.W.callWith_KW0 (first := [.ref a]) (h₀ := X.base) J.ok.mod.kin hm.kp hall (thn (hkw.run pos pins s1 σ H1 _ J q) ?_) hpl)
  rintro ws s2 ⟨zs, H2, J2, rz, l2, q2⟩
  rw [hks]
  exact ⟨J2.kIn, run_fnN (n := 1) (us := [.ref a]) (vs := [.ref a]) F hr hb hx J2 (.cons rfl .nil) rz rfl l2 q2⟩
end
end L2
set_option maxRecDepth 100000
namespace L2
open PySem PySem.Spec PyProof.Rows
/-! == and != of instances with the text's own __eq__ -/
section
variable {M : Model} {prog : Program} {w : World} {A : Around} {E : Value → Shared → Prop} {s : Shared} {K : PySem.W.Frag} {x C f : Addr} {ox : Obj} {od : Option Obj}
theorem ifBound_objNe {args : List Value} {Q : Option Value → Shared → Prop} (X : K.In s.heap) (I : PySem.W.InstAt s.heap x ox C od) (hs : PySem.W.findIn K (.ref C) "__ne__" = some (some (.builtin "object.__ne__")))
    (h : wpAny M A (call (.builtin "object.__ne__") (.ref x :: args)) (fun v => Q (some v)) E s) : wpAny M A (callSpecialIfBound? (.ref x) "__ne__" args) Q E s := by
  simp only [callSpecialIfBound?, bindSpecialIfBound?]
  refine wpAny_holding (wpAny_bind (wpAny_bind (wpAny_bind (I.type.here ((PySem.W.looks_findIn X hs).here ?_)))))
  refine wpAny_bind (wpAny_askSetting (wpAny_ite ?_))
  have fin : wpAny M A (call (.builtin "object.__ne__") ([.ref x] ++ args) >>= fun v => pure (some v)) Q E s := wpAny_bind (wpAny_mono h (fun v s' h' => wpAny_pure h') fun _ _ h' => h')
  split
  · exact wpAny_bind (wpAny_of_eq (PySem.F.cmp_object.ne.bind _) (wpAny_pure (by exact fin)))
  · exact wpAny_tryCatch (wpAny_bind (wpAny_of_eq (PySem.F.cmp_object.ne.bind _) (wpAny_pure (by exact fin))))
/-- how a call ends that hands back a bool -/
def BoolOut (Q : Bool → Shared → Prop) (E : Value → Shared → Prop) : Result → Shared → Prop := fun r s' => match r with
  | .ok (.ret v) => ∃ z : Bool, v = .bool z ∧ Q z s'
  | .ok _ => False
  | .error e => E e s'
theorem entry_ne {b : Value} {Q : Fin → Shared → Prop} (hu : A.units < cLine) (X : K.In s.heap) (I : PySem.W.InstAt s.heap x ox C od) (hs : PySem.W.findIn K (.ref C) "__eq__" = some (some (.ref f))) (hf : PySem.W.isFn K (.ref f) = true)
    (h : codeAny M A (.call (.ref f) ⟨[.ref x, b], []⟩) (BoolOut (fun r s' => Q (.done (.ret (.bool (!r)))) s') E) s) : wpAny M A (Builtin.«object.__ne__» ⟨[.ref x, b], []⟩) Q E s := by
  unfold Builtin.«object.__ne__»
  repeat (first | with_reducible refine wpAny_cRoomFor hu ?_ | with_reducible refine PySem.W.ifBound_K X I hs hf ?_ | wp_step)
  refine codeAny_mono h fun r s' hr => ?_
  cases r with
  | error e => exact hr
  | ok fl =>
    cases fl with
    | ret v =>
      obtain ⟨z, rfl, q⟩ := hr
      show wpAny M A (do let r ← truthy (.bool z); ret (.bool (!r))) Q E s'
      repeat (first | with_reducible refine wpAny_truthy_bool ?_ | wp_step)
      exact q
    | next => exact hr.elim
    | brk => exact hr.elim
    | cont => exact hr.elim
theorem call_ne {b : Value} {Q : Value → Shared → Prop} (hu : A.in1.units < cLine) (X : K.In s.heap) (I : PySem.W.InstAt s.heap x ox C od) (hm : PySem.W.mroIn K C (.type "object") = some true) (hs : PySem.W.findIn K (.ref C) "__eq__" = some (some (.ref f))) (hf : PySem.W.isFn K (.ref f) = true)
    (h : codeAny (model prog w) A.in1 (.call (.ref f) ⟨[.ref x, b], []⟩) (BoolOut (fun r s' => Q (.bool (!r)) s') E) s) : wpAny (model prog w) A (call (.builtin "object.__ne__") [.ref x, b]) Q E s :=
  wpAny_call (codeAny_call_builtin PySem.F.cmp_object.ne.plain PySem.F.cmpEntry_ne (PySem.W.check_slot PySem.F.cmpKind_ne PySem.F.cmpSplit_ne (I.type.andThen (PySem.W.looks_mroIn X hm)) (PySem.F.cmpArgs_ne _ _) (entry_ne hu X I hs hf h)))
theorem ne_K {b tb : Value} {Q : Value → Shared → Prop} (hu : A.units + 1 < cLine) (X : K.In s.heap) (I : PySem.W.InstAt s.heap x ox C od) (hb : PySem.W.Looks (model prog w) s.heap (typeOf b) tb) (hn : PySem.W.notFirst K C tb = true)
    (hm : PySem.W.mroIn K C (.type "object") = some true) (hne : PySem.W.findIn K (.ref C) "__ne__" = some (some (.builtin "object.__ne__"))) (hs : PySem.W.findIn K (.ref C) "__eq__" = some (some (.ref f))) (hf : PySem.W.isFn K (.ref f) = true)
    (h : codeAny (model prog w) A.in1 (.call (.ref f) ⟨[.ref x, b], []⟩) (BoolOut (fun r s' => Q (.bool (!r)) s') E) s) : wpAny (model prog w) A (richCompare .NotEq (.ref x) b) Q E s := by
  have one : wpAny (model prog w) A (tryCompare (.ref x) (cmpInfo .NotEq).2.1 b) (fun r s' => ∃ v : Bool, r = some (.bool v) ∧ Q (.bool v) s') E s := by
    unfold tryCompare
    refine wpAny_bind (ifBound_objNe X I hne (call_ne (by show A.units + 1 < cLine; exact hu) X I hm hs hf (codeAny_mono h fun r s' hr => ?_)))
    cases r with
    | error e => exact hr
    | ok fl =>
      cases fl with
      | ret v =>
        obtain ⟨z, rfl, q⟩ := hr
        exact ⟨z, rfl, wpAny_pure ⟨_, rfl, q⟩⟩
      | next => exact hr.elim
      | brk => exact hr.elim
      | cont => exact hr.elim
  unfold richCompare
  simp only [oneThing_ref]
  refine wpAny_holding (wpAny_bind (wpAny_cRoomFor (Nat.lt_of_succ_lt hu) ?_))
  refine wpAny_bind (I.type.here (wpAny_bind (hb.here ?_)))
  split
  · rename_i q
    have e : PySem.W.subIn K tb (.ref C) = some false := by
      rcases Bool.or_eq_true_iff.mp hn with e | e
      · rw [beq_iff_eq.mp e] at q; simp at q
      · exact beq_iff_eq.mp e
    refine wpAny_bind ((PySem.W.looks_subIn X e).here ?_)
    simp only [Bool.false_eq_true, if_false]
    refine wpAny_bind (wpAny_mono one (fun r s' z => ?_) fun _ _ e => e)
    obtain ⟨v, rfl, hq⟩ := z
    exact wpAny_pure hq
  · refine wpAny_bind (wpAny_pure ?_)
    simp only [Bool.false_eq_true, if_false]
    refine wpAny_bind (wpAny_mono one (fun r s' z => ?_) fun _ _ e => e)
    obtain ⟨v, rfl, hq⟩ := z
    exact wpAny_pure hq
end
/-- the class has its own == and object's != -/
structure OwnCmp (K : PySem.W.Frag) (C f : Addr) : Prop where
  eq : PySem.W.findIn K (.ref C) "__eq__" = some (some (.ref f))
  fn : PySem.W.isFn K (.ref f) = true
  ne : PySem.W.findIn K (.ref C) "__ne__" = some (some (.builtin "object.__ne__"))
  ob : PySem.W.mroIn K C (.type "object") = some true
/-- what the second thing may be: an instance of C, a tuple -/
inductive Snd (C : Addr) (H : Hp) : V → Prop where
  | ins {b dx : Addr} {fs : List (Str × V)} (h : H b = some (.ins C dx fs)) : Snd C H (.ref b)
  | tup {b : Addr} {xs : List V} (h : H b = some (.tup xs)) : Snd C H (.ref b)
def rOwn (C : Addr) (sp : Sp) (E : XK) (neg : Bool) : R2 := fun x y H Q => ∃ (a dx : Addr) (fs : List (Str × V)), x = .ref a ∧ H a = some (.ins C dx fs) ∧ Snd C H y ∧ sp [x, y] H (fun v H' => ∃ b : Bool, v = .bl b ∧ Q (.bl (if neg then !b else b)) H') E
section
variable {X : Cx} {CX : CXT} {n : Nat} {C f : Addr} {fd : FuncData} {ps : List Str} {sp : Sp} {E : XK}
theorem snd_looks {pins : List (Addr × Obj)} {σ : St} {H : Hp} {s : Shared} {y : V} {u : Value} (I : Inv X pins σ H s) (r : RelV y u) (h : Snd C H y) : ∃ t, (∀ M : Model, PySem.W.Looks M s.heap (typeOf u) t) ∧ PySem.W.notFirst X.K C t = true := by
  cases h with
  | ins h =>
    cases r
    obtain ⟨mA, J, _⟩ := ins_get I.hok h
    obtain ⟨od, J, _⟩ := J.look
    exact ⟨_, fun M => J.type, by simp [PySem.W.notFirst]⟩
  | @tup b xs h =>
    cases r
    obtain ⟨its, rr, e, z⟩ := I.tuple (SqT.of h)
    obtain ⟨o, e2, ec, _⟩ := e
    refine ⟨.type "tuple", fun M => by rw [← ec]; exact (PySem.W.Looks.ld e2).andThen .now, ?_⟩
    have q : fastBuiltinMro "tuple" = some [.type "tuple", .type "object"] := by decide +kernel
    have q2 : PySem.W.subIn X.K (.type "tuple") (.ref C) = some false := by
      show (fastBuiltinMro "tuple").map (·.contains (.ref C)) = some false
      rw [q]
      first | rfl | simp
    unfold PySem.W.notFirst
    rw [q2]
    simp
theorem own_code {A : Around} {pins : List (Addr × Obj)} {σ : St} {H : Hp} {s : Shared} {a : Addr} {y : V} {u : Value} {Q : VK} (F : FnOk X.prog X.w X.K X.mg X.base CX n f fd ps sp) (hb : Binds X.K fd ps []) (hr : Room n A) (fr : A.frames = X.A.frames) (hx : Passes CX X E) (I : Inv X pins σ H s) (r : RelV y u)
    (h : sp [.ref a, y] H Q E) : codeAny (model X.prog X.w) A (.call (.ref f) ⟨[.ref a, u], []⟩) (fun r s' => match r with
      | .ok (.ret v) => EP X pins σ Q v s'
      | .ok _ => False
      | .error e => X.xe e s') s := by
  have e0 : Env0 X.prog X.w X.K X.mg X.base A X.stack s H := by
    have e := I.env0
    exact ⟨by rw [fr]; exact e.frames, e.mod, e.bs, e.bsz, e.funs, e.frf, e.hok, e.bare⟩
  have hl := F.len _ _ _ _ h
  have r2 : Vals [V.ref a, y] [Value.ref a, u] := .cons rfl (.cons r .nil)
  refine codeAny_mono (F.run A X.stack s H ⟨[.ref a, u], []⟩ [.ref a, u] [.ref a, y] _ E hr e0 (by
    have := hb s [.ref a, u] I.kIn (by simpa using hl)
    simpa using this) r2 h) fun r s' hq => ?_
  cases r with
  | error e => exact hx pins σ H s e s' I hq
  | ok fl =>
    cases fl with
    | ret w => exact I.after hq
    | next => exact False.elim hq
    | brk => exact False.elim hq
    | cont => exact False.elim hq
theorem op_eqOwn (F : FnOk X.prog X.w X.K X.mg X.base CX n f fd ps sp) (k : OwnCmp X.K C f) (hb : Binds X.K fd ps []) (hr : Room n X.A) (hx : Passes CX X E) : OpR X (compareOp .Eq) (rOwn C sp E false) := by
  intro pins s σ H x y v u Q I rx ry hq
  obtain ⟨a, dx, fs, rfl, ha, hy, hsp⟩ := hq
  cases rx
  obtain ⟨mA, J, _⟩ := ins_get I.hok ha
  obtain ⟨od, J, _⟩ := J.look
  obtain ⟨t, ht, hn⟩ := snd_looks I ry hy
  obtain ⟨m, hF⟩ := I.fr
  show wpAny (model X.prog X.w) X.A (richCompare .Eq (.ref a) u) (EP X pins σ Q) X.xe s
  refine PySem.W.cmp_K (op := .Eq) (tb := t) hr.units0 hF I.ok.mod.kin J (ht _) hn k.eq k.fn ?_
  refine wpAny_call (codeAny_mono (own_code F hb hr rfl hx I ry hsp) fun r s' z => ?_)
  cases r with
  | error e => exact z
  | ok fl =>
    cases fl with
    | ret w =>
      obtain ⟨v, H', I', rz, b, rfl, q⟩ := z
      obtain rfl : w = Value.bool b := rz
      exact ⟨.bl b, H', I', rfl, q⟩
    | next => exact z.elim
    | brk => exact z.elim
    | cont => exact z.elim
theorem op_neOwn (F : FnOk X.prog X.w X.K X.mg X.base CX n f fd ps sp) (k : OwnCmp X.K C f) (hb : Binds X.K fd ps []) (hr : Room (n + 1) X.A) (hx : Passes CX X E) : OpR X (compareOp .NotEq) (rOwn C sp E true) := by
  intro pins s σ H x y v u Q I rx ry hq
  obtain ⟨a, dx, fs, rfl, ha, hy, hsp⟩ := hq
  cases rx
  obtain ⟨mA, J, _⟩ := ins_get I.hok ha
  obtain ⟨od, J, _⟩ := J.look
  obtain ⟨t, ht, hn⟩ := snd_looks I ry hy
  show wpAny (model X.prog X.w) X.A (richCompare .NotEq (.ref a) u) (EP X pins σ Q) X.xe s
  have hu := hr.units
  refine ne_K (tb := t) (by omega) I.kIn J (ht _) hn k.ob k.ne k.eq k.fn ?_
  refine codeAny_mono (own_code F hb hr.in1 rfl hx I ry hsp) fun r s' z => ?_
  cases r with
  | error e => exact z
  | ok fl =>
    cases fl with
    | ret w =>
      obtain ⟨v, H', I', rz, b, rfl, q⟩ := z
      obtain rfl : w = Value.bool b := rz
      exact ⟨b, rfl, .bl (!b), H', I', rfl, q⟩
    | next => exact z.elim
    | brk => exact z.elim
    | cont => exact z.elim
end
/-- .. as a Bool -/
def ownB (K : PySem.W.Frag) (C : Addr) : Bool := He.eqO (PySem.W.findIn K (.ref C) "__eq__") (some (some (.ref (He.ma K C "__eq__")))) && (PySem.W.isFn K (.ref (He.ma K C "__eq__")) && (He.eqO (PySem.W.findIn K (.ref C) "__ne__") (some (some (.builtin "object.__ne__"))) && decide (PySem.W.mroIn K C (.type "object") = some true)))
theorem own_of {K : PySem.W.Frag} {C : Addr} (h : ownB K C = true) : OwnCmp K C (He.ma K C "__eq__") := by
  obtain ⟨h1, h⟩ := He.ba h
  obtain ⟨h2, h⟩ := He.ba h
  obtain ⟨h3, h4⟩ := He.ba h
  exact ⟨He.eqO_ok h1, h2, He.eqO_ok h3, of_decide_eq_true h4⟩
end L2
set_option maxRecDepth 100000
set_option maxHeartbeats 1000000
/-! list(zip(a, b)): zip's next while its pair is held, the list's loop. -/
namespace Lz
open PySem
section
variable {prog : Program} {w : World} {A : Around} {E : Value → Shared → Prop} {s : Shared} {z TI TO i1 i2 : Addr} {fp1 fp2 : List Addr} {n1 n2 i : Nat} {P1 P2 : Nat → Value → Prop} {St1 St2 : Nat → Heap → Prop} {a1 a2 : Value}

theorem held_item {T : Addr} {f : Bool} {oT : Obj} {Q : Value → Shared → Prop} (S : ZipSep2 z TI TO i1 i2 fp1 fp2) (D1 : Draws prog w A i1 fp1 n1 P1 St1) (D2 : Draws prog w A i2 fp2 n2 P2 St2)
    (hz : IsZipHeld s.heap z TI TO T f) (hT : s.heap.get? T = some oT) (hTI : IsTupOf2 s.heap TI (.ref i1) (.ref i2)) (st1 : St1 i s.heap) (st2 : St2 i s.heap) (hlt1 : i < n1) (hlt2 : i < n2)
    (hQ : ∀ x1 x2 h' tk, P1 i x1 → P2 i x2 → IsZipHeld h' z TI TO T true → St1 (i + 1) h' → St2 (i + 1) h' → IsTupOf2 h' s.heap.objs.size x1 x2 → h'.objs.size = s.heap.objs.size + 1 →
      (∀ c o, c ≠ z → c ≠ TO → c ≠ i1 → c ≠ i2 → s.heap.get? c = some o → h'.get? c = some o) → (∀ o, s.heap.get? TO = some o → h'.get? TO = some o) → Q (.ref s.heap.objs.size) { s with heap := h', toks := tk }) :
    wpAny (model prog w) A (Builtin.«zip.__next__» ⟨[.ref z], []⟩) (fun fin s' => ∃ v, fin = .done (.ret v) ∧ Q v s') E s := by
  obtain ⟨hp, g, d, tk0, os⟩ := s
  show wpAny _ _ (field (.ref z) 2 >>= _) _ _ _
  refine wpAny_bind (wpAny_field hz rfl (x := .bool false) rfl ?_)
  show wpAny _ _ (field (.ref z) 3 >>= _) _ _ _
  refine wpAny_bind (wpAny_field hz rfl (x := .ref TI) rfl ?_)
  refine wpAny_bind (wpAny_seqItems hTI rfl ?_)
  show wpAny _ _ (Builtin.SmallTypes.ownedTupleIsFree (.ref z) >>= _) _ _ _
  refine wpAny_bind (wpAny_tupleHeld_zip hz hT fun g0 hz0 hs0 => ?_)
  simp only [Bool.false_eq_true, if_false]
  replace hs0 : Heap.SameBut z hp g0 := hs0
  refine wpAny_bind ?_
  rw [← Array.forIn_toList]
  simp only [List.forIn_cons, List.forIn_nil]
  refine wpAny_bind (wpAny_bind (wpAny_holding ?_))
  show wpAny _ _ (Builtin.SmallTypes.nextOf (.ref i1) >>= _) _ _ ⟨g0, g, d, tk0, os⟩
  refine wpAny_bind (D1.item i _ _ _ hlt1 (D1.over st1 hs0 S.zf1) fun x1 p1 tk1 hx1 sn1 hp1 => wpAny_pure ?_)
  replace hp1 : Heap.SameBut i1 g0 p1 := hp1
  refine wpAny_pure ?_
  refine wpAny_bind (wpAny_bind (wpAny_holding ?_))
  show wpAny _ _ (Builtin.SmallTypes.nextOf (.ref i2) >>= _) _ _ ⟨p1, g, d, tk1, os⟩
  refine wpAny_bind (D2.item i _ _ _ hlt2 (D2.over (D2.over st2 hs0 S.zf2) hp1 S.sep1_2) fun x2 p2 tk2 hx2 sn2 hp2 => wpAny_pure ?_)
  replace hp2 : Heap.SameBut i2 p1 p2 := hp2
  refine wpAny_pure (wpAny_pure ?_)
  show wpAny _ _ (newTuple [x1, x2] >>= _) _ _ ⟨p2, g, d, tk2, os⟩
  refine wpAny_bind (wpAny_newTuple ?_)
  have hsz : p2.objs.size = hp.objs.size := by rw [hp2.1, hp1.1, hs0.1]
  have hz2 : IsZipHeld p2 z TI TO T true := hp2.extBut _ _ S.zi2 (hp1.extBut _ _ S.zi1 hz0)
  have hk : ∀ c o, c ≠ z → c ≠ i1 → c ≠ i2 → hp.get? c = some o → p2.get? c = some o := fun c o c1 c2 c3 e => hp2.extBut _ _ c3 (hp1.extBut _ _ c2 (hs0.extBut _ _ c1 e))
  refine wpAny_pure ⟨_, rfl, ?_⟩
  show Q (.ref p2.objs.size) ⟨p2.push { cls := .type "tuple", data := .seq #[x1, x2] }, g, d, tk2, os⟩
  have hT' : IsTupOf2 (p2.push { cls := .type "tuple", data := .seq #[x1, x2] }) p2.objs.size x1 x2 := Heap.get?_push_size _ rfl
  have hz4 : (p2.push { cls := .type "tuple", data := .seq #[x1, x2] }).objs.size = p2.objs.size + 1 := Heap.size_push ..
  have up : ∀ c o, p2.get? c = some o → (p2.push { cls := .type "tuple", data := .seq #[x1, x2] }).get? c = some o := fun c o e => Heap.get?_push_of_some _ e
  generalize p2.push { cls := .type "tuple", data := .seq #[x1, x2] } = q2 at hT' hz4 up ⊢
  rw [hsz] at hT' hz4 ⊢
  exact hQ x1 x2 q2 tk2 hx1 hx2 (up _ _ hz2) (D1.frame _ _ _ (D1.over sn1 hp2 S.sep2_1) fun b _ o e => up b o e) (D2.frame _ _ _ sn2 fun b _ o e => up b o e) hT' hz4
    (fun c o c1 _ c3 c4 e => up c o (hk c o c1 c3 c4 e)) fun o e => up _ o (hk _ o S.TOz S.Ti1 S.Ti2 e)

theorem held_end {T : Addr} {f : Bool} {oT : Obj} {Q : Fin → Shared → Prop} (S : ZipSep2 z TI TO i1 i2 fp1 fp2) (D1 : Draws prog w A i1 fp1 n1 P1 St1) (D2 : Draws prog w A i2 fp2 n2 P2 St2)
    (hz : IsZipHeld s.heap z TI TO T f) (hT : s.heap.get? T = some oT) (hTI : IsTupOf2 s.heap TI (.ref i1) (.ref i2)) (st1 : St1 i s.heap) (st2 : St2 i s.heap) (hle1 : i ≤ n1) (hle2 : i ≤ n2) (hend : i = n1 ∨ i = n2)
    (hE : ∀ h' tk e, (∀ c o, c ≠ z → c ≠ TO → c ≠ i1 → c ≠ i2 → s.heap.get? c = some o → h'.get? c = some o) → (∃ o, h'.get? e = some o ∧ o.cls = .type "StopIteration") → E (.ref e) { s with heap := h', toks := tk }) :
    wpAny (model prog w) A (Builtin.«zip.__next__» ⟨[.ref z], []⟩) Q E s := by
  obtain ⟨hp, g, d, tk0, os⟩ := s
  show wpAny _ _ (field (.ref z) 2 >>= _) _ _ _
  refine wpAny_bind (wpAny_field hz rfl (x := .bool false) rfl ?_)
  show wpAny _ _ (field (.ref z) 3 >>= _) _ _ _
  refine wpAny_bind (wpAny_field hz rfl (x := .ref TI) rfl ?_)
  refine wpAny_bind (wpAny_seqItems hTI rfl ?_)
  show wpAny _ _ (Builtin.SmallTypes.ownedTupleIsFree (.ref z) >>= _) _ _ _
  refine wpAny_bind (wpAny_tupleHeld_zip hz hT fun g0 hz0 hs0 => ?_)
  simp only [Bool.false_eq_true, if_false]
  replace hs0 : Heap.SameBut z hp g0 := hs0
  refine wpAny_bind ?_
  rw [← Array.forIn_toList]
  simp only [List.forIn_cons, List.forIn_nil]
  refine wpAny_bind (wpAny_bind (wpAny_holding ?_))
  show wpAny _ _ (Builtin.SmallTypes.nextOf (.ref i1) >>= _) _ _ ⟨g0, g, d, tk0, os⟩
  by_cases hlt1 : i < n1
  · refine wpAny_bind (D1.item i _ _ _ hlt1 (D1.over st1 hs0 S.zf1) fun x1 p1 tk1 hx1 sn1 hp1 => wpAny_pure ?_)
    replace hp1 : Heap.SameBut i1 g0 p1 := hp1
    have hi2 : i = n2 := by omega
    refine wpAny_pure ?_
    refine wpAny_bind (wpAny_bind (wpAny_holding ?_))
    show wpAny _ _ (Builtin.SmallTypes.nextOf (.ref i2) >>= _) _ _ ⟨p1, g, d, tk1, os⟩
    refine wpAny_bind (D2.done ⟨p1, g, d, tk1, os⟩ _ _ (by rw [← hi2]; exact (D2.over (D2.over st2 hs0 S.zf2) hp1 S.sep1_2)) fun q e hq he => ?_)
    replace hq : Heap.ExtBut i2 p1 q := hq
    exact hE q tk1 e (fun c o cz _ c1 c2 x => hq _ _ c2 (hp1.extBut _ _ c1 (hs0.extBut _ _ cz x))) he
  · have hi1 : i = n1 := by omega
    refine wpAny_bind (D1.done ⟨g0, g, d, tk0, os⟩ _ _ (by rw [← hi1]; exact (D1.over st1 hs0 S.zf1)) fun q e hq he => ?_)
    replace hq : Heap.ExtBut i1 g0 q := hq
    exact hE q tk0 e (fun c o cz _ c1 _ x => hq _ _ c1 (hs0.extBut _ _ cz x)) he

/-- a zip on its way, its pair out or not -/
def ZlSt (z TI TO i1 i2 S : Addr) (St1 St2 : Nat → Heap → Prop) (i : Nat) (h : Heap) : Prop :=
  IsTupOf2 h TI (.ref i1) (.ref i2) ∧ (∃ a1 a2, IsTupOf2 h TO a1 a2) ∧ St1 i h ∧ St2 i h ∧
    (IsZip h z TI TO .none ∨ ∃ T f oT, IsZipHeld h z TI TO T f ∧ h.get? T = some oT ∧ T ≠ z ∧ T ≠ TO ∧ T ≠ i1 ∧ T ≠ i2 ∧ T ≠ S)
theorem zl_item {LS : Addr} {Q : Option Value → Shared → Prop} (S : ZipSep2 z TI TO i1 i2 fp1 fp2) (D1 : Draws prog w A.in1 i1 fp1 n1 P1 St1) (D2 : Draws prog w A.in1 i2 fp2 n2 P2 St2)
    (st : ZlSt z TI TO i1 i2 LS St1 St2 i s.heap) (hLS : LS < s.heap.objs.size) (hlt1 : i < n1) (hlt2 : i < n2)
    (hQ : ∀ x1 x2 h' tk, P1 i x1 → P2 i x2 → ZlSt z TI TO i1 i2 LS St1 St2 (i + 1) h' → IsTupOf2 h' s.heap.objs.size x1 x2 → h'.objs.size = s.heap.objs.size + 1 →
      (∀ c o, c ≠ z → c ≠ TO → c ≠ i1 → c ≠ i2 → s.heap.get? c = some o → h'.get? c = some o) → Q (some (.ref s.heap.objs.size)) { s with heap := h', toks := tk }) :
    wpAny (model prog w) A (pyNext (.ref z)) Q E s := by
  obtain ⟨hTI, ⟨a1, a2, hTO⟩, st1, st2, hz⟩ := st
  have ne1 : ∃ o, s.heap.get? i1 = some o := D1.live _ _ st1
  have ne2 : ∃ o, s.heap.get? i2 = some o := D2.live _ _ st2
  have gt : ∀ {c : Addr} {o : Obj}, s.heap.get? c = some o → s.heap.objs.size ≠ c := fun e => Nat.ne_of_gt (Heap.lt_size e)
  rcases hz with hz | ⟨T, f, oT, hz, hT, t1, t2, t3, t4, t5⟩
  · refine wpAny_pyNext_zipD2_item S D1 D2 hz hTI hTO st1 st2 hlt1 hlt2 fun x1 x2 h' tk y1 y2 b1 b2 d1 d2 b5 b6 hk => ?_
    obtain ⟨o1, e1⟩ := ne1
    obtain ⟨o2, e2⟩ := ne2
    exact hQ x1 x2 h' tk y1 y2 ⟨hk _ _ S.TIz S.TITO S.TIi1 S.TIi2 hTI, ⟨_, _, b2⟩, d1, d2, .inr ⟨s.heap.objs.size, false, _, b1, b5, gt hz, gt hTO, gt e1, gt e2, Nat.ne_of_gt hLS⟩⟩ b5 b6 hk
  · have hTy : s.TypeIs (.ref z) "zip" := ⟨_, hz, rfl⟩
    unfold pyNext
    refine wpAny_bind (wpAny_attempt (wpAny_callSpecial?_slot (name := Str.ofString "__next__") hTy F.slot_zip_next
      (wpAny_call_entry F.slot_zip_next hTy F.entry_zip_next (held_item S D1 D2 hz hT hTI st1 st2 hlt1 hlt2 fun x1 x2 h' tk y1 y2 b1 d1 d2 b5 b6 hk hO => wpAny_pure ?_) (F.args_zip_next_1 _))))
    exact hQ x1 x2 h' tk y1 y2 ⟨hk _ _ S.TIz S.TITO S.TIi1 S.TIi2 hTI, ⟨_, _, hO _ hTO⟩, d1, d2, .inr ⟨T, true, oT, b1, hk T oT t1 t2 t3 t4 hT, t1, t2, t3, t4, t5⟩⟩ b5 b6 hk
theorem zl_done {LS : Addr} {Q : Option Value → Shared → Prop} (S : ZipSep2 z TI TO i1 i2 fp1 fp2) (D1 : Draws prog w A.in1 i1 fp1 n1 P1 St1) (D2 : Draws prog w A.in1 i2 fp2 n2 P2 St2)
    (st : ZlSt z TI TO i1 i2 LS St1 St2 i s.heap) (hle1 : i ≤ n1) (hle2 : i ≤ n2) (hend : i = n1 ∨ i = n2)
    (hQ : ∀ h' tk, (∀ c o, c ≠ z → c ≠ TO → c ≠ i1 → c ≠ i2 → s.heap.get? c = some o → h'.get? c = some o) → Q none { s with heap := h', toks := tk }) : wpAny (model prog w) A (pyNext (.ref z)) Q E s := by
  obtain ⟨hTI, ⟨a1, a2, hTO⟩, st1, st2, hz⟩ := st
  rcases hz with hz | ⟨T, f, oT, hz, hT, t1, t2, t3, t4, t5⟩
  · exact wpAny_pyNext_zipD2_end S D1 D2 hz hTI hTO st1 st2 hle1 hle2 hend hQ
  · have hTy : s.TypeIs (.ref z) "zip" := ⟨_, hz, rfl⟩
    unfold pyNext
    refine wpAny_bind (wpAny_attempt (wpAny_callSpecial?_slot (name := Str.ofString "__next__") hTy F.slot_zip_next
      (wpAny_call_entry F.slot_zip_next hTy F.entry_zip_next (held_end S D1 D2 hz hT hTI st1 st2 hle1 hle2 hend fun h' tk e hk he => ?_) (F.args_zip_next_1 _))))
    obtain ⟨o, ho, hc⟩ := he
    refine wpAny_bind (wpAny_isInstance (T := "StopIteration") (b := true) ⟨o, ho, hc⟩ isSubtype_stop ?_)
    exact wpAny_pure (hQ _ _ hk)

/-- the pairs made so far, at rising addresses -/
structure ZlG (P1 P2 : Nat → Value → Prop) (lo : Addr) (h : Heap) (as : List Addr) : Prop where
  rise : as.Pairwise (· < ·)
  above : ∀ a ∈ as, lo < a
  pairs : ∀ (j : Nat) (a : Addr), as[j]? = some a → ∃ x1 x2, P1 j x1 ∧ P2 j x2 ∧ IsTupOf2 h a x1 x2
theorem ZlG.there {lo : Addr} {h : Heap} {as : List Addr} (g : ZlG P1 P2 lo h as) {a : Addr} (ha : a ∈ as) : a < h.objs.size := by
  obtain ⟨j, hj⟩ := List.mem_iff_getElem?.mp ha
  obtain ⟨_, _, _, _, e⟩ := g.pairs j a hj
  exact Heap.lt_size e
end
section
variable {prog : Program} {w : World} {A : Around} {s : Shared} {R : Result → Shared → Prop} {z TI TO i1 i2 : Addr} {fp1 fp2 : List Addr} {n1 n2 : Nat} {P1 P2 : Nat → Value → Prop} {St1 St2 : Nat → Heap → Prop}
theorem ZlSt.keep {h h' : Heap} {LS : Addr} {i : Nat} (D1 : Draws prog w A i1 fp1 n1 P1 St1) (D2 : Draws prog w A i2 fp2 n2 P2 St2) (st : ZlSt z TI TO i1 i2 LS St1 St2 i h) (k : ∀ b o, b ≠ LS → h.get? b = some o → h'.get? b = some o)
    (e1 : z ≠ LS) (e2 : TI ≠ LS) (e3 : TO ≠ LS) (f1 : LS ∉ fp1) (f2 : LS ∉ fp2) : ZlSt z TI TO i1 i2 LS St1 St2 i h' := by
  obtain ⟨hTI, ⟨a1, a2, hTO⟩, st1, st2, hz⟩ := st
  refine ⟨k _ _ e2 hTI, ⟨a1, a2, k _ _ e3 hTO⟩, D1.frame _ _ _ st1 fun b hb o e => k b o (fun q => f1 (q ▸ hb)) e, D2.frame _ _ _ st2 fun b hb o e => k b o (fun q => f2 (q ▸ hb)) e, ?_⟩
  rcases hz with hz | ⟨T, f, oT, hz, hT, t1, t2, t3, t4, t5⟩
  · exact .inl (k _ _ e1 hz)
  · exact .inr ⟨T, f, oT, k _ _ e1 hz, k _ _ t5 hT, t1, t2, t3, t4, t5⟩
theorem zl_loop {LS : Addr} (S : ZipSep2 z TI TO i1 i2 fp1 fp2) (D1 : Draws prog w A.in1.in1 i1 fp1 n1 P1 St1) (D2 : Draws prog w A.in1.in1 i2 fp2 n2 P2 St2) (b1 : z < LS) (b2 : TI < LS) (b3 : TO < LS) (b4 : i1 < LS) (b5 : i2 < LS) (f1 : LS ∉ fp1) (f2 : LS ∉ fp2) (hn : min n1 n2 ≤ sizeLine) (res : Value) {h₁ : Heap}
    (hR : ∀ h' tk acc c as, (∀ b o, b ≠ LS → b ≠ z → b ≠ TO → b ≠ i1 → b ≠ i2 → h₁.get? b = some o → h'.get? b = some o) → h'.get? LS = some { cls := .type "list", dict := none, data := .seq acc c, slots := #[] } → as.length = min n1 n2 → ZlG P1 P2 LS h' as →
      acc.toList = as.map Value.ref → R (.ok (.ret res)) { s with heap := h', toks := tk }) :
    ∀ (k i : Nat) (h : Heap) (tk c : Nat) (acc : Array Value) (as : List Addr), min n1 n2 - i = k → i ≤ min n1 n2 → ZlSt z TI TO i1 i2 LS St1 St2 i h → (∀ b o, b ≠ LS → b ≠ z → b ≠ TO → b ≠ i1 → b ≠ i2 → h₁.get? b = some o → h.get? b = some o) →
      h.get? LS = some { cls := .type "list", dict := none, data := .seq acc c, slots := #[] } → acc.toList = as.map Value.ref → as.length = i → ZlG P1 P2 LS h as →
      codeAny (model prog w) A (.builtin "list.extend.loop" ⟨[.ref LS, .ref z, res], []⟩) R { s with heap := h, toks := tk } := by
  intro k
  induction k with
  | zero =>
    intro i h tk c acc as hk hi hst hkeep hS hacc hal hG
    have hin : i = min n1 n2 := by omega
    refine codeAny_builtin PySem.F.entry_extend_loop ?_
    rw [Around.under_plainId PySem.F.plain_extend_loop _]
    show wpAny _ A.in1 (pyNext (.ref z) >>= _) _ _ _
    refine wpAny_bind (zl_done (s := { s with heap := h, toks := tk }) (A := A.in1) S D1 D2 hst (by omega) (by omega) (by omega) fun h' tk' he => ?_)
    refine wpAny_pure (hR h' tk' acc c as (fun b o q1 q2 q3 q4 q5 e => he b o q2 q3 q4 q5 (hkeep b o q1 q2 q3 q4 q5 e)) (he LS _ (Nat.ne_of_gt b1) (Nat.ne_of_gt b3) (Nat.ne_of_gt b4) (Nat.ne_of_gt b5) hS) (by omega) ⟨hG.rise, hG.above, fun j a hj => ?_⟩ hacc)
    obtain ⟨x1, x2, e1, e2, e3⟩ := hG.pairs j a hj
    have hb := hG.above a (List.mem_of_getElem? hj)
    exact ⟨x1, x2, e1, e2, he a _ (Nat.ne_of_gt (Nat.lt_trans b1 hb)) (Nat.ne_of_gt (Nat.lt_trans b3 hb)) (Nat.ne_of_gt (Nat.lt_trans b4 hb)) (Nat.ne_of_gt (Nat.lt_trans b5 hb)) e3⟩
  | succ k ih =>
    intro i h tk c acc as hk hi hst hkeep hS hacc hal hG
    have hsz : acc.size = i := by rw [← Array.length_toList, hacc, List.length_map, hal]
    have hSl : LS < h.objs.size := Heap.lt_size hS
    refine codeAny_builtin PySem.F.entry_extend_loop ?_
    rw [Around.under_plainId PySem.F.plain_extend_loop _]
    show wpAny _ A.in1 (pyNext (.ref z) >>= _) _ _ _
    refine wpAny_bind (zl_item (s := { s with heap := h, toks := tk }) (A := A.in1) S D1 D2 hst hSl (by omega) (by omega) fun x1 x2 h' tk' y1 y2 hst' ht hz hkp => ?_)
    dsimp only at ht hz hkp ⊢
    have hS' := hkp LS _ (Nat.ne_of_gt b1) (Nat.ne_of_gt b3) (Nat.ne_of_gt b4) (Nat.ne_of_gt b5) hS
    have up : ∀ b o, b ≠ LS → h'.get? b = some o → (h'.update LS (Obj.mapSeq (·.push (Value.ref h.objs.size)))).get? b = some o := fun b o hb e => (Heap.get?_update_other _ _ (Ne.symm hb)).trans e
    show wpAny _ A.in1 (updateSeq LS (·.push (Value.ref h.objs.size)) >>= _) _ _ _
    refine wpAny_bind ?_
    refine wpAny_updateSeq hS' rfl (wpAny_pure ⟨plainId_quiet PySem.F.plain_extend_loop _, ih (i + 1) _ tk' _ (acc.push (Value.ref h.objs.size)) (as ++ [h.objs.size]) (by omega) (by omega)
      (hst'.keep D1 D2 up (Nat.ne_of_lt b1) (Nat.ne_of_lt b2) (Nat.ne_of_lt b3) f1 f2)
      (fun b o q1 q2 q3 q4 q5 e => up b o q1 (hkp b o q2 q3 q4 q5 (hkeep b o q1 q2 q3 q4 q5 e))) (Heap.get?_update_self _ hS' rfl) (by rw [Array.toList_push, hacc, List.map_append]; rfl) (by rw [List.length_append, hal]; rfl) ⟨?_, ?_, ?_⟩⟩) (by rw [hsz]; omega) (by show (acc.push (Value.ref h.objs.size)).size ≤ sizeLine + 1; rw [Array.size_push, hsz]; omega)
    · refine List.pairwise_append.mpr ⟨hG.rise, List.pairwise_singleton _ _, fun a ha b hb => ?_⟩
      rw [List.mem_singleton.mp hb]
      exact hG.there ha
    · intro a ha
      rcases List.mem_append.mp ha with ha | ha
      · exact hG.above a ha
      · rw [List.mem_singleton.mp ha]; exact hSl
    · intro j b hj
      rcases Nat.lt_trichotomy j as.length with q1 | q1 | q1
      · rw [List.getElem?_append_left q1] at hj
        obtain ⟨x1', x2', e1, e2, e3⟩ := hG.pairs j b hj
        have hb := hG.above b (List.mem_of_getElem? hj)
        exact ⟨x1', x2', e1, e2, up b _ (Nat.ne_of_gt hb) (hkp b _ (Nat.ne_of_gt (Nat.lt_trans b1 hb)) (Nat.ne_of_gt (Nat.lt_trans b3 hb)) (Nat.ne_of_gt (Nat.lt_trans b4 hb)) (Nat.ne_of_gt (Nat.lt_trans b5 hb)) e3)⟩
      · subst q1
        have hb : h.objs.size = b := by simpa using hj
        subst hb
        exact ⟨x1, x2, by rw [hal]; exact y1, by rw [hal]; exact y2, up _ _ (Nat.ne_of_gt hSl) ht⟩
      · have hnone : (as ++ [h.objs.size])[j]? = none := List.getElem?_eq_none (by rw [List.length_append, List.length_singleton]; omega)
        rw [hnone] at hj; cases hj
end
theorem zl_no_len : typeLookup (.type "zip") "__len__" = pure none := am_miss_of_fast (by decide +kernel)
theorem zl_no_hint : typeLookup (.type "zip") "__length_hint__" = pure none := am_miss_of_fast (by decide +kernel)
section
variable {prog : Program} {w : World} {A : Around} {E : Value → Shared → Prop} {s : Shared} {z TI TO i1 i2 : Addr} {fp1 fp2 : List Addr} {n1 n2 : Nat} {P1 P2 : Nat → Value → Prop} {St1 St2 : Nat → Heap → Prop}
theorem zl_hint {r : Addr} (hT : s.TypeIs (.ref r) "zip") {Q : Bool → Shared → Prop} (h : Q true s) : wpAny (model prog w) A (Builtin.List.listLengthHint (.ref r)) Q E s := by
  unfold Builtin.List.listLengthHint
  show wpAny _ A (specialOf (Value.ref r) (Str.ofString "__len__") >>= _) _ _ _
  refine wpAny_bind (wpAny_specialOf hT zl_no_len ?_)
  show wpAny _ A (specialOf (Value.ref r) (Str.ofString "__length_hint__") >>= _) _ _ _
  refine wpAny_bind (wpAny_specialOf hT zl_no_hint ?_)
  exact wpAny_pure h
theorem zl_extend {R : Result → Shared → Prop} {LS : Addr} (S : ZipSep2 z TI TO i1 i2 fp1 fp2) (D1 : Draws prog w A.in1.in1 i1 fp1 n1 P1 St1) (D2 : Draws prog w A.in1.in1 i2 fp2 n2 P2 St2) (b1 : z < LS) (b2 : TI < LS) (b3 : TO < LS) (b4 : i1 < LS) (b5 : i2 < LS) (f1 : LS ∉ fp1) (f2 : LS ∉ fp2) (hn : min n1 n2 ≤ sizeLine)
    (hz : IsZip s.heap z TI TO .none) (hst : ZlSt z TI TO i1 i2 LS St1 St2 0 s.heap) (res : Value) (c₀ : Nat) (hS : s.heap.get? LS = some { cls := .type "list", data := .seq #[] c₀ })
    (hR : ∀ h' tk acc c as, (∀ b o, b ≠ LS → b ≠ z → b ≠ TO → b ≠ i1 → b ≠ i2 → s.heap.get? b = some o → h'.get? b = some o) → h'.get? LS = some { cls := .type "list", dict := none, data := .seq acc c, slots := #[] } → as.length = min n1 n2 → ZlG P1 P2 LS h' as →
      acc.toList = as.map Value.ref → R (.ok (.ret res)) { s with heap := h', toks := tk }) :
    wpAny (model prog w) A.in1 (Builtin.List.listExtendWith (.ref LS) (.ref z) res)
      (fun fin s' => match fin with | .done f => R (.ok f) s' | .again c' => c'.quiet = true ∧ codeAny (model prog w) A c' R s') (fun e s' => R (.error e) s') s := by
  have hTy : s.TypeIs (.ref z) "zip" := ⟨_, hz, rfl⟩
  unfold Builtin.List.listExtendWith
  refine wpAny_bind (wpAny_typeOf (T := "zip") hTy ?_)
  have h1 : Builtin.List.listSameRef (.ref LS) (.ref z) = false := by simp [Builtin.List.listSameRef, Nat.ne_of_gt b1]
  have h2 : (Value.type "zip" == Value.type "list") = false := by decide
  have h3 : (Value.type "zip" == Value.type "tuple") = false := by decide
  simp only [h1, h2, h3, Bool.or_false, Bool.false_eq_true, if_false]
  refine wpAny_bind (wpAny_pyIter_zip hz ?_)
  refine wpAny_bind (wpAny_holding (zl_hint hTy ?_))
  refine wpAny_ite_split (fun _ => ?_) (fun hab => absurd rfl hab)
  refine wpAny_bind (wpAny_rule ?_)
  refine wpAny_bind ?_
  show wpAny _ _ (updateSeq LS (·.push .none) >>= fun _ => updateSeq LS (·.pop)) _ _ _
  refine wpAny_bind (wpAny_updateSeq hS rfl ?_)
  have hS₂ := Heap.get?_update_self (Obj.mapSeq (·.push Value.none)) hS rfl
  refine wpAny_updateSeq (hz := by seq_fits) hS₂ rfl ?_
  have hS₃ := Heap.get?_update_self (Obj.mapSeq (·.pop)) hS₂ rfl
  have oth : ∀ b o, b ≠ LS → s.heap.get? b = some o → ((s.heap.update LS (Obj.mapSeq (·.push Value.none))).update LS (Obj.mapSeq (·.pop))).get? b = some o := fun b o hb e => (Heap.get?_update_other _ _ (Ne.symm hb)).trans ((Heap.get?_update_other _ _ (Ne.symm hb)).trans e)
  refine wpAny_pure ⟨plainId_quiet PySem.F.plain_extend_loop _, ?_⟩
  exact zl_loop (s := s) (h₁ := s.heap) S D1 D2 b1 b2 b3 b4 b5 f1 f2 hn res hR (min n1 n2) 0 _ s.toks _ #[] [] (Nat.sub_zero _) (Nat.zero_le _)
    (hst.keep D1 D2 oth (Nat.ne_of_lt b1) (Nat.ne_of_lt b2) (Nat.ne_of_lt b3) f1 f2) (fun b o q1 _ _ _ _ e => oth b o q1 e) hS₃ rfl rfl ⟨List.Pairwise.nil, (fun _ ha => nomatch ha), (fun j a hj => by simp at hj)⟩
theorem zl_call {Q : Value → Shared → Prop} (S : ZipSep2 z TI TO i1 i2 fp1 fp2) (D1 : ∀ A' : Around, A'.handled = none → Draws prog w A' i1 fp1 n1 P1 St1) (D2 : ∀ A' : Around, A'.handled = none → Draws prog w A' i2 fp2 n2 P2 St2) (hh : A.handled = none) (hn : min n1 n2 ≤ sizeLine)
    (g1 : ∀ b ∈ fp1, b < s.heap.objs.size) (g2 : ∀ b ∈ fp2, b < s.heap.objs.size) (hz : IsZip s.heap z TI TO .none) (hTI : IsTupOf2 s.heap TI (.ref i1) (.ref i2)) (hTO : ∃ a1 a2, IsTupOf2 s.heap TO a1 a2) (st1 : St1 0 s.heap) (st2 : St2 0 s.heap)
    (hQ : ∀ h' tk acc c as, (∀ b o, b ≠ z → b ≠ TO → b ≠ i1 → b ≠ i2 → s.heap.get? b = some o → h'.get? b = some o) → h'.get? s.heap.objs.size = some { cls := .type "list", dict := none, data := .seq acc c, slots := #[] } → as.length = min n1 n2 → ZlG P1 P2 s.heap.objs.size h' as →
      acc.toList = as.map Value.ref → Q (.ref s.heap.objs.size) { s with heap := h', toks := tk }) :
    wpAny (model prog w) A (call (.type "list") [.ref z]) Q E s := by
  refine callType_codes (Q₁ := fun obj s₁ => obj = .ref s.heap.objs.size ∧ s₁ = { s with heap := s.heap.push { cls := .type "list", data := .seq #[] } }) PySem.F.called_list (PySem.F.typeCall_list_1 _) PySem.F.entry_list_init
    (code_list_new _ ⟨rfl, rfl⟩) fun obj s₁ h₁ => ?_
  obtain ⟨rfl, rfl⟩ := h₁
  obtain ⟨a1, a2, hTO⟩ := hTO
  have hS : (s.heap.push { cls := .type "list", data := .seq #[] }).get? s.heap.objs.size = some { cls := .type "list", data := .seq #[] } := Heap.get?_push_size _ rfl
  have lz : z < s.heap.objs.size := Heap.lt_size hz
  have lI : TI < s.heap.objs.size := Heap.lt_size hTI
  have lO : TO < s.heap.objs.size := Heap.lt_size hTO
  have l1 : i1 < s.heap.objs.size := g1 _ S.mem1
  have l2 : i2 < s.heap.objs.size := g2 _ S.mem2
  refine ⟨⟨_, hS, rfl⟩, PySem.F.args_list_init_2 _ _, ?_⟩
  have oth₁ : ∀ b o, s.heap.get? b = some o → (s.heap.push { cls := .type "list", data := .seq #[] }).get? b = some o := fun b o e => Heap.get?_push_of_some _ e
  show wpAny _ _ (do let old ← Builtin.List.listItems (.ref s.heap.objs.size); Builtin.List.listUpdate (.ref s.heap.objs.size) (fun _ => #[]); letGo old.toList.reverse; Builtin.List.listExtendWith (.ref s.heap.objs.size) (.ref z) .none) _ _ _
  refine wpAny_bind ?_
  unfold Builtin.List.listItems
  refine wpAny_bind (wpAny_seqItems hS rfl (wpAny_pure ?_))
  show wpAny _ _ (updateSeq s.heap.objs.size (fun _ => #[]) >>= fun _ => letGo (#[] : Array Value).toList.reverse >>= fun _ => Builtin.List.listExtendWith (.ref s.heap.objs.size) (.ref z) .none) _ _ _
  refine wpAny_bind (wpAny_updateSeq hS rfl ?_)
  have hS₂ := Heap.get?_update_self (Obj.mapSeq (fun _ => (#[] : Array Value))) hS rfl
  have oth : ∀ b o, b ≠ s.heap.objs.size → s.heap.get? b = some o → ((s.heap.push { cls := .type "list", data := .seq #[] }).update s.heap.objs.size (Obj.mapSeq (fun _ => (#[] : Array Value)))).get? b = some o :=
    fun b o hb e => (Heap.get?_update_other _ _ (Ne.symm hb)).trans (oth₁ b o e)
  refine wpAny_bind (wpAny_letGo ?_)
  have f1 : s.heap.objs.size ∉ fp1 := fun q => Nat.lt_irrefl _ (g1 _ q)
  have f2 : s.heap.objs.size ∉ fp2 := fun q => Nat.lt_irrefl _ (g2 _ q)
  have d1 := D1 A.in1.in1.in1 hh
  have d2 := D2 A.in1.in1.in1 hh
  have st : ZlSt z TI TO i1 i2 s.heap.objs.size St1 St2 0 s.heap := ⟨hTI, ⟨a1, a2, hTO⟩, st1, st2, .inl hz⟩
  refine zl_extend (A := A.in1) S d1 d2 lz lI lO l1 l2 f1 f2 hn (oth _ _ (Nat.ne_of_lt lz) hz) (st.keep d1 d2 oth (Nat.ne_of_lt lz) (Nat.ne_of_lt lI) (Nat.ne_of_lt lO) f1 f2) .none _ hS₂ fun h' tk acc c as hk hS' hl hG hacc => ?_
  exact ⟨rfl, hQ h' tk acc c as (fun b o q1 q2 q3 q4 e => hk b o (Nat.ne_of_lt (Heap.lt_size e)) q1 q2 q3 q4 (oth b o (Nat.ne_of_lt (Heap.lt_size e)) e)) hS' hl hG hacc⟩
end
end Lz
set_option maxRecDepth 100000
set_option maxHeartbeats 2000000
namespace L2
open PySem PySem.Spec PyProof.Rows
/-! lists and tuples alike: zip, enumerate of both, list(zip(..)) -/
/-- a tuple (true) or a list (false) -/
def SqB (K : PySem.W.Frag) (t : Bool) (H : Hp) (a : Addr) (xs : List V) : Prop := match t with | true => SqT K H a xs | false => SqL K H a xs
def seqAtB (t : Bool) (h : Heap) (a : Addr) (its : Array Value) : Prop := match t with | true => h.IsTuple a its | false => h.IsList a its
def itB (t : Bool) (h : Heap) (it a : Addr) (i : Nat) : Prop := match t with | true => h.IsTupleIter it a i | false => h.IsListIter it a i
def oB (t : Bool) (a : Addr) : Obj := match t with | true => { cls := .type "tuple_iterator", data := .fields #[.ref a, .int 0 0] } | false => { cls := .type "list_iterator", data := .fields #[.ref a, .int 0 0] }
theorem SqB.tup {K : PySem.W.Frag} {H : Hp} {a : Addr} {xs : List V} (h : H a = some (.tup xs)) : SqB K true H a xs := SqT.of h
theorem SqB.lst {K : PySem.W.Frag} {H : Hp} {a : Addr} {xs : List V} (h : H a = some (.lst xs)) : SqB K false H a xs := SqL.of h
theorem drawsB {prog : Program} {w : World} {A : Around} (t : Bool) (hh : A.handled = none) (it a : Addr) (hne : a ≠ it) (its : Array Value) :
    Draws prog w A it [it, a] its.size (fun i v => its[i]? = some v) (fun i h => itB t h it a i ∧ seqAtB t h a its) := by
  cases t
  · exact Draws.list hh it a hne its
  · exact Draws.tuple hh it a hne its
theorem beginsB (t : Bool) (a : Addr) (its : Array Value) : Begins (.ref a) (oB t a) (fun h => seqAtB t h a its) := by
  cases t
  · exact begins_list a its
  · exact begins_tuple a its
theorem itB_new {t : Bool} {h : Heap} {it a : Addr} (e : h.get? it = some (oB t a)) : itB t h it a 0 := by
  cases t
  · exact ⟨_, e, rfl, rfl⟩
  · exact ⟨_, e, rfl, rfl⟩
theorem itB.live {t : Bool} {h : Heap} {it a : Addr} {i : Nat} (x : itB t h it a i) : ∃ o, h.get? it = some o ∧ ∀ v, o.data ≠ .cell v := by
  cases t
  · obtain ⟨o, e, _, d⟩ := x
    exact ⟨o, e, fun v q => by rw [d] at q; cases q⟩
  · obtain ⟨o, e, _, d⟩ := x
    exact ⟨o, e, fun v q => by rw [d] at q; cases q⟩
theorem itB.at {t : Bool} {h h' : Heap} {it a : Addr} {i : Nat} (x : itB t h it a i) (k : ∀ o, h.get? it = some o → h'.get? it = some o) : itB t h' it a i := by
  cases t
  · exact Heap.IsListIter.at x k
  · exact Heap.IsTupleIter.at x k
section
variable {X : Cx} {pins : List (Addr × Obj)} {σ : St} {H : Hp} {s : Shared}
theorem Inv.sqB {t : Bool} {a : Addr} {xs : List V} (I : Inv X pins σ H s) (h : SqB X.K t H a xs) : ∃ its : List Value, Vals xs its ∧ seqAtB t s.heap a its.toArray ∧ xs.length ≤ sizeLine ∧ a < s.heap.objs.size := by
  cases t
  · obtain ⟨its, rv, p, z⟩ := I.list h
    exact ⟨its, rv, p.isList, z, p.lt⟩
  · obtain ⟨its, rv, p, z⟩ := I.tuple h
    exact ⟨its, rv, p, z, by obtain ⟨o, e, _⟩ := id p; exact Heap.lt_size e⟩
theorem Inv.sqB_inj {t : Bool} {a : Addr} {xs ys : List V} (I : Inv X pins σ H s) (h : SqB X.K t H a xs) (h' : SqB X.K t H a ys) : xs = ys := by
  cases t
  · exact I.list_inj h h'
  · exact I.tuple_inj h h'
end
/-- a and b as they stand at each turn, the items in new pairs -/
def ItzB (K : PySem.W.Frag) (t u : Bool) (a b : Addr) : It :=
  ⟨fun i H => ∃ (xs ys : List V) (x y : V), SqB K t H a xs ∧ SqB K u H b ys ∧ xs[i]? = some x ∧ ys[i]? = some y,
    fun i H v H' => ∃ T x y, v = .ref T ∧ H T = none ∧ H' = upd H T (.tup [x, y]) ∧ (∀ xs, SqB K t H a xs → xs[i]? = some x) ∧ ∀ ys, SqB K u H b ys → ys[i]? = some y,
    fun i H => ∃ xs ys : List V, SqB K t H a xs ∧ SqB K u H b ys ∧ (xs.length = i ∨ ys.length = i) ∧ i ≤ xs.length ∧ i ≤ ys.length⟩
theorem turn_zipB {P : Program} {w : World} {K : PySem.W.Frag} {elts : List Expr} {kk : Nat} {tpos : Pos} {t u : Bool} {a b z TI TO i1 i2 : Addr} (D : ZipSep2 z TI TO i1 i2 [i1, a] [i2, b]) (d1 : a ≠ i1) (d2 : b ≠ i2) :
    Turn P w K (.Tuple elts kk tpos) (ItzB K t u a b) [z, TI, TO, i1, i2] z (fun i h => IsZip h z TI TO .none ∧ IsTupOf2 h TI (.ref i1) (.ref i2) ∧ (∃ x y, IsTupOf2 h TO x y) ∧ itB t h i1 a i ∧ itB u h i2 b i) where
  mem := by simp
  obj := fun i h st c hc => by
    obtain ⟨hz, hTI, ⟨x, y, hTO⟩, l1, l2⟩ := st
    have e' : c = z ∨ c = TI ∨ c = TO ∨ c = i1 ∨ c = i2 := by simpa using hc
    rcases e' with q | q | q | q | q
    · rw [q]; exact ⟨_, hz, fun v q => nomatch q⟩
    · rw [q]; exact ⟨_, hTI, fun v q => nomatch q⟩
    · rw [q]; exact ⟨_, hTO, fun v q => nomatch q⟩
    · rw [q]; exact l1.live
    · rw [q]; exact l2.live
  keep := fun i h h' st k => by
    obtain ⟨hz, hTI, ⟨x, y, hTO⟩, h1, h2⟩ := st
    exact ⟨k z (by simp) _ hz, k TI (by simp) _ hTI, ⟨x, y, k TO (by simp) _ hTO⟩, h1.at fun o q => k i1 (by simp) o q, h2.at fun o q => k i2 (by simp) o q⟩
  item := by
    intro X hP hw hK hc i pins s σ H E I hf st hg
    subst hP hw hK
    obtain ⟨hz, hTI, ⟨x0, y0, hTO⟩, h1, h2⟩ := st
    obtain ⟨xs, ys, x, y, hqx, hqy, hx, hy⟩ := hg
    obtain ⟨its, rv, p, _⟩ := I.sqB hqx
    obtain ⟨its2, rv2, p2, _⟩ := I.sqB hqy
    obtain ⟨v1, hu, ru⟩ := rv.get hx
    obtain ⟨v2, hu2, ru2⟩ := rv2.get hy
    have hzl : z < s.heap.objs.size := Heap.lt_size hz
    have k1 : i < its.toArray.size := by have := (List.getElem?_eq_some_iff.mp hu).1; simpa using this
    have k2 : i < its2.toArray.size := by have := (List.getElem?_eq_some_iff.mp hu2).1; simpa using this
    refine wpAny_pyNext_zipD2_item D (drawsB (prog := X.prog) (w := X.w) (A := X.A.in1) t (I.ok.hd hc) i1 a d1 its.toArray) (drawsB (prog := X.prog) (w := X.w) (A := X.A.in1) u (I.ok.hd hc) i2 b d2 its2.toArray) hz hTI hTO ⟨h1, p⟩ ⟨h2, p2⟩ k1 k2 fun x1 x2 h' tk y1 y2 z' TO' g1 g2 hT hsz hk => ?_
    have ex1 : x1 = v1 := by simpa [hu, eq_comm] using y1
    have ex2 : x2 = v2 := by simpa [hu2, eq_comm] using y2
    subst ex1 ex2
    refine ⟨_, rfl, wpAny_letOwnedTupleGo_zip (s := { s with heap := h', toks := tk }) z' fun h'' z'' sb => ?_⟩
    have hT2 : h''.get? s.heap.objs.size = some { cls := .type "tuple", data := .seq #[x1, x2] } := (sb.2 _ (Nat.ne_of_gt hzl)).trans hT
    have new : ObjOk X.prog X.w (upd H s.heap.objs.size (.tup [x, y])) h'' s.heap.objs.size (.tup [x, y]) :=
      ⟨by show 2 ≤ sizeLine; decide, [x1, x2], .cons ru (.cons ru2 .nil), ⟨_, hT2, rfl, _, rfl⟩⟩
    have I1 : Inv X pins σ (upd H s.heap.objs.size (.tup [x, y])) { s with heap := h'', toks := tk } :=
      I.turnedNew (t' := tk) (ch := [z, TI, TO, i1, i2]) (fun c o hb q => (sb.2 c (fun q' => hb (by simp [q']))).trans (hk c o (fun q' => hb (by simp [q'])) (fun q' => hb (by simp [q'])) (fun q' => hb (by simp [q'])) (fun q' => hb (by simp [q'])) q)) hf (Nat.le_refl _) new
    have n1 : i1 ≠ z := Ne.symm D.zi1
    have n2 : i2 ≠ z := Ne.symm D.zi2
    refine ⟨.ref s.heap.objs.size, _, I1, rfl, ⟨_, x, y, rfl, I.hok.fresh (Nat.le_refl _), rfl, fun l hl => by rw [I.sqB_inj hl hqx]; exact hx, fun l hl => by rw [I.sqB_inj hl hqy]; exact hy⟩, ⟨z'', ?_, ⟨x1, x2, ?_⟩, ?_, ?_⟩, fun c hcm => ?_⟩
    · exact (sb.2 _ D.TIz).trans (hk _ _ D.TIz D.TITO D.TIi1 D.TIi2 hTI)
    · exact (sb.2 _ D.TOz).trans TO'
    · exact g1.1.at fun o q => (sb.2 _ n1).trans q
    · exact g2.1.at fun o q => (sb.2 _ n2).trans q
    · have hlt : c < s.heap.objs.size := by
        have e' : c = z ∨ c = TI ∨ c = TO ∨ c = i1 ∨ c = i2 := by simpa using hcm
        rcases e' with q | q | q | q | q
        · rw [q]; exact hzl
        · rw [q]; exact Heap.lt_size hTI
        · rw [q]; exact Heap.lt_size hTO
        · rw [q]; obtain ⟨_, e1, _⟩ := h1.live; exact Heap.lt_size e1
        · rw [q]; obtain ⟨_, e2, _⟩ := h2.live; exact Heap.lt_size e2
      rw [upd_ne (Nat.ne_of_lt hlt)]
      exact (hf c hcm).1
  done := by
    intro X hP hw hK hc i pins s σ H E I hf st hg
    subst hP hw hK
    obtain ⟨hz, hTI, ⟨x0, y0, hTO⟩, h1, h2⟩ := st
    obtain ⟨xs, ys, hqx, hqy, hend, k1, k2⟩ := hg
    obtain ⟨its, rv, p, _⟩ := I.sqB hqx
    obtain ⟨its2, rv2, p2, _⟩ := I.sqB hqy
    have l1 := rv.length
    have l2 := rv2.length
    have s1 : its.toArray.size = its.length := by simp
    have s2 : its2.toArray.size = its2.length := by simp
    exact wpAny_pyNext_zipD2_end D (drawsB (prog := X.prog) (w := X.w) (A := X.A.in1) t (I.ok.hd hc) i1 a d1 its.toArray) (drawsB (prog := X.prog) (w := X.w) (A := X.A.in1) u (I.ok.hd hc) i2 b d2 its2.toArray) hz hTI hTO ⟨h1, p⟩ ⟨h2, p2⟩ (by omega) (by omega) (by omega) fun h' tk hk => ⟨rfl, I.turnedL (t' := tk) (ch := [z, TI, TO, i1, i2]) (fun c o hb q =>
      hk c o (fun q' => hb (by simp [q'])) (fun q' => hb (by simp [q'])) (fun q' => hb (by simp [q'])) (fun q' => hb (by simp [q'])) q) hf⟩
  self := fun A i s Q E st h => wpAny_pyIter_zip st.1 h
def iZipB (K : PySem.W.Frag) (ta : TA) : TI := fun σ H R => ta σ H fun vs H1 => ∃ (t u : Bool) (a b : Addr) (xs ys : List V), vs = [.ref a, .ref b] ∧ SqB K t H1 a xs ∧ SqB K u H1 b ys ∧ R (ItzB K t u a b) H1
theorem pi_zipB {X : Cx} {e e2 : Expr} {ta : TA} {p pos tpos : Pos} {elts : List Expr} {kk : Nat} (hg : Gl X "zip") (hm : X.mg "zip" = none) (ha : PA X [e, e2] ta)
    (hs : starEach [e, e2] X.env = (false, eval e X.env) :: starEach [e2] X.env := by rfl) (hpl : (backTo pos (starEach [e2] X.env)).any (·.1) = false := by rfl) :
    PI X (.Tuple elts kk tpos) (.Call (.Name "zip" p) [e, e2] [] pos) (iZipB X.K ta) := by
  refine ⟨fun pins s σ H R I h => ?_⟩
  refine Call_ (ld_blt I hg hm PyProof.Rows.boot_zip (PyProof.Rows.callWith_type1 (thn (ha.run pos pins s σ H _ I h) fun us s1 ⟨vs, H1, I1, r1, q1⟩ => ?_) hs hpl))
  obtain ⟨t, u, a, b, xs, ys, ex, hqx, hqy, q⟩ := q1
  subst ex
  cases r1 with
  | cons r rr =>
    cases rr with
    | cons r' rr =>
      cases rr
      cases r
      cases r'
      obtain ⟨its, rv, p1, _, la⟩ := I1.sqB hqx
      obtain ⟨its2, rv2, p2, _, lb⟩ := I1.sqB hqy
      refine zip_begins2 (beginsB t a its.toArray) (beginsB u b its2.toArray) p1 p2 fun h' hz hTI hTO g1 g2 hsz hk => wpAny_pyIter_zip hz ?_
      have I2 : Inv X pins σ H1 { s1 with heap := h' } := I1.kept (t' := s1.toks) hk
      have sep := zip_sep2 (N := s1.heap.objs.size) (fp1 := [a]) (fp2 := [b]) (fun b' hb => by rw [List.mem_singleton.mp hb]; exact la) (fun b' hb => by rw [List.mem_singleton.mp hb]; exact lb)
      refine ⟨s1.heap.objs.size + 4, [s1.heap.objs.size + 4, s1.heap.objs.size + 2, s1.heap.objs.size + 3, s1.heap.objs.size, s1.heap.objs.size + 1], _, _, H1, rfl, I2, turn_zipB (t := t) (u := u) sep (Nat.ne_of_lt la) (Nat.ne_of_lt (Nat.lt_succ_of_lt lb)), ⟨hz, hTI, ⟨_, _, hTO⟩, itB_new g1, itB_new g2⟩, fun c hcm => ?_, q⟩
      have e' : c = s1.heap.objs.size + 4 ∨ c = s1.heap.objs.size + 2 ∨ c = s1.heap.objs.size + 3 ∨ c = s1.heap.objs.size ∨ c = s1.heap.objs.size + 1 := by simpa using hcm
      have hle : s1.heap.objs.size ≤ c := by
        rcases e' with z | z | z | z | z
        · rw [z]; exact Nat.le_add_right _ _
        · rw [z]; exact Nat.le_add_right _ _
        · rw [z]; exact Nat.le_add_right _ _
        · rw [z]; exact Nat.le_refl _
        · rw [z]; exact Nat.le_add_right _ _
      exact I1.fpOk hle (I1.hok.fresh hle)
theorem walk_zipB {K : PySem.W.Frag} {t u : Bool} {a b : Addr} {xs ys : List V} {n : Nat} (hn : n = min xs.length ys.length) : Walk (ItzB K t u a b) n (fun H => SqB K t H a xs ∧ SqB K u H b ys) (YPair (fun i => xs[i]?) (fun i => ys[i]?)) := by
  subst hn
  refine ⟨fun i _ hi q => ?_, fun _ q => ⟨xs, ys, q.1, q.2, by omega, by omega, by omega⟩, fun i H v H' _ q y => ?_⟩
  · have h1 : i < xs.length := by omega
    have h2 : i < ys.length := by omega
    exact ⟨xs, ys, xs[i], ys[i], q.1, q.2, by simp [h1], by simp [h2]⟩
  · obtain ⟨T, x, z, h1, h2, h3, h4, h5⟩ := y
    exact ⟨T, x, z, h1, h2, h3, h4 xs q.1, h5 ys q.2⟩

/-! ### enumerate of both -/
theorem meets_enumB {v : Value} {o : Obj} {H : Heap → Prop} (B : Begins v o H) :
    Meets (Builtin.«enumerate.__new__» ⟨[.type "enumerate", v], []⟩) (fun _ R s => H s.heap ∧
      R (.ok (.ret (.ref (s.heap.push o).objs.size))) { s with heap := (s.heap.push o).push { cls := .type "enumerate", data := .fields #[.none, .bool false, .ref s.heap.objs.size, rawInt 0, .none, .none] } }) :=
  .of_wp fun prog w A R s h => by
    obtain ⟨hp, g, d, tk, os⟩ := s; obtain ⟨h1, h⟩ := h
    have hsub := sub_enumerate
    have q1 : ∀ {A' : Around} {E : Value → Shared → Prop} {Q : Value → Shared → Prop}, Q (.ref hp.objs.size) ⟨hp.push o, g, d, tk, os⟩ → wpAny (model prog w) A' (pyIter v) Q E ⟨hp, g, d, tk, os⟩ :=
      fun q => B.iter prog w _ _ ⟨hp, g, d, tk, os⟩ _ h1 q
    wp_walk using q1
    refine wpAny_stack_any fun st => wpAny_pure ?_
    split
    · rename_i c _ _ _ _ _
      cases (c == Value.type "enumerate")
      · wp_walk using q1
        exact ⟨_, rfl, h⟩
      · wp_walk using q1
        exact ⟨_, rfl, h⟩
    · wp_walk using q1
      exact ⟨_, rfl, h⟩
theorem enum_beginsB {prog : Program} {w : World} {A : Around} {E : Value → Shared → Prop} {s : Shared} {v : Value} {o : Obj} {H : Heap → Prop} {Q : Value → Shared → Prop} (B : Begins v o H) (h1 : H s.heap)
    (h : ∀ h', IsEnum h' (s.heap.objs.size + 1) s.heap.objs.size 0 .none → h'.get? s.heap.objs.size = some o → h'.objs.size = s.heap.objs.size + 2 →
      (∀ b o, s.heap.get? b = some o → h'.get? b = some o) → Q (.ref (s.heap.objs.size + 1)) { s with heap := h' }) :
    wpAny (model prog w) A (call (.type "enumerate") [v]) Q E s := by
  refine callType_new F.called_enumerate (by decide) (F.typeCall_enumerate_1 _) (F.newCall_enumerate_1 _) (fun obj => F.args_object_init_2 obj _) F.entry_enumerate_new
    (meets_enumB B) ⟨h1, ?_⟩
  have hz : (s.heap.push o).objs.size = s.heap.objs.size + 1 := Heap.size_push ..
  show _ ∧ _
  rw [hz]
  have he : IsEnum ((s.heap.push o).push { cls := .type "enumerate", data := .fields #[.none, .bool false, .ref s.heap.objs.size, rawInt 0, .none, .none] }) (s.heap.objs.size + 1) s.heap.objs.size 0 .none := by
    have := Heap.get?_push_size (s.heap.push o) (o := { cls := .type "enumerate", data := .fields #[.none, .bool false, .ref s.heap.objs.size, rawInt 0, .none, .none] }) rfl
    rw [hz] at this; exact this
  exact ⟨⟨_, he, rfl⟩, h _ he (Heap.get?_push_of_some _ (Heap.get?_push_size _ B.free)) (by rw [Heap.size_push, hz]) fun b o x => Heap.get?_push_of_some _ (Heap.get?_push_of_some _ x)⟩
def IteB (K : PySem.W.Frag) (t : Bool) (a : Addr) : It :=
  ⟨fun i H => ∃ (xs : List V) (x : V), SqB K t H a xs ∧ xs[i]? = some x, fun i H v H' => ∃ T x, v = .ref T ∧ H T = none ∧ H' = upd H T (.tup [.int (i : Nat), x]) ∧ ∀ xs, SqB K t H a xs → xs[i]? = some x, fun i H => ∃ xs : List V, SqB K t H a xs ∧ xs.length = i⟩
theorem turn_enumB {P : Program} {w : World} {K : PySem.W.Frag} {elts : List Expr} {kk : Nat} {tpos : Pos} {t : Bool} (a e it : Addr) (d1 : a ≠ it) (d2 : e ≠ a) :
    Turn P w K (.Tuple elts kk tpos) (IteB K t a) [e, it] e (fun i h => (∃ old, IsEnum h e it ((i : Nat) : Int) old) ∧ itB t h it a i ∧ e ≠ it) where
  mem := by simp
  obj := fun i h st b hb => by
    obtain ⟨⟨old, he⟩, hi, _⟩ := st
    have e' : b = e ∨ b = it := by simpa using hb
    rcases e' with z | z
    · rw [z]; exact ⟨_, he, fun v q => nomatch q⟩
    · rw [z]; exact hi.live
  keep := fun i h h' st k => let ⟨⟨old, he⟩, hi, hne⟩ := st; ⟨⟨old, k e (by simp) _ he⟩, hi.at fun o q => k it (by simp) o q, hne⟩
  item := by
    intro X hP hw hK hc i pins s σ H E I hf st hg
    subst hP hw hK
    obtain ⟨⟨old, he⟩, hit, hne⟩ := st
    obtain ⟨xs, x, hq, hx⟩ := hg
    obtain ⟨its, rv, p, hz, la⟩ := I.sqB hq
    obtain ⟨v1, hu, ru⟩ := rv.get hx
    have hel : e < s.heap.objs.size := Heap.lt_size he
    have hil : it < s.heap.objs.size := by obtain ⟨_, q, _⟩ := hit.live; exact Heap.lt_size q
    have k1 : i < its.toArray.size := by have := (List.getElem?_eq_some_iff.mp hu).1; simpa using this
    refine wpAny_pyNext_enum_itemC (drawsB (prog := X.prog) (w := X.w) (A := X.A.in1) t (I.ok.hd hc) it a d1 its.toArray) he ⟨hit, p⟩ k1 hne (by simp; exact ⟨hne, d2⟩) fun x1 h' tk y1 ho hit' hT hsz hk => ?_
    have ex1 : x1 = v1 := by simpa [hu, eq_comm] using y1
    subst ex1
    refine ⟨_, rfl, wpAny_letOwnedTupleGo_enum (s := { s with heap := h', toks := tk + 1 }) ho fun h'' he' sb => ?_⟩
    have hT2 : h''.get? s.heap.objs.size = some { cls := .type "tuple", data := .seq #[.int i tk, x1] } := (sb.2 _ (Nat.ne_of_gt hel)).trans hT
    have new : ObjOk X.prog X.w (upd H s.heap.objs.size (.tup [.int (i : Nat), x])) h'' s.heap.objs.size (.tup [.int (i : Nat), x]) :=
      ⟨by show 2 ≤ sizeLine; decide, [.int i tk, x1], .cons ⟨_, rfl⟩ (.cons ru .nil), ⟨_, hT2, rfl, _, rfl⟩⟩
    have I1 : Inv X pins σ (upd H s.heap.objs.size (.tup [.int (i : Nat), x])) { s with heap := h'', toks := tk + 1 } :=
      I.turnedNew (ch := [e, it]) (fun b ob hb q => (sb.2 b (fun z => hb (by simp [z]))).trans (hk b ob (fun z => hb (by simp [z])) (fun z => hb (by simp [z])) q)) hf (Nat.le_refl _) new
    refine ⟨.ref s.heap.objs.size, _, I1, rfl, ⟨_, x, rfl, I.hok.fresh (Nat.le_refl _), rfl, fun ys hy => by rw [I.sqB_inj hy hq]; exact hx⟩, ⟨⟨x1, ?_⟩, hit'.1.at fun o q => (sb.2 it (Ne.symm hne)).trans q, hne⟩, fun b hb => ?_⟩
    · have e1 : ((i + 1 : Nat) : Int) = (i : Int) + 1 := by omega
      rw [e1]; exact he'
    · have hb' : b < s.heap.objs.size := by
        have e' : b = e ∨ b = it := by simpa using hb
        rcases e' with z | z
        · rw [z]; exact hel
        · rw [z]; exact hil
      rw [upd_ne (Nat.ne_of_lt hb')]
      exact (hf b hb).1
  done := by
    intro X hP hw hK hc i pins s σ H E I hf st hg
    subst hP hw hK
    obtain ⟨⟨old, he⟩, hit, hne⟩ := st
    obtain ⟨xs, hq, hx⟩ := hg
    obtain ⟨its, rv, p, hz, la⟩ := I.sqB hq
    have hl := rv.length
    have e0 : i = its.toArray.size := by simp; omega
    subst e0
    exact wpAny_pyNext_enum_endD (drawsB (prog := X.prog) (w := X.w) (A := X.A.in1) t (I.ok.hd hc) it a d1 its.toArray) he ⟨hit, p⟩ fun h' hx => ⟨rfl, I.turnedL (t' := s.toks) (ch := [e, it]) (fun b o hb q => hx b o (fun z => hb (by simp [z])) q) hf⟩
  self := fun A i s Q E st h => let ⟨⟨_, he⟩, _⟩ := st; wpAny_pyIter_enum he h
def iEnumB (K : PySem.W.Frag) (ta : TA) : TI := fun σ H R => ta σ H fun vs H1 => ∃ (t : Bool) (a : Addr) (xs : List V), vs = [.ref a] ∧ SqB K t H1 a xs ∧ R (IteB K t a) H1
theorem pi_enumB {X : Cx} {e : Expr} {ta : TA} {p pos tpos : Pos} {elts : List Expr} {kk : Nat} (hg : Gl X "enumerate") (hm : X.mg "enumerate" = none) (ha : PA X [e] ta) (hs : starEach [e] X.env = [(false, eval e X.env)] := by rfl) :
    PI X (.Tuple elts kk tpos) (.Call (.Name "enumerate" p) [e] [] pos) (iEnumB X.K ta) := by
  refine ⟨fun pins s σ H R I h => ?_⟩
  refine Call_ (ld_blt I hg hm boot_enumerate (PyProof.Rows.callWith_type1 (thn (ha.run pos pins s σ H _ I h) fun us s1 ⟨vs, H1, I1, r1, q1⟩ => ?_) hs rfl))
  obtain ⟨t, a, xs, ex, hq, q⟩ := q1
  subst ex
  cases r1 with
  | cons r rr =>
    cases rr
    cases r
    obtain ⟨its, rv, p', hz, la⟩ := I1.sqB hq
    refine enum_beginsB (beginsB t a its.toArray) p' fun h' he hit hsz hk => wpAny_pyIter_enum he ?_
    have I2 : Inv X pins σ H1 { s1 with heap := h' } := I1.kept (t' := s1.toks) hk
    refine ⟨s1.heap.objs.size + 1, [s1.heap.objs.size + 1, s1.heap.objs.size], _, _, H1, rfl, I2, turn_enumB (t := t) a (s1.heap.objs.size + 1) s1.heap.objs.size (Nat.ne_of_lt la) (Nat.ne_of_gt (Nat.lt_succ_of_lt la)), ⟨⟨.none, he⟩, itB_new hit, Nat.succ_ne_self _⟩, fun b hb => ?_, q⟩
    have e' : b = s1.heap.objs.size + 1 ∨ b = s1.heap.objs.size := by simpa using hb
    have hle : s1.heap.objs.size ≤ b := by
      rcases e' with z | z
      · rw [z]; exact Nat.le_add_right _ _
      · rw [z]; exact Nat.le_refl _
    exact I1.fpOk hle (I1.hok.fresh hle)
theorem walk_enumB {K : PySem.W.Frag} {t : Bool} {a : Addr} {xs : List V} : Walk (IteB K t a) xs.length (fun H => SqB K t H a xs) (YPair (fun i => some (.int (i : Nat))) (fun i => xs[i]?)) := by
  refine ⟨fun i _ hi q => ⟨xs, xs[i], q, by simp [hi]⟩, fun _ q => ⟨xs, q, rfl⟩, fun i H v H' _ q y => ?_⟩
  obtain ⟨T, x, h1, h2, h3, h4⟩ := y
  exact ⟨T, .int (i : Nat), x, h1, h2, h3, rfl, h4 xs q⟩

/-! ### list(zip(a, b)) -/
/-- the pairs tracked at their addresses -/
def putP : Hp → List Addr → List (V × V) → Hp
  | H, a :: as, p :: ps => putP (upd H a (.tup [p.1, p.2])) as ps
  | H, _, _ => H
theorem putP_off {b : Addr} : ∀ (as : List Addr) (ps : List (V × V)) (H : Hp), b ∉ as → putP H as ps b = H b
  | [], _, _, _ => rfl
  | _ :: _, [], _, _ => rfl
  | a :: as, p :: ps, H, h => by
    show putP (upd H a (.tup [p.1, p.2])) as ps b = H b
    rw [putP_off as ps _ (fun z => h (List.mem_cons_of_mem _ z)), upd_ne (fun z => h (by rw [z]; exact List.mem_cons_self))]
theorem putP_at : ∀ (as : List Addr) (ps : List (V × V)) (H : Hp), as.length = ps.length → as.Nodup → Paired (fun (t : Addr) (p : V × V) => putP H as ps t = some (.tup [p.1, p.2])) as ps
  | [], [], _, _, _ => .nil
  | [], _ :: _, _, h, _ => by cases h
  | _ :: _, [], _, h, _ => by cases h
  | a :: as, p :: ps, H, h, hn => by
    have hn' := List.nodup_cons.mp hn
    have ih := putP_at as ps (upd H a (.tup [p.1, p.2])) (Nat.succ.inj h) hn'.2
    refine .cons ?_ ih
    show putP (upd H a (.tup [p.1, p.2])) as ps a = some (.tup [p.1, p.2])
    rw [putP_off as ps _ hn'.1, upd_same]
theorem pairs_laid {X : Cx} {pins : List (Addr × Obj)} {σ : L2.St} {H : Hp} {s : Shared} {h' : Heap} {tk : Nat} {ps : List (V × V)} {acc : Array Value} {c : Nat} {as : List Addr} {q : Addr} (I : Inv X pins σ H s) (hz : ps.length ≤ sizeLine)
    (hk : ∀ b o, s.heap.get? b = some o → h'.get? b = some o) (hq : s.heap.objs.size ≤ q) (hS : h'.get? q = some { cls := .type "list", dict := none, data := .seq acc c, slots := #[] }) (hl : as.length = ps.length) (rise : as.Pairwise (· < ·)) (above : ∀ a ∈ as, q < a)
    (prs : ∀ (j : Nat) (a : Addr), as[j]? = some a → ∃ (p : V × V) (x1 x2 : Value), ps[j]? = some p ∧ RelV p.1 x1 ∧ RelV p.2 x2 ∧ h'.get? a = some { cls := .type "tuple", data := .seq #[x1, x2] }) (hacc : acc.toList = as.map Value.ref) :
    ∃ H' : Hp, (∀ b o, H b = some o → H' b = some o) ∧ H q = none ∧ (∀ t ∈ as, H t = none) ∧ q ∉ as ∧ H' q = some (.lst (as.map V.ref)) ∧ Paired (fun (t : Addr) (p : V × V) => H' t = some (.tup [p.1, p.2])) as ps ∧ Inv X pins σ H' { s with heap := h', toks := tk } := by
  have hSn : q ∉ as := fun z => Nat.lt_irrefl _ (above _ z)
  have nd : as.Nodup := List.Pairwise.imp (fun {a b} (h : a < b) => Nat.ne_of_lt h) rise
  have lo : ∀ t ∈ as, s.heap.objs.size ≤ t := fun t ht => Nat.le_trans hq (Nat.le_of_lt (above t ht))
  have new : ∀ t ∈ as, H t = none := fun t ht => I.hok.fresh (lo t ht)
  have newS : H q = none := I.hok.fresh hq
  have atP := putP_at as ps (upd H q (.lst (as.map V.ref))) hl nd
  have off : ∀ b, b ∉ as → b ≠ q → putP (upd H q (.lst (as.map V.ref))) as ps b = H b := fun b h1 h2 => by rw [putP_off as ps _ h1, upd_ne h2]
  have low : ∀ b o, s.heap.get? b = some o → b ∉ as ∧ b ≠ q := fun b o e => ⟨fun z => absurd (Heap.lt_size e) (Nat.not_lt.mpr (lo b z)), Nat.ne_of_lt (Nat.lt_of_lt_of_le (Heap.lt_size e) hq)⟩
  have kp : ∀ b u, H b = some u → (putP (upd H q (.lst (as.map V.ref))) as ps) b = some u := fun b u e => by
    rw [off b (fun z => by rw [new b z] at e; cases e) (fun z => by rw [z, newS] at e; cases e)]
    exact e
  have eS : putP (upd H q (.lst (as.map V.ref))) as ps q = some (.lst (as.map V.ref)) := by rw [putP_off as ps _ hSn, upd_same]
  refine ⟨putP (upd H q (.lst (as.map V.ref))) as ps, kp, newS, new, hSn, eS, atP, ?_⟩
  refine I.call' (ch := []) rfl ⟨fun b o q _ _ _ => hk b o q, fun b o q _ _ _ => ⟨o.slots, hk b o q⟩, fun b o q n _ => ?_, fun b o q _ => ⟨o, hk b o q⟩, fun b xs q => kp b _ q, fun b o u q => kp b _ q, fun b ps q => ⟨#[], by rw [kp b _ q]; simp⟩⟩ (fun b u g => ?_) I.bare fun b z => by simp at z
  · obtain ⟨z1, z2⟩ := low b o q
    rw [off b z1 z2]
    exact n
  · by_cases hb : b ∈ as
    · obtain ⟨j, pk, e1, e2, e3⟩ := LiI.paired_ix atP hb
      rw [e3] at g
      cases g
      obtain ⟨p, x1, x2, f1, f2, f3, f4⟩ := prs j b e1
      rw [e2] at f1
      cases f1
      exact ⟨by show 2 ≤ sizeLine; decide, [x1, x2], .cons f2 (.cons f3 .nil), ⟨_, f4, rfl, _, rfl⟩⟩
    · by_cases hb2 : b = q
      · rw [hb2] at g ⊢
        rw [eS] at g
        cases g
        refine ⟨by rw [List.length_map]; omega, acc.toList, c, by rw [hacc]; exact LiI.vals_refs as, ?_⟩
        rw [Array.toArray_toList]
        exact hS
      · rw [off b hb hb2] at g
        exact (I.hok b u g).stay (fun d v _ y => hk d v y) (fun d y => kp d _ y) fun d xs y => kp d _ y
def rLz (K : PySem.W.Frag) : List V → Hp → VK → Prop := fun vs H Q => ∃ (t u : Bool) (a b : Addr) (xs ys : List V), vs = [.ref a, .ref b] ∧ SqB K t H a xs ∧ SqB K u H b ys ∧
  ∀ (H' : Hp) (p : Addr) (ts : List Addr), (∀ c o, H c = some o → H' c = some o) → H p = none → (∀ t ∈ ts, H t = none) → p ∉ ts → H' p = some (.lst (ts.map V.ref)) → Paired (fun (t : Addr) (q : V × V) => H' t = some (.tup [q.1, q.2])) ts (xs.zip ys) → Q (.ref p) H'
def tLz (K : PySem.W.Frag) (ta : TA) : TE := fun σ H Q => ta σ H fun vs H1 => rLz K vs H1 Q
theorem pe_listZip {X : Cx} {e e2 : Expr} {ta : TA} {p p2 pos2 pos : Pos} (hc : X.calm = true) (ha : PA X [e, e2] ta) (hg : Gl X "list") (hm : X.mg "list" = none) (hg2 : Gl X "zip") (hm2 : X.mg "zip" = none) (hv : bootBuiltins "list" = some (.type "list") := by rfl)
    (hs2 : starEach [e, e2] X.env = (false, eval e X.env) :: starEach [e2] X.env := by rfl) (hpl2 : (backTo pos2 (starEach [e2] X.env)).any (·.1) = false := by rfl)
    (hs : starEach [.Call (.Name "zip" p2) [e, e2] [] pos2] X.env = (false, eval (.Call (.Name "zip" p2) [e, e2] [] pos2) X.env) :: starEach [] X.env := by rfl) :
    PE X (.Call (.Name "list" p) [.Call (.Name "zip" p2) [e, e2] [] pos2] [] pos) (tLz X.K ta) := by
  refine ⟨fun pins s σ H Q I hq => ?_⟩
  refine wpAny_Call_Name_kw (ld_blt I hg hm hv ?_)
  refine PyProof.Rows.callWith_type1 ?_ hs rfl
  rw [hs]
  show wpAny _ _ (spliced ((false, eval (.Call (.Name "zip" p2) [e, e2] [] pos2) X.env) :: backTo pos (starEach [] X.env))) _ _ s
  refine Calls.spliced_cons ?_
  refine Call_ (ld_blt I hg2 hm2 PyProof.Rows.boot_zip (PyProof.Rows.callWith_type1 (thn (ha.run pos2 pins s σ H _ I hq) fun us s1 ⟨vs, H1, I1, r1, q1⟩ => ?_) hs2 hpl2))
  obtain ⟨t, u, a, b, xs, ys, ex, hqx, hqy, q⟩ := q1
  subst ex
  cases r1 with
  | cons r rr =>
    cases rr with
    | cons r' rr =>
      cases rr
      cases r
      cases r'
      obtain ⟨its, rv, p1, z1, la⟩ := I1.sqB hqx
      obtain ⟨its2, rv2, p2', z2, lb⟩ := I1.sqB hqy
      refine zip_begins2 (beginsB t a its.toArray) (beginsB u b its2.toArray) p1 p2' fun h' hz hTI hTO g1 g2 hsz hk => ?_
      have sep := zip_sep2 (N := s1.heap.objs.size) (fp1 := [a]) (fp2 := [b]) (fun b' hb => by rw [List.mem_singleton.mp hb]; exact la) (fun b' hb => by rw [List.mem_singleton.mp hb]; exact lb)
      have l1 := rv.length
      have l2 := rv2.length
      have s1' : its.toArray.size = its.length := by simp
      have s2' : its2.toArray.size = its2.length := by simp
      refine Calls.spliced_nil ?_
      have N := hsz
      have lt1 : ∀ b' ∈ [s1.heap.objs.size, a], b' < h'.objs.size := fun b' hb => by
        rcases List.mem_cons.mp hb with e | hb
        · rw [e, hsz]; exact Nat.lt_add_of_pos_right (by decide : 0 < 5)
        · rw [List.mem_singleton.mp hb, hsz]; exact Nat.lt_of_lt_of_le la (Nat.le_add_right _ _)
      have lt2 : ∀ b' ∈ [s1.heap.objs.size + 1, b], b' < h'.objs.size := fun b' hb => by
        rcases List.mem_cons.mp hb with e | hb
        · rw [e, hsz]; exact Nat.add_lt_add_left (by decide : 1 < 5) _
        · rw [List.mem_singleton.mp hb, hsz]; exact Nat.lt_of_lt_of_le lb (Nat.le_add_right _ _)
      have k1 : seqAtB t h' a its.toArray := (beginsB t a its.toArray).keeps _ _ p1 hk
      have k2 : seqAtB u h' b its2.toArray := (beginsB u b its2.toArray).keeps _ _ p2' hk
      refine Lz.zl_call (s := { s1 with heap := h' }) (fp1 := [s1.heap.objs.size, a]) (fp2 := [s1.heap.objs.size + 1, b]) sep (fun A' hh => drawsB t hh _ a (Nat.ne_of_lt la) its.toArray) (fun A' hh => drawsB u hh _ b (Nat.ne_of_lt (Nat.lt_succ_of_lt lb)) its2.toArray) (I1.ok.hd hc) (by omega) lt1 lt2 hz hTI ⟨_, _, hTO⟩ ⟨itB_new g1, k1⟩ ⟨itB_new g2, k2⟩ fun h'' tk acc c as hk' hS hl hG hacc => ?_
      have old : ∀ b' o, s1.heap.get? b' = some o → h''.get? b' = some o := fun b' o e => by
        have lt := Heap.lt_size e
        exact hk' b' o (Nat.ne_of_lt (Nat.lt_of_lt_of_le lt (Nat.le_add_right _ _))) (Nat.ne_of_lt (Nat.lt_of_lt_of_le lt (Nat.le_add_right _ _))) (Nat.ne_of_lt lt) (Nat.ne_of_lt (Nat.lt_of_lt_of_le lt (Nat.le_add_right _ _))) (hk b' o e)
      have lz : (xs.zip ys).length = min xs.length ys.length := List.length_zip
      have prs : ∀ (j : Nat) (a' : Addr), as[j]? = some a' → ∃ (p : V × V) (x1 x2 : Value), (xs.zip ys)[j]? = some p ∧ RelV p.1 x1 ∧ RelV p.2 x2 ∧ h''.get? a' = some { cls := .type "tuple", data := .seq #[x1, x2] } := fun j a' hj => by
        obtain ⟨x1, x2, y1, y2, y3⟩ := hG.pairs j a' hj
        have hx : its[j]? = some x1 := by simpa using y1
        have hy : its2[j]? = some x2 := by simpa using y2
        have j1 : j < xs.length := by have := (List.getElem?_eq_some_iff.mp hx).1; omega
        have j2 : j < ys.length := by have := (List.getElem?_eq_some_iff.mp hy).1; omega
        obtain ⟨w1, e1, r1⟩ := rv.get (List.getElem?_eq_getElem j1)
        obtain ⟨w2, e2, r2⟩ := rv2.get (List.getElem?_eq_getElem j2)
        rw [hx] at e1
        rw [hy] at e2
        cases e1
        cases e2
        exact ⟨(xs[j], ys[j]), x1, x2, by rw [List.getElem?_eq_getElem (by omega)]; simp, r1, r2, y3⟩
      obtain ⟨H', f1, f2, f3, f4, f5, f6, J⟩ := pairs_laid (tk := tk) (ps := xs.zip ys) I1 (by omega) old (by show s1.heap.objs.size ≤ h'.objs.size; omega) hS (by rw [hl]; omega) hG.rise hG.above prs hacc
      exact ⟨.ref _, H', J, rfl, q H' _ as f1 f2 f3 f4 f5 f6⟩
end L2
set_option maxRecDepth 100000
namespace L2
open PySem PySem.Spec PyProof.Rows
/-! defs f(a, *r), their calls -/
theorem cxNew {P : Program} {w : World} : CXNew (L2.CX P w) := fun outer s H h2 p rest E e s' kp hle hn h =>
  StX.cxUp outer s H { s with heap := h2 } _ E e s' (Un.laid kp hle hn) kp rfl h
/-- how f(a, *r) binds -/
def BindV (fd : FuncData) (pa pv : Str) (n : Nat) : Prop := ∀ (u : Value) (rest : List Value), rest.length ≤ n → bindArgs fd ⟨u :: rest, []⟩ = (newTuple rest >>= fun t => pure [(pa, u), (pv, t)])
section
variable {P : Program} {w : World} {K : PySem.W.Frag} {mg : Str → Option Value} {base : Heap}
/-- THE RULE for a def with a star parameter -/
theorem Fun.okV {x qual : Str} {st : Stmt} {f : Addr} {fd : FuncData} {N : List Str} {pa pv : Str} {k n : Nat} {sp : Sp} (F : Fun K x qual st f fd) (S : FnScope N [pa, pv] (defScope st)) (hb : BindV fd pa pv n) (hn : n ≤ 5)
    (hbody : ∀ (cdv : Value) (A : Around) (outer : List Env) (s : Shared) (H : Hp) (vs : List V) (Q : VK) (E : XK), Room k (A.deeper (envOfC qual (defScope st) s.heap.objs.size f cdv)) → sp vs H Q E →
      ∃ t, PSs (cxOf (L2.CX P w) P w K mg base N qual (defScope st) f cdv A outer s H E) (defBody st) t ∧ t { nx := fun _ H' => Q .non H', rt := Q } (start N vs) H) :
    FnR P w K mg base (L2.CX P w) (k + 1) f (fun vs H Q E => ∃ v rest, vs = v :: rest ∧ rest.length ≤ n ∧ ∀ p, H p = none → sp [v, .ref p] (upd H p (.tup rest)) Q E) := by
  obtain ⟨oc, od, kV, doc, pm, an, cdv, ct, osl, rfl, lk, hcd⟩ := F.ex
  exact fn_ofV lk hcd S (Nat.le_trans hn (by decide)) hb cxNew fun A outer s H vs Q E hr hsp => hbody cdv A outer s H vs Q E hr hsp
end
section
variable {X : Cx} {CX : CXT} {k : Nat} {C f : Addr} {m : Str} {sp : Sp} {E : XK} {o : Expr} {ta : TE} {apos pos : Pos} {pl : Sem Bool}
/-- o.m() by a positional promise -/
theorem pe_methR0 (he : PE X o ta) (c : Cls X.K C) (hm : Meth X.K C m f) (F : FnR X.prog X.w X.K X.mg X.base CX k f sp) (hr : Room k X.A) (hx : Passes CX X E)
    (ht : eval (.Call (.Attribute o m apos) [] [] pos) X.env = (do
      let ov ← eval o X.env
      standAt apos.atName
      let (f, first) ← holding [ov] (getMethod ov m pl)
      callWith pos f first (backTo pos (starEach [] X.env)) (backToKw pos (keywordEach [] X.env))) := by rfl) :
    PE X (.Call (.Attribute o m apos) [] [] pos) (tMethR C m sp E ta tNil) := by
  refine ⟨fun pins s σ H Q I h => ?_⟩
  refine PySem.W.methodCall_KW (pl := pl) (thn (he.run pins s σ H _ I h) fun u s1 ⟨x, H1, I1, rx, a, dx, fs, ex, ea, l, q⟩ => ?_) ht
  subst ex
  obtain rfl : u = Value.ref a := rx
  refine getmeth_ok I1 ea c hm l ?_
  exact PySem.W.callWith_K0 (first := [.ref a]) I1.kIn hm.kp (wpAny_call (run_fnR (us := [.ref a]) (vs := [.ref a]) F hr hx I1 (.cons rfl .nil) q))
end
end L2
set_option maxRecDepth 100000
namespace Toy
open PySem L2
/-! banks as rows of parts -/
abbrev s_parts_of : Stmt := top 12
abbrev s_bank_with : Stmt := top 13
abbrev s_bank_sum : Stmt := top 14
def partsI : List Int → Int → List Int
  | [], _ => []
  | n :: ns, b => b % n :: partsI ns (b / n)
def bankI : List Int → List Int → Int
  | n :: ns, p :: ps => bankI ns ps * n + p
  | _, _ => 0
def colI (ns bs ts : List Int) (k : Nat) : Int := ((ts.zip bs).map fun p => p.1 * (partsI ns p.2).getD k 0).sum % ns.getD k 1
def sumsI (ns bs ts : List Int) : List Int := (List.range ns.length).map (colI ns bs ts)
def Mods (ns : List Int) : Prop := ns.length ≤ 5 ∧ ∀ n ∈ ns, 2 ≤ n ∧ n ≤ 32
theorem partsI_len : ∀ (ns : List Int) (b : Int), (partsI ns b).length = ns.length
  | [], _ => rfl
  | _ :: ns, b => congrArg (· + 1) (partsI_len ns _)
theorem partsI_snoc (n : Int) : ∀ (ns : List Int) (b : Int), partsI (ns ++ [n]) b = partsI ns b ++ [(ns.foldl (· / ·) b) % n]
  | [], _ => rfl
  | m :: ns, b => congrArg (b % m :: ·) (partsI_snoc n ns (b / m))
theorem partsI_at : ∀ {ns : List Int} {b : Int} {k : Nat} {y : Int}, (∀ n ∈ ns, 2 ≤ n ∧ n ≤ 32) → (partsI ns b)[k]? = some y → ∃ n, ns[k]? = some n ∧ 0 ≤ y ∧ y < n
  | [], _, _, _, _, h => by cases h
  | n :: ns, b, 0, y, hn, h => by
    obtain rfl := Option.some.inj h
    have := hn n (.head _)
    exact ⟨n, rfl, Int.emod_nonneg _ (by omega), Int.emod_lt_of_pos _ (by omega)⟩
  | n :: ns, b, k + 1, y, hn, h => partsI_at (ns := ns) (b := b / n) (fun m hm => hn m (.tail _ hm)) h
theorem bankI_foldr : ∀ (ns ps : List Int), (ns.zip ps).foldr (fun p b => b * p.1 + p.2) 0 = bankI ns ps
  | [], _ => rfl
  | _ :: _, [] => rfl
  | n :: ns, p :: ps => congrArg (· * n + p) (bankI_foldr ns ps)
theorem paired_rev {α β : Type} {F : α → β → Prop} {xs : List α} {ys : List β} (h : PySem.Paired F xs ys) {i : Nat} {x : α} (e : xs.reverse[i]? = some x) : ∃ y, ys.reverse[i]? = some y ∧ F x y := by
  have l : xs.length = ys.length := h.length
  have hi : i < xs.length := by
    have := (List.getElem?_eq_some_iff.mp e).1
    rwa [List.length_reverse] at this
  rw [List.getElem?_reverse hi] at e
  obtain ⟨y, e2, f⟩ := LiI.paired_get h e
  exact ⟨y, by rw [List.getElem?_reverse (by omega), ← l]; exact e2, f⟩
/-- rows of parts of banks, each a tuple -/
def RowsP (ns : List Int) (G : Hp) : List V → List Int → Prop
  | [], [] => True
  | v :: vs, b :: bs => (∃ q, v = .ref q ∧ G q = some (.tup ((partsI ns b).map V.int))) ∧ RowsP ns G vs bs
  | _, _ => False
theorem RowsP.move {ns : List Int} {G G' : Hp} (st : ∀ q xs, G q = some (.tup xs) → G' q = some (.tup xs)) : ∀ {vs : List V} {bs : List Int}, RowsP ns G vs bs → RowsP ns G' vs bs
  | [], [], _ => trivial
  | _ :: _, _ :: _, ⟨⟨q, e, h⟩, r⟩ => ⟨⟨q, e, st _ _ h⟩, r.move st⟩
theorem RowsP.snoc {ns : List Int} {G : Hp} {q : Addr} {b : Int} (h : G q = some (.tup ((partsI ns b).map V.int))) : ∀ {vs : List V} {bs : List Int}, RowsP ns G vs bs → RowsP ns G (vs ++ [.ref q]) (bs ++ [b])
  | [], [], _ => ⟨⟨q, rfl, h⟩, trivial⟩
  | _ :: _, _ :: _, ⟨x, r⟩ => ⟨x, r.snoc h⟩
theorem RowsP.at {ns : List Int} {G : Hp} : ∀ {vs : List V} {bs : List Int} {i : Nat} {v : V}, RowsP ns G vs bs → vs[i]? = some v → ∃ b q, bs[i]? = some b ∧ v = .ref q ∧ G q = some (.tup ((partsI ns b).map V.int))
  | [], [], _, _, _, h => by cases h
  | _ :: _, _ :: _, 0, _, ⟨⟨q, e, x⟩, _⟩, h => ⟨_, q, rfl, by rw [← Option.some.inj h]; exact e, x⟩
  | _ :: _, _ :: _, i + 1, _, ⟨_, r⟩, h => RowsP.at (i := i) r h
theorem RowsP.len {ns : List Int} {G : Hp} : ∀ {vs : List V} {bs : List Int}, RowsP ns G vs bs → vs.length = bs.length
  | [], [], _ => rfl
  | _ :: _, _ :: _, ⟨_, r⟩ => congrArg (· + 1) r.len
def spPartsOf : Sp := fun vs H Q _ => ∃ (a : Addr) (ns : List Int) (b : Int), vs = [.ref a, .int b] ∧ H a = some (.tup (ns.map V.int)) ∧ Mods ns ∧ ∀ q H', Same H H' → H' q = some (.tup ((partsI ns b).map V.int)) → Q (.ref q) H'
def spBankWith : Sp := fun vs H Q _ => ∃ (a c : Addr) (ns ps : List Int), vs = [.ref a, .ref c] ∧ H a = some (.tup (ns.map V.int)) ∧ SeqAt H c (ps.map V.int) ∧ Mods ns ∧ ∀ H', Same H H' → Q (.int (bankI ns ps)) H'
def spBankSum : Sp := fun vs H Q _ => ∃ (a c t : Addr) (ns bs ts : List Int), vs = [.ref a, .ref c, .ref t] ∧ H a = some (.tup (ns.map V.int)) ∧ H c = some (.tup (bs.map V.int)) ∧ SeqAt H t (ts.map V.int) ∧ Mods ns ∧ bs.length = ts.length ∧ bs.length ≤ 600 ∧
  ∀ H', Same H H' → Q (.int (bankI ns (sumsI ns bs ts))) H'
section
variable {P : Program} {w : World} {K : PySem.W.Frag} {mg : Str → Option Value} {base : Heap}
theorem seqB_of {H : Hp} {a : Addr} {xs : List V} (h : SeqAt H a xs) : ∃ t, SqB K t H a xs := h.elim (fun z => ⟨false, SqB.lst z⟩) fun z => ⟨true, SqB.tup z⟩
theorem seqB_all {H : Hp} {a : Addr} {xs : List V} (h : SeqAt H a xs) : ∃ t, ∀ H', Same H H' → SqB K t H' a xs := h.elim (fun z => ⟨false, fun _ s => SqB.lst (s _ _ z)⟩) fun z => ⟨true, fun _ s => SqB.tup (s _ _ z)⟩
theorem SqB.but {t : Bool} {p : Addr} {H H' : Hp} {a : Addr} {xs : List V} (h : H a = some (.lst xs) ∨ H a = some (.tup xs)) (s : Same H H') : SeqAt H' a xs := h.elim (fun z => .inl (s _ _ z)) fun z => .inr (s _ _ z)
theorem sc_parts_of : FnScope ["moduli", "bank", "parts", "left", "modulus"] ["moduli", "bank"] (defScope s_parts_of) := ⟨rfl, rfl, rfl, by decide +kernel, rfl, by decide +kernel, by decide +kernel⟩
theorem ok_parts_of {f : Addr} {fd : FuncData} (F : Fun K "parts_of" "parts_of" s_parts_of f fd) (T : TR mg) : FnOk P w K mg base CX0 1 f fd ["moduli", "bank"] spPartsOf := by
  refine F.ok sc_parts_of (fun vs H Q E h => ?_) (fun cdv A outer s H vs Q E hr h => ?_)
  · obtain ⟨a, ns, b, rfl, _⟩ := h
    rfl
  · obtain ⟨a, ns, b, rfl, ha, ⟨l5, hm⟩, k⟩ := h
    refine ⟨_, (pss_cons (ps_set (i := 2) sc_parts_of.nd rfl (Or.inl rfl) (pe_lst pa_nil))
 (pss_cons (ps_set (i := 3) sc_parts_of.nd rfl (Or.inl rfl) (pv 1))
 (pss_cons (ps_for PassesOwn.never rfl (pi_seq (pv 0)) (pg_name (i := 4) sc_parts_of.nd rfl (Or.inl rfl))
 (pss_cons (ps_expr (pe_bm PySem.F.plainAttrs_list PySem.F.slot_list_append PySem.F.type_list_append mt_append (pv 2) (pa_cons (pe_op op_mod (pv 3) (pv 4)) pa_nil)))
 (pss_one (ps_set (i := 3) sc_parts_of.nd rfl (Or.inl rfl) (pe_op op_fdiv (pv 3) (pv 4))))))
 (pss_one (ps_ret (pe_callTy call_tupP (by rfl) T.m_tuple (by decide +kernel) (pa_cons (pv 2) pa_nil))))))), ?_⟩
    refine ⟨(by show 0 ≤ PySem.sizeLine; decide), fun D hD => ?_⟩
    have nD : a ≠ D := ne_of_none ha hD
    refine ⟨_, rfl, _, rfl, a, _, rfl, .inr ⟨SqT.of (by rw [upd_ne nD]; exact ha), for_it (walk_tup (xs := ns.map V.int)) (fun i σ G => ∃ u, σ = [some (.ref a), some (.int b), some (.ref D), some (.int ((ns.take i).foldl (· / ·) b)), u] ∧ G = upd H D (.lst ((partsI (ns.take i) b).map V.int))) ⟨none, rfl, rfl⟩ ?_ ?_ ?_⟩⟩
    · rintro i σ G _ ⟨u, rfl, rfl⟩
      exact SqT.of (by rw [upd_ne nD]; exact ha)
    · rintro i x σ G G' hi ⟨u, rfl, rfl⟩ ⟨rfl, hx⟩
      rw [List.getElem?_map] at hx
      obtain ⟨n, hn, rfl⟩ := Option.map_eq_some_iff.mp hx
      obtain ⟨n2, n32⟩ := hm n (List.mem_of_getElem? hn)
      have li : i < ns.length := (List.getElem?_eq_some_iff.mp hn).1
      have e1 : ns.take (i + 1) = ns.take i ++ [n] := by rw [List.take_add_one, hn]; rfl
      refine ⟨_, rfl, .inl ⟨rfl, _, SqL.of upd_same⟩, _, rfl, _, rfl, _, _, rfl, rfl, (by show (0 : Int) < n; omega), D, _, _, rfl, rfl, upd_same, small1000 (by rw [List.length_map, partsI_len, List.length_take]; omega), ?_⟩
      refine ⟨_, rfl, _, rfl, _, _, rfl, rfl, ⟨by omega, by omega⟩, some (.int n), ?_, ?_⟩
      · rw [e1, List.foldl_append]
        rfl
      · rw [upd_upd, e1, partsI_snoc, List.map_append]
        rfl
    · rintro σ G ⟨u, rfl, rfl⟩
      rw [show (ns.map V.int).length = ns.length from List.length_map .., List.take_length]
      refine ⟨_, rfl, D, _, rfl, .inl upd_same, fun q H' s e => ?_⟩
      exact k q H' (fun _ _ z => s _ _ (Same.lay hD _ _ z)) e
theorem zip_map_ints (ns ps : List Int) : (ns.map V.int).zip (ps.map V.int) = (ns.zip ps).map fun p => (V.int p.1, V.int p.2) := by
  induction ns generalizing ps with
  | nil => rfl
  | cons n ns ih =>
    cases ps with
    | nil => rfl
    | cons p ps => exact congrArg ((V.int n, V.int p) :: ·) (ih ps)
theorem sc_bank_with : FnScope ["moduli", "parts", "bank", "modulus", "part"] ["moduli", "parts"] (defScope s_bank_with) := ⟨rfl, rfl, rfl, by decide +kernel, rfl, by decide +kernel, by decide +kernel⟩
theorem ok_bank_with {f : Addr} {fd : FuncData} (F : Fun K "bank_with" "bank_with" s_bank_with f fd) (T : TR mg) : FnOk P w K mg base CX0 1 f fd ["moduli", "parts"] spBankWith := by
  refine F.ok sc_bank_with (fun vs H Q E h => ?_) (fun cdv A outer s H vs Q E hr h => ?_)
  · obtain ⟨a, c, ns, ps, rfl, _⟩ := h
    rfl
  · obtain ⟨a, c, ns, ps, rfl, ha, hc, ⟨l5, hm⟩, k⟩ := h
    obtain ⟨t, hB⟩ := seqB_of (K := K) hc
    refine ⟨_, (pss_cons (ps_set (i := 2) sc_bank_with.nd rfl (Or.inl rfl) pe_int)
 (pss_cons (ps_for PassesOwn.never rfl (pi_list (pe_revL (pe_listZip rfl (pa_cons (pv 0) (pa_cons (pv 1) pa_nil)) (by rfl) T.m_list (by rfl) T.m_zip))) (pg_tup rfl (pgs_cons (pg_name (i := 3) sc_bank_with.nd rfl (Or.inl rfl)) (pgs_cons (pg_name (i := 4) sc_bank_with.nd rfl (Or.inl rfl)) pgs_nil)))
 (pss_one (ps_set (i := 2) sc_bank_with.nd rfl (Or.inl rfl) (pe_op op_add (pe_op op_mul (pv 2) (pv 3)) (pv 4)))))
 (pss_one (ps_ret (pv 2))))), ?_⟩
    refine ⟨_, rfl, _, rfl, true, t, a, c, _, _, rfl, SqB.tup ha, hB, fun G L ts sG nL nT nLT eL eP => ⟨L, _, rfl, SqL.of eL, fun R hR => ⟨R, rfl, ⟨_, SqL.of upd_same⟩, ?_⟩⟩⟩
    rw [zip_map_ints] at eP
    have nTR : ∀ {T : Addr} {o : HO}, G T = some o → (upd G R (.lst (ts.map V.ref).reverse)) T = some o := fun {T o} e => by rw [upd_ne (ne_of_none e hR)]; exact e
    have lT : ts.length = (ns.zip ps).length := by rw [eP.length, List.length_map]
    refine for_it (walk_list (xs := (ts.map V.ref).reverse)) (fun i σ G' => ∃ u v, σ = [some (.ref a), some (.ref c), some (.int (((ns.zip ps).reverse.take i).foldl (fun b p => b * p.1 + p.2) 0)), u, v] ∧ G' = upd G R (.lst (ts.map V.ref).reverse)) ⟨none, none, rfl, rfl⟩ ?_ ?_ ?_
    · rintro i σ G' _ ⟨u, v, rfl, rfl⟩
      exact SqL.of upd_same
    · rintro i x σ G' G'' hi ⟨u, v, rfl, rfl⟩ ⟨rfl, hx⟩
      rw [← List.map_reverse, List.getElem?_map] at hx
      obtain ⟨T', hT', rfl⟩ := Option.map_eq_some_iff.mp hx
      obtain ⟨q, hq, eT⟩ := paired_rev eP hT'
      rw [← List.map_reverse, List.getElem?_map] at hq
      obtain ⟨⟨n, p⟩, hnp, rfl⟩ := Option.map_eq_some_iff.mp hq
      have mem : (n, p) ∈ ns.zip ps := List.mem_reverse.mp (List.mem_of_getElem? hnp)
      obtain ⟨n2, n32⟩ := hm n (List.of_mem_zip mem).1
      have e1 : (ns.zip ps).reverse.take (i + 1) = (ns.zip ps).reverse.take i ++ [(n, p)] := by rw [List.take_add_one, hnp]; rfl
      refine ⟨T', _, rfl, SqT.of (nTR eT), rfl, _, _, rfl, _, _, rfl, rfl, ?_⟩
      refine ⟨_, rfl, _, rfl, _, _, rfl, rfl, .inr ⟨by omega, by omega⟩, _, rfl, _, _, rfl, rfl, some (.int n), some (.int p), ?_, rfl⟩
      rw [e1, List.foldl_append]
      rfl
    · rintro σ G' ⟨u, v, rfl, rfl⟩
      have e2 : (ns.zip ps).reverse.take (ts.map V.ref).reverse.length = (ns.zip ps).reverse := List.take_of_length_le (by rw [List.length_reverse, List.length_reverse, List.length_map, lT]; exact Nat.le_refl _)
      rw [e2, List.foldl_reverse, bankI_foldr]
      exact ⟨_, rfl, k _ (fun _ _ z => Same.lay hR _ _ (sG _ _ z))⟩
abbrev N_bank_sum : List Str := ["moduli", "banks", "times", "rows", "bank", "sums", "at", "modulus", "many", "parts"]
theorem sc_bank_sum : FnScope N_bank_sum ["moduli", "banks", "times"] (defScope s_bank_sum) := ⟨rfl, rfl, rfl, by decide +kernel, rfl, by decide +kernel, by decide +kernel⟩
theorem ok_bank_sum {f fPa fBw : Addr} {fd fdPa fdBw : FuncData} (F : Fun K "bank_sum" "bank_sum" s_bank_sum f fd) (T : TR mg)
    (FPa : Fun K "parts_of" "parts_of" s_parts_of fPa fdPa) (gPa : mg "parts_of" = some (.ref fPa)) (bPa : Binds K fdPa ["moduli", "bank"] [])
    (FBw : Fun K "bank_with" "bank_with" s_bank_with fBw fdBw) (gBw : mg "bank_with" = some (.ref fBw)) (bBw : Binds K fdBw ["moduli", "parts"] []) : FnOk P w K mg base CX0 2 f fd ["moduli", "banks", "times"] spBankSum := by
  have GPa : FnOk P w K mg base CX0 1 fPa fdPa ["moduli", "bank"] spPartsOf := ok_parts_of FPa T
  have GBw : FnOk P w K mg base CX0 1 fBw fdBw ["moduli", "parts"] spBankWith := ok_bank_with FBw T
  have kPa := FPa.kp
  have kBw := FBw.kp
  refine F.ok sc_bank_sum (fun vs H Q E h => ?_) (fun cdv A outer s H vs Q E hrQ h => ?_)
  · obtain ⟨a, c, t, ns, bs, ts, rfl, _⟩ := h
    rfl
  · obtain ⟨a, c, t, ns, bs, ts, rfl, ha, hc, ht, hM, hl, h600, k⟩ := h
    refine ⟨_, (pss_cons (ps_setLc (i := 3) (own := [("bank", 4)]) (g := (gName 4)) (tt := tYes) rfl sc_bank_sum.nd rfl rfl (sw_true rfl rfl rfl (by decide +kernel)) (pi_seq (pv 1)) (blkOk_by (N := N_bank_sum) (sc := defScope s_bank_sum) (by decide +kernel)) (fun _ _ _ _ _ => (pg_name (i := 4) sc_bank_sum.nd rfl (Or.inl rfl))) (fun _ _ _ _ _ => pts_nil) (fun _ _ _ _ _ => (pe_call GPa hrQ rfl gPa kPa bPa .nil pass0 (pa_cons (pv 0) (pa_cons (pv 4) pa_nil)))))
 (pss_cons (ps_set (i := 5) sc_bank_sum.nd rfl (Or.inl rfl) (pe_lst pa_nil))
 (pss_cons (ps_for PassesOwn.never rfl (pi_enumB (by rfl) T.m_enumerate (pa_cons (pv 0) pa_nil)) (pg_tup rfl (pgs_cons (pg_name (i := 6) sc_bank_sum.nd rfl (Or.inr rfl)) (pgs_cons (pg_name (i := 7) sc_bank_sum.nd rfl (Or.inl rfl)) pgs_nil)))
 (pss_one (ps_expr (pe_bm PySem.F.plainAttrs_list PySem.F.slot_list_append PySem.F.type_list_append mt_append (pv 5) (pa_cons (pe_op op_mod (pe_callB (cr_sum rfl) (by rfl) T.m_sum (by decide +kernel) (pa_cons (pe_lc (own := [("many", 8), ("parts", 9)]) (g := (gTup K 2 (gCons (gName 8) (gCons (gName 9) gNil)))) (tt := tYes) rfl sc_bank_sum.nd (pi_zipB (by rfl) T.m_zip (pa_cons (pv 2) (pa_cons (pv 3) pa_nil))) (blkOk_by (N := N_bank_sum) (sc := defScope s_bank_sum) (by decide +kernel)) (fun _ _ _ _ _ => (pg_tup rfl (pgs_cons (pg_name (i := 8) sc_bank_sum.nd rfl (Or.inl rfl)) (pgs_cons (pg_name (i := 9) sc_bank_sum.nd rfl (Or.inl rfl)) pgs_nil)))) (fun _ _ _ _ _ => pts_nil) (fun _ _ _ _ _ => (pe_op op_mul (pv 8) (pe_ix (show IxR _ (rIxT K) from ix_tup) (pv 9) (pv 6) (fun _ _ => rfl))))) pa_nil)) (pv 7)) pa_nil)))))
 (pss_one (ps_ret (pe_call GBw hrQ rfl gBw kBw bBw .nil pass0 (pa_cons (pv 0) (pa_cons (pv 5) pa_nil)))))))), ?_⟩
    obtain ⟨l5, hm⟩ := id hM
    refine ⟨_, rfl, c, _, rfl, .inr ⟨SqT.of hc, fun D hD => ?_⟩⟩
    have nb : ∀ {b : Addr} {o u : HO}, H b = some o → (upd H D u) b = some o := fun {b o u} e => by rw [upd_ne (ne_of_none e hD)]; exact e
    refine lc_it (walk_tup (xs := bs.map V.int)) (fun i G => ∃ rs, But D (upd H D (.lst [])) G ∧ G D = some (.lst rs) ∧ RowsP ns G rs (bs.take i)) ⟨[], But.refl _ _, upd_same, trivial⟩ ?_ ?_ ?_
    · rintro i G _ ⟨rs, bt, _⟩
      exact SqT.of (bt _ _ (ne_of_none hc hD) (nb hc))
    · rintro i x G G' hi ⟨rs, bt, hG, hR⟩ ⟨rfl, hx⟩
      rw [List.getElem?_map] at hx
      obtain ⟨b, hb, rfl⟩ := Option.map_eq_some_iff.mp hx
      have li : i < bs.length := (List.getElem?_eq_some_iff.mp hb).1
      have haG : G' a = some (.tup (ns.map V.int)) := bt _ _ (ne_of_none ha hD) (nb ha)
      refine ⟨rfl, _, rfl, _, rfl, a, ns, b, rfl, haG, hM, fun q G1 s1 e1 => ⟨rs, s1 _ _ hG, small1000 (by rw [hR.len, List.length_take]; omega), rs ++ [.ref q], (bt.trans (But.of s1)).put, upd_same, ?_⟩⟩
      rw [List.take_add_one, hb]
      exact ((hR.move fun _ _ z => s1 _ _ z).snoc e1).move fun p xs z => by
        rw [upd_ne (fun y => by rw [y, s1 _ _ hG] at z; cases z)]
        exact z
    · rintro G ⟨rs, bt, hG, hR⟩
      rw [List.length_map, List.take_length] at hR
      have sG : Same H G := fun b o e => bt b o (ne_of_none e hD) (nb e)
      have haG := sG _ _ ha
      refine ⟨(by show 0 ≤ PySem.sizeLine; decide), fun D2 hD2 => ?_⟩
      have n2 : ∀ {b : Addr} {o u : HO}, G b = some o → (upd G D2 u) b = some o := fun {b o u} e => by rw [upd_ne (ne_of_none e hD2)]; exact e
      refine ⟨_, rfl, true, a, _, rfl, SqB.tup (n2 haG), for_it (walk_enumB (xs := ns.map V.int)) (fun i σ G' => ∃ u v, σ = [some (.ref a), some (.ref c), some (.ref t), some (.ref D), none, some (.ref D2), u, v, none, none] ∧ But D2 (upd G D2 (.lst [])) G' ∧ G' D2 = some (.lst (((List.range i).map (colI ns bs ts)).map V.int))) ⟨none, none, rfl, But.refl _ _, upd_same⟩ ?_ ?_ ?_⟩
      · rintro i σ G' _ ⟨u, v, rfl, b2, _⟩
        exact SqB.tup (b2 _ _ (ne_of_none haG hD2) (n2 haG))
      · rintro i x σ G1 G1' hi ⟨u, v, rfl, b2, hS⟩ ⟨T1, y0, n0, rfl, hT1, rfl, e0, hn0⟩
        obtain rfl := Option.some.inj e0
        replace hn0 : (ns.map V.int)[i]? = some n0 := hn0
        rw [List.getElem?_map] at hn0
        obtain ⟨n, hn, rfl⟩ := Option.map_eq_some_iff.mp hn0
        obtain ⟨g2, g32⟩ := hm n (List.mem_of_getElem? hn)
        have li : i < ns.length := (List.getElem?_eq_some_iff.mp hn).1
        refine ⟨T1, _, rfl, SqT.of upd_same, rfl, _, _, rfl, _, _, rfl, rfl, ?_⟩
        have b2' : But D2 (upd G D2 (.lst [])) (upd G1 T1 (.tup [.int (i : Nat), .int n])) := b2.new hT1
        have hS2 : (upd G1 T1 (.tup [.int (i : Nat), .int n])) D2 = some (.lst (((List.range i).map (colI ns bs ts)).map V.int)) := by rw [upd_ne (ne_of_none hS hT1)]; exact hS
        generalize upd G1 T1 (.tup [.int (i : Nat), .int n]) = G2 at b2' hS2 ⊢
        have inG : ∀ {b : Addr} {o : HO}, G b = some o → G2 b = some o := fun {b o} e => b2' _ _ (ne_of_none e hD2) (n2 e)
        obtain ⟨tT, hT⟩ := seqB_all (K := K) ht
        refine ⟨_, rfl, .inl ⟨rfl, _, SqL.of hS2⟩, _, rfl, _, rfl, tT, false, t, D, _, _, rfl, hT _ (fun _ _ z => inG (sG _ _ z)), SqB.lst (inG hG), fun D3 hD3 => ?_⟩
        have n3 : ∀ {b : Addr} {o u : HO}, G2 b = some o → (upd G2 D3 u) b = some o := fun {b o u} e => by rw [upd_ne (ne_of_none e hD3)]; exact e
        have lr := hR.len
        refine lc_it (walk_zipB (xs := ts.map V.int) (ys := rs) rfl) (fun j G3 => But D3 (upd G2 D3 (.lst [])) G3 ∧ G3 D3 = some (.lst ((((ts.zip bs).take j).map fun p => p.1 * (partsI ns p.2).getD i 0).map V.int))) ⟨But.refl _ _, upd_same⟩ ?_ ?_ ?_
        · rintro j G3 _ ⟨b3, _⟩
          exact ⟨hT _ (fun _ _ z => b3 _ _ (ne_of_none (inG (sG _ _ z)) hD3) (n3 (inG (sG _ _ z)))), SqB.lst (b3 _ _ (ne_of_none (inG hG) hD3) (n3 (inG hG)))⟩
        · rintro j x G3 G3' hj ⟨b3, hL3⟩ ⟨T2, y1, y2, rfl, hT2, rfl, h1, h2⟩
          replace h1 : (ts.map V.int)[j]? = some y1 := h1
          replace h2 : rs[j]? = some y2 := h2
          rw [List.getElem?_map] at h1
          obtain ⟨m, hm1, rfl⟩ := Option.map_eq_some_iff.mp h1
          obtain ⟨b, q, hb, rfl, hq⟩ := hR.at h2
          have lj : j < bs.length := (List.getElem?_eq_some_iff.mp hb).1
          have hq3 : G3 q = some (.tup ((partsI ns b).map V.int)) := b3 _ _ (ne_of_none (inG hq) hD3) (n3 (inG hq))
          have li2 : i < (partsI ns b).length := by rw [partsI_len]; exact li
          obtain ⟨y, hy⟩ : ∃ y, (partsI ns b)[i]? = some y := ⟨_, List.getElem?_eq_getElem li2⟩
          obtain ⟨n', hn', y0, y1⟩ := partsI_at hm hy
          rw [hn] at hn'
          obtain rfl := Option.some.inj hn'
          have hz : (ts.zip bs)[j]? = some (m, b) := List.getElem?_zip_eq_some.mpr ⟨hm1, hb⟩
          refine ⟨T2, _, rfl, SqT.of upd_same, rfl, _, _, rfl, _, _, rfl, rfl, rfl, ?_⟩
          refine ⟨_, rfl, _, rfl, _, rfl, q, _, (i : Int), .int y, rfl, rfl, SqT.of (by rw [upd_ne (ne_of_none hq3 hT2)]; exact hq3), atI_of (by omega) (by rw [Int.toNat_natCast, List.getElem?_map, hy]; rfl), _, _, rfl, rfl, .inr ⟨by omega, by omega⟩, _, (by rw [upd_ne (ne_of_none hL3 hT2)]; exact hL3), small1000 (by rw [List.length_map, List.length_map, List.length_take, List.length_zip]; omega), (b3.new hT2).put, ?_⟩
          rw [upd_same, List.take_add_one, hz, List.map_append, List.map_append]
          have ey : (partsI ns b).getD i 0 = y := by rw [List.getD_eq_getElem?_getD, hy]; rfl
          show some (HO.lst (_ ++ [V.int (m * y)])) = some (HO.lst (_ ++ [V.int (m * (partsI ns b).getD i 0)]))
          rw [ey]
        · rintro G3 ⟨b3, hL3⟩
          have e3 : (ts.zip bs).take (min (ts.map V.int).length rs.length) = ts.zip bs := List.take_of_length_le (by rw [List.length_zip, List.length_map, lr]; exact Nat.le_refl _)
          rw [e3] at hL3
          have hS3 : G3 D2 = some (.lst (((List.range i).map (colI ns bs ts)).map V.int)) := b3 _ _ (ne_of_none hS2 hD3) (n3 hS2)
          refine ⟨D3, _, rfl, SqL.of hL3, _, rfl, _, _, rfl, rfl, (by show (0 : Int) < n; omega), D2, _, _, rfl, rfl, hS3, small1000 (by rw [List.length_map, List.length_map, List.length_range]; omega), some (.int i), some (.int n), rfl, ?_, ?_⟩
          · refine But.put fun b o nbD e => ?_
            have := b2' b o nbD e
            exact b3 _ _ (ne_of_none this hD3) (n3 this)
          · rw [upd_same, List.range_succ, List.map_append, List.map_append]
            have : colI ns bs ts i = ((ts.zip bs).map fun p => p.1 * (partsI ns p.2).getD i 0).sum % n := by
              unfold colI
              rw [List.getD_eq_getElem?_getD, hn]
              rfl
            show some (HO.lst (_ ++ [V.int (((ts.zip bs).map fun p => p.1 * (partsI ns p.2).getD i 0).sum % n)])) = some (HO.lst (_ ++ [V.int (colI ns bs ts i)]))
            rw [this]
      · rintro σ G' ⟨u, v, rfl, b2, hS⟩
        rw [List.length_map] at hS
        have inG : ∀ {b : Addr} {o : HO}, G b = some o → G' b = some o := fun {b o} e => b2 _ _ (ne_of_none e hD2) (n2 e)
        exact ⟨_, rfl, _, rfl, a, D2, ns, _, rfl, inG haG, .inl hS, hM, fun H' s => k H' fun _ _ z => s _ _ (inG (sG _ _ z))⟩
end
end Toy
namespace Toy
open PySem L2
/-! sums and parts of banks -/
def prodI : List Int → Int
  | [] => 1
  | n :: ns => n * prodI ns
theorem prodV_map (ns : List Int) : prodV (ns.map V.int) = prodI ns := by
  have h : ∀ (ns : List Int) (c : Int), (ns.map V.int).foldl (fun p x => p * intOf x) c = c * prodI ns := by
    intro ns
    induction ns with
    | nil => intro c; show c = c * 1; omega
    | cons n ns ih =>
      intro c
      show (ns.map V.int).foldl (fun p x => p * intOf x) (c * n) = c * (n * prodI ns)
      rw [ih, Int.mul_assoc]
  have := h ns 1
  rw [Int.one_mul] at this
  exact this
def Dig : List Int → List Int → Prop
  | [], [] => True
  | n :: ns, p :: ps => (0 ≤ p ∧ p < n) ∧ Dig ns ps
  | _, _ => False
theorem parts_bank : ∀ {ns ps : List Int}, (∀ n ∈ ns, 2 ≤ n ∧ n ≤ 32) → Dig ns ps → partsI ns (bankI ns ps) = ps
  | [], [], _, _ => rfl
  | n :: ns, p :: ps, hn, ⟨⟨p0, p1⟩, d⟩ => by
    have h2 := hn n (.head _)
    have e1 : (bankI ns ps * n + p) % n = p := by
      rw [Int.add_comm, Int.add_mul_emod_self_right, Int.emod_eq_of_lt p0 p1]
    have e2 : (bankI ns ps * n + p) / n = bankI ns ps := by
      rw [Int.add_comm, Int.add_mul_ediv_right _ _ (by omega), Int.ediv_eq_zero_of_lt p0 p1, Int.zero_add]
    show (bankI ns ps * n + p) % n :: partsI ns ((bankI ns ps * n + p) / n) = p :: ps
    rw [e1, e2, parts_bank (fun m hm => hn m (.tail _ hm)) d]
theorem prodI_pos : ∀ {ns : List Int}, (∀ n ∈ ns, 2 ≤ n ∧ n ≤ 32) → 0 < prodI ns
  | [], _ => by show (0 : Int) < 1; decide
  | n :: ns, h => Int.mul_pos (by have := (h n (.head _)).1; omega) (prodI_pos fun m hm => h m (.tail _ hm))
theorem bank_parts : ∀ {ns : List Int} {b : Int}, (∀ n ∈ ns, 2 ≤ n ∧ n ≤ 32) → 0 ≤ b → b < prodI ns → bankI ns (partsI ns b) = b
  | [], b, _, h0, h1 => by
    have : b < 1 := h1
    show (0 : Int) = b
    omega
  | n :: ns, b, hn, h0, h1 => by
    have h2 := hn n (.head _)
    have h3 : b < n * prodI ns := h1
    show bankI ns (partsI ns (b / n)) * n + b % n = b
    rw [bank_parts (fun m hm => hn m (.tail _ hm)) (Int.ediv_nonneg h0 (by omega)) (Int.ediv_lt_of_lt_mul (by omega) (by rw [Int.mul_comm]; exact h3))]
    exact Int.ediv_mul_add_emod b n
theorem bank_lt : ∀ {ns ps : List Int}, (∀ n ∈ ns, 2 ≤ n ∧ n ≤ 32) → Dig ns ps → 0 ≤ bankI ns ps ∧ bankI ns ps < prodI ns
  | [], [], _, _ => ⟨by decide, by decide⟩
  | n :: ns, p :: ps, hn, ⟨⟨p0, p1⟩, d⟩ => by
    have h2 := hn n (.head _)
    obtain ⟨b0, b1⟩ := bank_lt (fun m hm => hn m (.tail _ hm)) d
    show 0 ≤ bankI ns ps * n + p ∧ bankI ns ps * n + p < n * prodI ns
    have m0 : 0 ≤ bankI ns ps * n := Int.mul_nonneg b0 (by omega)
    have m1 : (bankI ns ps + 1) * n ≤ prodI ns * n := Int.mul_le_mul_of_nonneg_right (by omega) (by omega)
    rw [Int.add_mul, Int.one_mul, Int.mul_comm (prodI ns)] at m1
    omega
theorem dig_of : ∀ {ns ps : List Int}, ps.length = ns.length → (∀ (k : Nat) (n p : Int), ns[k]? = some n → ps[k]? = some p → 0 ≤ p ∧ p < n) → Dig ns ps
  | [], [], _, _ => trivial
  | n :: ns, p :: ps, l, h => ⟨h 0 n p rfl rfl, dig_of (Nat.succ.inj l) fun k n p e1 e2 => h (k + 1) n p e1 e2⟩
  | [], _ :: _, l, _ => by cases l
  | _ :: _, [], l, _ => by cases l
theorem parts_dig : ∀ {ns : List Int} {b : Int}, (∀ n ∈ ns, 2 ≤ n ∧ n ≤ 32) → Dig ns (partsI ns b)
  | [], _, _ => trivial
  | n :: ns, b, h => by
    have h2 := h n (.head _)
    exact ⟨⟨Int.emod_nonneg _ (by omega), Int.emod_lt_of_pos _ (by omega)⟩, parts_dig fun m hm => h m (.tail _ hm)⟩
theorem sums_len (ns bs ts : List Int) : (sumsI ns bs ts).length = ns.length := by
  unfold sumsI
  rw [List.length_map, List.length_range]
theorem sums_at {ns bs ts : List Int} {k : Nat} (h : k < ns.length) : (sumsI ns bs ts)[k]? = some (colI ns bs ts k) := by
  unfold sumsI
  rw [List.getElem?_map, List.getElem?_range h]
  rfl
theorem sums_dig {ns bs ts : List Int} (hn : ∀ n ∈ ns, 2 ≤ n ∧ n ≤ 32) : Dig ns (sumsI ns bs ts) := dig_of (sums_len ..) fun k n p e1 e2 => by
  have hk : k < ns.length := (List.getElem?_eq_some_iff.mp e1).1
  have h2 := hn n (List.mem_of_getElem? e1)
  rw [sums_at hk] at e2
  obtain rfl := Option.some.inj e2
  unfold colI
  rw [show ns.getD k 1 = n by rw [List.getD_eq_getElem?_getD, e1]; rfl]
  exact ⟨Int.emod_nonneg _ (by omega), Int.emod_lt_of_pos _ (by omega)⟩
theorem col2 (ns : List Int) (i j sg : Int) (k : Nat) : colI ns [i, j] [1, sg] k = ((partsI ns i).getD k 0 + sg * (partsI ns j).getD k 0) % ns.getD k 1 := by
  unfold colI
  show ((1 * (partsI ns i).getD k 0) + (sg * (partsI ns j).getD k 0 + 0)) % _ = _
  rw [Int.one_mul, Int.add_zero]
theorem parts_sum {ns : List Int} {i j sg : Int} (hM : Mods ns) : partsI ns (bankI ns (sumsI ns [i, j] [1, sg])) = sumsI ns [i, j] [1, sg] := parts_bank hM.2 (sums_dig hM.2)
theorem less_added {ns : List Int} {i j : Int} (hM : Mods ns) (i0 : 0 ≤ i) (i1 : i < prodI ns) : bankI ns (sumsI ns [bankI ns (sumsI ns [i, j] [1, 1]), j] [1, -1]) = i := by
  have e : sumsI ns [bankI ns (sumsI ns [i, j] [1, 1]), j] [1, -1] = partsI ns i := by
    refine List.ext_getElem? fun k => ?_
    by_cases hk : k < ns.length
    · obtain ⟨n, hn⟩ : ∃ n, ns[k]? = some n := ⟨_, List.getElem?_eq_getElem hk⟩
      have h2 := hM.2 n (List.mem_of_getElem? hn)
      have en : ns.getD k 1 = n := by rw [List.getD_eq_getElem?_getD, hn]; rfl
      obtain ⟨y, hy⟩ : ∃ y, (partsI ns i)[k]? = some y := ⟨_, List.getElem?_eq_getElem (by rw [partsI_len]; exact hk)⟩
      obtain ⟨n', e', y0, y1⟩ := partsI_at hM.2 hy
      rw [hn] at e'
      obtain rfl := Option.some.inj e'
      have ey : (partsI ns i).getD k 0 = y := by rw [List.getD_eq_getElem?_getD, hy]; rfl
      rw [sums_at hk, hy, col2, parts_sum hM, en, show (sumsI ns [i, j] [1, 1]).getD k 0 = colI ns [i, j] [1, 1] k by rw [List.getD_eq_getElem?_getD, sums_at hk]; rfl, col2, en, ey]
      congr 1
      have : (y + 1 * (partsI ns j).getD k 0) % n + -1 * (partsI ns j).getD k 0 = (y + 1 * (partsI ns j).getD k 0) % n - (partsI ns j).getD k 0 := by omega
      rw [this, Int.emod_sub_emod, show y + 1 * (partsI ns j).getD k 0 - (partsI ns j).getD k 0 = y by omega, Int.emod_eq_of_lt y0 y1]
    · rw [List.getElem?_eq_none (by rw [sums_len]; omega), List.getElem?_eq_none (by rw [partsI_len]; omega)]
  rw [e, bank_parts hM.2 i0 i1]
end Toy
set_option maxRecDepth 100000
namespace Toy
open PySem L2
/-! weights ahead and in a round as a row without an end; its normal form is the only one -/
def pAt (t : List Int) (i : Nat) : Int := t.getD (i % t.length) 0
def wAt (a t : List Int) (i : Nat) : Int := if i < a.length then a.getD i 0 else pAt t (i - a.length)
/-- no shorter piece makes up the round -/
def Prim (t : List Int) : Prop := t ≠ [] ∧ ∀ n, 0 < n → n < t.length → t.length % n = 0 → perOk t n = false
theorem rep_snoc (c : Int) (v : List Int) : ∀ k : Nat, (List.replicate k (c :: v)).flatten ++ [c] = c :: (List.replicate k (v ++ [c])).flatten
  | 0 => by simp
  | k + 1 => by
    rw [List.replicate_succ, List.flatten_cons, List.append_assoc, rep_snoc c v k, List.replicate_succ, List.flatten_cons]
    simp
theorem rotr_snoc (Y : List Int) (c : Int) : rotr (Y ++ [c]) = c :: Y := by
  unfold rotr
  rw [List.length_append]
  simp
theorem take_rep {u : List Int} {k : Nat} (h : 0 < k) : ((List.replicate k u).flatten).take u.length = u := by
  cases k with
  | zero => omega
  | succ k =>
    rw [List.replicate_succ, List.flatten_cons, List.take_left']
    rfl
theorem per_rot {t : List Int} {n : Nat} (ne : t ≠ []) (h0 : 0 < n) (hl : n ≤ t.length) (h : perOk (rotr t) n = true) : perOk t n = true := by
  obtain ⟨Y, c, rfl⟩ : ∃ Y c, t = Y ++ [c] := ⟨t.dropLast, t.getLast ne, (List.dropLast_concat_getLast ne).symm⟩
  rw [rotr_snoc] at h
  have h1 : (List.replicate ((c :: Y).length / n) ((c :: Y).take n)).flatten = c :: Y := of_decide_eq_true h
  have lY : (c :: Y).length = (Y ++ [c]).length := by simp
  have ly : (Y ++ [c]).length = Y.length + 1 := by simp
  have kp : 0 < (Y ++ [c]).length / n := Nat.div_pos hl h0
  obtain ⟨m, rfl⟩ : ∃ m, n = m + 1 := ⟨n - 1, by omega⟩
  rw [List.take_succ_cons, lY] at h1
  have h2 := rep_snoc c (Y.take m) ((Y ++ [c]).length / (m + 1))
  rw [h1] at h2
  have h3 : Y ++ [c] = (List.replicate ((Y ++ [c]).length / (m + 1)) (Y.take m ++ [c])).flatten := by
    have z : c :: (Y ++ [c]) = c :: (List.replicate ((Y ++ [c]).length / (m + 1)) (Y.take m ++ [c])).flatten := by
      rw [← h2]
      rfl
    exact (List.cons.inj z).2
  have lu : (Y.take m ++ [c]).length = m + 1 := by
    rw [List.length_append, List.length_take]
    simp
    omega
  have tk : (Y ++ [c]).take (m + 1) = Y.take m ++ [c] := by
    have z := take_rep (u := Y.take m ++ [c]) kp
    rw [← h3, lu] at z
    exact z
  unfold perOk
  rw [tk]
  exact decide_eq_true h3.symm
theorem Prim.rot {t : List Int} (h : Prim t) : Prim (rotr t) := by
  refine ⟨fun z => ?_, fun n h0 hl hd => ?_⟩
  · have y := rotr_len t
    rw [z] at y
    exact h.1 (List.length_eq_zero_iff.mp y.symm)
  · rw [rotr_len] at hl hd
    cases e : perOk (rotr t) n with
    | false => rfl
    | true =>
      have z := h.2 n h0 hl hd
      rw [per_rot h.1 h0 (by omega) e] at z
      cases z
theorem mem_rotr {t : List Int} {z : Int} (h : z ∈ rotr t) : z ∈ t := by
  unfold rotr at h
  exact (List.mem_append.mp h).elim List.mem_of_mem_drop List.mem_of_mem_take
/-- what is in its normal form, the program leaves as it is -/
theorem norm_fix {A T : List Int} (p : Prim T) (s : A = [] ∨ A.getLast? ≠ T.getLast?) : normW A T = (A, T) := by
  have e : per T = T.length := by
    obtain ⟨n, r, e1⟩ : ∃ n r, (divs T).filter (perOk T) = n :: r := by
      cases z : (divs T).filter (perOk T) with
      | nil => exact absurd z (some_per p.1)
      | cons n r => exact ⟨n, r, rfl⟩
    have m : n ∈ (divs T).filter (perOk T) := by
      rw [e1]
      exact List.mem_cons_self ..
    obtain ⟨m1, m2⟩ := List.mem_filter.mp m
    obtain ⟨n1, n2, n3⟩ := mem_divs m1
    have e2 : per T = n := by
      unfold per
      rw [e1]
      rfl
    rw [e2]
    by_cases hl : n < T.length
    · have z := p.2 n (by omega) hl n3
      rw [m2] at z
      cases z
    · omega
  unfold normW
  rw [e, List.take_length]
  exact trim_stop s

theorem flat_at {u : List Int} (hu : 0 < u.length) : ∀ (k j : Nat), j < k * u.length → ((List.replicate k u).flatten)[j]? = u[j % u.length]?
  | 0, j, h => by omega
  | k + 1, j, h => by
    rw [List.replicate_succ, List.flatten_cons]
    by_cases c : j < u.length
    · rw [List.getElem?_append_left c, Nat.mod_eq_of_lt c]
    · rw [List.getElem?_append_right (by omega), flat_at hu k (j - u.length) (by rw [Nat.succ_mul] at h; omega)]
      congr 1
      rw [← Nat.mod_eq_sub_mod (by omega)]
theorem getD_of {t : List Int} {i : Nat} {z : Int} (h : t[i]? = some z) : t.getD i 0 = z := by
  rw [List.getD_eq_getElem?_getD, h]
  rfl
theorem per_pAt {t : List Int} {m : Nat} (h : perOk t m = true) (m0 : 0 < m) (ml : m ≤ t.length) (d : t.length % m = 0) (i : Nat) : pAt (t.take m) i = pAt t i := by
  have e : (List.replicate (t.length / m) (t.take m)).flatten = t := of_decide_eq_true h
  have lu := take_len ml
  unfold pAt
  rw [lu]
  have hi : i % t.length < t.length := Nat.mod_lt _ (by omega)
  have hk : t.length / m * (t.take m).length = t.length := by
    rw [lu]
    exact Nat.div_mul_cancel (Nat.dvd_of_mod_eq_zero d)
  have z := flat_at (u := t.take m) (by omega) (t.length / m) (i % t.length) (by omega)
  rw [e, lu, Nat.mod_mod_of_dvd _ (Nat.dvd_of_mod_eq_zero d)] at z
  rw [List.getD_eq_getElem?_getD, List.getD_eq_getElem?_getD, z]
theorem pAt_per {t : List Int} {m : Nat} (m0 : 0 < m) (ml : m ≤ t.length) (d : t.length % m = 0) (h : ∀ i, pAt (t.take m) i = pAt t i) : perOk t m = true := by
  refine decide_eq_true (List.ext_getElem? fun j => ?_)
  have lu := take_len ml
  have hk : t.length / m * (t.take m).length = t.length := by
    rw [lu]
    exact Nat.div_mul_cancel (Nat.dvd_of_mod_eq_zero d)
  by_cases c : j < t.length
  · rw [flat_at (by omega) _ _ (by omega), lu]
    have z := h j
    unfold pAt at z
    rw [lu, Nat.mod_eq_of_lt c] at z
    have l1 : j % m < (t.take m).length := by rw [lu]; exact Nat.mod_lt _ m0
    rw [List.getElem?_eq_getElem l1, List.getElem?_eq_getElem c]
    rw [getD_of (List.getElem?_eq_getElem l1), getD_of (List.getElem?_eq_getElem c)] at z
    rw [z]
  · have l1 : ((List.replicate (t.length / m) (t.take m)).flatten).length ≤ j := by
      rw [List.length_flatten, List.map_replicate, List.sum_replicate_nat]
      omega
    exact (List.getElem?_eq_none l1).trans (List.getElem?_eq_none (by omega)).symm
theorem rot_at {t : List Int} (ne : t ≠ []) : pAt (rotr t) 0 = (t.getLast?).getD 0 ∧ ∀ i, pAt (rotr t) (i + 1) = pAt t i := by
  obtain ⟨Y, c, rfl⟩ : ∃ Y c, t = Y ++ [c] := ⟨t.dropLast, t.getLast ne, (List.dropLast_concat_getLast ne).symm⟩
  rw [rotr_snoc]
  refine ⟨by simp [pAt], fun i => ?_⟩
  unfold pAt
  rw [show (c :: Y).length = Y.length + 1 from rfl, show (Y ++ [c]).length = Y.length + 1 by simp]
  have h1 := Nat.mod_lt i (show 0 < Y.length + 1 by omega)
  by_cases e : i % (Y.length + 1) = Y.length
  · have e2 : (i + 1) % (Y.length + 1) = 0 := by
      rw [Nat.add_mod, e]
      by_cases y : Y.length = 0
      · rw [y]
      · rw [Nat.mod_eq_of_lt (show 1 < Y.length + 1 by omega), Nat.mod_self]
    rw [e, e2]
    simp [List.getD_eq_getElem?_getD]
  · have e2 : (i + 1) % (Y.length + 1) = i % (Y.length + 1) + 1 := by
      rw [Nat.add_mod]
      by_cases y : Y.length = 0
      · omega
      · rw [Nat.mod_eq_of_lt (show 1 < Y.length + 1 by omega), Nat.mod_eq_of_lt (by omega)]
    rw [e2, List.getD_eq_getElem?_getD, List.getD_eq_getElem?_getD, List.getElem?_cons_succ, List.getElem?_append_left (by omega)]
theorem trim_at {A T : List Int} (ne : A ≠ []) (te : T ≠ []) (e : A.getLast? = T.getLast?) (i : Nat) : wAt A.dropLast (rotr T) i = wAt A T i := by
  obtain ⟨B, c, rfl⟩ : ∃ B c, A = B ++ [c] := ⟨A.dropLast, A.getLast ne, (List.dropLast_concat_getLast ne).symm⟩
  have e2 : T.getLast? = some c := by rw [← e]; simp
  obtain ⟨r0, r1⟩ := rot_at te
  rw [e2] at r0
  rw [List.dropLast_concat]
  unfold wAt
  rw [show (B ++ [c]).length = B.length + 1 by simp]
  by_cases h1 : i < B.length
  · rw [if_pos h1, if_pos (by omega), List.getD_eq_getElem?_getD, List.getD_eq_getElem?_getD, List.getElem?_append_left h1]
  · rw [if_neg h1]
    by_cases h2 : i = B.length
    · subst h2
      rw [if_pos (by omega), Nat.sub_self, r0]
      simp [List.getD_eq_getElem?_getD]
    · rw [if_neg (by omega), show i - B.length = (i - (B.length + 1)) + 1 by omega, r1]
/-- normal: no shorter round, no weight ahead that belongs to it -/
def Normal (A T : List Int) : Prop := Prim T ∧ (A = [] ∨ A.getLast? ≠ T.getLast?)
theorem trimW_ok : ∀ (n : Nat) (A T : List Int), A.length ≤ n → Prim T → Normal (trimW n A T).1 (trimW n A T).2 ∧ (∀ i, wAt (trimW n A T).1 (trimW n A T).2 i = wAt A T i) ∧ (trimW n A T).1.length ≤ A.length ∧ (trimW n A T).2.length = T.length
  | 0, A, T, h, p => by
    have e : A = [] := List.length_eq_zero_iff.mp (by omega)
    exact ⟨⟨p, .inl e⟩, fun _ => rfl, Nat.le_refl _, rfl⟩
  | n + 1, A, T, h, p => by
    unfold trimW
    by_cases c : A ≠ [] ∧ A.getLast? = T.getLast?
    · rw [if_pos c]
      obtain ⟨h1, h2, h3, h4⟩ := trimW_ok n A.dropLast (rotr T) (by rw [List.length_dropLast]; omega) p.rot
      refine ⟨h1, fun i => by rw [h2 i, trim_at c.1 p.1 c.2], ?_, by rw [h4, rotr_len]⟩
      rw [List.length_dropLast] at h3
      omega
    · rw [if_neg c]
      refine ⟨⟨p, ?_⟩, fun _ => rfl, Nat.le_refl _, rfl⟩
      by_cases e : A = []
      · exact .inl e
      · exact .inr fun z => c ⟨e, z⟩
theorem divs_sorted (t : List Int) : (divs t).Pairwise (· < ·) := by
  unfold divs divsTo
  refine List.Pairwise.filter _ ?_
  rw [List.pairwise_map]
  exact List.pairwise_lt_range.imp fun h => by omega
theorem per_prim {t : List Int} (ne : t ≠ []) : Prim (t.take (per t)) ∧ (∀ i, pAt (t.take (per t)) i = pAt t i) ∧ per t ≤ t.length := by
  obtain ⟨n, r, e1⟩ : ∃ n r, (divs t).filter (perOk t) = n :: r := by
    cases z : (divs t).filter (perOk t) with
    | nil => exact absurd z (some_per ne)
    | cons n r => exact ⟨n, r, rfl⟩
  have m : n ∈ (divs t).filter (perOk t) := by
    rw [e1]
    exact List.mem_cons_self ..
  obtain ⟨m1, m2⟩ := List.mem_filter.mp m
  obtain ⟨n1, n2, n3⟩ := mem_divs m1
  have e2 : per t = n := by
    unfold per
    rw [e1]
    rfl
  rw [e2]
  have pw := (divs_sorted t).filter (perOk t)
  rw [e1] at pw
  have hp := per_pAt m2 (by omega) n2 n3
  have lt := take_len n2
  refine ⟨⟨fun z => by rw [z] at lt; simp at lt; omega, fun k k0 kl kd => ?_⟩, hp, n2⟩
  rw [lt] at kl kd
  cases e : perOk (t.take n) k with
  | false => rfl
  | true =>
    exfalso
    have dk : t.length % k = 0 := Nat.mod_eq_zero_of_dvd (Nat.dvd_trans (Nat.dvd_of_mod_eq_zero kd) (Nat.dvd_of_mod_eq_zero n3))
    have h1 := per_pAt e k0 (by omega) (by rw [lt]; exact kd)
    have tk : (t.take n).take k = t.take k := by rw [List.take_take, Nat.min_eq_left (by omega)]
    rw [tk] at h1
    have ok : perOk t k = true := pAt_per k0 (by omega) dk fun i => by rw [h1, hp]
    have mk : k ∈ (divs t).filter (perOk t) := List.mem_filter.mpr ⟨List.mem_filter.mpr ⟨List.mem_map.mpr ⟨k - 1, List.mem_range.mpr (by omega), by omega⟩, by simpa using dk⟩, ok⟩
    rw [e1] at mk
    rcases List.mem_cons.mp mk with z | z
    · omega
    · have := (List.pairwise_cons.mp pw).1 k z
      omega
theorem normW_ok {A T : List Int} (ne : T ≠ []) : Normal (normW A T).1 (normW A T).2 ∧ (∀ i, wAt (normW A T).1 (normW A T).2 i = wAt A T i) ∧ (normW A T).1.length ≤ A.length ∧ (normW A T).2.length ≤ T.length := by
  obtain ⟨h1, h2, h3⟩ := per_prim ne
  obtain ⟨g1, g2, g3, g4⟩ := trimW_ok A.length A (T.take (per T)) (Nat.le_refl _) h1
  refine ⟨g1, fun i => ?_, g3, by show (trimW _ _ _).2.length ≤ _; rw [g4, take_len h3]; exact h3⟩
  show wAt (trimW A.length A (T.take (per T))).1 (trimW A.length A (T.take (per T))).2 i = _
  rw [g2 i]
  unfold wAt
  rw [h2]
/-! a row's periods -/
def HasPer (s : Nat → Int) (p : Nat) : Prop := ∀ i, s (i + p) = s i
theorem HasPer.mul {s : Nat → Int} {p : Nat} (h : HasPer s p) : ∀ k i, s (i + k * p) = s i
  | 0, i => by simp
  | k + 1, i => by rw [Nat.succ_mul, ← Nat.add_assoc, h, h.mul k]
theorem HasPer.gcd {s : Nat → Int} {p q : Nat} (hp : HasPer s p) (hq : HasPer s q) : HasPer s (Nat.gcd p q) := by
  induction p, q using Nat.gcd.induction with
  | H0 n => simpa using hq
  | H1 m n hm ih =>
    rw [Nat.gcd_rec]
    refine ih (fun i => ?_) hp
    have e := Nat.div_add_mod n m
    have z := hp.mul (n / m) (i + n % m)
    rw [← z, show i + n % m + n / m * m = i + n by rw [Nat.mul_comm]; omega]
    exact hq i
theorem pAt_hasPer (t : List Int) : HasPer (pAt t) t.length := fun i => by
  unfold pAt
  rw [Nat.add_mod_right]
theorem prim_per {T : List Int} (p : Prim T) {q : Nat} (q0 : 0 < q) (h : HasPer (pAt T) q) : T.length ∣ q := by
  have tp : 0 < T.length := List.length_pos_iff.mpr p.1
  have g := (pAt_hasPer T).gcd h
  have gd := Nat.gcd_dvd_left T.length q
  have g0 : 0 < Nat.gcd T.length q := Nat.gcd_pos_of_pos_left _ tp
  have gl := Nat.le_of_dvd tp gd
  by_cases c : Nat.gcd T.length q = T.length
  · rw [← c]
    exact Nat.gcd_dvd_right _ _
  · exfalso
    have gm := Nat.mod_eq_zero_of_dvd gd
    have ok : perOk T (Nat.gcd T.length q) = true := pAt_per g0 gl gm fun i => by
      have lu := take_len gl
      have e1 : pAt (T.take (Nat.gcd T.length q)) i = pAt T (i % Nat.gcd T.length q) := by
        unfold pAt
        have l1 := Nat.mod_lt i g0
        rw [lu, Nat.mod_eq_of_lt (show i % Nat.gcd T.length q < T.length by omega), List.getD_eq_getElem?_getD, List.getD_eq_getElem?_getD, List.getElem?_take, if_pos l1]
      rw [e1]
      have z := g.mul (i / Nat.gcd T.length q) (i % Nat.gcd T.length q)
      rw [← z]
      congr 1
      rw [Nat.mul_comm, Nat.add_comm]
      exact Nat.div_add_mod i _
    have := p.2 _ g0 (by omega) gm
    rw [ok] at this
    cases this
theorem pAt_inj {T T' : List Int} (p : Prim T) (p' : Prim T') (h : ∀ i, pAt T i = pAt T' i) : T = T' := by
  have e : pAt T = pAt T' := funext h
  have tp : 0 < T.length := List.length_pos_iff.mpr p.1
  have tp' : 0 < T'.length := List.length_pos_iff.mpr p'.1
  have d1 := prim_per p tp' (by rw [e]; exact pAt_hasPer T')
  have d2 := prim_per p' tp (by rw [← e]; exact pAt_hasPer T)
  have el : T.length = T'.length := Nat.dvd_antisymm d1 d2
  refine List.ext_getElem? fun i => ?_
  by_cases c : i < T.length
  · have z := h i
    unfold pAt at z
    rw [Nat.mod_eq_of_lt c, Nat.mod_eq_of_lt (by omega)] at z
    rw [getD_of (List.getElem?_eq_getElem c), getD_of (List.getElem?_eq_getElem (show i < T'.length by omega))] at z
    rw [List.getElem?_eq_getElem c, List.getElem?_eq_getElem (show i < T'.length by omega), z]
  · rw [List.getElem?_eq_none (by omega), List.getElem?_eq_none (by omega)]
theorem last_at {A : List Int} (ne : A ≠ []) : A.getLast? = some (A.getD (A.length - 1) 0) := by
  have tp : 0 < A.length := List.length_pos_iff.mpr ne
  rw [List.getLast?_eq_getElem?, List.getElem?_eq_getElem (show A.length - 1 < A.length by omega), getD_of (List.getElem?_eq_getElem (show A.length - 1 < A.length by omega))]
theorem ahead_le {A T A' T' : List Int} (n : Normal A' T') (p : Prim T) (h : ∀ i, wAt A T i = wAt A' T' i) : A'.length ≤ A.length := by
  refine Classical.byContradiction fun c => ?_
  have tp : 0 < T.length := List.length_pos_iff.mpr p.1
  have tp' : 0 < T'.length := List.length_pos_iff.mpr n.1.1
  have ne : A' ≠ [] := fun z => by rw [z] at c; simp at c
  have ln : 0 < A'.length := List.length_pos_iff.mpr ne
  rcases n.2 with z | z
  · exact ne z
  refine z ?_
  rw [last_at ne, last_at n.1.1]
  congr 1
  -- the last weight ahead, by both
  have e0 : wAt A' T' (A'.length - 1) = A'.getD (A'.length - 1) 0 := by
    unfold wAt
    rw [if_pos (by omega)]
  have far : wAt A T (A'.length - 1) = wAt A T (A'.length - 1 + T.length * T'.length) := by
    unfold wAt
    rw [if_neg (by omega), if_neg (by omega), show A'.length - 1 + T.length * T'.length - A.length = A'.length - 1 - A.length + T'.length * T.length by rw [Nat.mul_comm]; omega, (pAt_hasPer T).mul]
  have e1 : wAt A' T' (A'.length - 1 + T.length * T'.length) = T'.getD (T'.length - 1) 0 := by
    have tt : T'.length ≤ T.length * T'.length := Nat.le_mul_of_pos_left _ tp
    obtain ⟨k, hk⟩ : ∃ k, T.length = k + 1 := ⟨T.length - 1, by omega⟩
    unfold wAt
    rw [if_neg (by omega), hk, Nat.succ_mul, show A'.length - 1 + (k * T'.length + T'.length) - A'.length = T'.length - 1 + k * T'.length by omega, (pAt_hasPer T').mul]
    unfold pAt
    rw [Nat.mod_eq_of_lt (by omega)]
  rw [← e0, ← h, far, h, e1]
theorem norm_uniq {A T A' T' : List Int} (n : Normal A T) (n' : Normal A' T') (h : ∀ i, wAt A T i = wAt A' T' i) : A = A' ∧ T = T' := by
  have l : A.length = A'.length := Nat.le_antisymm (ahead_le n n'.1 fun i => (h i).symm) (ahead_le n' n.1 h)
  refine ⟨List.ext_getElem? fun i => ?_, pAt_inj n.1 n'.1 fun i => ?_⟩
  · by_cases c : i < A.length
    · have z := h i
      unfold wAt at z
      rw [if_pos c, if_pos (by omega)] at z
      rw [getD_of (List.getElem?_eq_getElem c), getD_of (List.getElem?_eq_getElem (show i < A'.length by omega))] at z
      rw [List.getElem?_eq_getElem c, List.getElem?_eq_getElem (show i < A'.length by omega), z]
    · rw [List.getElem?_eq_none (by omega), List.getElem?_eq_none (by omega)]
  · have z := h (A.length + i)
    unfold wAt at z
    rw [if_neg (by omega), if_neg (by omega), show A.length + i - A.length = i by omega, show A.length + i - A'.length = i by omega] at z
    exact z
/-- equal weights at all places are equal normal forms -/
theorem normW_iff {A T A' T' : List Int} (ne : T ≠ []) (ne' : T' ≠ []) : normW A T = normW A' T' ↔ ∀ i, wAt A T i = wAt A' T' i := by
  obtain ⟨h1, h2, _⟩ := normW_ok (A := A) ne
  obtain ⟨g1, g2, _⟩ := normW_ok (A := A') ne'
  refine ⟨fun e i => by rw [← h2 i, ← g2 i, e], fun h => ?_⟩
  obtain ⟨e1, e2⟩ := norm_uniq h1 g1 fun i => by rw [h2 i, g2 i, h i]
  exact Prod.ext e1 e2
/-- so many first places are enough -/
theorem wAt_upto {A T A' T' : List Int} {n m : Nat} (ha : A.length ≤ n) (ha' : A'.length ≤ n) (hm : n + T.length + T'.length ≤ m) (tp : 0 < T.length) (tp' : 0 < T'.length) (h : ∀ i, i < m → wAt A T i = wAt A' T' i) : ∀ i, wAt A T i = wAt A' T' i := by
  have per : ∀ {A T : List Int} {i : Nat}, A.length ≤ i → wAt A T (i + T.length) = wAt A T i := by
    intro A T i hi
    unfold wAt
    rw [if_neg (by omega), if_neg (by omega), show i + T.length - A.length = i - A.length + T.length by omega, pAt_hasPer]
  intro i
  induction i using Nat.strongRecOn with
  | ind i ih =>
    by_cases c : i < m
    · exact h i c
    · have e1 : wAt A T i = wAt A T (i - T.length) := by
        have z := per (A := A) (T := T) (i := i - T.length) (by omega)
        rw [show i - T.length + T.length = i by omega] at z
        exact z
      have e2 : wAt A' T' (i - T.length) = wAt A' T' (i - T.length - T'.length) := by
        have z := per (A := A') (T := T') (i := i - T.length - T'.length) (by omega)
        rw [show i - T.length - T'.length + T'.length = i - T.length by omega] at z
        exact z
      have e3 : wAt A T (i - T'.length) = wAt A T (i - T.length - T'.length) := by
        have z := per (A := A) (T := T) (i := i - T.length - T'.length) (by omega)
        rw [show i - T.length - T'.length + T.length = i - T'.length by omega] at z
        exact z
      have e4 : wAt A' T' i = wAt A' T' (i - T'.length) := by
        have z := per (A := A') (T := T') (i := i - T'.length) (by omega)
        rw [show i - T'.length + T'.length = i by omega] at z
        exact z
      rw [e1, ih (i - T.length) (by omega), e2, ← ih (i - T.length - T'.length) (by omega), ← e3, ih (i - T'.length) (by omega), ← e4]
end Toy
namespace Dg
open PySem
/-! digits: sums over places -/
def sumN (g : Nat → Int) : Nat → Int
  | 0 => 0
  | n + 1 => sumN g n + g n
theorem sumN_congr {g h : Nat → Int} : ∀ {n : Nat}, (∀ i, i < n → g i = h i) → sumN g n = sumN h n
  | 0, _ => rfl
  | n + 1, e => by rw [sumN, sumN, sumN_congr fun i hi => e i (Nat.lt_succ_of_lt hi), e n (Nat.lt_succ_self n)]
theorem sumN_add (g : Nat → Int) (a : Nat) : ∀ b : Nat, sumN g (a + b) = sumN g a + sumN (fun i => g (a + i)) b
  | 0 => by rw [Nat.add_zero, sumN, Int.add_zero]
  | b + 1 => by rw [← Nat.add_assoc, sumN, sumN_add g a b, sumN, Int.add_assoc]
theorem sumN_zero {g : Nat → Int} : ∀ {n : Nat}, (∀ i, i < n → g i = 0) → sumN g n = 0
  | 0, _ => rfl
  | n + 1, e => by rw [sumN, sumN_zero fun i hi => e i (Nat.lt_succ_of_lt hi), e n (Nat.lt_succ_self n)]; rfl
theorem sumN_tail {g : Nat → Int} {n m : Nat} (h : n ≤ m) (z : ∀ i, n ≤ i → g i = 0) : sumN g m = sumN g n := by
  obtain ⟨k, rfl⟩ := Nat.exists_eq_add_of_le h
  rw [sumN_add, sumN_zero fun i _ => z _ (Nat.le_add_right n i), Int.add_zero]
theorem sumN_plus (g h : Nat → Int) : ∀ n : Nat, sumN (fun i => g i + h i) n = sumN g n + sumN h n
  | 0 => rfl
  | n + 1 => by rw [sumN, sumN, sumN, sumN_plus g h n]; omega
theorem sumN_mul (g : Nat → Int) (c : Int) : ∀ n : Nat, sumN (fun i => g i * c) n = sumN g n * c
  | 0 => by rw [sumN, sumN, Int.zero_mul]
  | n + 1 => by rw [sumN, sumN, sumN_mul g c n, Int.add_mul]
theorem sumN_swap (g : Nat → Nat → Int) (m : Nat) : ∀ n : Nat, sumN (fun i => sumN (fun j => g i j) m) n = sumN (fun j => sumN (fun i => g i j) n) m
  | 0 => (sumN_zero fun _ _ => rfl).symm
  | n + 1 => by
    rw [sumN, sumN_swap g m n]
    exact (sumN_plus _ _ m).symm
theorem sumN_block (g : Nat → Int) (n : Nat) : ∀ m : Nat, sumN g (n * m) = sumN (fun j => sumN (fun p => g (n * j + p)) n) m
  | 0 => rfl
  | m + 1 => by rw [Nat.mul_succ, sumN_add, sumN, sumN_block g n m]
/-! the digits of a number, as its text in base 2 has them -/
def bt (a i : Nat) : Int := ((a / 2 ^ i % 2 : Nat) : Int)
theorem bt_zero (a : Nat) : bt a 0 = ((a % 2 : Nat) : Int) := by
  unfold bt
  rw [Nat.pow_zero, Nat.div_one]
theorem bt_succ (a i : Nat) : bt a (i + 1) = bt (a / 2) i := by
  unfold bt
  rw [Nat.pow_succ, Nat.mul_comm, Nat.div_div_eq_div_mul]
theorem bt_big {a n i : Nat} (h : a < 2 ^ n) (hi : n ≤ i) : bt a i = 0 := by
  have : a / 2 ^ i = 0 := Nat.div_eq_of_lt (Nat.lt_of_lt_of_le h (Nat.pow_le_pow_right (by decide) hi))
  unfold bt
  rw [this]
  rfl
theorem bt_or (a i : Nat) : bt a i = 0 ∨ bt a i = 1 := by
  unfold bt
  have := Nat.mod_lt (a / 2 ^ i) (show 0 < 2 by decide)
  omega
def bitsR (a : Nat) : List Nat := ((Nat.toDigits 2 a).map (·.toNat)).reverse
theorem bitsR_small {a : Nat} (h : a < 2) : bitsR a = [48 + a] := by
  unfold bitsR
  rw [Nat.toDigits_of_lt_base h]
  show [(Nat.digitChar a).toNat] = _
  rw [Nat.toNat_digitChar_of_lt_ten (by omega)]
theorem bitsR_big {a : Nat} (h : 2 ≤ a) : bitsR a = (48 + a % 2) :: bitsR (a / 2) := by
  unfold bitsR
  rw [Nat.toDigits_of_base_le (by decide) h, List.map_append, List.reverse_append]
  show (Nat.digitChar (a % 2)).toNat :: _ = _
  rw [Nat.toNat_digitChar_of_lt_ten (by omega)]
  rfl
theorem bitsR_get : ∀ (a i : Nat) (c : Nat), (bitsR a)[i]? = some c → (c : Int) = 48 + bt a i := by
  intro a
  induction a using Nat.strongRecOn with
  | ind a ih =>
    intro i c h
    by_cases h2 : a < 2
    · rw [bitsR_small h2] at h
      cases i with
      | zero =>
        obtain rfl := Option.some.inj h
        rw [bt_zero]
        omega
      | succ i => cases h
    · rw [bitsR_big (by omega)] at h
      cases i with
      | zero =>
        obtain rfl := Option.some.inj h
        rw [bt_zero]
        omega
      | succ i =>
        rw [bt_succ]
        exact ih (a / 2) (by omega) i c h
theorem bitsR_len : ∀ a : Nat, a < 2 ^ (bitsR a).length := by
  intro a
  induction a using Nat.strongRecOn with
  | ind a ih =>
    by_cases h2 : a < 2
    · rw [bitsR_small h2]
      exact h2
    · rw [bitsR_big (by omega)]
      have := ih (a / 2) (by omega)
      show a < 2 ^ ((bitsR (a / 2)).length + 1)
      rw [Nat.pow_succ]
      omega
theorem bitsR_le {a n : Nat} (h : a < 2 ^ n) (hn : 0 < n) : (bitsR a).length ≤ n := by
  unfold bitsR
  rw [List.length_reverse, List.length_map]
  exact (Nat.length_toDigits_le_iff (by decide) hn).mpr h
/-- how many signs 1 a list of codes has -/
def ones (l : List Nat) : Int := ((l.filter (· == 49)).length : Nat)
theorem ones_nil : ones [] = 0 := rfl
theorem ones_cons (c : Nat) (l : List Nat) : ones (c :: l) = (if c = 49 then 1 else 0) + ones l := by
  unfold ones
  rw [List.filter_cons]
  by_cases h : c = 49
  · rw [if_pos h, if_pos (by rw [h]; rfl), List.length_cons]
    omega
  · rw [if_neg h, if_neg (by simpa using h)]
    omega
theorem ones_append (a b : List Nat) : ones (a ++ b) = ones a + ones b := by
  unfold ones
  rw [List.filter_append, List.length_append]
  omega
/-- a picked row: the codes at f 0, f 1 .. that are there -/
theorem ones_pick (a : Nat) (f : Nat → Nat) : ∀ n : Nat, (∀ j, j < n → f j < (bitsR a).length) → ones (((List.range n).map f).filterMap ((bitsR a)[·]?)) = sumN (fun j => bt a (f j)) n
  | 0, _ => rfl
  | n + 1, h => by
    rw [List.range_succ, List.map_append, List.filterMap_append, ones_append, ones_pick a f n fun j hj => h j (by omega), sumN]
    congr 1
    obtain ⟨c, hc⟩ : ∃ c, (bitsR a)[f n]? = some c := ⟨_, List.getElem?_eq_getElem (h n (by omega))⟩
    have e := bitsR_get a (f n) c hc
    show ones ([f n].filterMap _) = _
    rw [List.filterMap_cons, hc]
    show ones [c] = _
    rw [ones_cons, ones_nil]
    rcases bt_or a (f n) with z | z
    · rw [if_neg (by omega), z]
      rfl
    · rw [if_pos (by omega), z]
      rfl
/-- the weights' row: classes ahead, classes of a round -/
def cls (na nt i : Nat) : Nat := if i < na then i else na + (i - na) % nt
/-- the counts of the classes -/
def cntA (a n p : Nat) : Int := bt a p
theorem count_split (a na nt M : Nat) (f : Nat → Int) (hn : 0 < nt) (hM : a < 2 ^ (na + nt * M)) :
    sumN (fun i => bt a i * f (cls na nt i)) (na + nt * M) = sumN (fun i => bt a i * f i) na + sumN (fun p => sumN (fun j => bt a (na + p + nt * j)) M * f (na + p)) nt := by
  rw [sumN_add]
  congr 1
  · refine sumN_congr fun i hi => ?_
    unfold cls
    rw [if_pos hi]
  · rw [sumN_block, sumN_swap]
    refine sumN_congr fun p hp => ?_
    rw [← sumN_mul]
    refine sumN_congr fun j _ => ?_
    have e1 : na + (nt * j + p) = na + p + nt * j := by omega
    have e2 : cls na nt (na + (nt * j + p)) = na + p := by
      unfold cls
      rw [if_neg (by omega), Nat.add_sub_cancel_left, Nat.mul_add_mod, Nat.mod_eq_of_lt hp]
    rw [e2, e1]
def stN (n lo k : Nat) : Nat := (n - lo + (k - 1)) / k
theorem stN_lt {n lo k j : Nat} (hk : 0 < k) (h : j < stN n lo k) : lo + k * j < n := by
  unfold stN at h
  have h1 : (j + 1) * k ≤ n - lo + (k - 1) := by
    have := (Nat.le_div_iff_mul_le hk).mp (show j + 1 ≤ (n - lo + (k - 1)) / k from h)
    exact this
  rw [Nat.add_mul, Nat.one_mul, Nat.mul_comm] at h1
  omega
theorem stN_ge {n lo k j : Nat} (hk : 0 < k) (h : stN n lo k ≤ j) : n ≤ lo + k * j := by
  unfold stN at h
  have h1 : n - lo + (k - 1) < (j + 1) * k := (Nat.div_lt_iff_lt_mul hk).mp (by omega)
  rw [Nat.add_mul, Nat.one_mul, Nat.mul_comm] at h1
  omega
theorem step_row {n lo k : Nat} (hk : 0 < k) : Builtin.Str.strSliceIndices (some (lo : Int)) none (k : Int) n = (List.range (stN n lo k)).map fun j => lo + k * j := by
  unfold Builtin.Str.strSliceIndices sliceRange
  have k0 : (k : Int) > 0 := by omega
  have l0 : ¬ ((lo : Int) < 0) := by omega
  simp only [k0, l0, if_true, if_false]
  by_cases h : lo < n
  · have e : max (0 : Int) (min (lo : Int) (n : Int)) = (lo : Int) := by omega
    rw [e, if_pos (by omega)]
    have e2 : (((n : Int) - (lo : Int) + (k : Int) - 1) / (k : Int)).toNat = stN n lo k := by
      unfold stN
      have : (n : Int) - (lo : Int) + (k : Int) - 1 = ((n - lo + (k - 1) : Nat) : Int) := by omega
      rw [this, ← Int.natCast_ediv]
      rfl
    rw [e2]
    refine List.map_congr_left fun j _ => ?_
    omega
  · have e : max (0 : Int) (min (lo : Int) (n : Int)) = (n : Int) := by omega
    rw [e, if_neg (by omega)]
    have e2 : stN n lo k = 0 := by
      unfold stN
      rw [show n - lo = 0 by omega, Nat.zero_add, Nat.div_eq_zero_iff]
      exact .inr (by omega)
    rw [e2]
    rfl

theorem cnt_ones : ∀ l : List Nat, PyProof.Rows.cnt 49 l = ones l
  | [] => rfl
  | c :: l => by rw [PyProof.Rows.cnt_cons, ones_cons, cnt_ones l]
theorem count_ones (z : Str) : Txt.count z ⟨#[49]⟩ = ones z.cps.toList := by rw [PyProof.Rows.count_cnt, cnt_ones]
/-- a text whose signs are the digits of a, the lowest first -/
def IsRev (z : Str) (a : Nat) : Prop := z.cps.toList = bitsR a
theorem IsRev.len {z : Str} {a : Nat} (h : IsRev z a) : z.length = (bitsR a).length := by
  show z.cps.size = _
  rw [← h, Array.length_toList]
theorem IsRev.get {z : Str} {a : Nat} (h : IsRev z a) (i : Nat) : z.cps[i]? = (bitsR a)[i]? := by
  rw [← h, Array.getElem?_toList]
theorem ones_one {a i c : Nat} (h : (bitsR a)[i]? = some c) : ones [c] = bt a i := by
  have e := bitsR_get a i c h
  rw [ones_cons, ones_nil]
  rcases bt_or a i with z | z
  · rw [if_neg (by omega), z]
    rfl
  · rw [if_pos (by omega), z]
    rfl
theorem cut_one {z : Str} {a : Nat} (h : IsRev z a) (p : Nat) : Txt.count (L2.cutS z (some (p : Int)) (some ((p : Int) + 1))) ⟨#[49]⟩ = bt a p := by
  rw [count_ones]
  have e : (p : Int) + 1 = ((p + 1 : Nat) : Int) := rfl
  show ones (((z.cps.toList.drop (HT.sIx z.length 0 (some (p : Int)))).take (HT.sIx z.length z.length (some ((p : Int) + 1)) - HT.sIx z.length 0 (some (p : Int)))).toArray).toList = _
  rw [List.toList_toArray, e, HT.sIx_nat, HT.sIx_nat, show z.cps.toList = bitsR a from h, h.len]
  by_cases hp : p < (bitsR a).length
  · rw [Nat.min_eq_left (by omega), Nat.min_eq_left (by omega), show p + 1 - p = 1 by omega, List.drop_eq_getElem_cons hp]
    exact ones_one (List.getElem?_eq_getElem hp)
  · rw [Nat.min_eq_right (by omega), Nat.min_eq_right (by omega), Nat.sub_self, List.take_zero, ones_nil, bt_big (bitsR_len a) (by omega)]
theorem cut_row {z : Str} {a lo k M : Nat} (h : IsRev z a) (hk : 0 < k) (hM : a < 2 ^ (lo + k * M)) : ones ((Builtin.Str.strSliceIndices (some (lo : Int)) none (k : Int) z.length).filterMap (z.cps[·]?)) = sumN (fun j => bt a (lo + k * j)) M := by
  have e : (fun i => z.cps[i]?) = fun i => (bitsR a)[i]? := funext h.get
  rw [step_row hk, e, h.len, ones_pick a (fun j => lo + k * j) _ fun j hj => stN_lt hk hj]
  rcases Nat.le_total (stN (bitsR a).length lo k) M with c | c
  · exact (sumN_tail c fun i hi => bt_big (bitsR_len a) (stN_ge hk hi)).symm
  · exact sumN_tail c fun i hi => bt_big hM (by
      have := Nat.mul_le_mul_left k hi
      omega)
end Dg
set_option maxRecDepth 100000
namespace Toy
open PySem L2 Dg
/-! the bank of a number by the weights of its digits -/
theorem sum_getD : ∀ l : List Int, l.sum = sumN (fun i => l.getD i 0) l.length := by
  intro l
  induction l with
  | nil => rfl
  | cons x l ih =>
    rw [List.sum_cons, ih, List.length_cons, Nat.add_comm l.length 1, sumN_add]
    show x + _ = sumN _ 1 + _
    have e1 : sumN (fun i => (x :: l).getD i 0) 1 = x := by
      show (0 : Int) + x = x
      omega
    rw [e1]
    congr 1
    refine sumN_congr fun i _ => ?_
    rw [Nat.add_comm]
    rfl
def pk (ns : List Int) (b : Int) (k : Nat) : Int := (partsI ns b).getD k 0
def dsum (f : Nat → Int) (a : Nat) : Int := sumN (fun i => bt a i * f i) (a.log2 + 1)
def rowS (ns : List Int) (w : Nat → Int) (a : Nat) : List Int := (List.range ns.length).map fun k => dsum (fun i => pk ns (w i) k) a % ns.getD k 1
def bankW (ns : List Int) (w : Nat → Int) (a : Nat) : Int := bankI ns (rowS ns w a)
theorem dsum_eq {f : Nat → Int} {a L : Nat} (h : a < 2 ^ L) : dsum f a = sumN (fun i => bt a i * f i) L := by
  unfold dsum
  have h2 : a < 2 ^ (a.log2 + 1) := Nat.lt_log2_self
  have z : ∀ n, a < 2 ^ n → ∀ i, n ≤ i → bt a i * f i = 0 := fun n hn i hi => by rw [bt_big hn hi, Int.zero_mul]
  rcases Nat.le_total L (a.log2 + 1) with c | c
  · exact sumN_tail c (z L h)
  · exact (sumN_tail c (z _ h2)).symm
theorem dsum_congr {f g : Nat → Int} {a : Nat} (h : ∀ i, f i = g i) : dsum f a = dsum g a := by rw [show f = g from funext h]
theorem dsum_zero (f : Nat → Int) : dsum f 0 = 0 := by rw [dsum_eq (L := 0) (by decide)]; rfl
theorem dsum_step (f : Nat → Int) (a : Nat) : dsum f a = bt a 0 * f 0 + dsum (fun i => f (i + 1)) (a / 2) := by
  have h2 : a < 2 ^ (a.log2 + 1) := Nat.lt_log2_self
  have h3 : a < 2 ^ (1 + (a.log2 + 1)) := Nat.lt_of_lt_of_le h2 (Nat.pow_le_pow_right (by decide) (by omega))
  have h4 : a / 2 < 2 ^ (a.log2 + 1) := Nat.lt_of_le_of_lt (Nat.div_le_self ..) h2
  rw [dsum_eq h3, dsum_eq h4, sumN_add]
  congr 1
  · show (0 : Int) + bt a 0 * f 0 = _
    omega
  · refine sumN_congr fun i _ => ?_
    rw [Nat.add_comm 1 i, bt_succ]
theorem dsum_plus (f g : Nat → Int) (a : Nat) : dsum (fun i => f i + g i) a = dsum f a + dsum g a := by
  unfold dsum
  rw [← sumN_plus]
  exact sumN_congr fun i _ => Int.mul_add _ _ _
theorem dsum_times (f : Nat → Int) (c : Int) (a : Nat) : dsum (fun i => c * f i) a = c * dsum f a := by
  unfold dsum
  rw [Int.mul_comm c, ← sumN_mul]
  refine sumN_congr fun i _ => ?_
  show bt a i * (c * f i) = bt a i * f i * c
  rw [Int.mul_comm c, Int.mul_assoc]
theorem dsum_mod {f g : Nat → Int} {m : Int} (h : ∀ i, f i % m = g i % m) (a : Nat) : dsum f a % m = dsum g a % m := by
  unfold dsum
  generalize a.log2 + 1 = L
  induction L with
  | zero => rfl
  | succ L ih =>
    rw [sumN, sumN, Int.add_emod, ih, Int.mul_emod, h, ← Int.mul_emod, ← Int.add_emod]
theorem bt_apart {a b n i : Nat} (h : b < 2 ^ n) : bt (a * 2 ^ n + b) i = bt (a * 2 ^ n) i + bt b i := by
  rcases Nat.lt_or_ge i n with c | c
  · have e : bt (a * 2 ^ n) i = 0 := by
      unfold bt
      rw [show n = i + (n - i - 1 + 1) by omega, Nat.pow_add, Nat.pow_succ, ← Nat.mul_assoc, Nat.mul_comm a, Nat.mul_assoc, Nat.mul_div_cancel_left _ (Nat.two_pow_pos i), ← Nat.mul_assoc, Nat.mul_mod_left]
      rfl
    rw [e, Int.zero_add]
    unfold bt
    have e2 : (a * 2 ^ n + b) / 2 ^ i % 2 = b / 2 ^ i % 2 := by
      rw [show a * 2 ^ n = 2 ^ i * (a * 2 ^ (n - i - 1) * 2) by
        rw [show n = i + (n - i - 1 + 1) by omega, Nat.pow_add, Nat.pow_succ, show i + (n - i - 1 + 1) - i - 1 = n - i - 1 by omega]
        rw [← Nat.mul_assoc, ← Nat.mul_assoc, ← Nat.mul_assoc, Nat.mul_comm a, ← Nat.mul_assoc]]
      rw [Nat.mul_add_div (Nat.two_pow_pos i), Nat.mul_comm _ 2, Nat.mul_add_mod]
    rw [e2]
  · rw [bt_big h c, Int.add_zero]
    unfold bt
    have e2 : (a * 2 ^ n + b) / 2 ^ i = a * 2 ^ n / 2 ^ i := by
      rw [show (2 : Nat) ^ i = 2 ^ n * 2 ^ (i - n) by rw [← Nat.pow_add]; congr 1; omega, ← Nat.div_div_eq_div_mul, ← Nat.div_div_eq_div_mul, Nat.mul_comm a, Nat.mul_add_div (Nat.two_pow_pos n), Nat.div_eq_of_lt h, Nat.add_zero, Nat.mul_div_cancel_left _ (Nat.two_pow_pos n)]
    rw [e2]
theorem dsum_apart (f : Nat → Int) {a b n : Nat} (h : b < 2 ^ n) : dsum f (a * 2 ^ n + b) = dsum f (a * 2 ^ n) + dsum f b := by
  have l1 : a * 2 ^ n + b < 2 ^ ((a * 2 ^ n + b).log2 + 1) := Nat.lt_log2_self
  rw [dsum_eq l1, dsum_eq (Nat.lt_of_le_of_lt (Nat.le_add_right _ b) l1), dsum_eq (Nat.lt_of_le_of_lt (Nat.le_add_left _ _) l1), ← sumN_plus]
  exact sumN_congr fun i _ => by rw [bt_apart h, Int.add_mul]
theorem bt_div (a k i : Nat) : bt (a / 2 ^ k) i = bt a (k + i) := by
  unfold bt
  rw [Nat.pow_add, Nat.div_div_eq_div_mul]
theorem bt_mod (a k i : Nat) : bt (a % 2 ^ k) i = if i < k then bt a i else 0 := by
  by_cases c : i < k
  · rw [if_pos c]
    have h := bt_apart (a := a / 2 ^ k) (b := a % 2 ^ k) (n := k) (i := i) (Nat.mod_lt _ (Nat.two_pow_pos k))
    rw [Nat.mul_comm, Nat.div_add_mod] at h
    have h0 := bt_apart (a := a / 2 ^ k) (b := 0) (n := k) (i := i) (Nat.two_pow_pos k)
    have e : bt (2 ^ k * (a / 2 ^ k)) i = 0 := by
      unfold bt
      rw [show k = i + (k - i - 1 + 1) by omega, Nat.pow_add, Nat.pow_succ, Nat.mul_assoc, Nat.mul_div_cancel_left _ (Nat.two_pow_pos i), Nat.mul_comm _ 2, Nat.mul_assoc, Nat.mul_mod_right]
      rfl
    rw [h, e, Int.zero_add]
  · rw [if_neg c, bt_big (Nat.mod_lt a (Nat.two_pow_pos k)) (by omega)]
theorem dsum_shift (f : Nat → Int) (a k : Nat) : dsum (fun i => if i < k then 0 else f (i - k)) a = dsum f (a / 2 ^ k) := by
  have l1 : a < 2 ^ (k + (a.log2 + 1)) := Nat.lt_of_lt_of_le Nat.lt_log2_self (Nat.pow_le_pow_right (by decide) (by omega))
  have l2 : a / 2 ^ k < 2 ^ (a.log2 + 1) := Nat.lt_of_le_of_lt (Nat.div_le_self ..) Nat.lt_log2_self
  rw [dsum_eq l1, dsum_eq l2, sumN_add, sumN_zero fun i hi => by rw [if_pos hi, Int.mul_zero], Int.zero_add]
  exact sumN_congr fun i _ => by rw [if_neg (by omega), Nat.add_sub_cancel_left, bt_div]
theorem dsum_cut (f : Nat → Int) (a k : Nat) : dsum (fun i => if i < k then f i else 0) a = dsum f (a % 2 ^ k) := by
  have l1 : a < 2 ^ (a.log2 + 1) := Nat.lt_log2_self
  rw [dsum_eq l1, dsum_eq (Nat.lt_of_le_of_lt (Nat.mod_le ..) l1)]
  refine sumN_congr fun i _ => ?_
  rw [bt_mod]
  by_cases c : i < k
  · rw [if_pos c, if_pos c]
  · rw [if_neg c, if_neg c, Int.mul_zero, Int.zero_mul]
theorem dsum_pow (a : Nat) : dsum (fun i => 2 ^ i) a = a := by
  have key : ∀ L : Nat, ∀ a : Nat, a < 2 ^ L → sumN (fun i => bt a i * 2 ^ i) L = a := by
    intro L
    induction L with
    | zero =>
      intro a h
      have : a = 0 := by
        rw [Nat.pow_zero] at h
        omega
      rw [this]
      rfl
    | succ L ih =>
      intro a h
      rw [Nat.add_comm, sumN_add]
      have e0 : sumN (fun i => bt a i * 2 ^ i) 1 = ((a % 2 : Nat) : Int) := by
        show (0 : Int) + bt a 0 * 1 = _
        rw [bt_zero]
        omega
      have e1 : sumN (fun i => bt a (1 + i) * (2 : Int) ^ (1 + i)) L = 2 * sumN (fun i => bt (a / 2) i * 2 ^ i) L := by
        rw [Int.mul_comm 2, ← sumN_mul]
        refine sumN_congr fun i _ => ?_
        rw [Nat.add_comm 1 i, bt_succ, Int.pow_succ, Int.mul_assoc]
      rw [e0, e1, ih (a / 2) (by rw [Nat.pow_succ] at h; omega)]
      omega
  exact key _ a Nat.lt_log2_self
/-! rows of sums -/
theorem rowS_len (ns : List Int) (w : Nat → Int) (a : Nat) : (rowS ns w a).length = ns.length := by
  unfold rowS
  rw [List.length_map, List.length_range]
theorem rowS_at {ns : List Int} {w : Nat → Int} {a k : Nat} (h : k < ns.length) : (rowS ns w a)[k]? = some (dsum (fun i => pk ns (w i) k) a % ns.getD k 1) := by
  unfold rowS
  rw [List.getElem?_map, List.getElem?_range h]
  rfl
theorem rowS_dig {ns : List Int} {w : Nat → Int} {a : Nat} (hn : ∀ n ∈ ns, 2 ≤ n ∧ n ≤ 32) : Dig ns (rowS ns w a) := dig_of (rowS_len ..) fun k n p e1 e2 => by
  have hk : k < ns.length := (List.getElem?_eq_some_iff.mp e1).1
  have h2 := hn n (List.mem_of_getElem? e1)
  rw [rowS_at hk] at e2
  obtain rfl := Option.some.inj e2
  rw [show ns.getD k 1 = n by rw [List.getD_eq_getElem?_getD, e1]; rfl]
  exact ⟨Int.emod_nonneg _ (by omega), Int.emod_lt_of_pos _ (by omega)⟩
theorem bankW_lt {ns : List Int} {w : Nat → Int} {a : Nat} (hM : Mods ns) : 0 ≤ bankW ns w a ∧ bankW ns w a < prodI ns := bank_lt hM.2 (rowS_dig hM.2)
theorem parts_bankW {ns : List Int} {w : Nat → Int} {a : Nat} (hM : Mods ns) : partsI ns (bankW ns w a) = rowS ns w a := parts_bank hM.2 (rowS_dig hM.2)
theorem bankW_congr {ns : List Int} {w w' : Nat → Int} {a : Nat} (h : ∀ i, w i = w' i) : bankW ns w a = bankW ns w' a := by rw [show w = w' from funext h]
/-- two rows of parts are one where each part is -/
theorem row_ext {ns x y : List Int} (lx : x.length = ns.length) (ly : y.length = ns.length) (h : ∀ (k : Nat) (n : Int), k < ns.length → ns[k]? = some n → x.getD k 0 = y.getD k 0) : x = y := by
  refine List.ext_getElem? fun k => ?_
  by_cases hk : k < ns.length
  · have e := h k _ hk (List.getElem?_eq_getElem hk)
    rw [List.getD_eq_getElem?_getD, List.getD_eq_getElem?_getD, List.getElem?_eq_getElem (by omega), List.getElem?_eq_getElem (by omega)] at e
    rw [List.getElem?_eq_getElem (by omega), List.getElem?_eq_getElem (by omega)]
    exact congrArg some e
  · rw [List.getElem?_eq_none (by omega), List.getElem?_eq_none (by omega)]
theorem rowS_get {ns : List Int} {w : Nat → Int} {a k : Nat} {n : Int} (hk : k < ns.length) (e : ns[k]? = some n) : (rowS ns w a).getD k 0 = dsum (fun i => pk ns (w i) k) a % n := by
  rw [List.getD_eq_getElem?_getD, rowS_at hk, show ns.getD k 1 = n by rw [List.getD_eq_getElem?_getD, e]; rfl]
  rfl
theorem sumsI_get {ns bs ts : List Int} {k : Nat} {n : Int} (hk : k < ns.length) (e : ns[k]? = some n) : (sumsI ns bs ts).getD k 0 = ((ts.zip bs).map fun p => p.1 * pk ns p.2 k).sum % n := by
  rw [List.getD_eq_getElem?_getD, sums_at hk]
  show colI ns bs ts k = _
  unfold colI
  rw [show ns.getD k 1 = n by rw [List.getD_eq_getElem?_getD, e]; rfl]
  rfl
/-- a part of a bank is below its modulus -/
theorem pk_at {ns : List Int} {b : Int} {k : Nat} {n : Int} (hM : Mods ns) (hk : k < ns.length) (e : ns[k]? = some n) : 0 ≤ pk ns b k ∧ pk ns b k < n := by
  obtain ⟨y, hy⟩ : ∃ y, (partsI ns b)[k]? = some y := ⟨_, List.getElem?_eq_getElem (by rw [partsI_len]; exact hk)⟩
  obtain ⟨n', e', y0, y1⟩ := partsI_at hM.2 hy
  rw [e] at e'
  obtain rfl := Option.some.inj e'
  unfold pk
  rw [List.getD_eq_getElem?_getD, hy]
  exact ⟨y0, y1⟩
theorem pk_mod {ns : List Int} {b : Int} {k : Nat} {n : Int} (hM : Mods ns) (hk : k < ns.length) (e : ns[k]? = some n) : pk ns b k % n = pk ns b k := Int.emod_eq_of_lt (pk_at hM hk e).1 (pk_at hM hk e).2
/-- the sum of two banks -/
def addB (ns : List Int) (i j : Int) : Int := bankI ns (sumsI ns [i, j] [1, 1])
theorem addB_pk {ns : List Int} {i j : Int} {k : Nat} {n : Int} (hM : Mods ns) (hk : k < ns.length) (e : ns[k]? = some n) : pk ns (addB ns i j) k = (pk ns i k + pk ns j k) % n := by
  unfold addB pk
  rw [parts_sum hM, sumsI_get hk e]
  show (1 * pk ns i k + (1 * pk ns j k + 0)) % n = _
  rw [Int.one_mul, Int.one_mul, Int.add_zero]
  rfl
theorem addB_lt {ns : List Int} {i j : Int} (hM : Mods ns) : 0 ≤ addB ns i j ∧ addB ns i j < prodI ns := bank_lt hM.2 (sums_dig hM.2)
theorem bankW_pk {ns : List Int} {w : Nat → Int} {a k : Nat} {n : Int} (hM : Mods ns) (hk : k < ns.length) (e : ns[k]? = some n) : pk ns (bankW ns w a) k = dsum (fun i => pk ns (w i) k) a % n := by
  unfold pk
  rw [parts_bankW hM]
  exact rowS_get hk e
/-- banks with the same parts are one -/
theorem bank_ext {ns : List Int} {i j : Int} (hM : Mods ns) (i0 : 0 ≤ i) (i1 : i < prodI ns) (j0 : 0 ≤ j) (j1 : j < prodI ns) (h : ∀ (k : Nat) (n : Int), k < ns.length → ns[k]? = some n → pk ns i k = pk ns j k) : i = j := by
  rw [← bank_parts hM.2 i0 i1, ← bank_parts hM.2 j0 j1]
  congr 1
  exact row_ext (partsI_len ..) (partsI_len ..) h
/-- numbers with digits apart add their banks -/
theorem bankW_apart {ns : List Int} {w : Nat → Int} {a b n : Nat} (hM : Mods ns) (h : b < 2 ^ n) : bankW ns w (a * 2 ^ n + b) = addB ns (bankW ns w (a * 2 ^ n)) (bankW ns w b) := by
  refine bank_ext hM (bankW_lt hM).1 (bankW_lt hM).2 (addB_lt hM).1 (addB_lt hM).2 fun k m hk e => ?_
  rw [addB_pk hM hk e, bankW_pk hM hk e, bankW_pk hM hk e, bankW_pk hM hk e, ← Int.add_emod, dsum_apart _ h]
theorem bankW_zero {ns : List Int} {w : Nat → Int} (hM : Mods ns) : bankW ns w 0 = 0 := by
  refine bank_ext hM (bankW_lt hM).1 (bankW_lt hM).2 (Int.le_refl 0) (prodI_pos hM.2) fun k m hk e => ?_
  rw [bankW_pk hM hk e, dsum_zero, Int.zero_emod]
  have z : ∀ (ns : List Int) (k : Nat), (partsI ns 0).getD k 0 = 0 := by
    intro ns
    induction ns with
    | nil => intro k; rfl
    | cons n ns ih =>
      intro k
      cases k with
      | zero => exact Int.zero_emod n
      | succ k =>
        show (partsI ns (0 / n)).getD k 0 = 0
        rw [Int.zero_ediv]
        exact ih k
  exact (z ns k).symm
/-- the sum over classes is that over places -/
def onesL (a na nt : Nat) : List Int := (List.range na).map (bt a) ++ (List.range nt).map fun p => sumN (fun j => bt a (na + p + nt * j)) (a.log2 + 1)
theorem onesL_len (a na nt : Nat) : (onesL a na nt).length = na + nt := by
  unfold onesL
  rw [List.length_append, List.length_map, List.length_map, List.length_range, List.length_range]
theorem onesL_at (a na nt i : Nat) (h : i < na + nt) : (onesL a na nt).getD i 0 = if i < na then bt a i else sumN (fun j => bt a (i + nt * j)) (a.log2 + 1) := by
  unfold onesL
  rw [List.getD_eq_getElem?_getD]
  by_cases c : i < na
  · rw [if_pos c, List.getElem?_append_left (by rw [List.length_map, List.length_range]; exact c), List.getElem?_map, List.getElem?_range c]
    rfl
  · rw [if_neg c, List.getElem?_append_right (by rw [List.length_map, List.length_range]; omega), List.length_map, List.length_range, List.getElem?_map, List.getElem?_range (by omega)]
    show sumN (fun j => bt a (na + (i - na) + nt * j)) _ = _
    rw [show na + (i - na) = i by omega]
theorem wAt_cls {A T : List Int} {i : Nat} (h : i < A.length + T.length) : (A ++ T).getD i 0 = wAt A T i := by
  unfold wAt pAt
  by_cases c : i < A.length
  · rw [if_pos c, List.getD_eq_getElem?_getD, List.getElem?_append_left c, List.getD_eq_getElem?_getD]
  · rw [if_neg c, List.getD_eq_getElem?_getD, List.getElem?_append_right (by omega), List.getD_eq_getElem?_getD, Nat.mod_eq_of_lt (by omega)]
theorem wAt_per {A T : List Int} (i : Nat) : wAt A T (cls A.length T.length i) = wAt A T i := by
  unfold cls
  by_cases c : i < A.length
  · rw [if_pos c]
  · rw [if_neg c]
    unfold wAt pAt
    rw [if_neg (by omega), if_neg c, Nat.add_sub_cancel_left, Nat.mod_mod]
theorem sum_zip (f : Int → Int) (ts bs : List Int) (h : bs.length = ts.length) : ((ts.zip bs).map fun p => p.1 * f p.2).sum = sumN (fun i => ts.getD i 0 * f (bs.getD i 0)) bs.length := by
  rw [sum_getD, List.length_map, List.length_zip, ← h, Nat.min_self]
  refine sumN_congr fun i hi => ?_
  have h1 : i < ts.length := by omega
  have hz : (ts.zip bs)[i]? = some (ts[i], bs[i]) := List.getElem?_zip_eq_some.mpr ⟨List.getElem?_eq_getElem h1, List.getElem?_eq_getElem hi⟩
  rw [List.getD_eq_getElem?_getD, List.getElem?_map, hz, List.getD_eq_getElem?_getD, List.getD_eq_getElem?_getD, List.getElem?_eq_getElem h1, List.getElem?_eq_getElem hi]
  rfl
theorem bank_ones {ns A T : List Int} {a : Nat} (hM : Mods ns) (ne : T ≠ []) : bankI ns (sumsI ns (A ++ T) (onesL a A.length T.length)) = bankW ns (wAt A T) a := by
  unfold bankW
  congr 1
  refine row_ext (sums_len ..) (rowS_len ..) fun k n hk e => ?_
  rw [sumsI_get hk e, rowS_get hk e, sum_zip (fun b => pk ns b k) _ _ (by rw [onesL_len, List.length_append])]
  congr 1
  have tp : 0 < T.length := List.length_pos_iff.mpr ne
  have hL : a < 2 ^ (A.length + T.length * (a.log2 + 1)) := Nat.lt_of_lt_of_le Nat.lt_log2_self (Nat.pow_le_pow_right (by decide) (by
    have := Nat.mul_le_mul_right (a.log2 + 1) tp
    omega))
  have c1 := count_split a A.length T.length (a.log2 + 1) (fun i => pk ns (wAt A T i) k) tp hL
  rw [dsum_eq hL]
  have c2 : sumN (fun i => bt a i * pk ns (wAt A T (cls A.length T.length i)) k) (A.length + T.length * (a.log2 + 1)) = sumN (fun i => bt a i * pk ns (wAt A T i) k) (A.length + T.length * (a.log2 + 1)) := sumN_congr fun i _ => by rw [wAt_per]
  rw [← c2, c1, List.length_append, sumN_add]
  congr 1
  · refine sumN_congr fun i hi => ?_
    rw [onesL_at _ _ _ _ (by omega), if_pos hi, wAt_cls (by omega)]
  · refine sumN_congr fun p hp => ?_
    rw [onesL_at _ _ _ _ (by omega), if_neg (by omega), wAt_cls (by omega)]
end Toy
set_option maxRecDepth 100000
namespace Fb
open PySem Builtin PyProof.Rows Float
/-! f"{n:b}" -/
def binT (a : Nat) : Str := ⟨((Nat.toDigits 2 a).map (·.toNat)).toArray⟩
section
variable {prog : Program} {w : World} {A : Around} {E : Value → Shared → Prop} {s : Shared}
set_option maxHeartbeats 2000000 in
theorem formatField_b {a : Nat} {t : Tok} {Q : Value → Shared → Prop} (hlen : (binT a).length ≤ sizeLine) (h : Q (.str (binT a) (s.toks + 1)) { s with toks := s.toks + 1 + 1 }) :
    wpAny (model prog w) A (formatField (.int (a : Int) t) "b") Q E s := by
  obtain ⟨f, hp, hty, hpr, hz, hal, hw, hgr, hsg, hfi, hag⟩ : ∃ f : FormatSpec, parseFormatSpec (Str.ofString "b").cps.toList "int" 62 = .ok f ∧ f.type = some 98 ∧ f.precision = none ∧ f.noNeg0 = false ∧ f.alt = false ∧ f.width = none ∧ f.grouping = none ∧ f.sign = none ∧ f.fill = 32 ∧ f.align = 62 := ⟨_, rfl, rfl, rfl, rfl, rfl, rfl, rfl, rfl, rfl, rfl⟩
  have hne : ((Str.ofString "b").length == 0) = false := by rfl
  have hasc : (((Str.ofString "b").cps.toList.drop 1).any (· ≥ 128) || ((Str.ofString "b").cps.getD 0 0 ≥ 128 && !([60, 62, 61, 94] : List Nat).contains ((Str.ofString "b").cps.getD 1 0))) = false := by decide +kernel
  show wpAny _ _ (holding [.int (a : Int) t] (pyFormat (.int (a : Int) t) "b")) Q E s
  refine wpAny_holding ?_
  unfold pyFormat
  refine wpAny_bind (wpAny_mkStr ?_ (by decide))
  refine wpAny_bind (m := callSpecial? (.int (a : Int) t) (Str.ofString "__format__") [.str "b" s.toks]) (wpAny_callSpecial?_slot (name := Str.ofString "__format__") (typeIs_int _ (a : Int) t) PySem.F.slot_int_format ?_)
  refine wpAny_call (codeAny_call_builtin PySem.F.slot_int_format.plain PySem.F.entry_int_format (PySem.F.slot_int_format.check _ _ _ _ _ _ _ _ (typeIs_int _ (a : Int) t) (PySem.F.args_int_format_2 _ _) ?_))
  unfold Builtin.«int.__format__»
  simp only [selfAndOne, noKeywords, Int.intOfSelf, asInt?, asStr?, List.isEmpty_nil, if_true, pure_bind, bind_pure, bind_assoc, hne, hasc, Bool.false_eq_true, if_false,
    show (Value.str (Str.ofString "b") s.toks == Value.none) = false from rfl]
  refine wpAny_bind (wpAny_typeNameOf (T := "str") (typeIs_str _ _ _) (by decide) fun _ => ?_)
  first | refine wpAny_bind (wpAny_typeNameOfCut_int ?_) | refine wpAny_bind (wpAny_typeNameOf_int ?_)
  simp only [hp, hty, Option.getD_some]
  rw [if_pos (by decide)]
  show wpAny _ _ (if _ then _ else _) _ _ _
  rw [if_neg (by simp [hpr])]
  show wpAny _ _ (if _ then _ else _) _ _ _
  rw [if_neg (by simp [hz])]
  show wpAny _ _ (if _ then _ else _) _ _ _
  rw [if_neg (by decide)]
  show wpAny _ _ (if _ then _ else _) _ _ _
  rw [if_neg (by decide)]
  show wpAny _ _ (if _ then _ else _) _ _ _
  rw [if_neg (by simp [hw])]
  show wpAny _ _ (retStr _) _ _ _
  unfold retStr
  have z0 : decide ((a : Int) < 0) = false := decide_eq_false (by omega)
  have z1 : ((a : Int)).natAbs = a := Int.natAbs_natCast a
  simp only [z0, z1, hal, Bool.false_eq_true, if_false, show ((2 : Nat) == 10) = false from rfl, show ((98 : Nat) == 88) = false from rfl]
  clear hp
  cases f
  dsimp only at hty hpr hz hal hw hgr hsg hfi hag
  subst hty hpr hz hal hw hgr hsg hfi hag
  refine wpAny_bind (wpAny_mkStr (wpAny_pure ?_) ?hs2)
  case hs2 =>
    conv => lhs; arg 1; whnf
    simpa [binT] using hlen
  dsimp only
  refine wpAny_bind (wpAny_isInstance (typeIs_str _ _ _) isSubtype_str_str (wpAny_pure ?_))
  conv => arg 1; arg 1; whnf
  simpa [binT] using h
end
end Fb
namespace L2
open PySem PySem.Spec PyProof.Rows
/-- {n:b} of a number that is not below 0 -/
def tFmtB (te : TE) : TE := fun σ H Q => te σ H fun x H1 => ∃ a : Nat, x = .int (a : Int) ∧ (Fb.binT a).length ≤ sizeLine ∧ Q (.str (Fb.binT a)) H1
theorem pe_fmtB {X : Cx} {e : Expr} {te : TE} {k : Nat} {p p2 pos : Pos} (he : PE X e te) : PE X (.FormattedValue e (-1) (some (.JoinedStr [.Constant (.str "b") k p] p2)) pos) (tFmtB te) := by
  refine ⟨fun pins s σ H Q I h => ?_⟩
  refine wpAny_FormattedValue_spec (thn (he.run pins s σ H _ I h) fun v s1 hv => ?_)
  obtain ⟨x, H1, I1, r1, a, rfl, hz, q⟩ := hv
  obtain ⟨t, rfl⟩ := r1
  have hb : PE X (.JoinedStr [.Constant (.str "b") k p] p2) (tC (.str "b")) := pe_fs1 pe_str
  refine thn (hb.run pins s1 σ H1 (fun y H2 => y = .str "b" ∧ H2 = H1) I1 ⟨rfl, rfl⟩) fun w s2 hw => ?_
  obtain ⟨y, H2, I2, r2, ey, eH⟩ := hw
  subst ey eH
  obtain ⟨t2, rfl⟩ := r2
  exact ⟨_, t2, rfl, Fb.formatField_b hz ⟨.str (Fb.binT a), _, I2.tok _, ⟨_, rfl⟩, q⟩⟩
end L2
set_option maxRecDepth 100000
namespace L2
open PySem PySem.Spec PyProof.Rows
/-! z[lo:hi:k] of a text -/
def cutX (z : Str) (lo hi : Option Int) (k : Int) : Str := ⟨((Builtin.Str.strSliceIndices lo hi k z.length).filterMap (z.cps[·]?)).toArray⟩
theorem cutX_len (z : Str) (lo hi : Option Int) (k : Int) (h0 : k ≠ 0) : (cutX z lo hi k).length ≤ z.length := by
  have h1 := PySem.sliceIndicesBy_le lo hi k h0 z.length
  have h2 := List.length_filterMap_le (z.cps[·]?) (Builtin.Str.strSliceIndices lo hi k z.length)
  show (((Builtin.Str.strSliceIndices lo hi k z.length).filterMap (z.cps[·]?)).toArray).size ≤ _
  rw [List.size_toArray]
  exact Nat.le_trans h2 h1
def tSlX (te : TE) (tl th ts : St → Hp → (Option Int → Hp → Prop) → Prop) : TE := fun σ H Q => te σ H fun x H1 => tl σ H1 fun lo H2 => th σ H2 fun hi H3 => ts σ H3 fun o H4 => ∃ (z : Str) (k : Int), x = .str z ∧ o = some k ∧ k ≠ 0 ∧ z.length ≤ sizeLine ∧
  (k = 1 → (Builtin.Str.strSliceIndices lo hi k z.length).length = z.length → cutX z lo hi k = z) ∧ Q (.str (cutX z lo hi k)) H4
theorem pe_slX {X : Cx} {e st : Expr} {lo hi : Option Expr} {te : TE} {tl th ts : St → Hp → (Option Int → Hp → Prop) → Prop} {p3 pos : Pos} (he : PE X e te) (hl : PO X lo tl) (hh : PO X hi th) (hst : PO X (some st) ts)
    (htl : ∀ (v : Value) (a : Addr) (s : Shared), True := by intros; trivial) :
    PE X (.Subscript e (.Slice lo hi (some st) p3) pos) (tSlX te tl th ts) := by
  refine ⟨fun pins s σ H Q I h => ?_⟩
  refine Subscript_ (thn (he.run pins s σ H _ I h) fun v s1 ⟨x, H1, I1, r1, q1⟩ => ?_)
  refine wpAny_Slice (thn (hl.run pins s1 σ H1 _ I1 q1) fun vl s2 ⟨l, H2, I2, pl, q2⟩ => ?_)
  refine thn (hh.run pins s2 σ H2 _ I2 q2) fun vu s3 ⟨u, H3, I3, pu, q3⟩ => ?_
  refine thn (hst.run pins s3 σ H3 _ I3 q3) fun vs s4 ⟨o, H4, I4, ps, q4⟩ => ?_
  obtain ⟨z, k, ex, eo, k0, hz, hw, q⟩ := q4
  subst ex eo
  obtain ⟨t, rfl⟩ := r1
  have I5 : Inv X pins σ H4 { s4 with heap := s4.heap.push { cls := .type "slice", data := .fields #[vl, vu, vs] } } := I4.kept (t' := s4.toks) fun b ob q => Heap.get?_push_of_some _ q
  show wpAny (model X.prog X.w) X.A (subscriptTail e (.Slice lo hi (some st) p3) (.str z t) (.ref s4.heap.objs.size)) (EP X pins σ Q) X.xe { s4 with heap := s4.heap.push { cls := .type "slice", data := .fields #[vl, vu, vs] } }
  refine tail_any (ops := [.str z t, .ref s4.heap.objs.size]) (typeIs_str _ _ _) (PySem.F.slot_str_getitem.lookup) ?_ (by with_unfolding_all rfl)
  obtain ⟨l', rfl, rfl⟩ := IsPart.raw pl
  obtain ⟨u', rfl, rfl⟩ := IsPart.raw pu
  obtain ⟨k', rfl, hk⟩ := IsPart.raw ps
  refine wpAny_getItem_str_slice (l := l') (u := u') (st := k') ⟨_, Heap.get?_push_size _ rfl, rfl, rfl⟩ (by rw [hk]; simpa using k0) ?_
  have hlen : (cutX z (l'.map (·.1)) (u'.map (·.1)) k).length ≤ sizeLine := Nat.le_trans (cutX_len z _ _ k k0) hz
  unfold sliceMade slicePicked
  rw [hk]
  show Made.post (if (k == 1 && (Builtin.Str.strSliceIndices (l'.map (·.1)) (u'.map (·.1)) k z.length).length == z.length) = true then Made.val (.str z t)
    else Made.str (cutX z (l'.map (·.1)) (u'.map (·.1)) k)) (EP X pins σ Q) _
  by_cases c : (k == 1 && (Builtin.Str.strSliceIndices (l'.map (·.1)) (u'.map (·.1)) k z.length).length == z.length) = true
  · rw [if_pos c]
    obtain ⟨c1, c2⟩ := Bool.and_eq_true_iff.mp c
    rw [hw (beq_iff_eq.mp c1) (beq_iff_eq.mp c2)] at q
    exact ⟨.str z, H4, I5, ⟨t, rfl⟩, q⟩
  · rw [if_neg c]
    exact ⟨hlen, .str _, H4, I5.tok _, ⟨_, rfl⟩, q⟩
end L2
set_option maxRecDepth 100000
namespace L2
open PySem PySem.Spec PyProof.Rows
/-! an instance called, by place and by keywords; readings that don't know the context -/
def tCallI (C : Addr) (sp : Sp) (E : XK) (tf : TE) (t : TA) : TE := fun σ H Q => tf σ H fun y H1 => ∃ a, y = V.ref a ∧ t σ H1 fun vs H2 => (∃ dx fs, H2 a = some (.ins C dx fs)) ∧ sp (V.ref a :: vs) H2 Q E
def tCallIK (m : Nat) (C : Addr) (sp : Sp) (gV : List V → List V → List V) (E : XK) (tf : TE) (tk : TA) : TE := fun σ H Q => tf σ H fun y H1 => ∃ a, y = V.ref a ∧ tk σ H1 fun zs H2 => zs.length = m ∧ (∃ dx fs, H2 a = some (.ins C dx fs)) ∧ sp (gV [V.ref a] zs) H2 Q E
section
variable {X : Cx} {CX : CXT} {k n : Nat} {g C : Addr} {fd : FuncData} {ps ks : List Str} {sp : Sp} {E : XK} {e fe : Expr} {es : List Expr} {te tf : TE} {t tk : TA} {pos : Pos} {kws : List Keyword} {gg : List Value → List Value → List Value} {gV : List V → List V → List V}
theorem pe_callI (hf : PE X fe tf) (c : StX.CallO X.K C g) (F : FnR X.prog X.w X.K X.mg X.base CX k g sp) (hr : Room k X.A) (hx : Passes CX X E) (ha : PA X (e :: es) t)
    (ht : eval (.Call fe (e :: es) [] pos) X.env = (do callWith pos (← eval fe X.env) [] (backTo pos (starEach (e :: es) X.env)) (backToKw pos (keywordEach [] X.env))) := by rfl)
    (he : starEach (e :: es) X.env = (false, eval e X.env) :: starEach es X.env := by rfl) (hpl : (backTo pos (starEach es X.env)).any (·.1) = false := by rfl) : PE X (.Call fe (e :: es) [] pos) (tCallI C sp E tf t) := by
  refine ⟨fun pins s σ H Q I h => ?_⟩
  refine Call_ (thn (hf.run pins s σ H _ I h) fun u s1 ⟨y, H1, I1, ry, a, ey, q⟩ => ?_) ht
  subst ey
  obtain rfl : u = Value.ref a := ry
  refine StX.callO_with (thn (ha.run pos pins s1 σ H1 _ I1 q) fun us s2 ⟨vs, H2, I2, r, hi, q2⟩ => ?_) he hpl
  obtain ⟨ox, od, J, hd⟩ := StX.insC_at I2 (.inr hi)
  exact ⟨⟨C, ox, od, J, hd⟩, StX.run_callO c F hr hx I2 (.inr hi) r q2⟩
theorem callOK_of {M : Model} {A : Around} {E : Value → Shared → Prop} {s : Shared} {a : Addr} {pos : Pos} {Q : Value → Shared → Prop} {args : List (Bool × Sem Value)} {keywords : List (Option Str × Sem Value)} (hplain : (args.any (·.1) || keywords.any (·.1.isNone)) = false)
    (h : wpAny M A (evalArgs (.ref a) true args keywords) (fun z s₁ => (∃ C ox od, PySem.W.InstAt s₁.heap a ox C od ∧ ox.data = .plain) ∧ wpAny M A (call (.ref a) ([] ++ z.pos) z.kw) Q E s₁) E s) : wpAny M A (callWith pos (.ref a) [] args keywords) Q E s := by
  unfold callWith
  refine wpAny_bind (wpAny_holding (wpAny_mono h (fun z s₁ h₁ => wpAny_bind (wpAny_standAt ?_)) fun _ _ y => y))
  obtain ⟨⟨C, ox, od, J, hd⟩, h₁⟩ := h₁
  have L := PySem.W.kco_keeper (M := M) J hd
  simp only [hplain]
  refine wpAny_bind (L.here ?_)
  have tail : ∀ {t : Sem Value}, wpAny M A t Q E s₁ → wpAny M A (t >>= fun r => holding [r] point >>= fun _ => pure r) Q E s₁ :=
    fun ht => wpAny_bind (wpAny_mono ht (fun r s₂ hr => wpAny_bind (wpAny_holding (wpAny_point (wpAny_pure hr)))) fun _ _ y => y)
  exact tail (wpAny_operateT h₁)
theorem pe_callIK0 (hf : PE X fe tf) (c : StX.CallO X.K C g) (F : FnOk X.prog X.w X.K X.mg X.base CX k g fd ps sp) (hr : Room k X.A) (hb : KBn X.K fd ps 1 ks gg gV) (hx : Passes CX X E) (hkw : PK X kws tk)
    (ht : eval (.Call fe [] kws pos) X.env = (do callWith pos (← eval fe X.env) [] (backTo pos (starEach [] X.env)) (backToKw pos (keywordEach kws X.env))) := by rfl)
    (hall : (backToKw pos (keywordEach kws X.env)).all (·.1.isSome) = true := by rfl) (hks : (backToKw pos (keywordEach kws X.env)).filterMap (·.1) = ks := by rfl)
    (hpl : ((backTo pos (starEach [] X.env)).any (·.1) || (backToKw pos (keywordEach kws X.env)).any (·.1.isNone)) = false := by rfl) : PE X (.Call fe [] kws pos) (tCallIK ks.length C sp gV E tf tk) := by
  refine ⟨fun pins s σ H Q I h => ?_⟩
  rw [ht]
  refine wpAny_bind (thn (hf.run pins s σ H _ I h) fun u s1 ⟨y, H1, I1, ry, a, ey, q⟩ => ?_)
  subst ey
  obtain rfl : u = Value.ref a := ry
  refine callOK_of hpl (evalArgs_kw2_nil hall (thn (hkw.run pos pins s1 σ H1 _ I1 q) fun ws s2 hh => ?_))
  obtain ⟨zs, H2, I2, rz, l2, hi, q2⟩ := hh
  obtain ⟨ox, od, J, hd⟩ := StX.insC_at I2 (.inr hi)
  refine ⟨⟨C, ox, od, J, hd⟩, ?_⟩
  rw [hks]
  have r : Vals [V.ref a] [Value.ref a] := .cons rfl .nil
  have r2 := hb.rel r rz
  refine wpAny_call (PySem.W.kco_code I2.kIn J hd c.at_ c.fn c.fi (codeAny_mono (F.run X.A X.stack s2 H2 ⟨[.ref a], ks.zip ws⟩ (gg [.ref a] ws) (gV [.ref a] zs) Q E hr I2.env0 (hb.to s2 [.ref a] ws I2.kIn rfl (rz.length.symm.trans l2)) r2 q2) fun r s' hq => ?_))
  cases r with
  | error e => exact hx pins σ H2 s2 e s' I2 hq
  | ok fl =>
    cases fl with
    | ret u => exact I2.after hq
    | next => exact False.elim hq
    | brk => exact False.elim hq
    | cont => exact False.elim hq
end
/-- what the top has written of a class whose instances are called -/
def callOB (K : PySem.W.Frag) (C : Addr) : Bool := decide (PySem.W.findIn K (.ref C) "__call__" = some (some (.ref (He.ma K C "__call__")))) && (PySem.W.isFn K (.ref (He.ma K C "__call__")) && PySem.W.fnIn K (He.ma K C "__call__"))
theorem callO_of {K : PySem.W.Frag} {C : Addr} (h : callOB K C = true) : StX.CallO K C (He.ma K C "__call__") := by
  obtain ⟨h1, h2⟩ := He.ba h
  obtain ⟨h3, h4⟩ := He.ba h2
  exact ⟨of_decide_eq_true h1, h3, h4⟩
end L2
set_option maxRecDepth 100000
namespace Toy
open PySem L2 Dg
def badNum (CN : Addr) (H : Hp) (x : V) (E : XK) : Prop := ∀ d H', H d = none → Same H H' → H' d = some (.xd [("value", x)]) → E (.ref CN) (some d) H'
def badPart (CR : Addr) (H : Hp) (w : Str) (E : XK) : Prop := ∀ d H', Same H H' → H' d = some (.xd [("part", .str w)]) → E (.ref CR) (some d) H'
abbrev s_ones_of : Stmt := top 15
abbrev s_Rule_call : Stmt := (inClass (top 34) 7)
theorem rev_row (l : List Nat) : ((List.range l.length).map fun k => l.length - 1 - k).filterMap (l[·]?) = l.reverse := by
  have h : ∀ n, n ≤ l.length → ((List.range n).map fun k => l.length - 1 - k).filterMap (l[·]?) = (l.drop (l.length - n)).reverse := by
    intro n
    induction n with
    | zero => intro _; rw [Nat.sub_zero, List.drop_length]; rfl
    | succ n ih =>
      intro hn
      have hi : l.length - 1 - n < l.length := by omega
      rw [List.range_succ, List.map_append, List.filterMap_append, ih (by omega), show l.length - n = l.length - (n + 1) + 1 by omega]
      have e : l.drop (l.length - (n + 1)) = l[l.length - 1 - n] :: l.drop (l.length - (n + 1) + 1) := by
        have := List.drop_eq_getElem_cons (l := l) (i := l.length - (n + 1)) (by omega)
        rw [this]
        congr 2
        omega
      rw [e, List.reverse_cons]
      congr 1
      show List.filterMap (l[·]?) [l.length - 1 - n] = _
      rw [List.filterMap_cons, List.getElem?_eq_getElem hi]
      rfl
  have := h l.length (Nat.le_refl _)
  rw [this, Nat.sub_self, List.drop_zero]
theorem rev_ok (a : Nat) : IsRev (cutX (Fb.binT a) none none (-1)) a := by
  show ((Builtin.Str.strSliceIndices none none (-1) (Fb.binT a).length).filterMap ((Fb.binT a).cps[·]?)).toArray.toList = bitsR a
  rw [PyProof.Rows.picked_rev, List.toList_toArray]
  have l1 : (Fb.binT a).length = ((Nat.toDigits 2 a).map (·.toNat)).length := List.size_toArray ..
  have f1 : (fun (i : Nat) => (Fb.binT a).cps[i]?) = fun (i : Nat) => ((Nat.toDigits 2 a).map (·.toNat))[i]? := funext fun i => by
    show (((Nat.toDigits 2 a).map (·.toNat)).toArray)[i]? = _
    rw [List.getElem?_toArray]
  rw [f1, l1, rev_row]
  rfl
theorem bin_len (a : Nat) : (Fb.binT a).length ≤ a.log2 + 1 := by
  have l1 : (Fb.binT a).length = (bitsR a).length := by
    unfold bitsR
    rw [List.length_reverse]
    exact List.size_toArray ..
  rw [l1]
  exact bitsR_le Nat.lt_log2_self (Nat.succ_pos _)
theorem get_row (l : List Nat) : (List.range l.length).filterMap (l[·]?) = l := by
  have h : ∀ n, n ≤ l.length → (List.range n).filterMap (l[·]?) = l.take n := by
    intro n
    induction n with
    | zero => intro _; rfl
    | succ n ih =>
      intro hn
      rw [List.range_succ, List.filterMap_append, ih (by omega), List.take_add_one, List.getElem?_eq_getElem (by omega)]
      congr 1
      show List.filterMap (l[·]?) [n] = _
      rw [List.filterMap_cons, List.getElem?_eq_getElem (by omega)]
      rfl
  have := h l.length (Nat.le_refl _)
  rw [this, List.take_length]
theorem cutX_whole {z : Str} {lo : Nat} (h : (Builtin.Str.strSliceIndices (some (lo : Int)) none 1 z.length).length = z.length) : cutX z (some (lo : Int)) none 1 = z := by
  have e := step_row (n := z.length) (lo := lo) (k := 1) (by decide)
  have e1 : ((1 : Nat) : Int) = 1 := rfl
  rw [e1] at e
  rw [e, List.length_map, List.length_range] at h
  have h2 : z.length - lo = z.length := by
    unfold stN at h
    omega
  show Str.mk (((Builtin.Str.strSliceIndices (some (lo : Int)) none 1 z.length).filterMap (z.cps[·]?)).toArray) = z
  rw [e, h]
  have f1 : (fun (i : Nat) => z.cps[i]?) = fun (i : Nat) => z.cps.toList[i]? := funext fun i => (Array.getElem?_toList ..).symm
  have f2 : ((List.range z.length).map fun j => lo + 1 * j).filterMap (fun (i : Nat) => z.cps.toList[i]?) = z.cps.toList := by
    by_cases c : lo = 0
    · subst c
      have e2 : (fun j : Nat => 0 + 1 * j) = fun j => j := funext fun j => by omega
      rw [e2, List.map_id', show z.length = z.cps.toList.length from Array.length_toList.symm]
      exact get_row _
    · have z0 : z.length = 0 := by omega
      rw [z0]
      have : z.cps.toList.length = 0 := by rw [Array.length_toList]; exact z0
      exact (List.length_eq_zero_iff.mp this).symm
  rw [f1, f2]
theorem onesL_snoc {a na nt i : Nat} : (List.range na).map (bt a) ++ (List.range (i + 1)).map (fun p => sumN (fun j => bt a (na + p + nt * j)) (a.log2 + 1)) = ((List.range na).map (bt a) ++ (List.range i).map (fun p => sumN (fun j => bt a (na + p + nt * j)) (a.log2 + 1))) ++ [sumN (fun j => bt a (na + i + nt * j)) (a.log2 + 1)] := by
  rw [List.range_succ, List.map_append, ← List.append_assoc]
  rfl
theorem row_len {f : Nat → Int} {n i : Nat} (h : i < n) (l : n ≤ 300) : (((List.range i).map f).map V.int).length < PySem.sizeLine := small1000 (by rw [List.length_map, List.length_map, List.length_range]; omega)
theorem line9 {n : Nat} (h : n ≤ 9001) : n ≤ PySem.sizeLine := Nat.le_trans h (by show 9001 ≤ PySem.sizeLine; decide)
/-- ones_of(address, ahead, turn) -/
def spOnes : Sp := fun vs H Q _ => ∃ (a na nt : Nat), vs = [.int (a : Int), .int (na : Int), .int (nt : Int)] ∧ a.log2 < 9000 ∧ na ≤ 300 ∧ nt ≤ 300 ∧ ∀ q H', Same H H' → H' q = some (.lst ((onesL a na nt).map V.int)) → Q (.ref q) H'
/-- rule(address) -/
def spCall (CN C : Addr) (K : PySem.W.Frag) : Sp := fun vs H Q E => ∃ (p : Addr) (x : V) (S : String) (ns as ts : List Int), vs = [.ref p, x] ∧ RuleAt C H p (ns.map V.int) as ts ∧ Mods ns ∧ ts ≠ [] ∧ as.length + ts.length ≤ 24 ∧ Plain K H x S ∧
  (numV x = false → badNum CN H x E) ∧ (∀ a : Nat, x = .int (a : Int) → a.log2 < 9000 ∧ ∀ H', Same H H' → Q (.int (bankW ns (wAt as ts) a)) H')
theorem num_int {x : V} (h : numV x = true) : ∃ a : Nat, x = .int (a : Int) := by
  cases x with
  | int i =>
    have h0 : 0 ≤ i := of_decide_eq_true h
    exact ⟨i.toNat, by rw [Int.toNat_of_nonneg h0]⟩
  | _ => cases h
section
variable {P : Program} {w : World} {K : PySem.W.Frag} {mg : Str → Option Value} {base : Heap} {CR CN CT uR uN uT : Addr} {fdR fdN fdT : FuncData} {C pc pb gc gb : Addr}
abbrev N_ones_of : List Str := ["address", "ahead", "turn", "digits", "many", "place"]
theorem sc_ones_of : FnScope N_ones_of ["address", "ahead", "turn"] (defScope s_ones_of) := ⟨rfl, rfl, rfl, by decide +kernel, rfl, by decide +kernel, by decide +kernel⟩
theorem ok_ones_of {f : Addr} {fd : FuncData} (F : Fun K "ones_of" "ones_of" s_ones_of f fd) (T : TR mg) : FnOk P w K mg base CX0 1 f fd ["address", "ahead", "turn"] spOnes := by
  refine F.ok sc_ones_of (fun vs H Q E h => ?_) (fun cdv A outer s H vs Q E hr h => ?_)
  · obtain ⟨a, na, nt, rfl, _⟩ := h
    rfl
  · obtain ⟨a, na, nt, rfl, ha, h1, h2, k⟩ := h
    have lz := Nat.le_trans (bin_len a) (show a.log2 + 1 ≤ 9001 by omega)
    have hz := rev_ok a
    have lz2 : (cutX (Fb.binT a) none none (-1)).length ≤ 9001 := Nat.le_trans (cutX_len _ _ _ _ (by decide)) lz
    have e49 : ("1" : Str) = ⟨#[49]⟩ := by decide
    refine ⟨_, (pss_cons (ps_set (i := 3) sc_ones_of.nd rfl (Or.inr rfl) (pe_slX (pe_fs1 (pe_fmtB (pv 0))) po_none po_none (po_some (pe_un un_neg pe_int))))
 (pss_cons (ps_setLc (i := 4) (own := [("place", 5)]) (g := (gName 5)) (tt := tYes) rfl sc_ones_of.nd rfl rfl (sw_true rfl rfl rfl (by decide +kernel)) (pi_range1 rfl T.m_range (pa_cons (pv 1) pa_nil)) (blkOk_by (N := N_ones_of) (sc := defScope s_ones_of) (by decide +kernel)) (fun _ _ _ _ _ => (pg_name (i := 5) sc_ones_of.nd rfl (Or.inl rfl))) (fun _ _ _ _ _ => pts_nil) (fun _ _ _ _ _ => (pe_m1 PySem.F.slot_str_count PySem.F.type_str_count mt_count (pe_slice sl_str (pv 3) (po_some (pv 5)) (po_some (pe_op op_add (pv 5) pe_int))) pe_str)))
 (pss_cons (ps_for PassesOwn.never rfl (pi_range1 rfl T.m_range (pa_cons (pv 2) pa_nil)) (pg_name (i := 5) sc_ones_of.nd rfl (Or.inl rfl))
 (pss_one (ps_expr (pe_bm PySem.F.plainAttrs_list PySem.F.slot_list_append PySem.F.type_list_append mt_append (pv 4) (pa_cons (pe_m1 PySem.F.slot_str_count PySem.F.type_str_count mt_count (pe_slX (pv 3) (po_some (pe_op op_add (pv 1) (pv 5))) po_none (po_some (pv 2))) pe_str) pa_nil)))))
 (pss_one (ps_ret (pv 4)))))), ?_⟩
    refine ⟨_, rfl, a, rfl, line9 lz, 1, rfl, _, rfl, _, _, rfl, rfl, by decide, line9 lz, (fun z _ => absurd z (by decide)), ?_⟩
    generalize cutX (Fb.binT a) none none (-1) = z at hz lz2 ⊢
    refine ⟨_, rfl, _, rfl, by omega, by omega, fun D hD => ?_⟩
    refine lc_it walk_range (fun i G => G = upd H D (.lst (((List.range i).map (bt a)).map V.int))) rfl (fun _ _ _ _ => trivial) ?_ ?_
    · rintro i v G G' hi rfl ⟨rfl, rfl⟩
      have hi2 : i < na := by omega
      refine ⟨rfl, _, rfl, _, rfl, _, rfl, _, rfl, _, _, rfl, rfl, _, rfl, z, rfl, line9 lz2, ⟨_, rfl⟩, _, _, rfl, rfl, _, upd_same, row_len hi2 (by omega), ?_⟩
      rw [upd_upd, e49, show (0 : Int) + (i : Int) = (i : Int) by omega, cut_one hz, List.range_succ, List.map_append, List.map_append]
      rfl
    · rintro G rfl
      rw [show (na : Int).toNat = na from Int.toNat_natCast na]
      refine ⟨_, rfl, _, rfl, by omega, by omega, ?_⟩
      refine for_it walk_range (fun i σ G => ∃ u, σ = [some (.int (a : Int)), some (.int (na : Int)), some (.int (nt : Int)), some (.str z), some (.ref D), u] ∧ G = upd H D (.lst (((List.range na).map (bt a) ++ (List.range i).map fun p => sumN (fun j => bt a (na + p + nt * j)) (a.log2 + 1)).map V.int))) ⟨none, rfl, ?_⟩ (fun _ _ _ _ _ => trivial) ?_ ?_
      · rw [List.range_zero, List.map_nil, List.append_nil]
      · rintro i v σ G G' hi ⟨u, rfl, rfl⟩ ⟨rfl, rfl⟩
        have hi2 : i < nt := by omega
        have n0 : 0 < nt := by omega
        have ei : (na : Int) + ((0 : Int) + (i : Int)) = ((na + i : Nat) : Int) := by omega
        refine ⟨_, rfl, .inl ⟨rfl, _, SqL.of upd_same⟩, _, rfl, _, rfl, _, rfl, _, _, rfl, rfl, _, rfl, _, rfl, _, rfl, z, _, rfl, rfl, by omega, line9 lz2, (fun e1 e2 => ?_), ⟨_, rfl⟩, _, _, rfl, rfl, D, _, _, rfl, rfl, upd_same, small1000 (by rw [List.length_map, List.length_append, List.length_map, List.length_map, List.length_range, List.length_range]; omega), ?_⟩
        · rw [ei, e1] at e2 ⊢
          exact cutX_whole e2
        · refine ⟨_, rfl, ?_⟩
          have c1 : Txt.count (cutX z (some ((na : Int) + (0 + (i : Int)))) none (nt : Int)) "1" = sumN (fun j => bt a (na + i + nt * j)) (a.log2 + 1) := by
            rw [e49, ei, count_ones]
            show ones (((Builtin.Str.strSliceIndices (some ((na + i : Nat) : Int)) none (nt : Int) z.length).filterMap (z.cps[·]?)).toArray).toList = _
            rw [List.toList_toArray]
            refine cut_row hz n0 (Nat.lt_of_lt_of_le Nat.lt_log2_self (Nat.pow_le_pow_right (by decide) ?_))
            have := Nat.mul_le_mul_right (a.log2 + 1) n0
            omega
          rw [upd_upd, c1, onesL_snoc, List.map_append (l₂ := [_])]
          rfl
      · rintro σ G ⟨u, rfl, rfl⟩
        rw [show (nt : Int).toNat = nt from Int.toNat_natCast nt]
        exact ⟨_, rfl, k D _ (Same.lay hD) upd_same⟩
theorem sc_Rule_call : FnScope ["self", "address"] ["self", "address"] (defScope s_Rule_call) := ⟨rfl, rfl, rfl, by decide +kernel, rfl, by decide +kernel, by decide +kernel⟩
theorem ok_Rule_call {f fI fN fBs fOn : Addr} {fd fdI fdNu fdBs fdOn : FuncData} (F : Fun K "__call__" "Rule.__call__" s_Rule_call f fd) (T : TR mg) (TE : TErr K mg CR CN CT uR uN uT fdR fdN fdT) (TU : TRule K mg C pc pb gc gb)
    (FI : Fun K "is_integer" "is_integer" s_is_integer fI fdI) (gI : mg "is_integer" = some (.ref fI)) (bI : Binds K fdI ["value"] [])
    (FN : Fun K "is_number" "is_number" s_is_number fN fdNu) (gN : mg "is_number" = some (.ref fN)) (bN : Binds K fdNu ["value"] [])
    (GBs : FnOk P w K mg base CX0 2 fBs fdBs ["moduli", "banks", "times"] spBankSum) (gBs : mg "bank_sum" = some (.ref fBs)) (kBs : PySem.W.keepIn K (.ref fBs) = true) (bBs : Binds K fdBs ["moduli", "banks", "times"] [])
    (GOn : FnOk P w K mg base CX0 1 fOn fdOn ["address", "ahead", "turn"] spOnes) (gOn : mg "ones_of" = some (.ref fOn)) (kOn : PySem.W.keepIn K (.ref fOn) = true) (bOn : Binds K fdOn ["address", "ahead", "turn"] []) :
    FnOk P w K mg base (L2.CX P w) 3 f fd ["self", "address"] (spCall CN C K) := by
  have GN : FnOk P w K mg base CX0 2 fN fdNu ["value"] (spNumber K) := ok_is_number FN T FI gI bI
  have kN := FN.kp
  refine F.okX sc_Rule_call (fun vs H Q E h => ?_) (fun cdv A outer s H vs Q E hr h => ?_)
  · obtain ⟨p, x, S, ns, as, ts, rfl, _⟩ := h
    rfl
  · obtain ⟨p, x, S, ns, as, ts, rfl, hR, hM, tne, hl, hx, kE, kQ⟩ := h
    have hrE : Room 2 _ := hr
    have hrS : Room 2 _ := hr
    have hrOn : Room 1 _ := hr.mono (by decide)
    obtain ⟨dx, pm, pa, pt, h1, h2, h3, h4⟩ := id hR
    refine ⟨_, (pss_cons (ps_if (pt_not (pt_val (pe_call GN hrE rfl gN kN bN .nil pass0 (pa_cons (pv 1) pa_nil)))) (pss_one (ps_raise rfl (takes_of rfl rfl rfl rfl) (pmk_x TE.iBadNumber (ok_BadNumber TE) hrE TE.bBadNumber (by decide) rfl TE.gBadNumber (mono_var mono_nil) (pa_cons (pv 1) pa_nil)))) pss_nil)
 (pss_one (ps_ret (pe_call GBs hrS rfl gBs kBs bBs .nil pass0 (pa_cons (pe_fld (pv 0) rfl) (pa_cons (pe_op op_catP (pe_fld (pv 0) rfl) (pe_fld (pv 0) rfl)) (pa_cons (pe_call GOn hrOn rfl gOn kOn bOn .nil pass0 (pa_cons (pv 1) (pa_cons (pe_callB call_len_seq (by rfl) T.m_len (by decide +kernel) (pa_cons (pe_fld (pv 0) rfl) pa_nil)) (pa_cons (pe_callB call_len_seq (by rfl) T.m_len (by decide +kernel) (pa_cons (pe_fld (pv 0) rfl) pa_nil)) pa_nil)))) pa_nil))))))), ?_⟩
    refine ⟨_, rfl, x, S, rfl, hx, _, rfl, ?_⟩
    cases hn : numV x with
    | false => exact iteT ⟨_, rfl, rfl, fun d H' hd s2 e => kE hn d H' hd s2 e⟩
    | true =>
      obtain ⟨a, rfl⟩ := num_int hn
      obtain ⟨al, kq⟩ := kQ a rfl
      have la : (as.map V.int).length = as.length := List.length_map ..
      have lt : (ts.map V.int).length = ts.length := List.length_map ..
      refine iteF ?_
      refine ⟨_, rfl, p, C, dx, _, _, rfl, h1, TU.cl, TU.nM, flds_m _ _ _, _, rfl, p, C, dx, _, _, rfl, h1, TU.cl, TU.nA, flds_a _ _ _, _, rfl, p, C, dx, _, _, rfl, h1, TU.cl, TU.nT, flds_t _ _ _, pa, pt, _, _, rfl, rfl, h3, h4, by rw [la, lt]; omega, fun q G s1 hq => ?_⟩
      refine ⟨_, rfl, _, rfl, p, C, dx, _, _, rfl, s1 _ _ h1, TU.cl, TU.nA, flds_a _ _ _, pa, _, rfl, .inr (SqT.of (s1 _ _ h3)), _, rfl, p, C, dx, _, _, rfl, s1 _ _ h1, TU.cl, TU.nT, flds_t _ _ _, pt, _, rfl, .inr (SqT.of (s1 _ _ h4)), a, as.length, ts.length, (by rw [la, lt]; rfl), al, by omega, by omega, fun q2 H2 s2 e2 => ?_⟩
      rw [← List.map_append] at hq
      exact ⟨pm, q, q2, ns, as ++ ts, onesL a as.length ts.length, rfl, s2 _ _ (s1 _ _ h2), s2 _ _ hq, .inl e2, hM, by rw [onesL_len, List.length_append], by rw [List.length_append]; omega, fun H3 s3 => by
        rw [bank_ones hM tne]
        exact kq H3 fun _ _ z => s3 _ _ (s2 _ _ (s1 _ _ z))⟩
end
end Toy
set_option maxRecDepth 100000
namespace Toy
open PySem L2
abbrev s__law_plain : Stmt := top 39
/-- tuples of moduli laid one after another -/
def Grown (H0 H : Hp) (xs : List V) : Prop := Same H0 H ∧ ∀ v ∈ xs, ∃ t ms, v = .ref t ∧ H t = some (.tup ms) ∧ okMod (some ms) = true
theorem Grown.grow {H0 H : Hp} {xs ms : List V} {t : Addr} (A : Grown H0 H xs) (ht : H t = none) (ok : okMod (some ms) = true) : Grown H0 (upd H t (.tup ms)) (xs ++ [.ref t]) := by
  have s := Same.lay (o := .tup ms) ht
  refine ⟨fun _ _ z => s _ _ (A.1 _ _ z), fun v hv => ?_⟩
  rcases List.mem_append.mp hv with h | h
  · obtain ⟨t', ms', e1, e2, e3⟩ := A.2 v h
    exact ⟨t', ms', e1, s _ _ e2, e3⟩
  · rw [List.mem_singleton.mp h]
    exact ⟨t, ms, rfl, upd_same, ok⟩
theorem okMod_all {ms : List V} (h : okMod (some ms) = true) : ms.all (withinV 2 32) = true ∧ prodV ms ≤ 32 := by
  have z : (decide (1 ≤ ms.length ∧ ms.length ≤ 5) && (ms.all (withinV 2 32) && decide (prodV ms ≤ 32))) = true := h
  have y := Bool.and_eq_true_iff.mp (Bool.and_eq_true_iff.mp z).2
  exact ⟨y.1, of_decide_eq_true y.2⟩
theorem prod_pos : ∀ {ms : List V}, ms.all (withinV 2 32) = true → ∀ p : Int, 0 < p → 0 < ms.foldl (fun p x => p * intOf x) p
  | [], _, p, hp => hp
  | x :: r, h, p, hp => by
    have h2 : (withinV 2 32 x && r.all (withinV 2 32)) = true := h
    obtain ⟨i, rfl, h3, _⟩ := within_int (Bool.and_eq_true_iff.mp h2).1
    exact prod_pos (Bool.and_eq_true_iff.mp h2).2 (p * i) (Int.mul_pos hp (by omega))
/-- a row, or it twice, of at most four -/
def Per4 (t : List Int) : Prop := ∃ u : List Int, u.length ≤ 4 ∧ (t = u ∨ t = u ++ u)
/-- drawn weights -/
def spPlain : Sp := fun vs H Q _ => ∃ (p l : Addr) (ns : List Int) (a b : Int), vs = [.ref p] ∧ PenAt H p l ns a b ∧ a ≤ 999000 ∧
  ∀ (H' : Hp) (q pm pa pt : Addr) (ms : List V) (as ts : List Int) (a' b' : Int), But p H H' → PenAt H' p l ns a' b' → a' ≤ a + 20 → H' q = some (.tup [.ref pm, .ref pa, .ref pt]) → H' pm = some (.tup ms) → H' pa = some (.tup (as.map V.int)) → H' pt = some (.tup (ts.map V.int)) →
    okMod (some ms) = true → (∀ z ∈ as, 0 ≤ z ∧ z ≤ prodV ms - 1) → (∀ z ∈ ts, 0 ≤ z ∧ z ≤ prodV ms - 1) → as.length ≤ 5 → ts ≠ [] → ts.length ≤ 8 → Per4 ts → Q (.ref q) H'
theorem pen_lay {H : Hp} {p l D : Addr} {ns : List Int} {a b : Int} {o : HO} (P : PenAt H p l ns a b) (h1 : D ≠ p) (h2 : D ≠ l) : PenAt (upd H D o) p l ns a b :=
  ⟨by rw [upd_ne h1.symm]; exact P.pen, by rw [upd_ne h2.symm]; exact P.cells, P.few, P.bits, P.low⟩
theorem pen_same {H H' : Hp} {p l : Addr} {ns : List Int} {a b : Int} (s : Same H H') (P : PenAt H p l ns a b) : PenAt H' p l ns a b := ⟨s _ _ P.pen, s _ _ P.cells, P.few, P.bits, P.low⟩
theorem pen_ne {H : Hp} {p l t : Addr} {ns : List Int} {a b : Int} {ms : List V} (P : PenAt H p l ns a b) (h : H t = some (.tup ms)) : t ≠ p := fun z => by
  have e := P.pen
  rw [← z, h] at e
  cases e
/-- the drawing of a row of weights: what is known at its turn i -/
structure RowOf (H0 : Hp) (p l D : Addr) (ns : List Int) (a1 n : Int) (i : Nat) (G : Hp) (ds : List Int) : Prop where
  but : ∀ c o, c ≠ p → H0 c = some o → G c = some o
  pen : ∃ a' b', PenAt G p l ns a' b' ∧ a' ≤ a1 + i
  row : G D = some (.lst (ds.map V.int))
  len : ds.length = i
  rng : ∀ z ∈ ds, 0 ≤ z ∧ z ≤ n - 1
theorem row_start {H0 : Hp} {p l D : Addr} {ns : List Int} {a1 b1 n : Int} (P : PenAt H0 p l ns a1 b1) (hD : H0 D = none) : RowOf H0 p l D ns a1 n 0 (upd H0 D (.lst [])) [] :=
  ⟨fun c o _ e => Same.lay hD c o e, ⟨a1, b1, pen_same (Same.lay hD) P, by omega⟩, upd_same, rfl, fun _ z => nomatch z⟩
theorem row_turn {H0 G G' : Hp} {p l D : Addr} {ns ds : List Int} {a1 n d a' b' a2 b2 : Int} {i : Nat} (R : RowOf H0 p l D ns a1 n i G ds) (hD : H0 D = none) (P0 : PenAt H0 p l ns a2 b2) (bt : But p G G') (P : PenAt G' p l ns a' b') (ha : a' ≤ a1 + i + 1) (d0 : 0 ≤ d) (d1 : d < n) :
    G' D = some (.lst (ds.map V.int)) ∧ RowOf H0 p l D ns a1 n (i + 1) (upd G' D (.lst (ds.map V.int ++ [.int d]))) (ds ++ [d]) := by
  have np : D ≠ p := (ne_of_none P0.pen hD).symm
  have nl : D ≠ l := (ne_of_none P0.cells hD).symm
  refine ⟨bt _ _ np R.row, ⟨fun c o nc e => ?_, ⟨a', b', pen_lay P np nl, by omega⟩, ?_, ?_, fun z hz => ?_⟩⟩
  · rw [upd_ne (ne_of_none e hD)]
    exact bt _ _ nc (R.but c o nc e)
  · rw [upd_same, List.map_append]
    rfl
  · rw [List.length_append, R.len]
    rfl
  · rcases List.mem_append.mp hz with h | h
    · exact R.rng z h
    · rw [List.mem_singleton.mp h]
      exact ⟨d0, by omega⟩
theorem log_ok {n : Int} (h0 : 0 < n) (h : n ≤ 32) : n.natAbs.log2 < 9000 := Nat.lt_of_le_of_lt (Nat.log2_le_self _) (by omega)
section
variable {P : Program} {w : World} {K : PySem.W.Frag} {mg : Str → Option Value} {base : Heap}
abbrev N__law_plain : List Str := ["_law_pen_here", "_law_some", "_law_moduli_here", "_law_banks", "_law_modulus", "_law_ahead", "_law_place", "_law_turn"]
theorem sc__law_plain : FnScope N__law_plain ["_law_pen_here"] (defScope s__law_plain) := ⟨rfl, rfl, rfl, by decide +kernel, rfl, by decide +kernel, by decide +kernel⟩
theorem ok__law_plain {f fD fP : Addr} {fd fdD fdP : FuncData} (F : Fun K "_law_plain" "_law_plain" s__law_plain f fd) (T : TR mg) (TP : TB mg) (FD : Fun K "_law_draw" "_law_draw" s__law_draw fD fdD) (gD : mg "_law_draw" = some (.ref fD)) (bD : Binds K fdD ["_law_pen_here", "_law_many"] [])
    (FP : Fun K "_law_pick" "_law_pick" s__law_pick fP fdP) (gPk : mg "_law_pick" = some (.ref fP)) (bPk : Binds K fdP ["_law_pen_here", "_law_some"] []) : FnOk P w K mg base CX0 3 f fd ["_law_pen_here"] spPlain := by
  have GD : FnOk P w K mg base CX0 1 fD fdD ["_law_pen_here", "_law_many"] spDraw := ok__law_draw FD TP
  have GPk : FnOk P w K mg base CX0 2 fP fdP ["_law_pen_here", "_law_some"] (spPick K) := ok__law_pick FP TP FD gD bD
  have kD := FD.kp
  have kPk := FP.kp
  refine F.ok sc__law_plain (fun vs H Q E h => ?_) (fun cdv A outer s H vs Q E hrD h => ?_)
  · obtain ⟨p, l, ns, a, b, rfl, _⟩ := h
    rfl
  · obtain ⟨p, l, ns, a, b, rfl, hP, ha, k⟩ := h
    have hrD1 : Room 1 _ := hrD.mono (by decide)
    have hrD2 : Room 2 _ := hrD
    refine ⟨_, (pss_cons (ps_set (i := 1) sc__law_plain.nd rfl (Or.inl rfl) (pe_lst (pa_cons (pe_tup (pa_cons pe_int pa_nil)) (pa_cons (pe_tup (pa_cons pe_int pa_nil)) (pa_cons (pe_tup (pa_cons pe_int pa_nil)) (pa_cons (pe_tup (pa_cons pe_int (pa_cons pe_int pa_nil))) (pa_cons (pe_tup (pa_cons pe_int pa_nil)) (pa_cons (pe_tup (pa_cons pe_int (pa_cons pe_int pa_nil))) (pa_cons (pe_tup (pa_cons pe_int pa_nil)) (pa_cons (pe_tup (pa_cons pe_int (pa_cons pe_int (pa_cons pe_int pa_nil)))) (pa_cons (pe_tup (pa_cons pe_int (pa_cons pe_int (pa_cons pe_int pa_nil)))) (pa_cons (pe_tup (pa_cons pe_int pa_nil)) (pa_cons (pe_tup (pa_cons pe_int (pa_cons pe_int (pa_cons pe_int (pa_cons pe_int (pa_cons pe_int pa_nil)))))) (pa_cons (pe_tup (pa_cons pe_int (pa_cons pe_int pa_nil))) pa_nil))))))))))))))
 (pss_cons (ps_asg (pe_tup (pa_cons (pe_call GPk hrD2 rfl gPk kPk bPk .nil pass0 (pa_cons (pv 0) (pa_cons (pv 1) pa_nil))) (pa_cons pe_int pa_nil))) (pg_tup rfl (pgs_cons (pg_name (i := 2) sc__law_plain.nd rfl (Or.inl rfl)) (pgs_cons (pg_name (i := 3) sc__law_plain.nd rfl (Or.inr rfl)) pgs_nil))))
 (pss_cons (ps_for PassesOwn.never rfl (pi_tup (pv 2)) (pg_name (i := 4) sc__law_plain.nd rfl (Or.inl rfl))
 (pss_one (ps_set (i := 3) sc__law_plain.nd rfl (Or.inr rfl) (pe_op op_mul (pv 3) (pv 4)))))
 (pss_cons (ps_setLc (i := 5) (own := [("_law_place", 6)]) (g := (gName 6)) (tt := tYes) rfl sc__law_plain.nd rfl rfl (sw_true rfl rfl rfl (by decide +kernel)) (pi_range1 rfl T.m_range (pa_cons (pe_call GD hrD1 rfl gD kD bD .nil pass0 (pa_cons (pv 0) (pa_cons pe_int pa_nil))) pa_nil)) (blkOk_by (N := N__law_plain) (sc := defScope s__law_plain) (by decide +kernel)) (fun _ _ _ _ _ => (pg_name (i := 6) sc__law_plain.nd rfl (Or.inl rfl))) (fun _ _ _ _ _ => pts_nil) (fun _ _ _ _ _ => (pe_call GD hrD1 rfl gD kD bD .nil pass0 (pa_cons (pv 0) (pa_cons (pv 3) pa_nil)))))
 (pss_cons (ps_setLc (i := 7) (own := [("_law_place", 6)]) (g := (gName 6)) (tt := tYes) rfl sc__law_plain.nd rfl rfl (sw_true rfl rfl rfl (by decide +kernel)) (pi_range1 rfl T.m_range (pa_cons (pe_op op_add pe_int (pe_call GD hrD1 rfl gD kD bD .nil pass0 (pa_cons (pv 0) (pa_cons pe_int pa_nil)))) pa_nil)) (blkOk_by (N := N__law_plain) (sc := defScope s__law_plain) (by decide +kernel)) (fun _ _ _ _ _ => (pg_name (i := 6) sc__law_plain.nd rfl (Or.inl rfl))) (fun _ _ _ _ _ => pts_nil) (fun _ _ _ _ _ => (pe_call GD hrD1 rfl gD kD bD .nil pass0 (pa_cons (pv 0) (pa_cons (pv 3) pa_nil)))))
 (C8.pss_cut (ps_if (pt_cmpR op_eq (pe_call GD hrD1 rfl gD kD bD .nil pass0 (pa_cons (pv 0) (pa_cons pe_int pa_nil))) pe_int (nomark _)) (pss_one (ps_set (i := 7) sc__law_plain.nd rfl (Or.inl rfl) (pe_op op_rep (pv 7) pe_int))) pss_nil)
 (C8.pss_cut (ps_if (pt_cmpR op_eq (pe_call GD hrD1 rfl gD kD bD .nil pass0 (pa_cons (pv 0) (pa_cons pe_int pa_nil))) pe_int (nomark _)) (pss_one (ps_set (i := 5) sc__law_plain.nd rfl (Or.inl rfl) (pe_op op_cat (pv 5) (pe_lst (pa_cons (pe_ix ix_list (pv 7) (pe_un un_neg pe_int) (fun _ _ => rfl)) pa_nil))))) pss_nil)
 (pss_one (ps_ret (pe_tup (pa_cons (pv 2) (pa_cons (pe_callTy call_tupP (by rfl) T.m_tuple (by decide +kernel) (pa_cons (pv 5) pa_nil)) (pa_cons (pe_callTy call_tupP (by rfl) T.m_tuple (by decide +kernel) (pa_cons (pv 7) pa_nil)) pa_nil))))))))))))), ?_⟩
    have a0 : Grown H H [] := ⟨Same.refl H, fun _ z => nomatch z⟩
    refine ⟨(by show 1 ≤ PySem.sizeLine; decide), fun t0 g0 => ?_⟩
    have a1 := a0.grow g0 (ms := [V.int 2]) (by decide +kernel)
    refine ⟨(by show 1 ≤ PySem.sizeLine; decide), fun t1 g1 => ?_⟩
    have a2 := a1.grow g1 (ms := [V.int 3]) (by decide +kernel)
    refine ⟨(by show 1 ≤ PySem.sizeLine; decide), fun t2 g2 => ?_⟩
    have a3 := a2.grow g2 (ms := [V.int 4]) (by decide +kernel)
    refine ⟨(by show 2 ≤ PySem.sizeLine; decide), fun t3 g3 => ?_⟩
    have a4 := a3.grow g3 (ms := [V.int 2, V.int 2]) (by decide +kernel)
    refine ⟨(by show 1 ≤ PySem.sizeLine; decide), fun t4 g4 => ?_⟩
    have a5 := a4.grow g4 (ms := [V.int 5]) (by decide +kernel)
    refine ⟨(by show 2 ≤ PySem.sizeLine; decide), fun t5 g5 => ?_⟩
    have a6 := a5.grow g5 (ms := [V.int 2, V.int 3]) (by decide +kernel)
    refine ⟨(by show 1 ≤ PySem.sizeLine; decide), fun t6 g6 => ?_⟩
    have a7 := a6.grow g6 (ms := [V.int 8]) (by decide +kernel)
    refine ⟨(by show 3 ≤ PySem.sizeLine; decide), fun t7 g7 => ?_⟩
    have a8 := a7.grow g7 (ms := [V.int 2, V.int 2, V.int 2]) (by decide +kernel)
    refine ⟨(by show 3 ≤ PySem.sizeLine; decide), fun t8 g8 => ?_⟩
    have a9 := a8.grow g8 (ms := [V.int 3, V.int 2, V.int 2]) (by decide +kernel)
    refine ⟨(by show 1 ≤ PySem.sizeLine; decide), fun t9 g9 => ?_⟩
    have a10 := a9.grow g9 (ms := [V.int 32]) (by decide +kernel)
    refine ⟨(by show 5 ≤ PySem.sizeLine; decide), fun t10 g10 => ?_⟩
    have a11 := a10.grow g10 (ms := [V.int 2, V.int 2, V.int 2, V.int 2, V.int 2]) (by decide +kernel)
    refine ⟨(by show 2 ≤ PySem.sizeLine; decide), fun t11 g11 => ?_⟩
    have a12 := a11.grow g11 (ms := [V.int 4, V.int 2]) (by decide +kernel)
    refine ⟨(by show 12 ≤ PySem.sizeLine; decide), fun L gL => ?_⟩
    have sL := Same.lay (o := .lst ([] ++ [V.ref t0] ++ [V.ref t1] ++ [V.ref t2] ++ [V.ref t3] ++ [V.ref t4] ++ [V.ref t5] ++ [V.ref t6] ++ [V.ref t7] ++ [V.ref t8] ++ [V.ref t9] ++ [V.ref t10] ++ [V.ref t11])) gL
    have s1 : Same H _ := fun _ _ z => sL _ _ (a12.1 _ _ z)
    have P1 := pen_same s1 hP
    refine ⟨_, rfl, _, rfl, p, l, L, ns, a, b, _, rfl, P1, by omega, SqL.of upd_same, (ne_of_none (a12.1 _ _ hP.pen) gL).symm, (by show 0 < 12; decide), (by show 12 ≤ 1000; decide), fun H2 i v a2 b2 hv h1 h2 bt P2 => ?_⟩
    obtain ⟨tm, ms, rfl, em, okm⟩ := a12.2 v (List.mem_of_getElem? hv)
    obtain ⟨wm, pm32⟩ := okMod_all okm
    have em2 : H2 tm = some (.tup ms) := bt _ _ (pen_ne P1 (sL _ _ em)) (sL _ _ em)
    have b2' : But p H H2 := (But.of s1).trans bt
    refine ⟨(by show 2 ≤ PySem.sizeLine; decide), fun q hq => ⟨q, _, rfl, SqT.of upd_same, rfl, _, _, rfl, _, _, rfl, rfl, ?_⟩⟩
    have s3 : Same H2 (upd H2 q (.tup [V.ref tm, V.int 1])) := Same.lay hq
    have P3 := pen_same s3 P2
    have em3 := s3 _ _ em2
    have b3 : But p H (upd H2 q (.tup [V.ref tm, V.int 1])) := b2'.trans (But.of s3)
    generalize upd H2 q (.tup [V.ref tm, V.int 1]) = H3 at s3 P3 em3 b3 ⊢
    have hb0 : 0 < prodV ms := prod_pos wm 1 (by decide)
    refine ⟨_, rfl, tm, rfl, ⟨ms, SqT.of em3⟩, for_it (walk_tup (xs := ms)) (fun i σ G => G = H3 ∧ ∃ u, σ = [some (.ref p), some (.ref L), some (.ref tm), some (.int (prodV (ms.take i))), u, none, none, none]) ⟨rfl, none, rfl⟩ (fun i σ G _ z => by rw [z.1]; exact SqT.of em3) ?_ ?_⟩
    · rintro i x σ G G' hi ⟨rfl, u, rfl⟩ ⟨rfl, hx⟩
      obtain ⟨n, rfl, g1, g2⟩ := within_int (List.all_eq_true.mp wm x (List.mem_of_getElem? hx))
      have e : prodV (ms.take (i + 1)) = prodV (ms.take i) * n := by
        rw [List.take_add_one, hx]
        simp [prodV, intOf]
      refine ⟨_, rfl, _, rfl, _, _, rfl, rfl, .inr ⟨by omega, by omega⟩, rfl, some (.int n), ?_⟩
      rw [e]
      rfl
    · rintro σ G ⟨rfl, u, rfl⟩
      rw [List.take_length]
      refine ⟨_, rfl, p, l, ns, a2, b2, 5, rfl, P3, by omega, by decide, by decide, fun H4 d a4 b4 d0 d5 h41 h42 bt4 P4 => ⟨d, rfl, by omega, by omega, fun D hD => ?_⟩⟩
      refine lc_it walk_range (fun i G => ∃ ds, RowOf H4 p l D ns a4 (prodV ms) i G ds) ⟨[], row_start P4 hD⟩ (fun _ _ _ _ => trivial) ?_ ?_
      · rintro i x G G' hi ⟨ds, R⟩ ⟨rfl, rfl⟩
        have hi2 : i < 5 := by omega
        obtain ⟨a', b', PG, ag⟩ := R.pen
        refine ⟨rfl, _, rfl, _, rfl, p, l, ns, a', b', prodV ms, rfl, PG, by omega, hb0, log_ok hb0 pm32, fun H' z a5 b5 z0 z1 h51 h52 bt5 P5 => ?_⟩
        obtain ⟨r1, r2⟩ := row_turn R hD P4 bt5 P5 (by omega) z0 z1
        refine ⟨_, r1, small1000 (by rw [List.length_map, R.len]; omega), _, r2⟩
      · rintro G5 ⟨ds, R⟩
        obtain ⟨a5, b5, P5, ag5⟩ := R.pen
        have em5 : G5 tm = some (.tup ms) := R.but _ _ (pen_ne P3 em3) (bt4 _ _ (pen_ne P3 em3) em3)
        have bt5 : But p H G5 := fun c o nc e => R.but c o nc (bt4 c o nc (b3 c o nc e))
        have np : D ≠ p := (ne_of_none P4.pen hD).symm
        have lds := R.len
        refine ⟨_, rfl, p, l, ns, a5, b5, 4, rfl, P5, by omega, by decide, by decide, fun H6 d2 a6 b6 d20 d24 h61 h62 bt6 P6 => ⟨_, _, rfl, rfl, ?_⟩⟩
        refine ⟨_, rfl, by omega, by omega, fun D2 hD2 => ?_⟩
        refine lc_it walk_range (fun i G => ∃ ds, RowOf H6 p l D2 ns a6 (prodV ms) i G ds) ⟨[], row_start P6 hD2⟩ (fun _ _ _ _ => trivial) ?_ ?_
        · rintro i x G G' hi ⟨ds', R'⟩ ⟨rfl, rfl⟩
          have hi2 : i < 5 := by omega
          obtain ⟨a', b', PG, ag⟩ := R'.pen
          refine ⟨rfl, _, rfl, _, rfl, p, l, ns, a', b', prodV ms, rfl, PG, by omega, hb0, log_ok hb0 pm32, fun H' z a7 b7 z0 z1 h71 h72 bt7 P7 => ?_⟩
          obtain ⟨r1, r2⟩ := row_turn R' hD2 P6 bt7 P7 (by omega) z0 z1
          refine ⟨_, r1, small1000 (by rw [List.length_map, R'.len]; omega), _, r2⟩
        · rintro G7 ⟨ts, R'⟩
          obtain ⟨a7, b7, P7, ag7⟩ := R'.pen
          have em7 : G7 tm = some (.tup ms) := R'.but _ _ (pen_ne P5 em5) (bt6 _ _ (pen_ne P5 em5) em5)
          have rD : G7 D = some (.lst (ds.map V.int)) := R'.but _ _ np (bt6 _ _ np R.row)
          have bt8 : But p H G7 := fun c o nc e => R'.but c o nc (bt6 c o nc (bt5 c o nc e))
          have lts := R'.len
          have np2 : D2 ≠ p := (ne_of_none P6.pen hD2).symm
          refine ⟨fun σ G => ∃ (td : Addr) (ts2 : List Int) (a' b' : Int), σ = [some (.ref p), some (.ref L), some (.ref tm), some (.int (prodV ms)), u, some (.ref D), none, some (.ref td)] ∧ But p H G ∧ PenAt G p l ns a' b' ∧ a' ≤ a + 16 ∧ G tm = some (.tup ms) ∧ G D = some (.lst (ds.map V.int)) ∧ G td = some (.lst (ts2.map V.int)) ∧ ts2 ≠ [] ∧ ts2.length ≤ 8 ∧ (∀ z ∈ ts2, 0 ≤ z ∧ z ≤ prodV ms - 1) ∧ Per4 ts2, ?_, ?_⟩
          · refine ⟨_, rfl, p, l, ns, a7, b7, 4, rfl, P7, by omega, by decide, by decide, fun H8 d3 a8 b8 d30 d34 h81 h82 bt9 P8 => ⟨rfl, _, rfl, ?_⟩⟩
            have em8 := bt9 _ _ (pen_ne P7 em7) em7
            have rD8 := bt9 _ _ np rD
            have rT8 := bt9 _ _ np2 R'.row
            have bt10 := bt8.trans bt9
            have tne : ts ≠ [] := fun z => by
              rw [z] at lts
              simp at lts
              omega
            refine ite2 (fun c => ?_) (fun c => ?_)
            · refine ⟨_, rfl, D2, 2, _, rfl, rfl, rT8, by decide, by decide, ?_, fun q2 hq2 => ?_⟩
              · rw [List.length_map]
                exact Nat.le_of_lt (small1000 (by show ts.length * 2 ≤ 1000; omega))
              · have s9 : Same H8 _ := Same.lay (o := .lst (List.replicate (2 : Int).toNat (ts.map V.int)).flatten) hq2
                refine ⟨q2, ts ++ ts, a8, b8, rfl, bt10.trans (But.of s9), pen_same s9 P8, by omega, s9 _ _ em8, s9 _ _ rD8, ?_, fun z => tne (List.append_eq_nil_iff.mp z).1, by rw [List.length_append]; omega, (fun z hz => (List.mem_append.mp hz).elim (R'.rng z) (R'.rng z)), ⟨ts, by omega, .inr rfl⟩⟩
                rw [upd_same]
                simp
            · exact ⟨D2, ts, a8, b8, rfl, bt10, P8, by omega, em8, rD8, rT8, tne, by omega, R'.rng, ⟨ts, by omega, .inl rfl⟩⟩
          · rintro σ G ⟨td, ts2, a', b', rfl, bt11, P9, ha9, em9, rD9, rT9, tne9, tl9, tr9, pr9⟩
            refine ⟨fun σ G => ∃ (ta td : Addr) (as2 ts3 : List Int) (a' b' : Int), σ = [some (.ref p), some (.ref L), some (.ref tm), some (.int (prodV ms)), u, some (.ref ta), none, some (.ref td)] ∧ But p H G ∧ PenAt G p l ns a' b' ∧ a' ≤ a + 17 ∧ G tm = some (.tup ms) ∧ G ta = some (.lst (as2.map V.int)) ∧ G td = some (.lst (ts3.map V.int)) ∧ ts3 ≠ [] ∧ ts3.length ≤ 8 ∧ as2.length ≤ 5 ∧ (∀ z ∈ as2, 0 ≤ z ∧ z ≤ prodV ms - 1) ∧ (∀ z ∈ ts3, 0 ≤ z ∧ z ≤ prodV ms - 1) ∧ Per4 ts3, ?_, ?_⟩
            · refine ⟨_, rfl, p, l, ns, a', b', 4, rfl, P9, by omega, by decide, by decide, fun H8 d3 a8 b8 d30 d34 h81 h82 bt9 P8 => ⟨rfl, _, rfl, ?_⟩⟩
              have nt9 : td ≠ p := fun z => by
                have e := P9.pen
                rw [← z, rT9] at e
                cases ts2 with
                | nil => exact tne9 rfl
                | cons y r => cases e
              have em8 := bt9 _ _ (pen_ne P9 em9) em9
              have rD8 := bt9 _ _ np rD9
              have rT8 := bt9 _ _ nt9 rT9
              have bt10 := bt11.trans bt9
              have lds5 : ds.length ≤ 4 := by omega
              refine ite2 (fun c => ?_) (fun c => ?_)
              · obtain ⟨y, hy⟩ := last_some tne9
                refine ⟨_, rfl, _, rfl, _, rfl, td, _, _, _, rfl, rfl, SqL.of rT8, getLast_at hy, (by show 1 ≤ PySem.sizeLine; decide), fun q3 hq3 => ?_⟩
                have s9 := Same.lay (o := .lst [V.int y]) hq3
                refine ⟨D, q3, _, _, rfl, rfl, s9 _ _ rD8, upd_same, Nat.le_of_lt (small1000 (by simp; omega)), fun q4 hq4 => ?_⟩
                have s10 : Same H8 _ := fun _ _ z => Same.lay (o := .lst (ds.map V.int ++ [V.int y])) hq4 _ _ (s9 _ _ z)
                refine ⟨q4, td, ds ++ [y], ts2, a8, b8, rfl, bt10.trans (But.of s10), pen_same s10 P8, by omega, s10 _ _ em8, ?_, s10 _ _ rT8, tne9, tl9, by simp; omega, fun z hz => ?_, tr9, pr9⟩
                · rw [upd_same, List.map_append]
                  rfl
                · rcases List.mem_append.mp hz with h | h
                  · exact R.rng z h
                  · rw [List.mem_singleton.mp h]
                    exact tr9 y (List.mem_of_getLast? hy)
              · exact ⟨D, td, ds, ts2, a8, b8, rfl, bt10, P8, by omega, em8, rD8, rT8, tne9, tl9, by omega, R.rng, tr9, pr9⟩
            · rintro σ G ⟨ta, td', as2, ts3, a9, b9, rfl, bt12, P10, ha10, em10, rA10, rT10, tne10, tl10, al10, ar10, tr10, pr10⟩
              refine ⟨_, rfl, _, rfl, ta, _, rfl, .inl rA10, fun q5 H11 s11 e11 => ⟨_, rfl, td', _, rfl, .inl (s11 _ _ rT10), fun q6 H12 s12 e12 => ⟨(by show 3 ≤ PySem.sizeLine; decide), fun q7 hq7 => ?_⟩⟩⟩
              have s13 := Same.lay (o := .tup [V.ref tm, V.ref q5, V.ref q6]) hq7
              have s14 : Same G _ := fun _ _ z => s13 _ _ (s12 _ _ (s11 _ _ z))
              exact k _ q7 tm q5 q6 ms as2 ts3 a9 b9 (bt12.trans (But.of s14)) (pen_same s14 P10) (by omega) upd_same (s14 _ _ em10) (s13 _ _ (s12 _ _ e11)) (s13 _ _ e12) okm ar10 tr10 al10 tne10 tl10 pr10
end
end Toy
set_option maxRecDepth 100000
namespace L2
open PySem PySem.Spec PyProof.Rows
/-- a def whose code object is known, by its body -/
theorem fnG_of {P : Program} {w : World} {K : PySem.W.Frag} {mg : Str → Option Value} {base : Heap} {x qual : Str} {st : Stmt} {f : Addr} {N ps : List Str} {k : Nat} {sp : Sp} {oc kV doc pm cdv ct : Value} {od an : Option Addr} {osl : Array (Option Value)}
    (lk : K.lookup f = some ⟨oc, od, .func (PySem.W.fnOf x qual (defArgs st) (defBody st) (defScope st) .none kV doc pm an cdv ct), osl⟩) (hcd : PySem.W.codeIn K cdv qual = true) (S : FnScope N ps (defScope st)) (len : ∀ vs H Q E, sp vs H Q E → vs.length = ps.length)
    (body : ∀ (A : Around) (outer : List Env) (s : Shared) (H : Hp) (vs : List V) (Q : VK) (E : XK), A.guards = some [] →
      Room k (A.deeper (envOfC qual (defScope st) s.heap.objs.size f cdv)) → sp vs H Q E →
      ∃ t, PSs (cxOf CX0 P w K mg base N qual (defScope st) f cdv A outer s H E).nox (defBody st) t ∧
        t { nx := fun _ H' => Q .non H', rt := Q } (start N vs) H) :
    FnG P w K mg base CX0 (k + 1) f (PySem.W.fnOf x qual (defArgs st) (defBody st) (defScope st) .none kV doc pm an cdv ct) ps sp := by
  refine ⟨len, fun A outer s H args us vs Q E gd hr e0 bi r h => ?_⟩
  have hn := len _ _ _ _ h
  have up : ∀ b o, base.get? b = some o → s.heap.get? b = some o := fun b o e => (e0.bs b o e).1
  have kin := e0.mod.kin.keeps up
  refine codeAny_call_function hr.depth (kin _ _ lk) rfl S.co S.gen rfl (PySem.W.codeRec_of kin hcd) (bi _ _ _ _ (wpAny_newFunctionEnv_cells S.kind ?_ ?_))
  · intro y hy
    have hm : y.1 ∈ ps := by
      obtain ⟨n, v⟩ := y
      exact (List.of_mem_zip hy).1
    exact (S.par _ hm).elim Or.inl fun q => Or.inr ⟨q, PySem.W.cellsFrom_some _ _ _ (.inl q)⟩
  · rintro env rfl s1 x
    refine ⟨(e0.mod.nolimit.keeps up).keeps x.toInCall.keep, codeAny_func ?_⟩
    obtain ⟨t, ht, hq⟩ := body A outer s H vs Q E gd (hr.deeper _) h
    have I := inv_start (CX := CX0) (P := P) (w := w) (K := K) (mg := mg) (base := base) (E := E) S hr.hd e0 hn r x
    refine wpAny_mono (ht.nox.run [] s1 (start N vs) H _ I hq) (fun fl s' hs => ?_) fun _ _ hs => hs
    cases fl with
    | next =>
      obtain ⟨_, H', J, q⟩ := hs
      exact ⟨V.non, H', J.os, J.bare, J.base, J.hok, rfl, q⟩
    | ret u =>
      obtain ⟨v, _, H', J, rv, q⟩ := hs
      exact ⟨v, H', J.os, J.bare, J.base, J.hok, rv, q⟩
    | brk =>
      obtain ⟨_, _, _, q⟩ := hs
      exact q.elim
    | cont =>
      obtain ⟨_, _, _, q⟩ := hs
      exact q.elim
end L2
set_option maxRecDepth 100000
namespace L2
open PySem PySem.Spec PyProof.Rows
/-- plain data that a law shows: ints, texts, lists and tuples of ints, one small dict -/
inductive Dat0 (H : Hp) : V → PyData → Prop where
  | non : Dat0 H .non .none
  | bl (b : Bool) : Dat0 H (.bl b) (.bool b)
  | int (i : Int) : Dat0 H (.int i) (.int i)
  | str (z : Str) : Dat0 H (.str z) (.str z)
  | tup {a : Addr} {ns : List Int} (e : H a = some (.tup (ns.map V.int))) : Dat0 H (.ref a) (.tuple (ns.map .int))
  | lst {a : Addr} {ns : List Int} (e : H a = some (.lst (ns.map V.int))) (n : a ≠ sysModules) : Dat0 H (.ref a) (.list (ns.map .int))
  | dct {a : Addr} {z : Str} {i : Int} (e : H a = some (.dK [(.inr z, .int i)])) : Dat0 H (.ref a) (.dict [(.str z, .int i)])
/-- x reads as d, in every state over H, and the modules' own dict is no part of it -/
def RdS (X : Cx) (H : Hp) (x : V) (d : PyData) : Prop := ∀ (pins : List (Addr × Obj)) (σ : St) (s : Shared) (u : Value), Inv X pins σ H s → RelV x u → ∃ as, Reads s.heap u d as ∧ sysModules ∉ as
theorem RdS.v {X : Cx} {H : Hp} {x : V} {d : PyData} (h : RdS X H x d) : RdV X H x d := fun pins σ s u I r =>
  let ⟨as, q, m⟩ := h pins σ s u I r
  ⟨as, q, fun _ => m⟩
theorem reads_ints {h : Heap} : ∀ {ns : List Int} {us : List Value}, Vals (ns.map V.int) us → ReadsAll h us (ns.map PyData.int) []
  | [], _, r => by
    cases r
    exact .nil
  | z :: ns, _, r => by
    cases r with
    | cons a b =>
      obtain ⟨t, rfl⟩ := a
      exact ReadsAll.cons (as := []) (.int z t) (reads_ints b)
theorem Dat0.rd {X : Cx} {H : Hp} {v : V} {d : PyData} (h : Dat0 H v d) : RdS X H v d := by
  cases h with
  | non =>
    intro pins σ s u I r
    obtain rfl : u = Value.none := r
    exact ⟨_, .none, fun m => nomatch m⟩
  | bl b =>
    intro pins σ s u I r
    obtain rfl : u = Value.bool b := r
    exact ⟨_, .bool b, fun m => nomatch m⟩
  | int i =>
    intro pins σ s u I r
    obtain ⟨t, rfl⟩ : ∃ t, u = Value.int i t := r
    exact ⟨_, .int i t, fun m => nomatch m⟩
  | str z =>
    intro pins σ s u I r
    obtain ⟨t, rfl⟩ : ∃ t, u = Value.str z t := r
    exact ⟨_, .str z t, fun m => nomatch m⟩
  | @tup a ns e =>
    intro pins σ s u I r
    obtain rfl : u = Value.ref a := r
    obtain ⟨its, rv, ⟨o, ho, hc, n, hd⟩, _⟩ := I.tuple (SqT.of e)
    exact ⟨_, .tuple ho hc hd (reads_ints rv), fun m => nomatch m⟩
  | @lst a ns e n =>
    intro pins σ s u I r
    obtain rfl : u = Value.ref a := r
    obtain ⟨its, rv, ⟨o, n', ho, hc, _, hd⟩, _⟩ := I.list (SqL.of e)
    refine ⟨_, .list ho hc hd (reads_ints rv), fun m => ?_⟩
    exact n (by simpa using m : sysModules = a).symm
  | @dct a z i e =>
    intro pins σ s u I r
    obtain rfl : u = Value.ref a := r
    obtain ⟨_, sm, vs, kv, o, es, ep, ho, ex, hd, kk, pr, _⟩ := dk_of I.hok e
    cases kv with
    | @cons p q _ r2 e1 e2 =>
      cases e2
      obtain ⟨k1, w1⟩ := q
      obtain ⟨f1, f2⟩ := e1
      obtain ⟨t2, rfl⟩ : ∃ t, w1 = Value.int i t := f2
      obtain rfl : Sum.inr z = k1 := f1
      obtain ⟨d0, rest, er, k0, v0, pr2⟩ : ∃ d0 rest, es.toList = d0 :: rest ∧ keyIs (.inr z) d0.key = true ∧ d0.val = Value.int i t2 ∧ Pairs (mixKind X.prog X.w) rest [] := by
        generalize es.toList = l at pr
        cases pr with
        | cons a b c => exact ⟨_, _, rfl, a, b, c⟩
      cases pr2
      rcases keyIs_shape k0 with ⟨_, _, q, _⟩ | ⟨z', t, q, ek⟩
      · cases q
      · cases q
        have h1 : ReadsAll s.heap (es.toList.map (·.key)) [PyData.str z] ([] ++ []) := by
          rw [er]
          show ReadsAll s.heap [d0.key] _ _
          rw [ek]
          exact .cons (.str z t) .nil
        have h2 : ReadsAll s.heap (es.toList.map (·.val)) [PyData.int i] ([] ++ []) := by
          rw [er]
          show ReadsAll s.heap [d0.val] _ _
          rw [v0]
          exact .cons (.int i t2) .nil
        refine ⟨_, Reads.dict (kvs := [(PyData.str z, PyData.int i)]) ho ex.1 hd h1 h2, fun m => ?_⟩
        have e1 : sysModules = a := by simpa using m
        rw [← e1] at sm
        exact absurd sm (by decide)
/-- a list of such, at an address that is not the modules' own -/
theorem rd_list {X : Cx} {H : Hp} {q : Addr} {vs : List V} {ds : List PyData} (hq : H q = some (.lst vs)) (nq : q ≠ sysModules) (h : Paired (fun v d => RdS X H v d) vs ds) : RdS X H (.ref q) (.list ds) := by
  intro pins σ s u I r
  obtain rfl : u = Value.ref q := r
  obtain ⟨its, rv, ⟨o, n, ho, hc, _, hd⟩, _⟩ := I.list (SqL.of hq)
  have all : ∀ {vs : List V} {ds : List PyData} {us : List Value}, Paired (fun v d => RdS X H v d) vs ds → Vals vs us → ∃ as, ReadsAll s.heap us ds as ∧ sysModules ∉ as := by
    intro vs ds us h
    induction h generalizing us with
    | nil =>
      intro r
      cases r
      exact ⟨_, .nil, fun m => nomatch m⟩
    | @cons v d vs ds a b ih =>
      intro r
      cases r with
      | cons r1 r2 =>
        obtain ⟨as, q1, m1⟩ := a pins σ s _ I r1
        obtain ⟨bs, q2, m2⟩ := ih r2
        exact ⟨_, .cons q1 q2, fun m => (List.mem_append.mp m).elim m1 m2⟩
  obtain ⟨as, q1, m1⟩ := all h rv
  refine ⟨_, Reads.list ho hc hd q1, fun m => ?_⟩
  rcases List.mem_cons.mp m with e | e
  · exact nq e.symm
  · exact m1 e
/-- a list display, with where it does not stand -/
def tLstS (t : TA) : TE := fun σ H Q => t σ H fun xs H1 => xs.length ≤ sizeLine ∧ ∀ p, H1 p = none → p ≠ sysModules → Q (.ref p) (upd H1 p (.lst xs))
theorem pe_lstS {X : Cx} {es : List Expr} {t : TA} {pos : Pos} (h : PA X es t) : PE X (.List es pos) (tLstS t) := by
  refine ⟨fun pins s σ H Q I hq => ?_⟩
  refine wpAny_List_spliced (thn (h.run pos pins s σ H _ I hq) fun us s1 hh => ?_)
  obtain ⟨xs, H1, I1, r, z, q⟩ := hh
  have z' : us.length ≤ sizeLine := by rw [← r.length]; exact z
  refine ⟨z', V.ref s1.heap.objs.size, upd H1 s1.heap.objs.size (.lst xs), ?_, rfl, q _ (I1.hok.fresh (Nat.le_refl _)) (Nat.ne_of_gt I1.big)⟩
  exact I1.laid (t' := s1.toks) (fun _ _ e => Heap.get?_push_of_some _ e) (Nat.le_refl _) ⟨z, us, 0, r, Heap.get?_push_size _ rfl⟩
end L2
set_option maxRecDepth 100000
namespace L2
open PySem PySem.Spec PyProof.Rows LamX
/-! C(k = v, ..) without positional arguments -/
def tMakeN0 (C : Addr) (m : Nat) (sp : Sp) (gV : List V → List V → List V) (E : XK) (tk : TA) : TE := fun σ H Q => tk σ H fun zs H2 => zs.length = m ∧
  ∀ x dx, H2 x = none → H2 dx = none → dx ≠ x → sp (gV [.ref x] zs) (upd (upd H2 dx (.own x)) x (.ins C dx [])) (fun v H3 => v = .non ∧ Q (.ref x) H3) E
section
variable {X : Cx} {CX : CXT} {k n : Nat} {f C : Addr} {fd : FuncData} {ps ks : List Str} {sp : Sp} {E : XK} {x : Str} {p pos : Pos} {kws : List Keyword} {tk : TA} {g : List Value → List Value → List Value} {gV : List V → List V → List V}
theorem pe_makeN0 (M : Mk X.K C f) (F : FnOk X.prog X.w X.K X.mg X.base CX k f fd ps sp) (hr : Room (k + 1) X.A) (hg : Gl X x) (hm : X.mg x = some (.ref C)) (hb : KBn X.K fd ps 1 ks g gV) (hx : Passes CX X E) (hkw : PK X kws tk)
    (hall : (backToKw pos (keywordEach kws X.env)).all (·.1.isSome) = true := by rfl) (hks : (backToKw pos (keywordEach kws X.env)).filterMap (·.1) = ks := by rfl) (hdb : (x == ("__debug__" : Str)) = false := by decide)
    (hpl : ((backTo pos (starEach [] X.env)).any (·.1) || (backToKw pos (keywordEach kws X.env)).any (·.1.isNone)) = false := by rfl) :
    PE X (.Call (.Name x p) [] kws pos) (tMakeN0 C ks.length sp gV E tk) := by
  refine ⟨fun pins s σ H Q I h => wpAny_Call_Name_kw (ld_glob I hg hm ?_ hdb)⟩
  refine PySem.W.callWith_KW0 (h₀ := X.base) I.ok.mod.kin M.kp hall ?_ hpl
  refine thn (hkw.run pos pins s σ H _ I h) fun ws s2 hh => ?_
  obtain ⟨zs, H2, I2, rz, l2, q2⟩ := hh
  refine ⟨I2.kIn, ?_⟩
  rw [hks]
  exact run_makeN (n := 0) (us := []) (vs := []) M F hr hb hx I2 .nil rz rfl l2 q2
end
/-! repr, its reading the same in each context -/
def rReprA : List V → Hp → VK → Prop := fun xs H Q => ∃ (x : V) (d : PyData), xs = [x] ∧ (∀ X : Cx, RdV X H x d) ∧ d.showable = true ∧ d.depth ≤ 20 ∧ d.shown.length ≤ sizeLine ∧ Q (.str d.shown) H
theorem call_reprA {X : Cx} (gd : X.A.guards = some []) (hu : X.A.units + 64 < cLine) : CallR X (.builtin "repr") rReprA := fun pins s σ H xs us Q I r h => by
  obtain ⟨x, d, e, rd, q⟩ := h
  exact call_reprG gd hu pins s σ H xs us Q I r ⟨x, d, e, rd X, q⟩
/-! what stays: all but the addresses in A, which hold lists, and tables -/
structure Ev (A : Addr → Prop) (H H' : Hp) : Prop where
  st : ∀ b o, ¬ A b → H b = some o → (∀ ps, o ≠ .tbl ps) → H' b = some o
  mu : ∀ b, A b → H b = none ∨ ∃ xs, H b = some (.lst xs)
theorem Ev.refl {A : Addr → Prop} {H : Hp} (mu : ∀ b, A b → H b = none ∨ ∃ xs, H b = some (.lst xs)) : Ev A H H := ⟨fun _ _ _ h _ => h, mu⟩
theorem Ev.same {A : Addr → Prop} {H G G' : Hp} (E : Ev A H G) (s : Same G G') : Ev A H G' := ⟨fun b o n h t => s _ _ (E.st b o n h t), E.mu⟩
theorem Ev.lay {A : Addr → Prop} {H G : Hp} {q : Addr} {o : HO} (E : Ev A H G) (h : G q = none) : Ev A H (upd G q o) := E.same ((Same.refl G).new h)
theorem Ev.ext {A : Addr → Prop} {H G G' : Hp} (E : Ev A H G) (e : ExtN G G') : Ev A H G' := ⟨fun b o n h t => e _ _ (E.st b o n h t) t, E.mu⟩
theorem Ev.put {A : Addr → Prop} {H G : Hp} {q : Addr} {o : HO} (E : Ev A H G) (h : A q) : Ev A H (upd G q o) := ⟨fun b u n e t => by
  rw [upd_ne (fun z => n (by rw [z]; exact h))]
  exact E.st b u n e t, E.mu⟩
theorem Ev.get {A : Addr → Prop} {H H' : Hp} {b : Addr} {o : HO} (E : Ev A H H') (h : H b = some o) (n1 : ∀ xs, o ≠ .lst xs) (n2 : ∀ ps, o ≠ .tbl ps) : H' b = some o :=
  E.st b o (fun z => by
    rcases E.mu b z with e | ⟨xs, e⟩
    · rw [e] at h
      cases h
    · rw [e] at h
      exact n1 xs (Option.some.inj h).symm) h n2
theorem Ev.tup {A : Addr → Prop} {H H' : Hp} {b : Addr} {xs : List V} (E : Ev A H H') (h : H b = some (.tup xs)) : H' b = some (.tup xs) := E.get h (fun _ z => by cases z) fun _ z => by cases z
theorem Ev.ins {A : Addr → Prop} {H H' : Hp} {b C dx : Addr} {fs : List (Str × V)} (E : Ev A H H') (h : H b = some (.ins C dx fs)) : H' b = some (.ins C dx fs) := E.get h (fun _ z => by cases z) fun _ z => by cases z
theorem Ev.dK {A : Addr → Prop} {H H' : Hp} {b : Addr} {xs : List (Key × V)} (E : Ev A H H') (h : H b = some (.dK xs)) : H' b = some (.dK xs) := E.get h (fun _ z => by cases z) fun _ z => by cases z
theorem Ev.xd {A : Addr → Prop} {H H' : Hp} {b : Addr} {fs : List (Str × V)} (E : Ev A H H') (h : H b = some (.xd fs)) : H' b = some (.xd fs) := E.get h (fun _ z => by cases z) fun _ z => by cases z
theorem Ev.lst {A : Addr → Prop} {H H' : Hp} {b : Addr} {xs : List V} (E : Ev A H H') (n : ¬ A b) (h : H b = some (.lst xs)) : H' b = some (.lst xs) := E.st b _ n h fun _ z => by cases z
theorem Ev.mono {A B : Addr → Prop} {H H' : Hp} (E : Ev A H H') (i : ∀ b, A b → B b) (mu : ∀ b, B b → H b = none ∨ ∃ xs, H b = some (.lst xs)) : Ev B H H' := ⟨fun b o n h t => E.st b o (fun z => n (i b z)) h t, mu⟩
theorem Ev.trans {A : Addr → Prop} {H G G' : Hp} (E : Ev A H G) (F : Ev A G G') : Ev A H G' := ⟨fun b o n h t => F.st b o n (E.st b o n h t) t, E.mu⟩
/-! rows of heard errors -/
inductive HE (H : Hp) : V → PyData → Prop where
  | ss {t : Addr} {a b : Str} (h : H t = some (.tup [.str a, .str b])) : HE H (.ref t) (.tuple [.str a, .str b])
  | si {t : Addr} {a : Str} {n : Int} (h : H t = some (.tup [.str a, .int n])) : HE H (.ref t) (.tuple [.str a, .int n])
inductive HRows (H : Hp) : List V → List PyData → Prop where
  | nil : HRows H [] []
  | cons {v : V} {d : PyData} {vs : List V} {ds : List PyData} (h : HE H v d) (r : HRows H vs ds) : HRows H (v :: vs) (d :: ds)
theorem HE.move {H H' : Hp} {v : V} {d : PyData} (st : ∀ b xs, H b = some (.tup xs) → H' b = some (.tup xs)) (h : HE H v d) : HE H' v d := by
  cases h with
  | ss h => exact .ss (st _ _ h)
  | si h => exact .si (st _ _ h)
theorem HRows.move {H H' : Hp} (st : ∀ b xs, H b = some (.tup xs) → H' b = some (.tup xs)) : ∀ {vs : List V} {ds : List PyData}, HRows H vs ds → HRows H' vs ds
  | _, _, .nil => .nil
  | _, _, .cons h r => .cons (h.move st) (HRows.move st r)
theorem HRows.app {H : Hp} : ∀ {vs us : List V} {ds es : List PyData}, HRows H vs ds → HRows H us es → HRows H (vs ++ us) (ds ++ es)
  | _, _, _, _, .nil, r => r
  | _, _, _, _, .cons h q, r => .cons h (HRows.app q r)
theorem HE.dp {K : PySem.W.Frag} {H : Hp} {v : V} {d : PyData} (h : HE H v d) : Dp K H v d := by
  cases h with
  | ss h => exact .tup (SqT.of h) (.cons (.str _) (.cons (.str _) .nil))
  | si h => exact .tup (SqT.of h) (.cons (.str _) (.cons (.int _) .nil))
theorem HRows.dp {K : PySem.W.Frag} {H : Hp} : ∀ {vs : List V} {ds : List PyData}, HRows H vs ds → DpAll K H vs ds
  | _, _, .nil => .nil
  | _, _, .cons h r => .cons h.dp r.dp
theorem HRows.len {H : Hp} : ∀ {vs : List V} {ds : List PyData}, HRows H vs ds → vs.length = ds.length
  | _, _, .nil => rfl
  | _, _, .cons h r => congrArg Nat.succ r.len
/-- a row that may be compared -/
def rowOk : PyData → Bool
  | .tuple [.str a, .str b] => PyData.strOk a && PyData.strOk b
  | .tuple [.str a, .int _] => PyData.strOk a
  | _ => false
theorem rowOk_lay {d : PyData} (h : rowOk d = true) : PyData.canLay0 d = true ∧ d.depth ≤ 1 ∧ PyData.eqv d d = true := by
  unfold rowOk at h
  split at h
  · rename_i a b
    obtain ⟨h1, h2⟩ := Bool.and_eq_true_iff.mp h
    simp [PyData.canLay0, PyData.canLayAll0, PyData.depth, PyData.depthAll, PyData.eqv, PyData.eqvAll, h1, h2]
  · rename_i a n
    simp [PyData.canLay0, PyData.canLayAll0, PyData.depth, PyData.depthAll, PyData.eqv, PyData.eqvAll, h]
  · cases h
theorem rows_lay : ∀ {ds : List PyData}, ds.all rowOk = true → PyData.canLayAll0 ds = true ∧ PyData.depthAll ds ≤ 1 ∧ PyData.eqvAll ds ds = true
  | [], _ => ⟨rfl, by simp [PyData.depthAll], rfl⟩
  | d :: r, h => by
    obtain ⟨h1, h2⟩ := Bool.and_eq_true_iff.mp (show (rowOk d && r.all rowOk) = true from h)
    obtain ⟨a1, a2, a3⟩ := rowOk_lay h1
    obtain ⟨b1, b2, b3⟩ := rows_lay h2
    refine ⟨by simp [PyData.canLayAll0, a1, b1], ?_, by simp [PyData.eqvAll, a3, b3]⟩
    simp only [PyData.depthAll]
    omega
theorem shaped_rows {ds : List PyData} (h : ds.all rowOk = true) : PySem.SeqAt.shaped (.list ds) = true := by
  obtain ⟨h1, h2, _⟩ := rows_lay h
  simp only [PySem.SeqAt.shaped, PyData.canLay0, PyData.depth, h1, Bool.true_and, Bool.and_true, decide_eq_true_eq]
  first | omega | exact decide_eq_true (by omega) | simp; omega
theorem eqv_rows {ds : List PyData} (h : ds.all rowOk = true) : PyData.eqv (.list ds) (.list ds) = true := (rows_lay h).2.2
end L2
set_option maxRecDepth 100000
namespace Toy
open PySem L2 LamX Dg
theorem map_int_inj {a b : List Int} (h : a.map V.int = b.map V.int) : a = b := by
  induction a generalizing b with
  | nil =>
    cases b with
    | nil => rfl
    | cons y r => cases h
  | cons x r ih =>
    cases b with
    | nil => cases h
    | cons y r' =>
      have h1 := List.cons.inj h
      rw [V.int.inj h1.1, ih h1.2]
/-! arguments that stay while the addresses in A change -/
def PlainA (K : PySem.W.Frag) (A : Addr → Prop) (H : Hp) (y : V) : Prop := ∃ S, Plain K H y S ∧ ∀ b, y = .ref b → ¬ A b
inductive ArgA (K : PySem.W.Frag) (A : Addr → Prop) (H : Hp) : V → Option (List V) → Prop where
  | seq {a : Addr} {xs : List V} (e : SeqAt H a xs) (n : ¬ A a) (q : ∀ y ∈ xs, PlainA K A H y) (l : xs.length ≤ 300) : ArgA K A H (.ref a) (some xs)
  | other {x : V} {S : String} (h : Plain K H x S) (n : ∀ b, x = .ref b → ¬ A b) (k : PySem.W.kitAny K (.type S) [.type "list", .type "tuple"] = some false) : ArgA K A H x none
theorem plain_move {K : PySem.W.Frag} {A : Addr → Prop} {H H' : Hp} {y : V} {S : String} (st : ∀ b o, ¬ A b → H b = some o → (∀ ps, o ≠ .tbl ps) → H' b = some o) (n : ∀ b, y = .ref b → ¬ A b) (h : Plain K H y S) : Plain K H' y S := by
  cases h with
  | non => exact .non
  | bl b => exact .bl b
  | int i => exact .int i
  | str z => exact .str z
  | lst e => exact .lst (st _ _ (n _ rfl) e fun _ z => by cases z)
  | tup e => exact .tup (st _ _ (n _ rfl) e fun _ z => by cases z)
  | dK e => exact .dK (st _ _ (n _ rfl) e fun _ z => by cases z)
theorem ArgA.move {K : PySem.W.Frag} {A : Addr → Prop} {H H' : Hp} {v : V} {o : Option (List V)} (h : ArgA K A H v o) (st : ∀ b o, ¬ A b → H b = some o → (∀ ps, o ≠ .tbl ps) → H' b = some o) : ArgA K A H' v o := by
  cases h with
  | seq e n q l => exact .seq (e.elim (fun z => .inl (st _ _ n z fun _ y => by cases y)) fun z => .inr (st _ _ n z fun _ y => by cases y)) n (fun y hy => let ⟨S, h1, h2⟩ := q y hy; ⟨S, plain_move st h2 h1, h2⟩) l
  | other h n k => exact .other (plain_move st n h) n k
theorem ArgA.same {K : PySem.W.Frag} {A : Addr → Prop} {H H' : Hp} {v : V} {o : Option (List V)} (h : ArgA K A H v o) (s : Same H H') : ArgA K A H' v o := h.move fun b o _ e _ => s b o e
theorem ArgA.ext {K : PySem.W.Frag} {A : Addr → Prop} {H H' : Hp} {v : V} {o : Option (List V)} (h : ArgA K A H v o) (s : ExtN H H') : ArgA K A H' v o := h.move fun b o _ e n => s b o e n
theorem ArgA.but {K : PySem.W.Frag} {A : Addr → Prop} {p : Addr} {H H' : Hp} {v : V} {o : Option (List V)} (h : ArgA K A H v o) (hp : A p) (s : But p H H') : ArgA K A H' v o := h.move fun b o n e _ => s b o (fun z => n (by rw [z]; exact hp)) e
theorem ArgA.put {K : PySem.W.Frag} {A : Addr → Prop} {p : Addr} {H : Hp} {v : V} {o : Option (List V)} {u : HO} (h : ArgA K A H v o) (hp : A p) : ArgA K A (upd H p u) v o := h.move fun b o n e _ => by
  rw [upd_ne (fun z => n (by rw [z]; exact hp))]
  exact e
theorem plain_there {K : PySem.W.Frag} {H : Hp} {y : V} {S : String} (h : Plain K H y S) {b : Addr} (e : y = .ref b) : ∃ o, H b = some o := by
  subst e
  cases h with
  | lst e => exact ⟨_, e⟩
  | tup e => exact ⟨_, e⟩
  | dK e => exact ⟨_, e⟩
theorem plain_avoid {K : PySem.W.Frag} {A : Addr → Prop} {H : Hp} {q : Addr} (hq : H q = none) {y : V} {S : String} (h : Plain K H y S) (n : ∀ b, y = .ref b → ¬ A b) : ∀ b, y = .ref b → ¬ (A b ∨ b = q) := fun b e z => by
  rcases z with z | z
  · exact n b e z
  · obtain ⟨o, h2⟩ := plain_there h e
    rw [z, hq] at h2
    cases h2
theorem ArgA.avoid {K : PySem.W.Frag} {A : Addr → Prop} {H : Hp} {q : Addr} {v : V} {o : Option (List V)} (h : ArgA K A H v o) (hq : H q = none) : ArgA K (fun b => A b ∨ b = q) H v o := by
  cases h with
  | seq e n q' l =>
    refine .seq e (fun z => ?_) (fun y hy => let ⟨S, h1, h2⟩ := q' y hy; ⟨S, h1, plain_avoid hq h1 h2⟩) l
    rcases z with z | z
    · exact n z
    · rcases e with e | e <;> (rw [z, hq] at e; cases e)
  | other h n k => exact .other h (plain_avoid hq h n) k
theorem ArgA.arg {K : PySem.W.Frag} {A : Addr → Prop} {H : Hp} {v : V} {o : Option (List V)} (h : ArgA K A H v o) : Arg K H v o ∧ ∀ ys, o = some ys → ys.length ≤ 300 := by
  cases h with
  | seq e n q l => exact ⟨.seq e (fun y hy => let ⟨S, h1, _⟩ := q y hy; ⟨S, h1⟩) (by omega), fun ys e => by rw [← Option.some.inj e]; exact l⟩
  | other h n k => exact ⟨.other h k, fun _ e => nomatch e⟩
theorem argA_ints {K : PySem.W.Frag} {A : Addr → Prop} {H : Hp} {a : Addr} {ns : List Int} (e : SeqAt H a (ns.map V.int)) (n : ¬ A a) (l : ns.length ≤ 300) : ArgA K A H (.ref a) (some (ns.map V.int)) :=
  .seq e n (fun y hy => by obtain ⟨i, _, rfl⟩ := List.mem_map.mp hy; exact ⟨_, .int i, fun _ z => nomatch z⟩) (by rw [List.length_map]; exact l)
theorem argA_mods {K : PySem.W.Frag} {A : Addr → Prop} {H : Hp} {a : Addr} {ms : List V} (e : SeqAt H a ms) (n : ¬ A a) (ok : okMod (some ms) = true) : ArgA K A H (.ref a) (some ms) := by
  obtain ⟨wm, _⟩ := okMod_all ok
  have z : (decide (1 ≤ ms.length ∧ ms.length ≤ 5) && (ms.all (withinV 2 32) && decide (prodV ms ≤ 32))) = true := ok
  have l := of_decide_eq_true (Bool.and_eq_true_iff.mp z).1
  refine .seq e n (fun y hy => ?_) (by omega)
  obtain ⟨i, rfl, _⟩ := within_int (List.all_eq_true.mp wm y hy)
  exact ⟨_, .int i, fun _ z => nomatch z⟩
/-! Rule(..) with such arguments -/
theorem made_same {G : Hp} {x dx C : Addr} (nx : G x = none) (ndx : G dx = none) : Same G (upd (upd G dx (.own x)) x (.ins C dx [])) := fun b o e => by
  rw [upd_ne (ne_of_none e nx), upd_ne (ne_of_none e ndx)]
  exact e
theorem init_bad {CR CT C x dx : Addr} {K : PySem.W.Frag} {A : Addr → Prop} {G : Hp} {m a t : V} {om oa ot : Option (List V)} {w : Str} {Q : VK} {E : XK} (nx : G x = none) (ndx : G dx = none) (hm : ArgA K A G m om) (ha : ArgA K A G a oa) (ht : ArgA K A G t ot)
    (he : ruleErr om oa ot = some w) (k : ∀ d H', Same G H' → H' d = some (.xd [("part", .str w)]) → E (.ref CR) (some d) H') : spInit CR CT C K [.ref x, m, a, t] (upd (upd G dx (.own x)) x (.ins C dx [])) Q E := by
  have s := made_same (C := C) nx ndx
  refine ⟨x, dx, m, a, t, om, oa, ot, rfl, upd_same, hm.arg.1.same s, ha.arg.1.same s, ht.arg.1.same s, ha.arg.2, ht.arg.2, fun w' hw d H' hd bt e => ?_, fun ms ns ts _ _ _ hn => ?_⟩
  · rw [he] at hw
    obtain rfl := Option.some.inj hw
    exact k d H' (fun b o z => bt b o (ne_of_none z nx) (s _ _ z)) e
  · rw [he] at hn
    cases hn
theorem init_ok {CR CT C x dx : Addr} {K : PySem.W.Frag} {A : Addr → Prop} {G : Hp} {m a t : V} {ms : List V} {ns ts : List Int} {Q : VK} {E : XK} (nx : G x = none) (ndx : G dx = none) (hm : ArgA K A G m (some ms)) (ha : ArgA K A G a (some (ns.map V.int))) (ht : ArgA K A G t (some (ts.map V.int)))
    (he : ruleErr (some ms) (some (ns.map V.int)) (some (ts.map V.int)) = none)
    (k1 : 24 < (normW ns ts).1.length + (normW ns ts).2.length → ∀ d H', Same G H' → H' d = some (.xd [("most", .int 24), ("what", .str "places")]) → E (.ref CT) (some d) H')
    (k2 : (normW ns ts).1.length + (normW ns ts).2.length ≤ 24 → ∀ H', Same G H' → RuleAt C H' x ms (normW ns ts).1 (normW ns ts).2 → Q .non H') : spInit CR CT C K [.ref x, m, a, t] (upd (upd G dx (.own x)) x (.ins C dx [])) Q E := by
  have s := made_same (C := C) nx ndx
  refine ⟨x, dx, m, a, t, _, _, _, rfl, upd_same, hm.arg.1.same s, ha.arg.1.same s, ht.arg.1.same s, ha.arg.2, ht.arg.2, fun w' hw => ?_, fun ms' ns' ts' e1 e2 e3 _ => ?_⟩
  · rw [he] at hw
    cases hw
  · obtain rfl := map_int_inj (Option.some.inj e2)
    obtain rfl := map_int_inj (Option.some.inj e3)
    obtain rfl := Option.some.inj e1
    exact ⟨fun big d H' hd bt e => k1 big d H' (fun b o z => bt b o (ne_of_none z nx) (s _ _ z)) e, fun le H' bt R => k2 le H' (fun b o z => bt b o (ne_of_none z nx) (s _ _ z)) R⟩

theorem all_of {n : Int} {A : List Int} (h : ∀ z ∈ A, 0 ≤ z ∧ z ≤ n - 1) : (A.map V.int).all (withinV 0 (n - 1)) = true := by
  rw [List.all_map]
  exact List.all_eq_true.mpr fun z hz => decide_eq_true (h z hz)
theorem mods_of {ms : List V} (h : okMod (some ms) = true) : ∃ ns : List Int, ms = ns.map V.int ∧ Mods ns ∧ ns ≠ [] ∧ prodI ns ≤ 32 ∧ 2 ≤ prodI ns := by
  have z : (decide (1 ≤ ms.length ∧ ms.length ≤ 5) && (ms.all (withinV 2 32) && decide (prodV ms ≤ 32))) = true := h
  obtain ⟨l1, l5⟩ := of_decide_eq_true (Bool.and_eq_true_iff.mp z).1
  obtain ⟨wm, p32⟩ := okMod_all h
  obtain ⟨ns, rfl⟩ := all_ints wm
  rw [prodV_map] at p32
  rw [List.length_map] at l1 l5
  have hn : ∀ n ∈ ns, 2 ≤ n ∧ n ≤ 32 := fun n hn => by
    have := List.all_eq_true.mp wm (.int n) (List.mem_map.mpr ⟨n, hn, rfl⟩)
    exact of_decide_eq_true this
  refine ⟨ns, rfl, ⟨l5, hn⟩, fun e => by rw [e] at l1; simp at l1, p32, ?_⟩
  cases ns with
  | nil => simp at l1
  | cons n ns =>
    have h2 := (hn n (.head _)).1
    have h3 := prodI_pos (ns := ns) fun m hm => hn m (.tail _ hm)
    show 2 ≤ n * prodI ns
    have : 2 * 1 ≤ n * prodI ns := Int.mul_le_mul h2 (by omega) (by decide) (by omega)
    omega
end Toy
set_option maxRecDepth 100000
namespace L2
open PySem PySem.Spec PyProof.Rows
/-! operators of an own class: a op b, -a; math.lcm -/
section
variable {X : Cx} {pins : List (Addr × Obj)} {σ : St} {H : Hp} {s : Shared}
theorem plain_looks {y : V} {u : Value} {S : String} (I : Inv X pins σ H s) (ry : RelV y u) (h : Plain X.K H y S) (M : Model) : PySem.W.Looks M s.heap (typeOf u) (.type S) := by
  have at_ : ∀ {a : Addr} {o : Obj} {T : String}, s.heap.get? a = some o → o.cls = .type T → PySem.W.Looks M s.heap (typeOf (.ref a)) (.type T) := fun e c => by
    rw [← c]
    exact (PySem.W.Looks.ld e).andThen .now
  cases h with
  | non => cases (show u = Value.none from ry); exact .of_pure rfl
  | bl b => cases (show u = Value.bool b from ry); exact .of_pure rfl
  | int i => obtain ⟨t, rfl⟩ := (show ∃ t, u = Value.int i t from ry); exact .of_pure rfl
  | str z => obtain ⟨t, rfl⟩ := (show ∃ t, u = Value.str z t from ry); exact .of_pure rfl
  | @lst a xs e =>
    cases (show u = Value.ref a from ry)
    obtain ⟨_, _, n, _, h1⟩ := (show ObjOk X.prog X.w H s.heap a (.lst xs) from I.hok a _ e)
    exact at_ h1 rfl
  | @tup a xs e =>
    cases (show u = Value.ref a from ry)
    obtain ⟨_, _, _, o, h1, h2, _⟩ := (show ObjOk X.prog X.w H s.heap a (.tup xs) from I.hok a _ e)
    exact at_ h1 h2
  | @dK a kvs e =>
    cases (show u = Value.ref a from ry)
    obtain ⟨_, _, _, _, o, _, _, h1, h2, _⟩ := (show ObjOk X.prog X.w H s.heap a (.dK kvs) from I.hok a _ e)
    exact at_ h1 h2.1
theorem plain_name {K : PySem.W.Frag} {y : V} {S : String} (h : Plain K H y S) : S ∈ ["NoneType", "bool", "int", "str", "list", "tuple", "dict"] := by cases h <;> decide
end
abbrev plainTys : List String := ["NoneType", "bool", "int", "str", "list", "tuple", "dict"]
theorem mro_none : fastBuiltinMro "NoneType" = some [.type "NoneType", .type "object"] := by decide +kernel
theorem mro_bool : fastBuiltinMro "bool" = some [.type "bool", .type "int", .type "object"] := by decide +kernel
theorem mro_int : fastBuiltinMro "int" = some [.type "int", .type "object"] := by decide +kernel
theorem mro_str : fastBuiltinMro "str" = some [.type "str", .type "object"] := by decide +kernel
theorem mro_list : fastBuiltinMro "list" = some [.type "list", .type "object"] := by decide +kernel
theorem mro_tuple : fastBuiltinMro "tuple" = some [.type "tuple", .type "object"] := by decide +kernel
theorem mro_dict : fastBuiltinMro "dict" = some [.type "dict", .type "object"] := by decide +kernel
theorem sub_no (K : PySem.W.Frag) (C : Addr) : ∀ S ∈ plainTys, PySem.W.subIn K (.type S) (.ref C) = some false := by
  intro S hS
  simp only [List.mem_cons, List.not_mem_nil, or_false] at hS
  rcases hS with rfl | rfl | rfl | rfl | rfl | rfl | rfl <;> simp [PySem.W.subIn, mro_none, mro_bool, mro_int, mro_str, mro_list, mro_tuple, mro_dict]
def opTys (nm : String) : Bool := plainTys.all fun S => (fastLookup S (PySem.dunder nm)).isSome && (fastLookup S (dunderR nm)).isSome
theorem op_tys (K : PySem.W.Frag) (C : Addr) {nm : String} (h : opTys nm = true) : ∀ S ∈ plainTys, (PySem.W.findIn K (.type S) (PySem.dunder nm)).isSome = true ∧ (PySem.W.findIn K (.type S) (dunderR nm)).isSome = true ∧ PySem.W.subIn K (.type S) (.ref C) = some false := fun S hS => by
  have := List.all_eq_true.mp h S hS
  obtain ⟨h1, h2⟩ := Bool.and_eq_true_iff.mp this
  exact ⟨h1, h2, sub_no K C S hS⟩
theorem ot_add : opTys "add" = true := by decide +kernel
theorem ot_mul : opTys "mul" = true := by decide +kernel
theorem ot_lshift : opTys "lshift" = true := by decide +kernel
theorem ot_or : opTys "or" = true := by decide +kernel
theorem ot_and : opTys "and" = true := by decide +kernel
theorem ot_xor : opTys "xor" = true := by decide +kernel
theorem ot_sub : opTys "sub" = true := by decide +kernel
/-- the class has this operator of its own, and none the other way about -/
structure OwnOp (K : PySem.W.Frag) (C f : Addr) (nm : String) : Prop where
  at_ : PySem.W.findIn K (.ref C) (PySem.dunder nm) = some (some (.ref f))
  fn : PySem.W.isFn K (.ref f) = true
  first : PySem.W.selfFirst K C = true
  back : PySem.W.findIn K (.ref C) (dunderR nm) = some none
def ownOpB (K : PySem.W.Frag) (C : Addr) (nm m : Str) (r : Str) : Bool := He.eqO (PySem.W.findIn K (.ref C) m) (some (some (.ref (He.ma K C m)))) && (PySem.W.isFn K (.ref (He.ma K C m)) && (PySem.W.selfFirst K C && He.eqO (PySem.W.findIn K (.ref C) r) (some none)))
theorem ownOp_of {K : PySem.W.Frag} {C : Addr} {nm : String} {z m r : Str} (em : PySem.dunder nm = m) (er : dunderR nm = r) (h : ownOpB K C z m r = true) : OwnOp K C (He.ma K C m) nm := by
  obtain ⟨h1, h⟩ := He.ba h
  obtain ⟨h2, h⟩ := He.ba h
  obtain ⟨h3, h4⟩ := He.ba h
  exact ⟨by rw [em]; exact He.eqO_ok h1, h2, h3, by rw [er]; exact He.eqO_ok h4⟩
/-- the other thing: an instance of C too, or a plain value -/
def Oth (K : PySem.W.Frag) (C : Addr) (H : Hp) (y : V) : Prop := (∃ b dx fs, y = .ref b ∧ H b = some (.ins C dx fs)) ∨ ∃ S, Plain K H y S
def rOwnOp (K : PySem.W.Frag) (C : Addr) (sp : Sp) (E : XK) : R2 := fun x y H Q => ∃ (a dx : Addr) (fs : List (Str × V)), x = .ref a ∧ H a = some (.ins C dx fs) ∧ Oth K C H y ∧ sp [x, y] H Q E
def rOwnUn (C : Addr) (sp : Sp) (E : XK) : V → Hp → VK → Prop := fun x H Q => ∃ (a dx : Addr) (fs : List (Str × V)), x = .ref a ∧ H a = some (.ins C dx fs) ∧ sp [x] H Q E
section
variable {X : Cx} {CX : CXT} {n : Nat} {C f : Addr} {sp : Sp} {E : XK}
theorem no_ni {pins : List (Addr × Obj)} {σ : St} {Q : VK} {v : Value} {s : Shared} (h : EP X pins σ Q v s) : PySem.W.CmpBack (EP X pins σ Q) v s := by
  obtain ⟨x, H', I', r, q⟩ := id h
  cases x <;> first
    | (obtain ⟨t, rfl⟩ := (show ∃ t, v = _ from r); exact h)
    | (cases (show v = _ from r); exact h)
theorem own_bin {prog : Program} {w : World} {A : Around} {Er : Value → Shared → Prop} {s : Shared} {K : PySem.W.Frag} {x C f : Addr} {ox : Obj} {od : Option Obj} {op : Operator} {b : Value} {T : String} {fo ro : Option Value} {Q : Value → Shared → Prop}
    (Y : K.In s.heap) (J : PySem.W.InstAt s.heap x ox C od) (o : OwnOp K C f op.info.2) (hb : PySem.W.Looks (model prog w) s.heap (typeOf b) (.type T))
    (h1 : PySem.W.findIn K (.type T) (PySem.dunder op.info.2) = some fo) (h2 : PySem.W.findIn K (.type T) (dunderR op.info.2) = some ro) (hsub : PySem.W.subIn K (.type T) (.ref C) = some false)
    (h : wpAny (model prog w) A (call (.ref f) [.ref x, b]) (PySem.W.CmpBack Q) Er s) : wpAny (model prog w) A (binaryOp op (.ref x) b) Q Er s := by
  obtain ⟨cd, rest, hcd, hm⟩ := PySem.W.ksp_first o.first
  obtain ⟨o1, o2, _, o4⟩ := o
  rcases hi : op.info with ⟨sy, nm⟩
  simp only [hi] at o1 o4 h1 h2
  have one := PySem.W.ksp_try Y J o1 o2 h
  obtain ⟨hh, g, d, tt, os⟩ := s
  have k1 : PySem.W.Looks (model prog w) hh (typeOf (.ref x)) (.ref C) := J.type
  have k3 := PySem.W.fills_K (M := model prog w) Y hcd hm o1
  have k4 := PySem.W.ksp_fillsT (M := model prog w) Y h1 h2
  have k5 : PySem.W.Looks (model prog w) hh (isSubtype (.type T) (.ref C)) false := PySem.W.looks_subIn Y hsub
  have k6 := PySem.W.ksp_inPy (M := model prog w) Y o1 o4 (.inl rfl)
  have k7 : PySem.W.Looks (model prog w) hh (numberSlotInPython (.type T) nm) false := .of_pure rfl
  have k8 : PySem.W.Looks (model prog w) hh (typeLookup (.type T) (dunderR nm)) ro := PySem.W.looks_findIn Y h2
  have ne : (Value.ref C == Value.type T) = false := Bool.eq_false_iff.mpr fun q => nomatch beq_iff_eq.mp q
  generalize ((fo.isSome && !isSeqSlot fo) || (ro.isSome && !isSeqSlot ro)) = rt at k4
  simp only [binaryOp, hi]
  refine wpAny_holding (wpAny_bind ?_)
  unfold binaryOp1
  refine wpAny_bind (k1.at (wpAny_bind (hb.at (wpAny_bind (k3.at ?_)))))
  simp only [ne, Bool.false_eq_true, if_false]
  cases rt <;>
  · ksp_lk
    refine wpAny_mono one (fun r s' z => ?_) fun _ _ e => e
    obtain ⟨v, rfl, hq⟩ := z
    ksp_lk
    exact hq
theorem op_own {op : Operator} (F : FnR X.prog X.w X.K X.mg X.base CX n f sp) (o : OwnOp X.K C f op.info.2) (hT : opTys op.info.2 = true)
    (hr : Room n X.A) (hx : Passes CX X E) : OpR X (binaryOp op) (rOwnOp X.K C sp E) := by
  intro pins s σ H x y v u Q I rx ry hq
  obtain ⟨a, dx, fs, rfl, ha, hy, hsp⟩ := hq
  cases rx
  obtain ⟨mA, J, _⟩ := ins_get I.hok ha
  obtain ⟨od, J, _⟩ := J.look
  obtain ⟨m, hF⟩ := I.fr
  have run := wpAny_call (run_fnR (us := [.ref a, u]) (vs := [.ref a, y]) F hr hx I (.cons rfl (.cons ry .nil)) hsp)
  have back : wpAny (model X.prog X.w) X.A (call (.ref f) [.ref a, u]) (PySem.W.CmpBack (EP X pins σ Q)) X.xe s := wpAny_mono run (fun _ _ z => no_ni z) fun _ _ z => z
  rcases hy with ⟨b, dx2, fs2, rfl, hb⟩ | ⟨S, hp⟩
  · cases ry
    obtain ⟨mB, JB, _⟩ := ins_get I.hok hb
    obtain ⟨ob, JB, _⟩ := JB.look
    exact PySem.W.binop_K hF I.ok.mod.kin J JB.type o.first o.at_ o.fn back
  · obtain ⟨h1, h2, h3⟩ := op_tys X.K C hT S (plain_name hp)
    obtain ⟨fo, e1⟩ := Option.isSome_iff_exists.mp h1
    obtain ⟨ro, e2⟩ := Option.isSome_iff_exists.mp h2
    exact own_bin I.kIn J o (plain_looks I ry hp _) e1 e2 h3 back
theorem un_own (F : FnR X.prog X.w X.K X.mg X.base CX n f sp) (h1 : PySem.W.findIn X.K (.ref C) "__neg__" = some (some (.ref f))) (h2 : PySem.W.isFn X.K (.ref f) = true) (hr : Room n X.A) (hx : Passes CX X E) : UnR X (unaryOp .USub) (rOwnUn C sp E) := by
  intro pins s σ H x v Q I rx hq
  obtain ⟨a, dx, fs, rfl, ha, hsp⟩ := hq
  cases rx
  obtain ⟨mA, J, _⟩ := ins_get I.hok ha
  obtain ⟨od, J, _⟩ := J.look
  obtain ⟨m, hF⟩ := I.fr
  exact PySem.W.ksp_neg hF I.ok.mod.kin J h1 h2 (wpAny_call (run_fnR (us := [.ref a]) (vs := [.ref a]) F hr hx I (.cons rfl .nil) hsp))
end
def rLcm : List V → Hp → VK → Prop := fun vs H Q => ∃ a b : Nat, vs = [.int (a : Int), .int (b : Int)] ∧ a < 2 ^ 64 ∧ b < 2 ^ 64 ∧ Q (.int ((Nat.lcm a b : Nat) : Int)) H
theorem cr_lcm {X : Cx} : CallR X (.builtin "math.lcm") rLcm := by
  intro pins s σ H vs us Q I r h
  obtain ⟨a, b, rfl, ha, hb, q⟩ := h
  obtain ⟨t, u, rfl⟩ := Vals.int2 r
  refine PySem.W.mc_lcm (by rw [Int.natAbs_natCast]; exact ha) (by rw [Int.natAbs_natCast]; exact hb) fun _ => ?_
  rw [Int.natAbs_natCast, Int.natAbs_natCast]
  exact ⟨.int _, H, I.tok _, ⟨_, rfl⟩, q⟩
/-! a range as a value, walked by its name -/
theorem cr_range1 {X : Cx} : CallR X (.type "range") (fun vs H Q => ∃ j, vs = [V.int j] ∧ ∀ p, H p = none → Q (.ref p) (upd H p (.rng 0 j))) := by
  intro pins s σ H vs us Q I r h
  obtain ⟨j, rfl, q⟩ := h
  cases r with
  | cons r rr =>
    cases rr
    obtain ⟨t, rfl⟩ := r
    refine call_range_1 ⟨.ref s.heap.objs.size, upd H s.heap.objs.size (.rng 0 j), I.laid (t' := _) (fun b o e => Heap.get?_push_of_some _ e) (Nat.le_refl _) ?_, rfl, q _ (I.hok.fresh (Nat.le_refl _))⟩
    exact ⟨_, _, _, Heap.get?_push_size _ rfl⟩
def iRngV (te : TE) : TI := fun σ H R => te σ H fun y H1 => ∃ (a : Addr) (lo hi : Int), y = .ref a ∧ H1 a = some (.rng lo hi) ∧ (-(2 ^ 62) ≤ lo ∧ lo < 2 ^ 62 ∧ -(2 ^ 62) ≤ hi ∧ hi < 2 ^ 62) ∧ R (Itr lo (hi - lo).toNat) H1
theorem pi_rng {X : Cx} {tg e : Expr} {te : TE} (he : PE X e te) : PI X tg e (iRngV te) := by
  refine ⟨fun pins s σ H R I h => thn (he.run pins s σ H _ I h) fun w s1 ⟨y, H1, I1, r1, a, lo, hi, ey, ea, ⟨b1, b2, b3, b4⟩, q⟩ => ?_⟩
  subst ey
  obtain rfl : w = Value.ref a := r1
  obtain ⟨t, u, v, ho⟩ := (show ObjOk X.prog X.w H1 s1.heap a (.rng lo hi) from I1.hok a _ ea)
  refine wpAny_pyIter_range (show IsRange s1.heap a lo hi 1 t u v from ho) (small_one b1 b2 b3 b4) ?_
  refine ⟨s1.heap.objs.size, [s1.heap.objs.size], _, _, H1, rfl, I1.kept (t' := s1.toks) fun b o e => Heap.get?_push_of_some _ e, turn_range _ lo (hi - lo).toNat, ?_, fun b hb => ?_, q⟩
  · have e1 : lo + ((0 : Nat) : Int) * 1 = lo := by simp
    have e2 : (((hi - lo).toNat : Nat) : Int) - ((0 : Nat) : Int) = Builtin.Range.rangeSize lo hi 1 := by
      rw [rangeSize_one]
      split <;> omega
    show IsRangeIter _ _ (lo + ((0 : Nat) : Int) * 1) ((((hi - lo).toNat : Nat) : Int) - ((0 : Nat) : Int)) 1
    rw [e1, e2]
    exact Heap.get?_push_size _ rfl
  · obtain rfl : b = s1.heap.objs.size := by simpa using hb
    exact I1.fpOk (Nat.le_refl _) (I1.hok.fresh (Nat.le_refl _))
end L2
set_option maxRecDepth 100000
namespace L2
open PySem PySem.Spec PyProof.Rows
/-! str of an instance with a text of its own -/
def rStrI (C : Addr) (sp : Sp) (E : XK) : List V → Hp → VK → Prop := fun xs H Q => ∃ (a dx : Addr) (fs : List (Str × V)), xs = [V.ref a] ∧ H a = some (.ins C dx fs) ∧ sp [V.ref a] H (fun v H' => ∃ z, v = V.str z ∧ Q (V.str z) H') E
section
variable {X : Cx} {CX : CXT} {n : Nat} {C f : Addr} {fd : FuncData} {ps : List Str} {sp : Sp} {E : XK}
theorem own_code1 {A : Around} {pins : List (Addr × Obj)} {σ : St} {H : Hp} {s : Shared} {a : Addr} {Q : VK} (F : FnOk X.prog X.w X.K X.mg X.base CX n f fd ps sp) (hb : Binds X.K fd ps []) (hr : Room n A) (fr : A.frames = X.A.frames) (hx : Passes CX X E) (I : Inv X pins σ H s)
    (h : sp [.ref a] H Q E) : codeAny (model X.prog X.w) A (.call (.ref f) ⟨[.ref a], []⟩) (fun r s' => match r with
      | .ok (.ret v) => EP X pins σ Q v s'
      | .ok _ => False
      | .error e => X.xe e s') s := by
  have e0 : Env0 X.prog X.w X.K X.mg X.base A X.stack s H := by
    have e := I.env0
    exact ⟨by rw [fr]; exact e.frames, e.mod, e.bs, e.bsz, e.funs, e.frf, e.hok, e.bare⟩
  have hl := F.len _ _ _ _ h
  have r2 : Vals [V.ref a] [Value.ref a] := .cons rfl .nil
  refine codeAny_mono (F.run A X.stack s H ⟨[.ref a], []⟩ [.ref a] [.ref a] _ E hr e0 (by
    have := hb s [.ref a] I.kIn (by simpa using hl)
    simpa using this) r2 h) fun r s' hq => ?_
  cases r with
  | error e => exact hx pins σ H s e s' I hq
  | ok fl =>
    cases fl with
    | ret w => exact I.after hq
    | next => exact False.elim hq
    | brk => exact False.elim hq
    | cont => exact False.elim hq
theorem call_strI (F : FnOk X.prog X.w X.K X.mg X.base CX n f fd ps sp) (hb : Binds X.K fd ps []) (hr : Room (n + 1) X.A) (h1 : PySem.W.findIn X.K (.ref C) "__str__" = some (some (.ref f))) (h2 : PySem.W.isFn X.K (.ref f) = true) (hx : Passes CX X E) : CallR X (.type "str") (rStrI C sp E) := by
  intro pins s σ H xs us Q I r hq
  obtain ⟨a, dx, fs, rfl, ha, hsp⟩ := hq
  cases r with
  | cons r rr =>
    cases rr
    cases r
    obtain ⟨mA, J, _⟩ := ins_get I.hok ha
    obtain ⟨od, J, _⟩ := J.look
    have hr2 : Room n X.A.in1.in1 := ⟨hr.hd, by have := hr.dp; show X.A.depth + 3 * n + 5 < _; omega, by have := hr.un; show X.A.units + 1 + 1 + 16 * n + 200 < _; omega⟩
    refine PySem.W.kso_call (by have := hr2.un; omega) I.kIn J h1 h2 (wpAny_call (codeAny_mono (own_code1 F hb hr2 rfl hx I hsp) fun r s' z => ?_))
    cases r with
    | error e => exact z
    | ok fl =>
      cases fl with
      | ret w =>
        obtain ⟨v, H', I', rz, y, rfl, q⟩ := z
        obtain ⟨t, rfl⟩ := (show ∃ t, w = Value.str y t from rz)
        exact ⟨.str y, H', I', ⟨t, rfl⟩, q⟩
      | next => exact z.elim
      | brk => exact z.elim
      | cont => exact z.elim
end
/-- what the top has written of a class with a text of its own -/
def strB (K : PySem.W.Frag) (C : Addr) : Bool := He.eqO (PySem.W.findIn K (.ref C) "__str__") (some (some (.ref (He.ma K C "__str__")))) && PySem.W.isFn K (.ref (He.ma K C "__str__"))
theorem str_of {K : PySem.W.Frag} {C : Addr} (h : strB K C = true) : PySem.W.findIn K (.ref C) "__str__" = some (some (.ref (He.ma K C "__str__"))) ∧ PySem.W.isFn K (.ref (He.ma K C "__str__")) = true := by
  obtain ⟨h1, h2⟩ := He.ba h
  exact ⟨He.eqO_ok h1, h2⟩
end L2
set_option maxRecDepth 100000
namespace L2
open PySem PySem.Spec PyProof.Rows ClX
/-! a class method called by keywords -/
def tCMethK (C : Addr) (m : Nat) (sp : Sp) (gV : List V → List V → List V) (E : XK) (ta : TE) (tk : TA) : TE := fun σ H Q => ta σ H fun x H1 => x = .ref C ∧ tk σ H1 fun zs H2 => zs.length = m ∧ sp (gV [.ref C] zs) H2 Q E
section
variable {X : Cx} {CX : CXT} {k : Nat} {p g C : Addr} {mc : Value} {fd : FuncData} {ps ks : List Str} {m : Str} {sp : Sp} {E : XK} {o : Expr} {ta : TE} {tk : TA} {pos apos : Pos} {kws : List Keyword} {gg : List Value → List Value → List Value} {gV : List V → List V → List V}
theorem pe_cmethK {pl : Sem Bool} (he : PE X o ta) (r : CRead X.K C mc) (c : CMet X.K C mc m p g) (F : FnOk X.prog X.w X.K X.mg X.base CX k g fd ps sp) (hr : Room k X.A) (hb : KBn X.K fd ps 1 ks gg gV) (hx : Passes CX X E) (hkw : PK X kws tk)
    (hall : (backToKw pos (keywordEach kws X.env)).all (·.1.isSome) = true := by rfl) (hks : (backToKw pos (keywordEach kws X.env)).filterMap (·.1) = ks := by rfl)
    (hpl : ((backTo pos (starEach [] X.env)).any (·.1) || (backToKw pos (keywordEach kws X.env)).any (·.1.isNone)) = false := by rfl)
    (ht : eval (.Call (.Attribute o m apos) [] kws pos) X.env = (do
      let ov ← eval o X.env
      standAt apos.atName
      let (f, first) ← holding [ov] (getMethod ov m pl)
      callWith pos f first (backTo pos (starEach [] X.env)) (backToKw pos (keywordEach kws X.env))) := by rfl) :
    PE X (.Call (.Attribute o m apos) [] kws pos) (tCMethK C ks.length sp gV E ta tk) := by
  refine ⟨fun pins s σ H Q I h => ?_⟩
  refine PySem.W.methodCall_KW (pl := pl) (thn (he.run pins s σ H _ I h) fun u s1 ⟨x, H1, I1, rx, ex, q⟩ => ?_) ht
  subst ex
  obtain rfl : u = Value.ref C := rx
  refine getmethcm_ok I1 r c fun s2 I2 => ?_
  refine PySem.W.callWith_of hpl (PySem.W.keeps_M (K := X.K) (self := .ref C) c.fi) (evalArgs_kw2_nil hall (thn (hkw.run pos _ s2 σ H1 _ I2 q) fun ws s3 ⟨zs, H2, I3, rz, l2, q2⟩ => ?_))
  refine ⟨⟨pin_at I3, I3.kIn⟩, ?_⟩
  rw [hks]
  have rr : Vals [V.ref C] [Value.ref C] := .cons rfl .nil
  have r2 := hb.rel rr rz
  have z : wpAny (model X.prog X.w) X.A (call (.ref s1.heap.objs.size) [] (ks.zip ws)) (EP X ((s1.heap.objs.size, PySem.W.methodObj (.ref g) (.ref C)) :: pins) σ Q) X.xe s3 := by
    refine wpAny_call (PySem.W.method_call (pin_at I3) (codeAny_mono (F.run X.A X.stack s3 H2 ⟨[.ref C], ks.zip ws⟩ (gg [.ref C] ws) (gV [.ref C] zs) Q E hr I3.env0 (hb.to s3 [.ref C] ws I3.kIn rfl (rz.length.symm.trans l2)) r2 q2) fun r s' hq => ?_))
    cases r with
    | error e => exact hx _ σ H2 s3 e s' I3 hq
    | ok fl =>
      cases fl with
      | ret u => exact I3.after hq
      | next => exact False.elim hq
      | brk => exact False.elim hq
      | cont => exact False.elim hq
  exact thn z fun _ _ y => unpinE y
end
end L2
set_option maxRecDepth 100000
set_option maxHeartbeats 2000000
/-! own classes: __iter__ that gives a tuple's iterator, __len__, __contains__; C(*xs) -/
namespace L2
open PySem PySem.Spec PyProof.Rows
/-! a heap made longer by freed places: nothing else is said of it -/
def hole : Obj := { cls := .none, data := .freed }
def longer (h : Heap) (n : Nat) : Heap := ⟨h.objs ++ Array.replicate (n - h.objs.size) hole, h.life⟩
theorem longer_get (h : Heap) (n : Nat) (b : Addr) : (longer h n).get? b = h.get? b := by
  unfold longer Heap.get?
  by_cases c : b < h.objs.size
  · rw [show (⟨h.objs ++ Array.replicate (n - h.objs.size) hole, h.life⟩ : Heap).objs[b]? = h.objs[b]? from Array.getElem?_append_left c]
  · have c2 : h.objs.size ≤ b := Nat.le_of_not_lt c
    rw [show (⟨h.objs ++ Array.replicate (n - h.objs.size) hole, h.life⟩ : Heap).objs[b]? = (Array.replicate (n - h.objs.size) hole)[b - h.objs.size]? from Array.getElem?_append_right c2]
    rw [Array.getElem?_eq_none (xs := h.objs) c2, Array.getElem?_replicate]
    by_cases c3 : b - h.objs.size < n - h.objs.size
    · rw [if_pos c3]
      rfl
    · rw [if_neg c3]
theorem longer_size {h : Heap} {n : Nat} (l : h.objs.size ≤ n) : (longer h n).objs.size = n := by
  show (h.objs ++ Array.replicate (n - h.objs.size) hole).size = n
  rw [Array.size_append, Array.size_replicate]
  omega
theorem funs_longer {h base : Heap} {n : Nat} : ∀ {l : List Env}, h.FunFrames base l → h.FunFrames (longer base n) l
  | [], _ => trivial
  | _ :: _, ⟨hk, ⟨L, o, hf, hn, ho, hd⟩, hr⟩ => ⟨hk, ⟨L, o, hf, by rw [longer_get]; exact hn, ho, hd⟩, funs_longer hr⟩
section
variable {P : Program} {w : World} {K : PySem.W.Frag} {mg : Str → Option Value} {base : Heap} {A : Around} {outer : List Env} {s : Shared} {H : Hp}
theorem env0_longer (e : Env0 P w K mg base A outer s H) : Env0 P w K mg (longer base s.heap.objs.size) A outer s H := by
  have kp : ∀ b o, base.get? b = some o → (longer base s.heap.objs.size).get? b = some o := fun b o q => by
    rw [longer_get]
    exact q
  obtain ⟨mb, m1, m2⟩ := e.mod.blt
  obtain ⟨mc, n1, n2⟩ := e.mod.nolimit
  exact ⟨e.frames, ⟨e.mod.kin.keeps kp, e.mod.glob.keeps kp, ⟨mb, m1.keeps kp, m2⟩, ⟨mc, n1.keeps kp, n2⟩⟩, fun b o q => e.bs b o (by rw [← longer_get base s.heap.objs.size]; exact q), by rw [longer_size e.bsz]; exact Nat.le_refl _, funs_longer e.funs, e.frf, e.hok, e.bare⟩
end
/-! iter(t) of a tuple -/
/-- at it a fresh iterator over the tuple at t -/
def TiO (t it : Addr) : HO := .ext fun h => h.IsTupleIter it t 0
theorem tiO_ok {P : Program} {w : World} {H : Hp} {h : Heap} {t it : Addr} (e : h.IsTupleIter it t 0) : ObjOk P w H h it (TiO t it) := by
  obtain ⟨o, e1, r⟩ := e
  exact ⟨⟨o, e1, r⟩, ⟨o, e1⟩, fun h1 h2 q k => by
    obtain ⟨o2, f1, f2⟩ := q
    exact ⟨o2, k _ f1, f2⟩⟩
def rIterT (K : PySem.W.Frag) (base : Heap) : List V → Hp → VK → Prop := fun xs H Q => ∃ (t : Addr) (zs : List V), xs = [.ref t] ∧ SqT K H t zs ∧ ∀ it, H it = Option.none → base.objs.size ≤ it → Q (.ref it) (upd H it (TiO t it))
theorem call_iterT {X : Cx} : CallR X (.builtin "iter") (rIterT X.K X.base) := by
  intro pins s σ H xs us Q I r h
  obtain ⟨t, zs, rfl, hq, q⟩ := h
  obtain ⟨u, rfl, ru⟩ := vals1 r
  cases ru
  obtain ⟨its, rv, pl, hz⟩ := I.tuple hq
  refine Calls.call_function_entry (by decide +kernel) (by decide +kernel) PySem.W.kdk_entry_iter (PySem.W.kdk_args_iter _) ?_
  unfold Builtin.«iter»
  refine wpAny_bind (m := someArgs "iter" 1 2 _) (wpAny_of_eq (a := [Value.ref t]) (by first | rfl | kernel_rfl!) ?_)
  show wpAny _ _ (pyIter (.ref t) >>= _) _ _ _
  refine wpAny_bind (wpAny_pyIter_tuple (show s.heap.IsTuple t its.toArray from pl) (wpAny_pure ⟨_, rfl, ?_⟩))
  exact ⟨.ref s.heap.objs.size, _, I.laid (t' := s.toks) (fun b u e => Heap.get?_push_of_some _ e) (Nat.le_refl _) (tiO_ok ⟨_, Heap.get?_push_size _ rfl, rfl, rfl⟩), rfl, q _ (I.hok.fresh (Nat.le_refl _)) I.env0.bsz⟩
section
variable {X : Cx} {CX : CXT} {n : Nat} {C f : Addr} {sp : Sp} {E : XK}
theorem own_codeR {A : Around} {pins : List (Addr × Obj)} {σ : St} {H : Hp} {s : Shared} {vs : List V} {us : List Value} {Q : VK} (F : FnR X.prog X.w X.K X.mg X.base CX n f sp) (hr : Room n A) (fr : A.frames = X.A.frames) (hx : Passes CX X E) (I : Inv X pins σ H s) (rv : Vals vs us)
    (h : sp vs H Q E) : codeAny (model X.prog X.w) A (.call (.ref f) ⟨us, []⟩) (fun r s' => match r with
      | .ok (.ret v) => EP X pins σ Q v s'
      | .ok _ => False
      | .error e => X.xe e s') s := by
  have e1 := I.env0
  have e0 : Env0 X.prog X.w X.K X.mg X.base A X.stack s H := ⟨fr.trans e1.frames, e1.mod, e1.bs, e1.bsz, e1.funs, e1.frf, e1.hok, e1.bare⟩
  refine codeAny_mono (F A X.stack s H us vs Q E hr e0 rv h) fun r s' hq => ?_
  match r, hq with
  | .error e, hq => exact hx pins σ H s e s' I hq
  | .ok (.ret _), hq => exact I.after hq
  | .ok .next, hq => exact hq.elim
  | .ok .brk, hq => exact hq.elim
  | .ok .cont, hq => exact hq.elim
/-! for x in o -/
/-- o.__iter__() hands out an iterator of a tuple; base: how long the heap was -/
def iOwn (K : PySem.W.Frag) (C : Addr) (sp : Heap → Sp) (E : XK) (te : TE) : TI := fun σ H R => te σ H fun y H1 => ∃ (a dx : Addr) (fs : List (Str × V)), y = .ref a ∧ H1 a = some (.ins C dx fs) ∧
  ∀ b : Heap, sp b [.ref a] H1 (fun v H' => ∃ (it t : Addr) (xs : List V), v = .ref it ∧ H1 it = Option.none ∧ b.objs.size ≤ it ∧ H' = upd H1 it (TiO t it) ∧ SqT K H1 t xs ∧ R (Itt K t) H1) E
theorem pi_own {tg e : Expr} {te : TE} (he : PE X e te) (h1 : PySem.W.findIn X.K (.ref C) "__iter__" = some (some (.ref f))) (h2 : PySem.W.isFn X.K (.ref f) = true) {sp : Heap → Sp} (F : ∀ b : Heap, FnR X.prog X.w X.K X.mg b CX n f (sp b)) (hr : Room n X.A) (hx : Passes CX X E) : PI X tg e (iOwn X.K C sp E te) := by
  refine ⟨fun pins s σ H R I h => ?_⟩
  refine thn (he.run pins s σ H _ I h) fun v s1 hh => ?_
  obtain ⟨y, H1, I1, r1, a, dx, fs, ey, ha, q⟩ := hh
  subst ey
  obtain rfl : v = Value.ref a := r1
  obtain ⟨mA, J, _⟩ := ins_get I1.hok ha
  obtain ⟨od, J, _⟩ := J.look
  obtain ⟨m0, hF⟩ := I1.fr
  refine PySem.W.owit_iter hF I1.ok.mod.kin J h1 h2 (wpAny_call ?_)
  have e0 := env0_longer I1.env0
  refine codeAny_mono (F _ X.A X.stack s1 H1 [.ref a] [.ref a] _ E hr e0 (.cons rfl .nil) (q _)) fun r s2 hq => ?_
  match r, hq with
  | .error e, hq => exact hx pins σ H1 s1 e s2 I1 hq
  | .ok .next, hq => exact hq.elim
  | .ok .brk, hq => exact hq.elim
  | .ok .cont, hq => exact hq.elim
  | .ok (.ret u), hq =>
    obtain ⟨v2, H2, I2, r2, it, t, xs, ev, hit, sz, eH, ht, qR⟩ := I1.after hq
    subst ev eH
    obtain rfl : u = Value.ref it := r2
    have x2 : s2.heap.IsTupleIter it t 0 := (I2.hok it _ upd_same).1
    have young : s1.heap.objs.size ≤ it := by
      rw [longer_size I1.env0.bsz] at sz
      exact sz
    have I3 := ItX.inv_drop I2 (φ := fun h => h.IsTupleIter it t 0) upd_same
    rw [ItX.dropH_upd hit] at I3
    unfold PySem.W.OwitIt
    refine wpAny_specialOf (name := Str.ofString "__next__") x2.typeIs PySem.F.slot_tuple_iterator_next.lookup ?_
    refine ⟨it, [it], _, Itt X.K t, H1, rfl, I3, turn_tuple t it, x2, fun b hb => ?_, qR⟩
    rw [List.mem_singleton.mp hb]
    have fo := ItX.inv_fp I2 (a := it) upd_same (Nat.le_trans I1.sz young)
    rw [ItX.dropH_upd hit] at fo
    exact fo
/-! len(o) -/
def rLenI (C : Addr) (sp : Sp) (E : XK) : List V → Hp → VK → Prop := fun xs H Q => ∃ (a dx : Addr) (fs : List (Str × V)), xs = [V.ref a] ∧ H a = some (.ins C dx fs) ∧ sp [V.ref a] H (fun v H' => ∃ i : Int, v = V.int i ∧ 0 ≤ i ∧ i < 2 ^ 63 ∧ Q (V.int i) H') E
theorem call_lenI (F : FnR X.prog X.w X.K X.mg X.base CX n f sp) (hr : Room (n + 1) X.A) (h1 : PySem.W.findIn X.K (.ref C) "__len__" = some (some (.ref f))) (h2 : PySem.W.isFn X.K (.ref f) = true) (hx : Passes CX X E) : CallR X (.builtin "len") (rLenI C sp E) := by
  intro pins s σ H xs us Q I r hq
  obtain ⟨a, dx, fs, rfl, ha, hsp⟩ := hq
  obtain ⟨u, rfl, ru⟩ := vals1 r
  cases ru
  obtain ⟨mA, J, _⟩ := ins_get I.hok ha
  obtain ⟨od, J, _⟩ := J.look
  obtain ⟨m0, hF⟩ := I.fr
  have hr2 : Room n X.A.in1 := ⟨hr.hd, by have := hr.dp; show X.A.depth + 3 * n + 5 < _; omega, by have := hr.un; show X.A.units + 1 + 16 * n + 200 < _; omega⟩
  refine PySem.W.len_K hF I.ok.mod.kin J h1 h2 (wpAny_call (codeAny_mono (own_codeR F hr2 rfl hx I (show Vals [V.ref a] [Value.ref a] from .cons rfl .nil) hsp) fun r s' z => ?_))
  match r, z with
  | .error e, z => exact z
  | .ok .next, z => exact z.elim
  | .ok .brk, z => exact z.elim
  | .ok .cont, z => exact z.elim
  | .ok (.ret u), z =>
    obtain ⟨v, H', I', rz, i, rfl, i0, i1, q⟩ := z
    obtain ⟨t, rfl⟩ := (show ∃ t, u = Value.int i t from rz)
    exact ⟨⟨i0, i1⟩, .int i, H', I'.tok _, ⟨_, rfl⟩, q⟩
/-! x in o -/
def rInI (C : Addr) (sp : Sp) (E : XK) (neg : Bool) : R2 := fun x y H Q => ∃ (a dx : Addr) (fs : List (Str × V)), y = V.ref a ∧ H a = some (.ins C dx fs) ∧ sp [V.ref a, x] H (fun v H' => ∃ b : Bool, v = V.bl b ∧ Q (V.bl (if neg then !b else b)) H') E
theorem op_inI (F : FnR X.prog X.w X.K X.mg X.base CX n f sp) (hr : Room n X.A) (h1 : PySem.W.findIn X.K (.ref C) "__contains__" = some (some (.ref f))) (h2 : PySem.W.isFn X.K (.ref f) = true) (hx : Passes CX X E) : OpR X (compareOp .In) (rInI C sp E false) := by
  intro pins s σ H x y v u Q I rx ry hq
  obtain ⟨a, dx, fs, rfl, ha, hsp⟩ := hq
  obtain rfl : u = Value.ref a := ry
  obtain ⟨mA, J, _⟩ := ins_get I.hok ha
  obtain ⟨od, J, _⟩ := J.look
  obtain ⟨m0, hF⟩ := I.fr
  refine PySem.W.in_K hF I.ok.mod.kin J h1 h2 (wpAny_call (codeAny_mono (own_codeR F hr rfl hx I (show Vals [V.ref a, x] [Value.ref a, v] from .cons rfl (.cons rx .nil)) hsp) fun r s' z => ?_))
  match r, z with
  | .error e, z => exact z
  | .ok .next, z => exact z.elim
  | .ok .brk, z => exact z.elim
  | .ok .cont, z => exact z.elim
  | .ok (.ret u), z =>
    obtain ⟨v, H', I', rz, b, rfl, q⟩ := z
    obtain rfl : u = Value.bool b := rz
    exact wpAny_pure ⟨.bl b, H', I', rfl, q⟩
/-! C(*xs) -/
def tMakeS (K : PySem.W.Frag) (C : Addr) (sp : Sp) (E : XK) (te : TE) : TE := fun σ H Q => te σ H fun y H1 => ∃ (a : Addr) (xs : List V), y = V.ref a ∧ (SqT K H1 a xs ∨ SqL K H1 a xs) ∧
  ∀ x dx, H1 x = Option.none → H1 dx = Option.none → dx ≠ x → sp (V.ref x :: xs) (upd (upd H1 dx (.own x)) x (.ins C dx [])) (fun v H2 => v = .non ∧ Q (.ref x) H2) E
theorem pe_makeS {x : Str} {e : Expr} {te : TE} {p sp_ pos : Pos} (M : Mk X.K C f) (F : FnR X.prog X.w X.K X.mg X.base CX n f sp) (hr : Room (n + 1) X.A) (hg : Gl X x) (hm : X.mg x = some (.ref C)) (hx : Passes CX X E) (he : PE X e te) (hd : (x == ("__debug__" : Str)) = false := by decide)
    (hst : starEach [.Starred e sp_] X.env = [(true, eval e X.env)] := by rfl) : PE X (.Call (.Name x p) [.Starred e sp_] [] pos) (tMakeS X.K C sp E te) := by
  refine ⟨fun pins s σ H Q I h => wpAny_Call_Name_kw (ld_glob I hg hm ?_ hd)⟩
  refine PySem.W.callWith_S (h₀ := X.base) I.ok.mod.kin M.kp (thn (he.run pins s σ H _ I h) fun v s1 hh => ?_) hst
  obtain ⟨y, H1, I1, ry, a, xs, ey, hxs, q⟩ := hh
  subst ey
  obtain rfl : v = Value.ref a := ry
  exact StX.star_any I1 hxs fun us s2 I2 rv => ⟨I2.kIn, StX.run_makeR M F hr hx I2 rv q⟩
/-- cls(*xs), cls a name of the def -/
def tMakeVS (i : Nat) (K : PySem.W.Frag) (C : Addr) (sp : Sp) (E : XK) (te : TE) : TE := fun σ H Q => σ[i]? = some (some (.ref C)) ∧ tMakeS K C sp E te σ H Q
theorem pe_makeVS {x : Str} {e : Expr} {te : TE} {p sp_ pos : Pos} {i : Nat} (M : Mk X.K C f) (F : FnR X.prog X.w X.K X.mg X.base CX n f sp) (hr : Room (n + 1) X.A) (hN : X.N[i]? = some x) (hv : Vis X.env.scope x) (hx : Passes CX X E) (he : PE X e te) (hd : (x == ("__debug__" : Str)) = false := by decide)
    (hcd : (x == ("__classdict__" : Str)) = false := by decide) (hst : starEach [.Starred e sp_] X.env = [(true, eval e X.env)] := by rfl) : PE X (.Call (.Name x p) [.Starred e sp_] [] pos) (tMakeVS i X.K C sp E te) := by
  refine ⟨fun pins s σ H Q I h => ?_⟩
  obtain ⟨hs, h⟩ := h
  refine wpAny_Call_Name_kw (thn ((pe_var (pos := p) (i := i) hN hv hd hcd).run pins s σ H (fun v H1 => v = .ref C ∧ H1 = H) I ⟨.ref C, hs, rfl, rfl⟩) fun u s1 hu => ?_)
  obtain ⟨v, H1, I1, r1, rfl, rfl⟩ := hu
  obtain rfl : u = Value.ref C := r1
  refine PySem.W.callWith_S (h₀ := X.base) I.ok.mod.kin M.kp (thn (he.run pins s1 σ _ _ I1 h) fun v s2 hh => ?_) hst
  obtain ⟨y, H2, I2, ry, a, xs, ey, hxs, q⟩ := hh
  subst ey
  obtain rfl : v = Value.ref a := ry
  exact StX.star_any I2 hxs fun us s3 I3 rv => ⟨I3.kIn, StX.run_makeR M F hr hx I3 rv q⟩
/-- C() -/
def tMakeR0 (C : Addr) (sp : Sp) (E : XK) : TE := fun σ H Q => ∀ x dx, H x = Option.none → H dx = Option.none → dx ≠ x → sp [V.ref x] (upd (upd H dx (.own x)) x (.ins C dx [])) (fun v H2 => v = .non ∧ Q (.ref x) H2) E
theorem pe_makeR0 {x : Str} {p pos : Pos} (M : Mk X.K C f) (F : FnR X.prog X.w X.K X.mg X.base CX n f sp) (hr : Room (n + 1) X.A) (hg : Gl X x) (hm : X.mg x = some (.ref C)) (hx : Passes CX X E) (hd : (x == ("__debug__" : Str)) = false := by decide) : PE X (.Call (.Name x p) [] [] pos) (tMakeR0 C sp E) := by
  refine ⟨fun pins s σ H Q I h => wpAny_Call_Name_kw (ld_glob I hg hm ?_ hd)⟩
  exact PySem.W.callWith_K0 (first := []) I.kIn M.kp (StX.run_makeR (us := []) (vs := []) M F hr hx I .nil h)
end
/-! defs with a star parameter, any number of values -/
theorem bindV_any {fd : FuncData} {pa pv : Str} (h0 : ∀ u, bindArgs fd ⟨[u], []⟩ = (newTuple [] >>= fun t => pure [(pa, u), (pv, t)])) (h1 : ∀ u a, bindArgs fd ⟨[u, a], []⟩ = (newTuple [a] >>= fun t => pure [(pa, u), (pv, t)]))
    (h2 : ∀ u a b r, bindArgs fd ⟨u :: a :: b :: r, []⟩ = (newTuple (a :: b :: r) >>= fun t => pure [(pa, u), (pv, t)])) (m : Nat) : BindV fd pa pv m := fun u rest _ => match rest with
  | [] => h0 u
  | [a] => h1 u a
  | a :: b :: r => h2 u a b r
theorem Fun.okS {P : Program} {w : World} {K : PySem.W.Frag} {mg : Str → Option Value} {base : Heap} {x qual : Str} {st : Stmt} {f : Addr} {fd : FuncData} {N : List Str} {pa pv : Str} {k : Nat} {sp : Sp} (F : Fun K x qual st f fd) (S : FnScope N [pa, pv] (defScope st)) (hb : BindV fd pa pv sizeLine)
    (hbody : ∀ (cdv : Value) (A : Around) (outer : List Env) (s : Shared) (H : Hp) (vs : List V) (Q : VK) (E : XK), Room k (A.deeper (envOfC qual (defScope st) s.heap.objs.size f cdv)) → sp vs H Q E →
      ∃ t, PSs (cxOf (L2.CX P w) P w K mg base N qual (defScope st) f cdv A outer s H E) (defBody st) t ∧ t { nx := fun _ H' => Q .non H', rt := Q } (start N vs) H) :
    FnR P w K mg base (L2.CX P w) (k + 1) f (fun vs H Q E => ∃ v rest, vs = v :: rest ∧ rest.length ≤ sizeLine ∧ ∀ p, H p = none → sp [v, .ref p] (upd H p (.tup rest)) Q E) := by
  obtain ⟨oc, od, kV, doc, pm, an, cdv, ct, osl, rfl, lk, hcd⟩ := F.ex
  exact fn_ofV lk hcd S (Nat.le_refl _) hb cxNew fun A outer s H vs Q E hr hsp => hbody cdv A outer s H vs Q E hr hsp
/-- what the top has written of a class's methods -/
def methB (K : PySem.W.Frag) (C : Addr) (m : Str) : Bool := He.eqO (PySem.W.findIn K (.ref C) m) (some (some (.ref (He.ma K C m)))) && PySem.W.isFn K (.ref (He.ma K C m))
theorem meth_of {K : PySem.W.Frag} {C : Addr} {m : Str} (h : methB K C m = true) : PySem.W.findIn K (.ref C) m = some (some (.ref (He.ma K C m))) ∧ PySem.W.isFn K (.ref (He.ma K C m)) = true := by
  obtain ⟨h1, h2⟩ := He.ba h
  exact ⟨He.eqO_ok h1, h2⟩
end L2
set_option maxRecDepth 100000
set_option maxHeartbeats 4000000
/-! set(xs) of a list of ints, sorted(set(xs)) -/
namespace L2
open PySem PySem.Spec PyProof.Rows
/-! the ascending list of a list's ints -/
def insU (k : Int) : List Int → List Int
  | [] => [k]
  | y :: r => if k < y then k :: y :: r else if k = y then y :: r else y :: insU k r
def sortU : List Int → List Int
  | [] => []
  | k :: r => insU k (sortU r)
theorem mem_insU {k x : Int} : ∀ {l : List Int}, x ∈ insU k l ↔ x = k ∨ x ∈ l
  | [] => by simp [insU]
  | y :: r => by
    have ih := mem_insU (k := k) (x := x) (l := r)
    unfold insU
    split
    · simp
    · split
      · rename_i h1 h2
        subst h2
        simp
      · simp only [List.mem_cons, ih]
        constructor
        · rintro (h | h | h)
          · exact .inr (.inl h)
          · exact .inl h
          · exact .inr (.inr h)
        · rintro (h | h | h)
          · exact .inr (.inl h)
          · exact .inl h
          · exact .inr (.inr h)
theorem mem_sortU {x : Int} : ∀ {l : List Int}, x ∈ sortU l ↔ x ∈ l
  | [] => Iff.rfl
  | k :: r => by
    show x ∈ insU k (sortU r) ↔ _
    rw [mem_insU, mem_sortU, List.mem_cons]
theorem insU_asc {k : Int} : ∀ {l : List Int}, l.Pairwise (· < ·) → (insU k l).Pairwise (· < ·)
  | [], _ => by simp [insU]
  | y :: r, h => by
    obtain ⟨h1, h2⟩ := List.pairwise_cons.mp h
    unfold insU
    split
    · rename_i c
      refine List.pairwise_cons.mpr ⟨fun z hz => ?_, h⟩
      rcases List.mem_cons.mp hz with rfl | hz
      · exact c
      · exact Int.lt_trans c (h1 z hz)
    · split
      · exact h
      · refine List.pairwise_cons.mpr ⟨fun z hz => ?_, insU_asc h2⟩
        rcases mem_insU.mp hz with rfl | hz
        · omega
        · exact h1 z hz
theorem sortU_asc : ∀ (l : List Int), (sortU l).Pairwise (· < ·)
  | [] => .nil
  | _ :: r => insU_asc (sortU_asc r)
/-- two ascending lists of the same ints are one -/
theorem asc_ext : ∀ {a b : List Int}, a.Pairwise (· < ·) → b.Pairwise (· < ·) → (∀ x, x ∈ a ↔ x ∈ b) → a = b
  | [], [], _, _, _ => rfl
  | [], y :: r, _, _, h => absurd ((h y).mpr List.mem_cons_self) (by simp)
  | x :: r, [], _, _, h => absurd ((h x).mp List.mem_cons_self) (by simp)
  | x :: r, y :: t, ha, hb, h => by
    obtain ⟨a1, a2⟩ := List.pairwise_cons.mp ha
    obtain ⟨b1, b2⟩ := List.pairwise_cons.mp hb
    have e : x = y := by
      rcases List.mem_cons.mp ((h x).mp List.mem_cons_self) with q | q
      · exact q
      · rcases List.mem_cons.mp ((h y).mpr List.mem_cons_self) with p | p
        · exact p.symm
        · have := a1 y p
          have := b1 x q
          omega
    subst e
    refine congrArg (x :: ·) (asc_ext a2 b2 fun z => ⟨fun hz => ?_, fun hz => ?_⟩)
    · rcases List.mem_cons.mp ((h z).mp (List.mem_cons_of_mem _ hz)) with q | q
      · have := a1 z hz
        omega
      · exact q
    · rcases List.mem_cons.mp ((h z).mpr (List.mem_cons_of_mem _ hz)) with q | q
      · have := b1 z hz
        omega
      · exact q
theorem sortU_id {l : List Int} (h : l.Pairwise (· < ·)) : sortU l = l := asc_ext (sortU_asc l) h fun _ => mem_sortU
theorem insU_len (k : Int) : ∀ (l : List Int), (insU k l).length ≤ l.length + 1
  | [] => Nat.le_refl _
  | y :: r => by
    have := insU_len k r
    unfold insU
    split
    · simp
    · split
      · simp
      · simp only [List.length_cons]
        omega
theorem sortU_len : ∀ (l : List Int), (sortU l).length ≤ l.length
  | [] => Nat.le_refl _
  | k :: r => by
    have h1 := insU_len k (sortU r)
    have h2 := sortU_len r
    show (insU k (sortU r)).length ≤ r.length + 1
    omega
theorem sortU_ne {l : List Int} (h : l ≠ []) : sortU l ≠ [] := fun z => by
  cases l with
  | nil => exact h rfl
  | cons x r =>
    have m : x ∈ sortU (x :: r) := mem_sortU.mpr List.mem_cons_self
    rw [z] at m
    cases m
theorem asc_nodup {l : List Int} (h : l.Pairwise (· < ·)) : l.Nodup := h.imp fun {a b} z e => by
  rw [e] at z
  exact absurd z (Int.lt_irrefl _)
theorem len_of_same {a b : List Int} (ha : a.Nodup) (hb : b.Nodup) (h : ∀ x, x ∈ a ↔ x ∈ b) : a.length = b.length :=
  ((List.perm_ext_iff_of_nodup ha hb).mpr h).length_eq
section
variable {P : Program} {w : World} {A : Around} {E : Value → Shared → Prop} {s : Shared}
/-- a set just made -/
abbrev emptyS (w : World) : Obj := { cls := .type "set", dict := none, data := .set #[] 0 (.fresh 0 0 (!w.params.followText "set-order")) }
/-- what has become of the state: the set of ns stands at a -/
def SetDone (w : World) (s : Shared) (ns : List Int) (u : Shared) : Prop := ∃ (g : Heap) (tk c : Nat), u = { s with heap := g, toks := tk } ∧ SetR w g s.heap.objs.size (fun j => decide (j ∈ ns)) c ∧ (∀ b o, s.heap.get? b = some o → g.get? b = some o)
set_option maxRecDepth 100000 in
theorem call_set_ints {l : Addr} {xs : Array Value} (ns : List Int) {Q : Value → Shared → Prop} (free : A.handled = none) (isl : s.heap.IsList l xs) (are : IntsAre xs.toList ns) (few : ns.length + 1 < scanBound)
    (h : ∀ u, SetDone w s ns u → Q (.ref s.heap.objs.size) u) : wpAny (model P w) A (call (.type "set") [.ref l]) Q E s := by
  have size : xs.size = ns.length := (Array.length_toList (xs := xs)).symm.trans are.length
  obtain ⟨mc, mt, em⟩ := F.called_set.mro
  have e1 := F.called_set.made
  have e2 := F.called_set.sub
  have e3 := F.called_set.notType
  have e4 := F.called_set.canCreate
  have e5 := F.typeCall_set_1 (.ref l)
  refine wpAny_call (codeAny_of_tree (show wpAny _ _ (callAny (.type "set") _) _ _ _ from wpAny_pure ⟨Code.quiet_builtin _ (by decide +kernel), codeAny_builtin F.entry_type_call ?_⟩))
  rw [Around.under_plain (weight_type_call_type "set" [.ref l] []) rfl]
  repeat (any_goals (first | assumption | wp_step))
  refine codeAny_mono (code_set_led1 (.ref l) (E := E) (Q₁ := fun y u => y = .ref s.heap.objs.size ∧ u = { s with heap := s.heap.push (emptyS w) }) ⟨rfl, rfl⟩) fun r u hr => ?_
  match r, hr with
  | .error e, hr => exact hr
  | .ok .next, hr => exact hr.elim
  | .ok .brk, hr => exact hr.elim
  | .ok .cont, hr => exact hr.elim
  | .ok (.ret y), ⟨ey, eu⟩ =>
    subst ey eu
    have got : (s.heap.push (emptyS w)).get? s.heap.objs.size = some (emptyS w) := Heap.get?_push_size _ rfl
    have isS : Shared.TypeIs { s with heap := s.heap.push (emptyS w) } (.ref s.heap.objs.size) "set" := ⟨_, got, rfl⟩
    have e6 := F.called_set.init.lookup
    have e7 := F.called_set.init.bind (.ref s.heap.objs.size)
    repeat (any_goals (first | assumption | wp_step))
    refine codeAny_mono (codeAny_call_builtin (R := wants (fun r2 u2 => r2 = .none ∧ SetDone w s ns u2) E) F.called_set.init.plain F.entry_set_init (check_set_init_1 isS ?_)) fun r2 u2 hr2 => ?_
    · obtain ⟨⟨oc, od, odt, osl⟩, olk, ocl, on, oda⟩ := isl
      simp only at ocl oda
      subst ocl oda
      have olk1 : (s.heap.push (emptyS w)).get? l = some { cls := .type "list", dict := od, data := .seq xs on, slots := osl } := Heap.get?_push_of_some _ olk
      have f1 := F.sub_list_set
      have f2 := F.sub_list_frozenset
      have f3 : (Value.type "list" == Value.type "dict") = false := by decide
      have isl1 : (s.heap.push (emptyS w)).IsList l xs := ⟨_, olk1, rfl, on, rfl⟩
      have ls : l < s.heap.objs.size := Heap.lt_size olk
      have ls1 : l ≠ (s.heap.push (emptyS w)).objs.size := by
        rw [Heap.size_push]
        exact Nat.ne_of_lt (Nat.lt_succ_of_lt ls)
      have ss1 : s.heap.objs.size ∉ [(s.heap.push (emptyS w)).objs.size, l] := by
        rw [Heap.size_push]
        intro z
        rcases List.mem_cons.mp z with z | z
        · exact absurd z (Nat.ne_of_lt (Nat.lt_succ_self _))
        · exact absurd (List.mem_singleton.mp z) (Nat.ne_of_gt ls)
      unfold Builtin.«set.__init__» noKeywords Builtin.Frozenset.updateFrom
      generalize ePI : pyIter = PI0
      wp_walk
      subst ePI
      refine wpAny_pyIter_list isl1 (wpAny_bind (wpAny_runValue ?_))
      have free3 : A.in1.in1.in1.handled = none := by simp [free]
      refine set_update_ints ((Walks.list free3 _ l ls1 xs).toS) s.heap.objs.size ss1 ns size few (fun i v hv => ?_) (xs.size - 0) 0 _ (by omega) (Nat.zero_le _) ⟨⟨_, Heap.get?_push_size _ rfl, rfl, rfl⟩, isl1.push _⟩ ⟨0, Nat.le_refl 0, setR_new_at (Heap.get?_push_of_some _ got)⟩ fun u3 c hm hc hS => ?_
      · have hi : i < ns.length := by
          rw [← size]
          exact (Array.getElem?_eq_some_iff.mp hv).1
        obtain ⟨t, e⟩ := PyProof.Rows.IntsAre.int_at are i v (by rw [Array.getElem?_toList]; exact hv)
        refine ⟨ns[i], t, List.getElem?_eq_getElem hi, e.trans ?_⟩
        rw [List.getD_eq_getElem?_getD, List.getElem?_eq_getElem hi]
        rfl
      · obtain ⟨h3, g3, d3, t3, o3⟩ := u3
        have q1 : g3 = s.gens := hm.gens
        have q2 : d3 = s.drawn := hm.drawn
        have q3 : o3 = s.os := hm.os
        subst q1 q2 q3
        show wpAny _ _ _ _ _ _
        refine wpAny_pure ?_
        show wpAny _ _ (ret Value.none) _ _ _
        refine wpAny_pure ⟨rfl, h3, t3, c, rfl, hS, fun b o e => ?_⟩
        have hb : b < s.heap.objs.size := Heap.lt_size e
        refine hm.heap b o (fun z => ?_) (Heap.get?_push_of_some _ (Heap.get?_push_of_some _ e))
        rcases List.mem_cons.mp z with z | z
        · exact absurd z (Nat.ne_of_lt hb)
        · have y := List.mem_singleton.mp z
          rw [Heap.size_push] at y
          exact absurd y (Nat.ne_of_lt (Nat.lt_succ_of_lt hb))
    · match r2, hr2 with
      | .error e, hr2 => exact hr2
      | .ok .next, hr2 => exact hr2.elim
      | .ok .brk, hr2 => exact hr2.elim
      | .ok .cont, hr2 => exact hr2.elim
      | .ok (.ret y2), ⟨e8, done⟩ =>
        subst e8
        repeat (any_goals (first | assumption | wp_step))
        exact h _ done
end
section
variable {X : Cx}
/-- set(xs) -/
def rSetInts (K : PySem.W.Frag) (w : World) : List V → Hp → VK → Prop := fun xs H Q => ∃ (l : Addr) (ns : List Int), xs = [V.ref l] ∧ SqL K H l (ns.map V.int) ∧ ns.length ≤ 4000 ∧
  ∀ p, H p = none → Q (.ref p) (upd H p (SetO w p (fun j => decide (j ∈ ns)) (sortU ns).length))
theorem cr_setInts (hc : X.calm = true) : CallR X (.type "set") (rSetInts X.K X.w) := by
  intro pins s σ H xs us Q I r h
  obtain ⟨l, ns, rfl, hq, hl, q⟩ := h
  obtain ⟨u, rfl, ru⟩ := vals1 r
  cases ru
  obtain ⟨its, rv, pl, hz⟩ := I.list hq
  refine call_set_ints ns (I.ok.hd hc) pl.isList (by simpa using ints_of_vals rv) (by unfold scanBound; omega) fun u hu => ?_
  obtain ⟨g, tk, c, rfl, R, kp⟩ := hu
  have ec : c = (sortU ns).length := by
    obtain ⟨o, es, ep, t, ho, hex, hd, gd, nd, hm, hb, hf, hn, hr, hl2⟩ := R
    rw [← hn, ← Array.length_toList (xs := es), ← List.length_map (f := keyOf)]
    exact len_of_same nd (asc_nodup (sortU_asc ns)) fun x => by rw [mem_sortU, ← hm x, decide_eq_true_eq]
  rw [ec] at R
  exact ⟨.ref s.heap.objs.size, _, I.laid (t' := tk) kp (Nat.le_refl _) (setO_new R), rfl, q _ (I.hok.fresh (Nat.le_refl _))⟩
/-- sorted(set(xs)) -/
def rSortS (w : World) : List V → Hp → VK → Prop := fun vs H Q => ∃ (a : Addr) (ns : List Int), vs = [V.ref a] ∧ H a = some (SetO w a (fun j => decide (j ∈ ns)) (sortU ns).length) ∧ (sortU ns).length < 64 ∧
  ∀ p, H p = none → Q (.ref p) (upd H p (.lst ((sortU ns).map V.int)))
theorem cr_sortS (hc : X.calm = true) : CallR X (.builtin "sorted") (rSortS X.w) := fun pins s σ H xs us Q I r h => by
  obtain ⟨a, ns, e1, e2, e3, q⟩ := h
  refine cr_sortedSet hc pins s σ H xs us Q I r ⟨a, _, _, e1, e2, e3, fun ms p asc mem _ hp => ?_⟩
  have e : ms = sortU ns := asc_ext asc (sortU_asc ns) fun x => by rw [mem x, mem_sortU, decide_eq_true_eq]
  rw [e]
  exact q p hp
end
end L2
set_option maxRecDepth 100000
/-! numbers written in words -/
namespace L2
open PySem PySem.NumText TL
def numT (n : Nat) : Str := Str.ofString (toString ((n : Nat) : Int))
theorem tl_numT (n : Nat) : tl (numT n) = numL n := tl_num n
theorem str_ext {a b : Str} (h : tl a = tl b) : a = b := by
  cases a with
  | mk x =>
    cases b with
    | mk y =>
      have e : x.toList = y.toList := h
      rw [show x = y from Array.toList_inj.mp e]
theorem numT_inj {m n : Nat} (h : numT m = numT n) : m = n := numL_inj (by rw [← tl_numT, ← tl_numT, h])
def valT (w : Str) : Nat := digitsVal (tl w)
theorem valT_num (n : Nat) : valT (numT n) = n := by
  unfold valT
  rw [tl_numT]
  exact numL_val n
theorem numL_mono : ∀ (m n : Nat), n ≤ m → (numL n).length ≤ (numL m).length := by
  intro m
  induction m using Nat.strongRecOn with
  | _ m ih =>
    intro n h
    by_cases hn : n < 10
    · rw [numL_lt hn]
      show 1 ≤ _
      exact List.length_pos_iff.mpr (numL_ne m)
    · rw [numL_step (n := n) (by omega), numL_step (n := m) (by omega), List.length_append, List.length_append]
      have := ih (m / 10) (by omega) (n / 10) (Nat.div_le_div_right h)
      simp only [List.length_singleton]
      omega
/-- the number that a word tells, no greater than most -/
def numW (most : Nat) (w : Str) : Option Nat := if numT (valT w) = w ∧ valT w ≤ most then some (valT w) else none
theorem numW_eq {most n : Nat} {w : Str} : numW most w = some n ↔ w = numT n ∧ n ≤ most := by
  unfold numW
  by_cases c : numT (valT w) = w ∧ valT w ≤ most
  · rw [if_pos c]
    constructor
    · intro h
      have e := Option.some.inj h
      rw [← e]
      exact ⟨c.1.symm, c.2⟩
    · rintro ⟨h, _⟩
      rw [h, valT_num]
  · rw [if_neg c]
    constructor
    · intro h
      cases h
    · rintro ⟨h, l⟩
      exact absurd (by rw [h, valT_num]; exact ⟨rfl, l⟩) c
theorem numW_num {most n : Nat} (h : n ≤ most) : numW most (numT n) = some n := numW_eq.mpr ⟨rfl, h⟩
theorem numW_none {most : Nat} {w : Str} (h : ∀ n, n ≤ most → w ≠ numT n) : numW most w = none := by
  cases e : numW most w with
  | none => rfl
  | some n => exact absurd (numW_eq.mp e).1 (h n (numW_eq.mp e).2)
def digB (w : Str) : Bool := (tl w).all fun c => decide (48 ≤ c ∧ c ≤ 57)
theorem digB_num (n : Nat) : digB (numT n) = true := by
  unfold digB
  rw [tl_numT]
  exact List.all_eq_true.mpr fun c hc => decide_eq_true (numL_digits n c hc)
theorem len_numT (n : Nat) : (numT n).length = (numL n).length := by
  rw [len_tl, tl_numT]
theorem pos_numT (n : Nat) : 1 ≤ (numT n).length := by
  rw [len_numT]
  exact List.length_pos_iff.mpr (numL_ne n)
theorem int_dig {w : Str} (h : digB w = true) (h1 : 1 ≤ w.length) (h2 : w.length ≤ 4300) : intText? w = some ((valT w : Nat) : Int) := by
  refine intText_digits (fun c hc => of_decide_eq_true (List.all_eq_true.mp h c hc)) (fun z => ?_) h2
  rw [len_tl, show tl w = [] from z] at h1
  exact absurd h1 (by decide)
theorem dig_in (c : Nat) : decide (c ∈ ("0123456789" : Str).cps.toList) = decide (48 ≤ c ∧ c ≤ 57) := by
  have e : ("0123456789" : Str).cps.toList = [48, 49, 50, 51, 52, 53, 54, 55, 56, 57] := by decide +kernel
  rw [e]
  by_cases h : 48 ≤ c ∧ c ≤ 57
  · rw [decide_eq_true h]
    have : c = 48 ∨ c = 49 ∨ c = 50 ∨ c = 51 ∨ c = 52 ∨ c = 53 ∨ c = 54 ∨ c = 55 ∨ c = 56 ∨ c = 57 := by omega
    rcases this with rfl | rfl | rfl | rfl | rfl | rfl | rfl | rfl | rfl | rfl <;> decide
  · rw [decide_eq_false h]
    refine decide_eq_false fun m => h ?_
    simp only [List.mem_cons, List.not_mem_nil, or_false] at m
    omega
theorem valT_lt {w : Str} (h : digB w = true) : valT w < 10 ^ w.length := by
  have key : ∀ (cs : List Nat) (a : Nat), (∀ c ∈ cs, 48 ≤ c ∧ c ≤ 57) → cs.foldl (fun acc c => acc * 10 + (c - 48)) a < (a + 1) * 10 ^ cs.length := by
    intro cs
    induction cs with
    | nil => intro a _; simp
    | cons c r ih =>
      intro a hh
      have hc := hh c List.mem_cons_self
      have q := ih (a * 10 + (c - 48)) fun d hd => hh d (List.mem_cons_of_mem _ hd)
      rw [List.foldl_cons]
      refine Nat.lt_of_lt_of_le q ?_
      rw [List.length_cons, Nat.pow_succ, Nat.mul_comm (10 ^ r.length) 10, ← Nat.mul_assoc]
      exact Nat.mul_le_mul_right _ (by omega)
  have z := key (tl w) 0 fun c hc => of_decide_eq_true (List.all_eq_true.mp h c hc)
  rw [len_tl]
  simpa [valT, digitsVal] using z
end L2
set_option maxRecDepth 100000
set_option maxHeartbeats 4000000
namespace L2
open PySem PySem.Spec PyProof.Rows
/-! a tuple taken no times -/
theorem tuple_mul_none (l : Addr) (its : Array Value) (n : Nat) (dd : Option Addr) (sl : Array (Option Value)) (u : Tok) (ne : its.isEmpty = false) :
    Meets (Builtin.«tuple.__mul__» ⟨[.ref l, .int 0 u], []⟩) (fun _ R s => s.heap.get? l = some { cls := .type "tuple", dict := dd, data := .seq its n, slots := sl } ∧
      R (.ok (.ret (Value.ref s.heap.objs.size))) { s with heap := s.heap.push { cls := Value.type "tuple", data := Data.seq #[] }, toks := s.toks }) :=
  .of_wp fun prog w A R s h => by
    obtain ⟨hp, g, d, tk, os⟩ := s
    obtain ⟨hl, h⟩ := h
    have f1 := AutoSeq1.idx_int
    have c0 : (decide ((0 : Int) < -(2 ^ 63)) || decide ((0 : Int) ≥ 2 ^ 63)) = false := by decide
    have c1 : (its.isEmpty || (0 : Int) == 1) = false := by rw [ne]; rfl
    have c2 : (decide ((0 : Int) ≤ 0) || its.isEmpty) = true := by simp
    wp_walk using wpAny_loadPart' hl
    repeat (first
      | (refine wpAny_ite_false (decide_eq_false (by rw [c0]; exact Bool.false_ne_true)) ?_; wp_walk using wpAny_loadPart' hl)
      | (refine wpAny_ite_false (decide_eq_false (by rw [c1]; exact Bool.false_ne_true)) ?_; wp_walk using wpAny_loadPart' hl)
      | (refine wpAny_ite_true (decide_eq_true c2) ?_; wp_walk using wpAny_loadPart' hl))
    exact ⟨_, rfl, h⟩
def rRep0 (K : PySem.W.Frag) : R2 := fun x y H Q => ∃ l xs, x = .ref l ∧ y = .int 0 ∧ SqT K H l xs ∧ xs ≠ [] ∧ ∀ p, H p = none → Q (.ref p) (upd H p (.tup []))
theorem op_rep0 {X : Cx} : OpR X (binaryOp .Mult) (rRep0 X.K) := by
  intro pins s σ H x y v u Q I rx ry h
  obtain ⟨l, xs, rfl, rfl, hT, ne, q⟩ := h
  cases rx
  obtain ⟨t, rfl⟩ := ry
  obtain ⟨its, r, ⟨⟨cls, dd, data, sl⟩, ho, hc, n, hd⟩, hs⟩ := I.tuple hT
  simp only at hc hd
  subst hc hd
  have hi : its.toArray.isEmpty = false := by
    cases r with
    | nil => exact absurd rfl ne
    | cons a b => rfl
  exact wpAny_binaryOp_repeat_ref (T := "tuple") (U := "int") (by decide) ⟨_, ho, rfl⟩ (fun s' => typeIs_int s' 0 t) noFill_tuple_mul F.fills_int_mul F.slot_int_rmul repeat_tuple F.slot_int_index.lookup
    (call_meets F.slot_int_rmul (typeIs_int s 0 t) F.entry_int_rmul (F.args_int_rmul_2 _ _) (int_rmul_tuple 0 t l its.toArray n dd sl)
      ⟨ho, rfl, ⟨_, ho, rfl⟩, call_meets F.slot_tuple_mul ⟨_, ho, rfl⟩ F.entry_tuple_mul (F.args_tuple_mul_2 _ _) (tuple_mul_none l its.toArray n dd sl t hi)
        ⟨ho, .ref s.heap.objs.size, _, I.laid (t' := s.toks) (o := .tup []) (fun b ob q => Heap.get?_push_of_some _ q) (Nat.le_refl _) (show ObjOk X.prog X.w _ _ _ (.tup []) from ⟨Nat.zero_le _, [], .nil, IsTup.new _ _⟩), rfl, q _ (I.hok.fresh (Nat.le_refl _))⟩⟩)
/-- t * k, also for no times -/
def rRepZ : R2 := fun x y H Q => ∃ (a : Addr) (k : Nat) (xs : List V), x = .ref a ∧ y = .int (k : Int) ∧ H a = some (.tup xs) ∧ xs ≠ [] ∧ k ≤ 1000 ∧ xs.length ≤ 1000 ∧ ∀ p H', Same H H' → H' p = some (.tup (List.replicate k xs).flatten) → Q (.ref p) H'
theorem op_repZ {X : Cx} : OpR X (binaryOp .Mult) rRepZ := by
  intro pins s σ H x y v u Q I rx ry h
  obtain ⟨a, k, xs, rfl, rfl, h, ne, h1, h2, q⟩ := h
  by_cases hk : k = 0
  · subst hk
    exact op_rep0 pins s σ H _ _ v u Q I rx ry ⟨a, xs, rfl, rfl, SqT.of h, ne, fun p hp => q p _ (Same.lay hp) upd_same⟩
  · exact op_repP pins s σ H _ _ v u Q I rx ry ⟨a, (k : Int), xs, rfl, rfl, h, ne, by omega, by omega, h2, fun p H' s' e => q p H' s' (by rw [show ((k : Int)).toNat = k from Int.toNat_natCast k] at e; exact e)⟩
end L2
set_option maxRecDepth 100000
namespace L2
open PySem PySem.Spec PyProof.Rows
/-- e.f, its reading by name of the written part (for a comprehension's block) -/
theorem pe_fldK {X : Cx} {K : PySem.W.Frag} {e : Expr} {f : Str} {pos : Pos} {ta : TE} (he : PE X e ta) (hK : X.K = K := by rfl) (hb : attributeBase e f X.env (eval e X.env) = eval e X.env := by rfl) : PE X (.Attribute e f pos) (tFld K ta f) := by
  subst hK
  exact pe_fld he hb
end L2
set_option maxRecDepth 100000
/-! z * n of a text; lists of texts of which something holds -/
namespace L2
open PySem PySem.Spec PyProof.Rows TL
def rMulS : R2 := fun x y H Q => ∃ (z : Str) (n : Int), x = .str z ∧ y = .int n ∧ MulOk z n ∧ Q (.str (Txt.mul z n)) H
theorem op_mulS {X : Cx} : OpR X (binaryOp .Mult) rMulS := by
  intro pins s σ H x y v u Q I rx ry h
  obtain ⟨z, n, rfl, rfl, ok, q⟩ := h
  obtain ⟨t, rfl⟩ := rx
  obtain ⟨t2, rfl⟩ := ry
  exact SB.mul ok fun t' k => ⟨.str (Txt.mul z n), H, I.tok _, ⟨t', rfl⟩, q⟩
/-- texts, of each of which P holds -/
def Sts (P : Str → Prop) (xs : List V) : Prop := ∀ x ∈ xs, ∃ y : Str, x = .str y ∧ P y
theorem Sts.nil {P : Str → Prop} : Sts P [] := fun _ z => nomatch z
theorem Sts.one {P : Str → Prop} {y : Str} (h : P y) : Sts P [.str y] := fun x hx => ⟨y, List.mem_singleton.mp hx, h⟩
theorem Sts.cons {P : Str → Prop} {y : Str} {xs : List V} (h : P y) (r : Sts P xs) : Sts P (.str y :: xs) := fun x hx => by
  rcases List.mem_cons.mp hx with e | hx
  · exact ⟨y, e, h⟩
  · exact r x hx
theorem Sts.append {P : Str → Prop} {xs ys : List V} (h : Sts P xs) (k : Sts P ys) : Sts P (xs ++ ys) := fun x hx => (List.mem_append.mp hx).elim (h x) (k x)
theorem Sts.reverse {P : Str → Prop} {xs : List V} (h : Sts P xs) : Sts P xs.reverse := fun x hx => h x (List.mem_reverse.mp hx)
theorem Sts.of {P : Str → Prop} {ws : List Str} (h : ∀ w ∈ ws, P w) : Sts P (ws.map V.str) := fun x hx => by
  obtain ⟨w, hw, rfl⟩ := List.mem_map.mp hx
  exact ⟨w, rfl, h w hw⟩
theorem mem_cutV {xs : List V} {lo hi : Option Int} {x : V} (h : x ∈ cutV xs lo hi) : x ∈ xs := List.mem_of_mem_drop (List.mem_of_mem_take h)
theorem len_cutV (xs : List V) (lo hi : Option Int) : (cutV xs lo hi).length ≤ xs.length := by
  unfold cutV
  rw [List.length_take, List.length_drop]
  omega
theorem Sts.cut {P : Str → Prop} {xs : List V} {lo hi : Option Int} (h : Sts P xs) : Sts P (cutV xs lo hi) := fun x hx => h x (mem_cutV hx)
theorem Sts.texts {P : Str → Prop} : ∀ {xs : List V}, Sts P xs → ∃ ws : List Str, xs = ws.map V.str ∧ ∀ w ∈ ws, P w
  | [], _ => ⟨[], rfl, fun _ z => nomatch z⟩
  | x :: r, h => by
    obtain ⟨y, rfl, hy⟩ := h x List.mem_cons_self
    obtain ⟨ws, e, hw⟩ := Sts.texts fun z hz => h z (List.mem_cons_of_mem _ hz)
    refine ⟨y :: ws, by rw [e]; rfl, fun w m => ?_⟩
    rcases List.mem_cons.mp m with rfl | m
    · exact hy
    · exact hw w m
end L2
set_option maxRecDepth 100000
/-! texts that are bent: their lengths and signs, by their words -/
namespace L2
open PySem PySem.Spec PyProof.Rows TL
/-- all signs are signs -/
def ChOk (w : Str) : Prop := ∀ c ∈ tl w, c < 1114112
theorem ch_mem_joinL {S : List Nat} : ∀ {ps : List (List Nat)} {c : Nat}, c ∈ joinL S ps → c ∈ S ∨ ∃ p ∈ ps, c ∈ p
  | [], c, h => nomatch h
  | [q], c, h => .inr ⟨q, List.mem_singleton.mpr rfl, h⟩
  | q :: r :: t, c, h => by
    have h' : c ∈ q ++ (S ++ joinL S (r :: t)) := h
    rcases List.mem_append.mp h' with h1 | h1
    · exact .inr ⟨q, List.mem_cons_self, h1⟩
    · rcases List.mem_append.mp h1 with h2 | h2
      · exact .inl h2
      · rcases ch_mem_joinL h2 with h3 | ⟨p, hp, hc⟩
        · exact .inl h3
        · exact .inr ⟨p, List.mem_cons_of_mem _ hp, hc⟩
theorem ch_mem_of {S : List Nat} : ∀ {ps : List (List Nat)} {p : List Nat} {c : Nat}, p ∈ ps → c ∈ p → c ∈ joinL S ps
  | [q], p, c, hp, hc => by
    rw [List.mem_singleton.mp hp] at hc
    exact hc
  | q :: r :: t, p, c, hp, hc => by
    show c ∈ q ++ (S ++ joinL S (r :: t))
    rcases List.mem_cons.mp hp with rfl | hp
    · exact List.mem_append_left _ hc
    · exact List.mem_append_right _ (List.mem_append_right _ (ch_mem_of hp hc))
theorem ch_join {sep : Str} {ws : List Str} (hs : ChOk sep) (h : ∀ w ∈ ws, ChOk w) : ChOk (Txt.join sep ws) := fun c hc => by
  rw [TL.join_eq, TL.tl_join] at hc
  rcases ch_mem_joinL hc with h1 | ⟨p, hp, h2⟩
  · exact hs c h1
  · obtain ⟨w, hw, rfl⟩ := List.mem_map.mp hp
    exact h w hw c h2
theorem txt_join_split (a sep : Str) : Txt.join sep (Txt.split a sep) = a := by
  rw [TL.join_eq]
  exact StrLaws.join_split a sep
theorem ch_split {a sep : Str} (h : ChOk a) : ∀ w ∈ Txt.split a sep, ChOk w := fun w hw c hc => h c (by
  have e := txt_join_split a sep
  rw [TL.join_eq] at e
  have e2 := congrArg tl e
  rw [TL.tl_join] at e2
  rw [← e2]
  exact ch_mem_of (List.mem_map.mpr ⟨w, hw, rfl⟩) hc)
theorem ch_app {x y : Str} (hx : ChOk x) (hy : ChOk y) : ChOk (x ++ y) := fun c hc => by
  have e : tl (x ++ y) = tl x ++ tl y := by
    show (x ++ y).cps.toList = x.cps.toList ++ y.cps.toList
    rw [PySem.Str.cps_append, Array.toList_append]
  rw [e] at hc
  exact (List.mem_append.mp hc).elim (hx c) (hy c)
def chB (w : Str) : Bool := (tl w).all fun c => decide (c < 1114112)
theorem ch_of {w : Str} (h : chB w = true) : ChOk w := fun c hc => of_decide_eq_true (List.all_eq_true.mp h c hc)
/-- the signs of lines, one behind each -/
def wt (ws : List Str) : Nat := (ws.map fun w => w.length + 1).sum
theorem wt_nil : wt [] = 0 := rfl
theorem wt_one (w : Str) : wt [w] = w.length + 1 := by simp [wt]
theorem wt_app (a b : List Str) : wt (a ++ b) = wt a + wt b := by simp [wt]
theorem wt_cut (a : List Str) (n : Nat) : wt (a.take n) + wt (a.drop n) = wt a := by rw [← wt_app, List.take_append_drop]
theorem wt_drop (a : List Str) (n : Nat) : wt (a.drop n) ≤ wt a := by
  have := wt_cut a n
  omega
theorem wt_step (a : List Str) (n : Nat) : wt (a.drop (n + 1)) ≤ wt (a.drop n) := by
  have := wt_drop (a.drop n) 1
  rw [List.drop_drop] at this
  exact this
theorem wt_rev (a : List Str) : wt a.reverse = wt a := by
  unfold wt
  rw [List.map_reverse, List.sum_reverse]
theorem wt_set {a : List Str} {i : Nat} {x : Str} (h : a[i]? = some x) (w : Str) : wt (a.set i w) + x.length = wt a + w.length := by
  induction a generalizing i with
  | nil => cases h
  | cons y r ih =>
    cases i with
    | zero =>
      obtain rfl := Option.some.inj h
      simp [wt]
      omega
    | succ i =>
      have z := ih (i := i) h
      simp only [wt, List.set_cons_succ, List.map_cons, List.sum_cons] at z ⊢
      omega
theorem wt_len (a : List Str) : a.length ≤ wt a := by
  induction a with
  | nil => exact Nat.zero_le _
  | cons x r ih =>
    simp only [wt, List.map_cons, List.sum_cons, List.length_cons] at ih ⊢
    omega
theorem wt_mem {a : List Str} {w : Str} (h : w ∈ a) : w.length + 1 ≤ wt a := by
  induction a with
  | nil => cases h
  | cons x r ih =>
    simp only [wt, List.map_cons, List.sum_cons] at ih ⊢
    rcases List.mem_cons.mp h with rfl | h
    · omega
    · have := ih h
      omega
theorem wt_sum (a : List Str) : (a.map (·.length)).sum + a.length = wt a := by
  induction a with
  | nil => rfl
  | cons x r ih =>
    simp only [wt, List.map_cons, List.sum_cons, List.length_cons] at ih ⊢
    omega
theorem joinL_len (s : Nat) : ∀ ps : List (List Nat), ps ≠ [] → (joinL [s] ps).length + 1 = (ps.map fun p => p.length + 1).sum
  | [], h => absurd rfl h
  | [p], _ => by simp [joinL]
  | p :: q :: r, _ => by
    have ih := joinL_len s (q :: r) (by simp)
    show (p ++ ([s] ++ joinL [s] (q :: r))).length + 1 = _
    rw [List.length_append, List.length_append, List.map_cons, List.sum_cons]
    simp only [List.length_cons, List.length_nil] at ih ⊢
    omega
theorem str_len (w : Str) : w.length = (tl w).length := Array.length_toList.symm
theorem join_len {sep : Str} {s : Nat} {ws : List Str} (hs : tl sep = [s]) (h : ws ≠ []) : (Txt.join sep ws).length + 1 = wt ws := by
  rw [str_len, TL.join_eq, TL.tl_join, hs, joinL_len s _ (by simpa using h), List.map_map]
  unfold wt
  congr 1
theorem join_le {sep : Str} {s : Nat} {ws : List Str} (hs : tl sep = [s]) : (Txt.join sep ws).length ≤ wt ws - 1 := by
  cases ws with
  | nil => exact Nat.le_of_eq rfl
  | cons x r =>
    have := join_len (ws := x :: r) hs (by simp)
    omega
theorem split_wt {a sep : Str} {s : Nat} (hs : tl sep = [s]) : wt (Txt.split a sep) = a.length + 1 := by
  have ne : Txt.split a sep ≠ [] := fun z => by
    have := PyProof.Rows.split_pos a sep
    rw [z] at this
    cases this
  have e := join_len (ws := Txt.split a sep) hs ne
  rw [txt_join_split] at e
  exact e.symm
theorem cutS_to (ws : List Str) (k : Nat) : cutV (ws.map V.str) none (some (k : Int)) = (ws.take k).map V.str := by
  unfold cutV
  rw [HT.sIx_none, HT.sIx_nat, List.drop_zero, List.length_map, Nat.sub_zero, ← List.map_take]
  congr 1
  rcases Nat.le_total k ws.length with c | c
  · rw [Nat.min_eq_left c]
  · rw [Nat.min_eq_right c, List.take_length, List.take_of_length_le c]
theorem cutS_from (ws : List Str) (k : Nat) : cutV (ws.map V.str) (some (k : Int)) none = (ws.drop k).map V.str := by
  unfold cutV
  rw [HT.sIx_none, HT.sIx_nat, List.length_map, ← List.map_drop, ← List.map_take]
  congr 1
  rcases Nat.le_total k ws.length with c | c
  · rw [Nat.min_eq_left c]
    exact List.take_of_length_le (by rw [List.length_drop]; exact Nat.le_refl _)
  · rw [Nat.min_eq_right c, List.drop_length, List.drop_of_length_le c]
    simp
theorem cutS_two (ws : List Str) (k : Nat) : cutV (ws.map V.str) (some (k : Int)) (some ((k + 2 : Nat) : Int)) = ((ws.drop k).take 2).map V.str := by
  unfold cutV
  rw [HT.sIx_nat, HT.sIx_nat, List.length_map, ← List.map_drop, ← List.map_take]
  congr 1
  rcases Nat.le_total k ws.length with c | c
  · rw [Nat.min_eq_left c]
    rcases Nat.le_total (k + 2) ws.length with d | d
    · rw [Nat.min_eq_left d, show k + 2 - k = 2 by omega]
    · rw [Nat.min_eq_right d, List.take_of_length_le (by rw [List.length_drop]; exact Nat.le_refl _), List.take_of_length_le (by rw [List.length_drop]; omega)]
  · rw [Nat.min_eq_right c, List.drop_length, List.drop_of_length_le c]
    simp
theorem wt_two (ws : List Str) (k : Nat) : wt (ws.take k) + wt ((ws.drop k).take 2).reverse + wt (ws.drop (k + 2)) = wt ws := by
  have h1 := wt_cut ws k
  have h2 := wt_cut (ws.drop k) 2
  rw [List.drop_drop] at h2
  rw [wt_rev]
  omega
theorem map_cat (a b : List Str) : a.map V.str ++ b.map V.str = (a ++ b).map V.str := (List.map_append ..).symm
end L2
set_option maxRecDepth 100000
namespace Toy
open PySem L2 LamX Dg TL
abbrev s_whole_in : Stmt := top 25
def wordV (most : Nat) (w : Str) : V := match numW most w with
  | some n => .int (n : Int)
  | none => .non
def spWhole : Sp := fun vs H Q _ => ∃ (w : Str) (most : Nat), vs = [.str w, .int (most : Int)] ∧ w.length ≤ PySem.sizeLine ∧ most < 10 ^ 60 ∧ ∀ H', Same H H' → Q (wordV most w) H'
theorem wordV_bad {m : Nat} {z : Str} (h : ∀ n, n ≤ m → z = numT n → False) : wordV m z = .non := by
  unfold wordV
  rw [numW_none fun n hn e => h n hn e]
theorem wordV_ok {m n : Nat} {z : Str} (e : z = numT n) (h : n ≤ m) : wordV m z = .int (n : Int) := by
  unfold wordV
  rw [e, numW_num h]
def digs (cs : List Nat) : List Bool := cs.map fun c => decide (48 ≤ c ∧ c ≤ 57)
theorem digs_all (z : Str) : (digs (tl z)).all id = digB z := by
  unfold digs digB
  rw [List.all_map]
  rfl
theorem log_small {n : Nat} (h : n < 10 ^ 70) : ((n : Nat) : Int).natAbs.log2 < 1920 := by
  show n.log2 < 1920
  by_cases c : n = 0
  · rw [c]
    decide
  · have := (Nat.log2_lt (n := n) (k := 240) c).mpr (Nat.lt_trans h (by decide +kernel))
    omega
abbrev s_spaced : Stmt := top 26
abbrev s_Rule___str__ : Stmt := (inClass (top 34) 5)
def shownS (ns : List Int) : List Str := ns.map fun z => (toString z : Str)
def spacedS (ns : List Int) : Str := if ns = [] then "-" else Txt.join " " (shownS ns)
def ruleTxt (ms as ts : List Int) : Str := Str.empty ++ "moduli " ++ spacedS ms ++ " ahead " ++ spacedS as ++ " round " ++ spacedS ts
def FitS (ns : List Int) : Prop := ns.length ≤ 300 ∧ (∀ z ∈ ns, z.natAbs < 1000000) ∧ ((shownS ns).map (·.length)).sum + (shownS ns).length * (Str.ofString " ").length ≤ 16777216 ∧ (spacedS ns).length ≤ 4000
def spSpaced : Sp := fun vs H Q _ => ∃ (a : Addr) (ns : List Int), vs = [.ref a] ∧ H a = some (.tup (ns.map V.int)) ∧ FitS ns ∧ ∀ H', Same H H' → Q (.str (spacedS ns)) H'
def spStr (C : Addr) : Sp := fun vs H Q _ => ∃ (p : Addr) (ms as ts : List Int), vs = [.ref p] ∧ RuleAt C H p (ms.map V.int) as ts ∧ FitS ms ∧ FitS as ∧ FitS ts ∧ ∀ H', Same H H' → Q (.str (ruleTxt ms as ts)) H'
abbrev noA : Addr → Prop := fun _ => False
theorem ruleErr_ok {ms : List V} {A T : List Int} (hm : okMod (some ms) = true) (ha : ∀ z ∈ A, 0 ≤ z ∧ z ≤ prodV ms - 1) (ht : ∀ z ∈ T, 0 ≤ z ∧ z ≤ prodV ms - 1) (ne : T ≠ []) : ruleErr (some ms) (some (A.map V.int)) (some (T.map V.int)) = none := by
  unfold ruleErr
  rw [if_neg (by rw [hm]; exact Bool.noConfusion), if_neg (by show ¬ (A.map V.int).all (withinV 0 (prodV ms - 1)) = false; rw [all_of ha]; exact Bool.noConfusion)]
  refine if_neg ?_
  rintro (z | z)
  · rw [show okBanks (prodV ((some ms).getD [])) (some (T.map V.int)) = true from all_of ht] at z
    cases z
  · exact ne (List.map_eq_nil_iff.mp (Option.some.inj z))
theorem tup_but {H G : Hp} {p l t : Addr} {ns : List Int} {a b : Int} {xs : List V} (P : PenAt H p l ns a b) (bt : But p H G) (h : H t = some (.tup xs)) : G t = some (.tup xs) := bt _ _ (pen_ne P h) h
abbrev s_Rule_eq : Stmt := (inClass (top 34) 6)
structure RuleCls (K : PySem.W.Frag) (C : Addr) : Prop where
  cl : Cls K C
  ha : PySem.W.findIn K (.ref C) "__class__" = some (some (.builtin "object.__class__"))
  hn : PySem.W.specialIn K (.builtin "object.__class__") "__get__" = some (some (.builtin "getset_descriptor.__get__"))
  ht : PySem.W.takesIn K (.builtin "object.__class__") = some true
  hm : PySem.W.mroIn K C (.type "object") = some true
  kC : PySem.W.kitOne K (.ref C) (.ref C) = some true
  kT : PySem.W.kitOne K (.type "tuple") (.ref C) = some false
  kS : ∀ S ∈ plainTys, PySem.W.kitOne K (.type S) (.ref C) = some false
def rclsB (K : PySem.W.Frag) (C : Addr) : Bool := decide (PySem.W.findIn K (.ref C) "__class__" = some (some (.builtin "object.__class__"))) && (decide (PySem.W.specialIn K (.builtin "object.__class__") "__get__" = some (some (.builtin "getset_descriptor.__get__"))) && (decide (PySem.W.takesIn K (.builtin "object.__class__") = some true) &&
  (decide (PySem.W.mroIn K C (.type "object") = some true) && (decide (PySem.W.kitOne K (.ref C) (.ref C) = some true) && (decide (PySem.W.kitOne K (.type "tuple") (.ref C) = some false) && plainTys.all fun S => decide (PySem.W.kitOne K (.type S) (.ref C) = some false))))))
theorem rcls_of {K : PySem.W.Frag} {C : Addr} (cl : Cls K C) (q : rclsB K C = true) : RuleCls K C := by
  unfold rclsB at q
  simp only [Bool.and_eq_true, decide_eq_true_eq] at q
  obtain ⟨h1, h2, h3, h4, h5, h6, h7⟩ := q
  exact ⟨cl, h1, h2, h3, h4, h5, h6, fun S hS => of_decide_eq_true (List.all_eq_true.mp h7 S hS)⟩
def spRuleEq (C : Addr) : Sp := fun vs H Q _ => ∃ (p : Addr) (ms as ts : List Int) (y : V), vs = [.ref p, y] ∧ RuleAt C H p (ms.map V.int) as ts ∧
  ((∃ (q : Addr) (ms2 as2 ts2 : List Int), y = .ref q ∧ RuleAt C H q (ms2.map V.int) as2 ts2 ∧ ∀ H', Same H H' → Q (.bl (decide (ms = ms2 ∧ as = as2 ∧ ts = ts2))) H') ∨ ∃ (b : Addr) (xs : List V), y = .ref b ∧ H b = some (.tup xs) ∧ Q (.bl false) H)
def RuleOut (CT C : Addr) (H : Hp) (ms : List V) (A T : List Int) (Q : VK) (E : XK) : Prop :=
  (24 < (normW A T).1.length + (normW A T).2.length → ∀ d H', Same H H' → H' d = some (.xd [("most", .int 24), ("what", .str "places")]) → E (.ref CT) (some d) H') ∧
  ((normW A T).1.length + (normW A T).2.length ≤ 24 → ∀ H' x, Same H H' → RuleAt C H' x ms (normW A T).1 (normW A T).2 → Q (.ref x) H')
theorem made_out {CR CT C x dx : Addr} {K : PySem.W.Frag} {H0 G : Hp} {am aa at_ : Addr} {ms : List V} {A T : List Int} {Q : VK} {E : XK} (s0 : Same H0 G) (nx : G x = none) (ndx : G dx = none) (em : SeqAt G am ms) (ea : SeqAt G aa (A.map V.int)) (et : SeqAt G at_ (T.map V.int))
    (hm : okMod (some ms) = true) (ha : ∀ z ∈ A, 0 ≤ z ∧ z ≤ prodV ms - 1) (ht : ∀ z ∈ T, 0 ≤ z ∧ z ≤ prodV ms - 1) (ne : T ≠ []) (la : A.length ≤ 300) (lt : T.length ≤ 300) (o : RuleOut CT C H0 ms A T Q E) :
    spInit CR CT C K [.ref x, .ref am, .ref aa, .ref at_] (upd (upd G dx (.own x)) x (.ins C dx [])) (fun v H2 => v = .non ∧ Q (.ref x) H2) E :=
  init_ok nx ndx (argA_mods (A := noA) em (fun z => z) hm) (argA_ints (A := noA) ea (fun z => z) la) (argA_ints (A := noA) et (fun z => z) lt) (ruleErr_ok hm ha ht ne)
    (fun big d H' s e => o.1 big d H' (fun _ _ z => s _ _ (s0 _ _ z)) e) (fun le H' s R => ⟨rfl, o.2 le H' x (fun _ _ z => s _ _ (s0 _ _ z)) R⟩)
abbrev s__law_normal : Stmt := top 40
def spNormal : Sp := fun vs H Q _ => ∃ (q pa pt : Addr) (x : V) (as ts : List Int), vs = [.ref q] ∧ H q = some (.tup [x, .ref pa, .ref pt]) ∧ H pa = some (.tup (as.map V.int)) ∧ H pt = some (.tup (ts.map V.int)) ∧ ts ≠ [] ∧ as.length ≤ 300 ∧ ts.length ≤ 300 ∧
  ∀ (H' : Hp) (p xa xt : Addr) (A T : List Int), Same H H' → H' p = some (.tup [x, .ref xa, .ref xt]) → H' xa = some (.tup (A.map V.int)) → H' xt = some (.tup (T.map V.int)) → Prim T → (A = [] ∨ A.getLast? ≠ T.getLast?) → (∀ i, wAt A T i = wAt as ts i) → A.length ≤ as.length → T.length ≤ ts.length →
    (∀ z ∈ A, z ∈ as) → (∀ z ∈ T, z ∈ ts) → Q (.ref p) H'
def lenAt2 (σ : L2.St) (G : Hp) : Nat := match σ with
  | _ :: _ :: some (.ref a) :: _ => match G a with
    | some (.tup xs) => xs.length
    | _ => 0
  | _ => 0
theorem lenAt2_of {σ : L2.St} {u w : Option V} {G : Hp} {a : Addr} {xs : List V} (h : G a = some (.tup xs)) : lenAt2 (u :: w :: some (.ref a) :: σ) G = xs.length := by
  simp [lenAt2, h]
section
variable {P : Program} {w : World} {K : PySem.W.Frag} {mg : Str → Option Value} {base : Heap} {CR CN CT uR uN uT : Addr} {fdR fdN fdT : FuncData} {C pc pb gc gb : Addr}
abbrev N_whole_in : List Str := ["word", "most", "letter", "number"]
theorem sc_whole_in : FnScope N_whole_in ["word", "most"] (defScope s_whole_in) := ⟨rfl, rfl, rfl, by decide +kernel, rfl, by decide +kernel, by decide +kernel⟩
theorem ok_whole_in {f : Addr} {fd : FuncData} (F : Fun K "whole_in" "whole_in" s_whole_in f fd) (T : TR mg) (m_str : mg "str" = none) (DG : ∃ t, mg "DIGITS" = some (.str "0123456789" t)) : FnOk P w K mg base CX0 1 f fd ["word", "most"] spWhole := by
  refine F.ok sc_whole_in (fun vs H Q E h => ?_) (fun cdv A outer s H vs Q E hr h => ?_)
  · obtain ⟨z, m, rfl, _⟩ := h
    rfl
  · obtain ⟨z, m, rfl, hz, hm, k⟩ := h
    refine ⟨_, (pss_cons (ps_if (PW.pt (pw_or (pt_not (pt_chain op_le op_le pe_int (pe_callB call_len_str (by rfl) T.m_len (by decide +kernel) (pa_cons (pv 0) pa_nil)) (pe_callB call_len_str (by rfl) T.m_len (by decide +kernel) (pa_cons (pe_callTy call_str_int (by rfl) m_str (by decide +kernel) (pa_cons (pv 1) pa_nil)) pa_nil)))) (pw_or1 (pt_not (pt_val (pe_callB (cr_all rfl) (by rfl) T.m_all (by decide +kernel) (pa_cons (pe_lc (own := [("letter", 2)]) (g := (gName 2)) (tt := tYes) rfl sc_whole_in.nd (pi_str (pv 0)) (blkOk_by (N := N_whole_in) (sc := defScope s_whole_in) (by decide +kernel)) (fun _ _ _ _ _ => (pg_name (i := 2) sc_whole_in.nd rfl (Or.inl rfl))) (fun _ _ _ _ _ => pts_nil) (fun _ _ _ _ _ => (pe_cmpR op_in_sign (pv 2) (pe_glob (v := .str "0123456789") rfl DG.choose_spec ⟨_, rfl⟩) (by rfl)))) pa_nil))))))) (pss_one (ps_ret pe_non)) pss_nil)
 (pss_cons (ps_set (i := 3) sc_whole_in.nd rfl (Or.inl rfl) (by exact (pe_callTy call_int_str (by rfl) T.m_int (by decide +kernel) (pa_cons (pv 0) pa_nil))))
 (pss_cons (ps_if (PW.pt (pw_or (pt_cmpR op_gt (pv 3) (pv 1) (nomark _)) (pw_or1 (pt_cmpR op_ne (pe_callTy call_str_int (by rfl) m_str (by decide +kernel) (pa_cons (pv 3) pa_nil)) (pv 0) (nomark _))))) (pss_one (ps_ret pe_non)) pss_nil)
 (pss_one (ps_ret (pv 3)))))), ?_⟩
    have hm2 : ((m : Nat) : Int).natAbs.log2 < 1920 := log_small (Nat.lt_trans hm (by decide +kernel))
    have ml : (Str.ofString (toString ((m : Nat) : Int))).length ≤ 60 := by
      show (numT m).length ≤ 60
      rw [len_numT]
      exact numL_len (by decide) hm
    have bad : (∀ n, n ≤ m → z = numT n → False) → ∀ G, Same H G → Q V.non G := fun h G s => by
      rw [← wordV_bad h]
      exact k G s
    refine ⟨_, rfl, _, rfl, hz, _, _, rfl, rfl, _, rfl, ?_⟩
    refine ite2 (fun c1 => ?_) (fun c1 => ?_)
    rotate_left
    · refine ⟨_, rfl, iteT (iteT (bad (fun n _ e => c1 (decide_eq_true ?_)) H (Same.refl H)))⟩
      rw [e]
      have := pos_numT n
      omega
    have c1' : 1 ≤ z.length := by
      have := of_decide_eq_true c1
      omega
    refine ⟨_, rfl, _, rfl, hm2, _, rfl, (by rw [sizeLine_eq]; omega), _, _, rfl, rfl, _, rfl, ?_⟩
    have mb : ∀ n, n ≤ m → z = numT n → z.length ≤ (Str.ofString (toString ((m : Nat) : Int))).length := fun n hn e => by
      rw [e, len_numT, show (Str.ofString (toString ((m : Nat) : Int))).length = (numL m).length from len_numT m]
      exact numL_mono m n hn
    cases c2 : decide ((z.length : Int) ≤ ((Str.ofString (toString ((m : Nat) : Int))).length : Int)) with
    | false => exact iteT (iteT (bad (fun n hn e => of_decide_eq_false c2 (by have := mb n hn e; omega)) H (Same.refl H)))
    | true =>
      have l60 : z.length ≤ 60 := by
        have := of_decide_eq_true c2
        omega
      refine iteF ?_
      refine ⟨_, rfl, z, rfl, fun D hD => ?_⟩
      have sz : z.cps.size = (tl z).length := Array.length_toList.symm
      refine lc_it walk_str (fun i G => G = upd H D (.lst ((digs ((tl z).take i)).map V.bl))) rfl (fun _ _ _ _ => trivial) ?_ ?_
      · rintro i x G G' hi rfl ⟨rfl, c, hc, rfl⟩
        have hc2 : (tl z)[i]? = some c := by
          show z.cps.toList[i]? = _
          rw [Array.getElem?_toList]
          exact hc
        refine ⟨rfl, _, rfl, c, _, rfl, rfl, _, upd_same, small1000 (by unfold digs; rw [List.length_map, List.length_map, List.length_take]; rw [len_tl] at l60; omega), ?_⟩
        rw [upd_upd, dig_in, List.take_add_one, hc2]
        unfold digs
        rw [List.map_append, List.map_append]
        rfl
      · rintro G rfl
        rw [sz, List.take_length]
        have s1 : Same H (upd H D (.lst ((digs (tl z)).map V.bl))) := Same.lay hD
        refine ⟨D, _, rfl, SqL.of upd_same, _, rfl, ?_⟩
        rw [digs_all]
        cases c3 : digB z with
        | false => exact iteT (bad (fun n hn e => by rw [e, digB_num] at c3; cases c3) _ s1)
        | true =>
          refine iteF ⟨_, rfl, _, _, rfl, int_dig c3 c1' (by omega), by omega, ?_⟩
          have v60 : valT z < 10 ^ 60 := Nat.lt_of_lt_of_le (valT_lt c3) (Nat.pow_le_pow_right (by decide) l60)
          refine ⟨_, rfl, _, rfl, _, _, rfl, rfl, _, rfl, ?_⟩
          cases c4 : decide ((m : Int) < ((valT z : Nat) : Int)) with
          | true =>
            refine iteT (iteT (bad (fun n hn e => ?_) _ s1))
            rw [e, valT_num] at c4
            have := of_decide_eq_true c4
            omega
          | false =>
            have le : valT z ≤ m := by
              have := of_decide_eq_false c4
              omega
            refine iteF ⟨_, rfl, _, rfl, log_small (Nat.lt_trans v60 (by decide +kernel)), _, rfl, rfl, _, rfl, ?_⟩
            by_cases c5 : numT (valT z) = z
            · rw [show decide (V.str (Str.ofString (toString ((valT z : Nat) : Int))) = V.str z) = true from decide_eq_true (congrArg V.str c5)]
              refine iteF ⟨_, rfl, ?_⟩
              rw [← wordV_ok c5.symm le]
              exact k _ s1
            · rw [show decide (V.str (Str.ofString (toString ((valT z : Nat) : Int))) = V.str z) = false from decide_eq_false fun y => c5 (V.str.inj y)]
              refine iteT (bad (fun n hn e => c5 ?_) _ s1)
              rw [e, valT_num]
abbrev N_spaced : List Str := ["numbers", "number"]
theorem sc_spaced : FnScope N_spaced ["numbers"] (defScope s_spaced) := ⟨rfl, rfl, rfl, by decide +kernel, rfl, by decide +kernel, by decide +kernel⟩
theorem ok_spaced {f : Addr} {fd : FuncData} (F : Fun K "spaced" "spaced" s_spaced f fd) (T : TR mg) (m_str : mg "str" = none) : FnOk P w K mg base CX0 1 f fd ["numbers"] spSpaced := by
  refine F.ok sc_spaced (fun vs H Q E h => ?_) (fun cdv A outer s H vs Q E hr h => ?_)
  · obtain ⟨a, ns, rfl, _⟩ := h
    rfl
  · obtain ⟨a, ns, rfl, hH, ⟨l, sm, jl, jz⟩, k⟩ := h
    refine ⟨_, (pss_one (ps_ret (pe_ifExp (pt_truth (pv 0) (fun _ => rfl)) (pe_m1 PySem.F.slot_str_join PySem.F.type_str_join mt_join pe_str (pe_lc (own := [("number", 1)]) (g := (gName 1)) (tt := tYes) rfl sc_spaced.nd (pi_tup (pv 0)) (blkOk_by (N := N_spaced) (sc := defScope s_spaced) (by decide +kernel)) (fun _ _ _ _ _ => (pg_name (i := 1) sc_spaced.nd rfl (Or.inl rfl))) (fun _ _ _ _ _ => pts_nil) (fun _ _ _ _ _ => (pe_callTy call_str_int (by rfl) m_str (by decide +kernel) (pa_cons (pv 1) pa_nil))))) pe_str))), ?_⟩
    have tru : TruV K (.ref a) H (!ns.isEmpty) := .inr (.inl ⟨ns.map V.int, SqT.of hH, by cases ns <;> rfl⟩)
    refine ⟨_, rfl, _, tru, ?_⟩
    cases ns with
    | nil => exact k H (Same.refl H)
    | cons n ns =>
      refine ite2 (fun _ => ?_) (fun c => absurd rfl c)
      refine ⟨⟨_, rfl⟩, _, rfl, a, rfl, ⟨_, SqT.of hH⟩, fun D hD => ?_⟩
      have vD := Same.lay (o := .lst []) hD
      have nD : ∀ {b : Addr} {o : HO}, H b = some o → b ≠ D := fun e => ne_of_none e hD
      refine lc_it (walk_tup (xs := (n :: ns).map V.int)) (fun i G => But D (upd H D (.lst [])) G ∧ G D = some (.lst ((shownS ((n :: ns).take i)).map V.str))) ⟨But.refl _ _, upd_same⟩ (fun i G _ h => SqT.of (h.1 _ _ (nD hH) (vD _ _ hH))) ?_ ?_
      · rintro i v G G' hi ⟨bt, hG⟩ ⟨rfl, hx⟩
        rw [List.getElem?_map] at hx
        obtain ⟨z, hz, rfl⟩ := Option.map_eq_some_iff.mp hx
        refine ⟨rfl, _, rfl, _, rfl, ?_, _, hG, small1000 (by unfold shownS; rw [List.length_map, List.length_map, List.length_take]; omega), bt.put, ?_⟩
        · have := sm z (List.mem_of_getElem? hz)
          have h2 := Nat.log2_lt (n := z.natAbs) (k := 20)
          by_cases c : z.natAbs = 0
          · rw [c]; decide
          · have := (h2 c).mpr (by omega)
            omega
        · rw [upd_same, List.take_add_one, hz]
          unfold shownS
          rw [List.map_append, List.map_append]
          rfl
      · rintro G ⟨bt, hG⟩
        rw [List.length_map, List.take_length] at hG
        exact ⟨_, D, _, rfl, rfl, .inl (SqL.of hG), jl, k G fun b o e => bt b o (nD e) (vD _ _ e)⟩
abbrev N_Rule___str__ : List Str := ["self"]
theorem sc_Rule___str__ : FnScope N_Rule___str__ ["self"] (defScope s_Rule___str__) := ⟨rfl, rfl, rfl, by decide +kernel, rfl, by decide +kernel, by decide +kernel⟩
theorem ok_Rule_str {f fSp : Addr} {fd fdSp : FuncData} (F : Fun K "__str__" "Rule.__str__" s_Rule___str__ f fd) (TU : TRule K mg C pc pb gc gb)
    (GSp : FnOk P w K mg base CX0 1 fSp fdSp ["numbers"] spSpaced) (gSp : mg "spaced" = some (.ref fSp)) (kSp : PySem.W.keepIn K (.ref fSp) = true) (bSp : Binds K fdSp ["numbers"] []) : FnOk P w K mg base CX0 2 f fd ["self"] (spStr C) := by
  refine F.ok sc_Rule___str__ (fun vs H Q E h => ?_) (fun cdv A outer s H vs Q E hr h => ?_)
  · obtain ⟨p, ms, as, ts, rfl, _⟩ := h
    rfl
  · obtain ⟨p, ms, as, ts, rfl, hR, f1, f2, f3, k⟩ := h
    have hrQ : Room 1 _ := hr
    obtain ⟨dx, pm, pa, pt, h1, h2, h3, h4⟩ := id hR
    refine ⟨_, (pss_one (ps_ret (pe_joined (PJ.cons pe_str (PJ.cons (pe_fmt (pe_call GSp hrQ rfl gSp kSp bSp .nil pass0 (pa_cons (pe_fld (pv 0) rfl) pa_nil))) (PJ.cons pe_str (PJ.cons (pe_fmt (pe_call GSp hrQ rfl gSp kSp bSp .nil pass0 (pa_cons (pe_fld (pv 0) rfl) pa_nil))) (PJ.cons pe_str (PJ.cons (pe_fmt (pe_call GSp hrQ rfl gSp kSp bSp .nil pass0 (pa_cons (pe_fld (pv 0) rfl) pa_nil))) PJ.nil))))))))), ?_⟩
    have z1 := f1.2.2.2
    have z2 := f2.2.2.2
    have z3 := f3.2.2.2
    have sz : PySem.sizeLine = 16777216 := rfl
    have e1 : (Str.empty ++ ("moduli " : Str)).length = 7 := by decide +kernel
    have e2 : (" ahead " : Str).length = 7 := by decide +kernel
    have e3 : (" round " : Str).length = 7 := by decide +kernel
    refine ⟨_, rfl, by omega, _, rfl, p, C, dx, _, _, rfl, h1, TU.cl, TU.nM, flds_m _ _ _, pm, ms, rfl, h2, f1, fun G1 s1 => .inl ⟨_, rfl, by omega, _, rfl, ?_, _, rfl, ?_, ?_⟩⟩
    · rw [Str.length_append]; omega
    · rw [Str.length_append, Str.length_append]; omega
    refine ⟨_, rfl, p, C, dx, _, _, rfl, s1 _ _ h1, TU.cl, TU.nA, flds_a _ _ _, pa, as, rfl, s1 _ _ h3, f2, fun G2 s2 => .inl ⟨_, rfl, by omega, _, rfl, ?_, _, rfl, ?_, ?_⟩⟩
    · rw [Str.length_append, Str.length_append, Str.length_append]; omega
    · rw [Str.length_append, Str.length_append, Str.length_append, Str.length_append]; omega
    refine ⟨_, rfl, p, C, dx, _, _, rfl, s2 _ _ (s1 _ _ h1), TU.cl, TU.nT, flds_t _ _ _, pt, ts, rfl, s2 _ _ (s1 _ _ h4), f3, fun G3 s3 => .inl ⟨_, rfl, by omega, _, rfl, ?_, ?_⟩⟩
    · rw [Str.length_append, Str.length_append, Str.length_append, Str.length_append, Str.length_append]; omega
    exact k G3 fun _ _ z => s3 _ _ (s2 _ _ (s1 _ _ z))
theorem sc_Rule___eq__ : FnScope ["self", "other"] ["self", "other"] (defScope s_Rule_eq) := ⟨rfl, rfl, rfl, by decide +kernel, rfl, by decide +kernel, by decide +kernel⟩
theorem ok_Rule_eq {f : Addr} {fd : FuncData} (F : Fun K "__eq__" "Rule.__eq__" s_Rule_eq f fd) (T : TR mg) (TU : TRule K mg C pc pb gc gb) (RC : RuleCls K C) : FnOk P w K mg base CX0 1 f fd ["self", "other"] (spRuleEq C) := by
  refine F.ok sc_Rule___eq__ (fun vs H Q E h => ?_) (fun cdv A outer s H vs Q E hr h => ?_)
  · obtain ⟨p, ms, as, ts, y, rfl, _⟩ := h
    rfl
  · obtain ⟨p, ms, as, ts, y, rfl, hp, h⟩ := h
    refine ⟨_, (pss_one (ps_ret (pe_and (pe_callB call_isi (by rfl) T.m_isinstance (by decide +kernel) (pa_cons (pv 1) (pa_cons (pe_glob (v := .ref C) rfl TU.gC rfl) pa_nil))) (pe_and (pe_cmpR (op_eqP hr.units) (pe_fld (pv 0) rfl) (pe_fld (pv 1) rfl) (nomark _)) (pe_and (pe_cmpR (op_eqP hr.units) (pe_fld (pv 0) rfl) (pe_fld (pv 1) rfl) (nomark _)) (pe_one (pe_cmpR (op_eqP hr.units) (pe_fld (pv 0) rfl) (pe_fld (pv 1) rfl) (nomark _)))))))), ?_⟩
    rcases h with ⟨q, ms2, as2, ts2, rfl, hq, k⟩ | ⟨b, xs, rfl, hb, k⟩
    · obtain ⟨dx, pm, pa, pt, h1, h2, h3, h4⟩ := hp
      obtain ⟨dy, qm, qa, qt, g1, g2, g3, g4⟩ := hq
      refine ⟨_, rfl, _, _, _, _, _, rfl, .own _, .base (.ins g1 RC.cl RC.ha RC.hn RC.ht RC.hm), RC.kC, _, rfl, ?_⟩
      refine ⟨_, rfl, p, C, dx, _, _, rfl, h1, TU.cl, TU.nM, flds_m _ _ _, _, rfl, q, C, dy, _, _, rfl, g1, TU.cl, TU.nM, flds_m _ _ _, pm, qm, ms, ms2, rfl, rfl, h2, g2, _, rfl, ?_⟩
      refine ite2 (fun c => ?_) (fun c => ?_)
      · refine ⟨_, rfl, p, C, dx, _, _, rfl, h1, TU.cl, TU.nA, flds_a _ _ _, _, rfl, q, C, dy, _, _, rfl, g1, TU.cl, TU.nA, flds_a _ _ _, pa, qa, as, as2, rfl, rfl, h3, g3, _, rfl, ?_⟩
        refine ite2 (fun c2 => ?_) (fun c2 => ?_)
        · refine ⟨_, rfl, p, C, dx, _, _, rfl, h1, TU.cl, TU.nT, flds_t _ _ _, _, rfl, q, C, dy, _, _, rfl, g1, TU.cl, TU.nT, flds_t _ _ _, pt, qt, ts, ts2, rfl, rfl, h4, g4, ?_⟩
          have e : decide (ms = ms2 ∧ as = as2 ∧ ts = ts2) = decide (ts = ts2) := by
            have c3 := of_decide_eq_true c
            have c4 := of_decide_eq_true c2
            simp [c3, c4]
          have z := k H (Same.refl H)
          rw [e] at z
          exact z
        · have e : decide (ms = ms2 ∧ as = as2 ∧ ts = ts2) = false := decide_eq_false fun z => c2 (decide_eq_true z.2.1)
          have z := k H (Same.refl H)
          rw [e] at z
          exact z
      · have e : decide (ms = ms2 ∧ as = as2 ∧ ts = ts2) = false := decide_eq_false fun z => c (decide_eq_true z.1)
        have z := k H (Same.refl H)
        rw [e] at z
        exact z
    · refine ⟨_, rfl, _, _, _, _, _, rfl, .own _, .base (.tup hb), RC.kT, _, rfl, ?_⟩
      exact k
abbrev N__law_normal : List Str := ["_law_plain_here", "_law_moduli_here", "_law_ahead", "_law_turn", "_law_many"]
theorem sc__law_normal : FnScope N__law_normal ["_law_plain_here"] (defScope s__law_normal) := ⟨rfl, rfl, rfl, by decide +kernel, rfl, by decide +kernel, by decide +kernel⟩
theorem ok__law_normal {f : Addr} {fd : FuncData} (F : Fun K "_law_normal" "_law_normal" s__law_normal f fd) (T : TR mg) : FnOk P w K mg base CX0 1 f fd ["_law_plain_here"] spNormal := by
  refine F.ok sc__law_normal (fun vs H Q E h => ?_) (fun cdv A outer s H vs Q E hr h => ?_)
  · obtain ⟨q, pa, pt, x, as, ts, rfl, _⟩ := h
    rfl
  · obtain ⟨q, pa, pt, x, as, ts, rfl, hq, ha, ht, tne, hn, hm, k⟩ := h
    refine ⟨_, (pss_cons (ps_asg (pv 0) (pg_tup rfl (pgs_cons (pg_name (i := 1) sc__law_normal.nd rfl (Or.inl rfl)) (pgs_cons (pg_name (i := 2) sc__law_normal.nd rfl (Or.inl rfl)) (pgs_cons (pg_name (i := 3) sc__law_normal.nd rfl (Or.inl rfl)) pgs_nil)))))
 (pss_cons (ps_for PassesOwn.never rfl (pi_range3 rfl T.m_range (pa_cons (pe_callB call_len_seq (by rfl) T.m_len (by decide +kernel) (pa_cons (pv 3) pa_nil)) (pa_cons pe_int (pa_cons (pe_un un_neg pe_int) pa_nil)))) (pg_name (i := 4) sc__law_normal.nd rfl (Or.inl rfl))
 (pss_one (ps_if (PW.pt (pw_and (pt_cmpR op_eq (pe_op op_mod (pe_callTy call_int1 (by rfl) T.m_int (by decide +kernel) (pa_cons (pe_callB call_len_seq (by rfl) T.m_len (by decide +kernel) (pa_cons (pv 3) pa_nil)) pa_nil)) (pv 4)) pe_int (nomark _)) (pw_and1 (pt_cmpR (op_eqP hr.units) (pv 3) (pe_op op_repP (pe_slice sl_tupP (pv 3) po_none (po_some (pv 4))) (pe_op op_fdiv (pe_callB call_len_seq (by rfl) T.m_len (by decide +kernel) (pa_cons (pv 3) pa_nil)) (pv 4))) (nomark _))))) (pss_one (ps_set (i := 3) sc__law_normal.nd rfl (Or.inl rfl) (pe_slice sl_tupP (pv 3) po_none (po_some (pv 4))))) pss_nil)))
 (pss_cons (ps_while PassesOwn.never (PW.pt (pw_and (pt_cmpR (op_neP hr.units) (pv 2) (pe_tup pa_nil) (nomark _)) (pw_and1 (pt_cmpR op_eq (pe_ix ix_tup (pv 2) (pe_un un_neg pe_int) (fun _ _ => rfl)) (pe_ix ix_tup (pv 3) (pe_un un_neg pe_int) (fun _ _ => rfl)) (nomark _)))))
 (pss_one (ps_par (i := 2) (j := 3) rfl sc__law_normal.nd rfl rfl (by decide) rfl rfl (pa_cons (pe_slice sl_tupP (pv 2) po_none (po_some (pe_un un_neg pe_int))) (pa_cons (pe_op op_catP (pe_slice sl_tupP (pv 3) (po_some (pe_un un_neg pe_int)) po_none) (pe_slice sl_tupP (pv 3) po_none (po_some (pe_un un_neg pe_int)))) pa_nil)) rfl)))
 (pss_one (ps_ret (pe_tup (pa_cons (pv 1) (pa_cons (pv 2) (pa_cons (pv 3) pa_nil))))))))), ?_⟩
    have hp : 0 < ts.length := List.length_pos_iff.mpr tne
    have lt : ((ts.map V.int).length : Int) = ts.length := by rw [List.length_map]
    refine ⟨_, rfl, q, _, rfl, SqT.of hq, rfl, _, _, rfl, _, _, rfl, _, _, rfl, rfl, ?_⟩
    refine ⟨_, rfl, pt, _, rfl, .inr (SqT.of ht), 1, rfl, _, 0, -1, _, rfl, RgC.neg (by rw [lt]; omega) (by rw [lt]; omega) (by decide) (by decide), ?_⟩
    have eN : (((ts.map V.int).length : Int) - 0).toNat = ts.length := by rw [lt]; omega
    refine for_it walk_rangeC (fun i σ G => ∃ (xt : Addr) (t : List Int) (u : Option V), σ = [some (.ref q), some x, some (.ref pa), some (.ref xt), u] ∧ Same H G ∧ G xt = some (.tup (t.map V.int)) ∧ t ≠ [] ∧ t.length ≤ ts.length ∧ (∀ z ∈ t, z ∈ ts) ∧ (∀ i, pAt t i = pAt ts i) ∧
      (∀ n, ts.length < n + i → n < t.length → 0 < n → t.length % n = 0 → perOk t n = false)) ?_ (fun _ _ _ _ _ => trivial) ?_ ?_
    · exact ⟨pt, ts, none, rfl, Same.refl H, ht, tne, Nat.le_refl _, fun _ z => z, fun _ => rfl, fun n h1 h2 => by omega⟩
    · rintro i v σ G G' hi ⟨xt, t, u, rfl, s1, hx, t0, tl, tm, tq, inv⟩ ⟨rfl, ev⟩
      rw [eN] at hi
      obtain ⟨m, em, m0⟩ : ∃ m : Nat, m + i = ts.length ∧ 0 < m := ⟨ts.length - i, by omega, by omega⟩
      have ev2 : v = .int (m : Int) := by
        rw [ev]
        show V.int (_ + (i : Int) * -1) = _
        rw [lt]
        congr 1
        omega
      subst ev2
      have lx : (t.map V.int).length = t.length := List.length_map ..
      have tp : 0 < t.length := List.length_pos_iff.mpr t0
      have q0 : ((t.map V.int).length : Int) % (m : Int) = ((t.length % m : Nat) : Int) := by
        rw [lx]
        rfl
      have q1 : ((t.map V.int).length : Int) / (m : Int) = ((t.length / m : Nat) : Int) := by
        rw [lx]
        rfl
      have stay : (t.length % m = 0 → m < t.length → perOk t m = false) → ∀ G2, Same G' G2 → ∃ (xt' : Addr) (t' : List Int) (u' : Option V), [some (V.ref q), some x, some (.ref pa), some (.ref xt), some (.int (m : Int))] = [some (.ref q), some x, some (.ref pa), some (.ref xt'), u'] ∧ Same H G2 ∧ G2 xt' = some (.tup (t'.map V.int)) ∧ t' ≠ [] ∧ t'.length ≤ ts.length ∧ (∀ z ∈ t', z ∈ ts) ∧ (∀ i, pAt t' i = pAt ts i) ∧
          (∀ n, ts.length < n + (i + 1) → n < t'.length → 0 < n → t'.length % n = 0 → perOk t' n = false) := by
        intro no G2 s2
        refine ⟨xt, t, _, rfl, fun _ _ z => s2 _ _ (s1 _ _ z), s2 _ _ hx, t0, tl, tm, tq, fun n h1 h2 h3 h4 => ?_⟩
        by_cases e : n = m
        · rw [e] at h2 h4 ⊢
          exact no h4 h2
        · exact inv n (by omega) h2 h3 h4
      refine ⟨_, rfl, xt, _, rfl, .inr (SqT.of hx), .inl ⟨_, rfl, _, rfl, _, _, rfl, rfl, (by show (0 : Int) < (m : Int); omega), rfl, _, rfl, ?_⟩⟩
      refine ite2 (fun c => ?_) (fun c => ?_)
      · have c2 : t.length % m = 0 := by
          have z := V.int.inj (of_decide_eq_true c)
          rw [q0] at z
          omega
        have mt : m ≤ t.length := Nat.le_of_dvd tp (Nat.dvd_of_mod_eq_zero c2)
        have dv1 : 1 ≤ t.length / m := (Nat.le_div_iff_mul_le (by omega)).mpr (by omega)
        have dv2 : t.length / m ≤ t.length := Nat.div_le_self ..
        have ct : cutV (t.map V.int) none (some (m : Int)) = (t.take m).map V.int := by rw [cut_take (by rw [lx]; exact mt), List.map_take]
        have tk : ((t.take m).map V.int).length = m := by rw [List.length_map, take_len mt]
        refine ⟨_, rfl, _, rfl, _, rfl, _, rfl, xt, _, rfl, hx, fun p1 G1 s2 h1 => ?_⟩
        rw [ct] at h1
        refine ⟨_, rfl, xt, _, rfl, .inr (SqT.of (s2 _ _ hx)), _, rfl, _, _, rfl, rfl, ⟨by omega, by omega⟩, p1, ((t.map V.int).length : Int) / (m : Int), _, rfl, rfl, h1, (fun z => by rw [z] at tk; simp at tk; omega), by rw [q1]; omega, by rw [q1]; omega, by rw [tk]; omega, fun p2 G2 s3 h2 => ?_⟩
        have rp : (List.replicate (((t.map V.int).length : Int) / (m : Int)).toNat ((t.take m).map V.int)).flatten = ((List.replicate (t.length / m) (t.take m)).flatten).map V.int := by
          rw [q1, Int.toNat_natCast, List.map_flatten, List.map_replicate]
        rw [rp] at h2
        have s4 : Same G' G2 := fun _ _ z => s3 _ _ (s2 _ _ z)
        refine ⟨xt, p2, _, _, rfl, rfl, s4 _ _ hx, h2, _, rfl, ?_⟩
        refine ite2 (fun c3 => ?_) (fun c3 => ?_)
        · refine ⟨_, rfl, _, rfl, _, rfl, xt, _, rfl, s4 _ _ hx, fun p3 G3 s5 h3 => ?_⟩
          rw [ct] at h3
          refine ⟨p3, t.take m, _, rfl, fun _ _ z => s5 _ _ (s4 _ _ (s1 _ _ z)), h3, (fun z => ?_), by rw [take_len mt]; omega, fun z hz => tm z (List.mem_of_mem_take hz), fun i => (per_pAt (decide_eq_true (of_decide_eq_true c3).symm) m0 mt c2 i).trans (tq i), fun n h1 h2 => by rw [take_len mt] at h2; omega⟩
          have y := take_len mt
          rw [z] at y
          simp at y
          omega
        · refine stay (fun _ _ => ?_) G2 s4
          cases e : perOk t m with
          | false => rfl
          | true => exact absurd (decide_eq_true (of_decide_eq_true e).symm) c3
      · refine iteF ?_
        refine stay (fun z => absurd (decide_eq_true ?_) c) G' (Same.refl G')
        show V.int (_ % _) = V.int 0
        rw [q0, z]
        rfl
    · rintro σ G ⟨xt, t, u, rfl, s1, hx, t0, tl, tm, tq, inv⟩
      rw [eN] at inv
      have pr : Prim t := ⟨t0, fun n h1 h2 h3 => inv n (by omega) h2 h1 h3⟩
      refine while_by (fun σ G2 => ∃ (xa xt : Addr) (A T : List Int), σ = [some (.ref q), some x, some (.ref xa), some (.ref xt), u] ∧ Same H G2 ∧ G2 xa = some (.tup (A.map V.int)) ∧ G2 xt = some (.tup (T.map V.int)) ∧ Prim T ∧ A.length ≤ as.length ∧ T.length ≤ ts.length ∧ (∀ z ∈ A, z ∈ as) ∧ (∀ z ∈ T, z ∈ ts) ∧ (∀ i, wAt A T i = wAt as ts i)) lenAt2 ?_ ?_ ?_
      · exact ⟨pa, xt, as, t, rfl, s1, s1 _ _ ha, hx, pr, Nat.le_refl _, tl, fun _ z => z, tm, fun i => by unfold wAt; rw [tq]⟩
      · rintro σ G2 ⟨xa, xt, A, T', rfl, s2, hA, hT, prT, al, tl2, am, tm2, sq⟩
        have lA : (A.map V.int).length = A.length := List.length_map ..
        have lT : (T'.map V.int).length = T'.length := List.length_map ..
        have fin : ∀ G3, Same G2 G3 → (A = [] ∨ A.getLast? ≠ T'.getLast?) → ∀ p, G3 p = none → Q (.ref p) (upd G3 p (.tup [x, .ref xa, .ref xt])) := by
          intro G3 s3 st p hp
          have s4 : Same G3 (upd G3 p (.tup [x, .ref xa, .ref xt])) := Same.lay hp
          exact k _ p xa xt A T' (fun _ _ z => s4 _ _ (s3 _ _ (s2 _ _ z))) upd_same (s4 _ _ (s3 _ _ hA)) (s4 _ _ (s3 _ _ hT)) prT st sq al tl2 am tm2
        refine ⟨_, rfl, (by show 0 ≤ PySem.sizeLine; decide), fun e he => ?_⟩
        have s3 : Same G2 (upd G2 e (.tup [])) := Same.lay he
        refine ⟨xa, e, A, [], rfl, rfl, s3 _ _ hA, upd_same, _, rfl, ?_⟩
        refine ite2 (fun c => ?_) (fun c => ?_)
        · have hne : A ≠ [] := of_decide_eq_true c
          obtain ⟨y, hu1⟩ := last_some hne
          obtain ⟨v, hv1⟩ := last_some prT.1
          refine ⟨_, rfl, _, rfl, xa, _, _, _, rfl, rfl, SqT.of (s3 _ _ hA), getLast_at hu1, _, rfl, _, rfl, xt, _, _, _, rfl, rfl, SqT.of (s3 _ _ hT), getLast_at hv1, rfl, _, rfl, ?_⟩
          refine ite2 (fun c2 => ?_) (fun c2 => ?_)
          · refine ⟨_, rfl, _, rfl, _, rfl, xa, _, rfl, s3 _ _ hA, fun x1 G3 s4 hx1 => ?_⟩
            rw [cut_but, lA] at hx1
            refine ⟨_, rfl, _, rfl, _, rfl, xt, _, rfl, s4 _ _ (s3 _ _ hT), fun y1 G4 s5 hy1 => ?_⟩
            rw [cut_end, lT] at hy1
            refine ⟨_, rfl, _, rfl, _, rfl, xt, _, rfl, s5 _ _ (s4 _ _ (s3 _ _ hT)), fun y2 G5 s6 hy2 => ?_⟩
            rw [cut_but, lT] at hy2
            refine ⟨y1, y2, _, _, rfl, rfl, s6 _ _ hy1, hy2, by rw [List.length_drop, List.length_take, lT]; omega, fun y3 G6 s7 hy3 => ?_⟩
            have s8 : Same G2 G6 := fun _ _ z => s7 _ _ (s6 _ _ (s5 _ _ (s4 _ _ (s3 _ _ z))))
            have hx2 : G6 x1 = some (.tup (A.dropLast.map V.int)) := by
              rw [List.dropLast_eq_take, List.map_take]
              exact s7 _ _ (s6 _ _ (s5 _ _ hx1))
            have hy4 : G6 y3 = some (.tup ((rotr T').map V.int)) := by
              unfold rotr
              rw [List.map_append, List.map_drop, List.map_take]
              exact hy3
            refine ⟨_, _, rfl, ⟨x1, y3, A.dropLast, rotr T', rfl, fun _ _ z => s8 _ _ (s2 _ _ z), hx2, hy4, prT.rot, by rw [List.length_dropLast]; omega, by rw [rotr_len]; exact tl2, fun z hz => am z (List.mem_of_mem_take (by rw [← List.dropLast_eq_take]; exact hz)), fun z hz => tm2 z (mem_rotr hz), fun i => (trim_at hne prT.1 (by rw [hu1, hv1]; exact congrArg some (V.int.inj (of_decide_eq_true c2))) i).trans (sq i)⟩, ?_⟩
            show lenAt2 (_ :: _ :: some (.ref x1) :: _) G6 < lenAt2 (_ :: _ :: some (.ref xa) :: _) G2
            rw [lenAt2_of hx2, lenAt2_of hA, List.length_map, List.length_map, List.length_dropLast]
            have := List.length_pos_iff.mpr hne
            omega
          · exact ⟨_, rfl, _, rfl, _, rfl, (by show 3 ≤ PySem.sizeLine; decide), fin _ s3 (.inr fun z => c2 (decide_eq_true (by rw [hu1, hv1] at z; show V.int y = V.int v; rw [Option.some.inj z])))⟩
        · have hnil : A = [] := by
            cases A with
            | nil => rfl
            | cons z r => exact absurd (decide_eq_true (by intro w; cases w)) c
          exact iteF ⟨_, rfl, _, rfl, _, rfl, (by show 3 ≤ PySem.sizeLine; decide), fin _ s3 (.inl hnil)⟩
      · rintro σ G2 Q1 Q2 hi ⟨v, e, sz, h⟩
        refine ⟨v, e, sz, fun p hp => ?_⟩
        obtain ⟨a', b', ns, ms, e1, e2, h1, h2, c, ec, h3⟩ := h p hp
        refine ⟨a', b', ns, ms, e1, e2, h1, h2, c, ec, ?_⟩
        cases c with
        | false => exact hi _ _ h3
        | true =>
          obtain ⟨v1, w1, i1, w2, a1, x1, i2, u1, w3, w4, w5, w6, v2, y1, i3, y2, a3, x3, i4, u3, y3, y4, y5, y6, z1, c1, z2, z3⟩ := h3
          exact ⟨v1, w1, i1, w2, a1, x1, i2, u1, w3, w4, w5, w6, v2, y1, i3, y2, a3, x3, i4, u3, y3, y4, y5, y6, z1, c1, z2, hi _ _ z3⟩
end
end Toy
set_option maxRecDepth 100000
namespace Toy
open PySem L2 LamX Dg TL
/-! reading a rule's words -/
abbrev s_BadText : Stmt := (inClass (top 21) 0)
abbrev s_expect : Stmt := top 28
abbrev s_moduli_from : Stmt := top 29
abbrev s_weights_from : Stmt := top 30
abbrev s_read_weights : Stmt := top 31
structure TText (K : PySem.W.Frag) (mg : Str → Option Value) (CW uW : Addr) (fdW : FuncData) : Prop where
  gBadText : mg "BadText" = some (.ref CW)
  iBadText : XvI K CW uW
  fBadText : Fun K "__init__" "BadText.__init__" s_BadText uW fdW
  nLine : PySem.W.findIn K (.ref CW) "line" = some none
  nWord : PySem.W.findIn K (.ref CW) "word" = some none
  bBadText : Binds K fdW ["self", "line", "word"] []
def modG : List Int → List Str → List Int
  | acc, [] => acc
  | acc, w :: r => match numW 32 w with
    | some n => if okMod (some ((acc ++ [(n : Int)]).map V.int)) = true then modG (acc ++ [(n : Int)]) r else acc
    | none => acc
def wtG (b : Nat) : List Str → List Int
  | [] => []
  | w :: r => match numW b w with
    | some n => (n : Int) :: wtG b r
    | none => []
/-- a text's error at a word -/
def badWord (CW : Addr) (H : Hp) (k : Nat) (E : XK) : Prop := ∀ d H', H d = none → Same H H' → H' d = some (.xd [("word", .int (k : Int)), ("line", .int 0)]) → E (.ref CW) (some d) H'
def spExpect (CW : Addr) : Sp := fun vs H Q E => ∃ (L : Addr) (k : Nat) (wd : Str) (ws : List Str), vs = [.ref L, .int (k : Int), .str wd] ∧ H L = some (.lst (ws.map V.str)) ∧ (∀ w ∈ ws, ChOk w) ∧ ChOk wd ∧ (ws[k]? = some wd → ∀ H', Same H H' → Q .non H') ∧ (ws[k]? ≠ some wd → badWord CW H k E)
def spModFrom : Sp := fun vs H Q _ => ∃ (L : Addr) (b : Nat) (ws : List Str), vs = [.ref L, .int (b : Int)] ∧ H L = some (.lst (ws.map V.str)) ∧ (∀ w ∈ ws, w.length ≤ PySem.sizeLine) ∧ ∀ H' q, Same H H' → H' q = some (.lst ((modG [] (ws.drop b)).map V.int)) → Q (.ref q) H'
def spWtFrom : Sp := fun vs H Q _ => ∃ (L : Addr) (b m n : Nat) (ws : List Str), vs = [.ref L, .int (b : Int), .int (n : Int), .int (m : Int)] ∧ H L = some (.lst (ws.map V.str)) ∧ (∀ w ∈ ws, w.length ≤ PySem.sizeLine) ∧ 1 ≤ n ∧ n ≤ 32 ∧ m ≤ 24 ∧ ∀ H' q, Same H H' → H' q = some (.lst ((wtG (n - 1) ((ws.drop b).take m)).map V.int)) → Q (.ref q) H'
theorem cutS_n (ws : List Str) (k n : Nat) : cutV (ws.map V.str) (some (k : Int)) (some ((k : Int) + (n : Int))) = ((ws.drop k).take n).map V.str := by
  have e2 : ((k : Int) + (n : Int)) = ((k + n : Nat) : Int) := rfl
  unfold cutV
  rw [e2, HT.sIx_nat, HT.sIx_nat, List.map_take, List.map_drop]
  rw [List.length_map]
  by_cases h : k ≤ ws.length
  · rw [Nat.min_eq_left h]
    refine List.take_eq_take_iff.mpr ?_
    rw [List.length_drop, List.length_map]
    omega
  · rw [List.drop_eq_nil_of_le (by rw [List.length_map]; omega), List.drop_eq_nil_of_le (by rw [List.length_map]; omega)]
    simp
theorem lay_strs {ws : List Str} (h : ∀ w ∈ ws, ChOk w) : PyData.canLayAll0 (ws.map PyData.str) = true ∧ PyData.depthAll (ws.map PyData.str) = 0 := by
  induction ws with
  | nil => exact ⟨rfl, rfl⟩
  | cons w r ih =>
    have ih := ih fun v hv => h v (List.mem_cons_of_mem _ hv)
    have z : PyData.strOk w = true := by
      unfold PyData.strOk
      rw [← Array.all_toList]
      exact List.all_eq_true.mpr fun c hc => decide_eq_true (h w List.mem_cons_self c hc)
    exact ⟨by simp [PyData.canLayAll0, PyData.canLay0, ih.1, z], by simp [PyData.depthAll, PyData.depth, ih.2]⟩
theorem shaped_strs {ws : List Str} (h : ∀ w ∈ ws, ChOk w) : PySem.SeqAt.shaped (.list (ws.map PyData.str)) = true := by
  have z := lay_strs h
  simp [PySem.SeqAt.shaped, PyData.canLay0, PyData.depth, z]
theorem dp_strs {K : PySem.W.Frag} {H : Hp} : ∀ ws : List Str, DpAll K H (ws.map V.str) (ws.map PyData.str)
  | [] => .nil
  | w :: r => .cons (.str w) (dp_strs r)
theorem one_at (ws : List Str) (k : Nat) : (ws.drop k).take 1 = match ws[k]? with
    | some w => [w]
    | none => [] := by
  cases e : ws[k]? with
  | none => rw [List.drop_eq_nil_of_le (List.getElem?_eq_none_iff.mp e)]; rfl
  | some w =>
    obtain ⟨h, e2⟩ := List.getElem?_eq_some_iff.mp e
    rw [List.drop_eq_getElem_cons h, e2]
    rfl
theorem eqv_one {ws : List Str} {k : Nat} {wd : Str} : PyData.eqv (.list (((ws.drop k).take 1).map PyData.str)) (.list [.str wd]) = decide (ws[k]? = some wd) := by
  rw [one_at]
  cases e : ws[k]? with
  | none => simp [PyData.eqv, PyData.eqvAll]
  | some w =>
    simp only [PyData.eqv, PyData.eqvAll, List.map_cons, List.map_nil, Bool.and_true]
    by_cases c : w = wd
    · subst c
      simp
    · rw [decide_eq_false (fun z => c (Option.some.inj z))]
      simpa using c
section
variable {P : Program} {w : World} {K : PySem.W.Frag} {mg : Str → Option Value} {base : Heap} {CR CN CT uR uN uT : Addr} {fdR fdN fdT : FuncData} {C pc pb gc gb : Addr} {CW uW : Addr} {fdW : FuncData}
theorem sc_BadText : FnScope ["self", "line", "word"] ["self", "line", "word"] (defScope s_BadText) := ⟨rfl, rfl, rfl, by decide +kernel, rfl, by decide +kernel, by decide +kernel⟩
theorem ok_BadText (T : TText K mg CW uW fdW) : FnOk P w K mg base CX0 1 uW fdW ["self", "line", "word"] (spX CW 2 (fs2 "line" "word")) := by
  refine T.fBadText.ok sc_BadText (fun vs H Q E h => ?_) (fun cdv A outer s H vs Q E hr h => ?_)
  · obtain ⟨a, ys, rfl, hl, _⟩ := h
    show ys.length + 1 = 3
    omega
  · obtain ⟨a, ys, rfl, hl, ha, k⟩ := h
    obtain ⟨y, z, rfl⟩ : ∃ y z, ys = [y, z] := by
      match ys, hl with
      | [y, z], _ => exact ⟨y, z, rfl⟩
    refine ⟨_, (pss_cons (ps_ost (pv 0) (pv 1)) (pss_one (ps_ost (pv 0) (pv 2)))), ?_⟩
    refine ⟨_, rfl, _, rfl, a, CW, rfl, T.iBadText.cls.oex, T.nLine, .inl ⟨ha, fun dx hd nd => ?_⟩⟩
    refine ⟨_, rfl, _, rfl, a, CW, rfl, T.iBadText.cls.oex, T.nWord, .inr ⟨dx, _, upd_same, (by rw [upd_ne nd]; exact upd_same), (by show 1 ≤ 900; decide), ?_⟩⟩
    exact k dx _ hd nd (by rw [upd_ne nd.symm]; exact upd_same) upd_same fun b h1 h2 => by rw [upd_ne h2, upd_ne h1, upd_ne h2]
abbrev N_expect : List Str := ["words", "at", "wanted"]
theorem sc_expect : FnScope N_expect ["words", "at", "wanted"] (defScope s_expect) := ⟨rfl, rfl, rfl, by decide +kernel, rfl, by decide +kernel, by decide +kernel⟩
theorem ok_expect {f : Addr} {fd : FuncData} (F : Fun K "expect" "expect" s_expect f fd) (TX : TText K mg CW uW fdW) : FnOk P w K mg base (L2.CX P w) 3 f fd ["words", "at", "wanted"] (spExpect CW) := by
  refine F.okX sc_expect (fun vs H Q E h => ?_) (fun cdv A outer s H vs Q E hr h => ?_)
  · obtain ⟨L, k, wd, ws, rfl, _⟩ := h
    rfl
  · obtain ⟨L, k, wd, ws, rfl, hL, ok1, ok2, kQ, kE⟩ := h
    have hrE : Room 2 _ := hr
    refine ⟨_, (pss_one (ps_if (pt_cmpR (op_neD hr.units) (pe_slice sl_list (pv 0) (po_some (pv 1)) (po_some (pe_op op_add (pv 1) pe_int))) (pe_lst (pa_cons (pv 2) pa_nil)) (nomark _)) (pss_one (ps_raise rfl (takes_of rfl rfl rfl rfl) (pmk_x TX.iBadText (ok_BadText TX) hrE TX.bBadText (by decide) rfl TX.gBadText (mono_c (mono_var mono_nil)) (pa_cons pe_int (pa_cons (pv 1) pa_nil))))) pss_nil)), ?_⟩
    refine ⟨_, rfl, _, rfl, _, rfl, _, rfl, _, _, rfl, rfl, _, rfl, L, _, rfl, SqL.of hL, fun S hS => ?_⟩
    rw [show cutV (ws.map V.str) (some (k : Int)) (some ((k : Int) + 1)) = ((ws.drop k).take 1).map V.str from cutS_n ws k 1]
    refine ⟨_, rfl, (by show 1 ≤ PySem.sizeLine; decide), fun D hD => ?_⟩
    have y1 := Same.lay (o := .lst (((ws.drop k).take 1).map V.str)) hS
    have y2 := Same.lay (o := .lst [V.str wd]) hD
    have hS1 := y2 _ _ (upd_same (H := H) (a := S) (o := .lst (((ws.drop k).take 1).map V.str)))
    have sh : ∀ w ∈ (ws.drop k).take 1, ChOk w := fun w hw => ok1 w (List.mem_of_mem_drop (List.mem_of_mem_take hw))
    have S2 : Same H _ := fun _ _ z => y2 _ _ (y1 _ _ z)
    refine ⟨.list (((ws.drop k).take 1).map .str), .list [.str wd], .lst (SqL.of hS1) (dp_strs _), .lst (SqL.of upd_same) (.cons (.str wd) .nil), shaped_strs sh, shaped_strs (ws := [wd]) (fun w hw => by rw [List.mem_singleton.mp hw]; exact ok2), _, rfl, ?_⟩
    rw [eqv_one]
    by_cases c : ws[k]? = some wd
    · rw [decide_eq_true c]
      exact kQ c _ S2
    · rw [decide_eq_false c]
      exact ⟨_, rfl, rfl, fun d H' hd s e => kE c d H' (S2.free hd) (fun _ _ z => s _ _ (S2 _ _ z)) e⟩
abbrev N_moduli_from : List Str := ["words", "begin", "moduli", "word", "more"]
theorem sc_moduli_from : FnScope N_moduli_from ["words", "begin"] (defScope s_moduli_from) := ⟨rfl, rfl, rfl, by decide +kernel, rfl, by decide +kernel, by decide +kernel⟩
theorem ok_moduli_from {f fWh fM : Addr} {fd fdWh fdM : FuncData} (F : Fun K "moduli_from" "moduli_from" s_moduli_from f fd) (T : TR mg)
    (GWh : FnOk P w K mg base CX0 1 fWh fdWh ["word", "most"] spWhole) (gWh : mg "whole_in" = some (.ref fWh)) (kWh : PySem.W.keepIn K (.ref fWh) = true) (bWh : Binds K fdWh ["word", "most"] [])
    (GM : FnOk P w K mg base CX0 3 fM fdM ["value"] (spAreModuli K)) (gM : mg "are_moduli" = some (.ref fM)) (kM : PySem.W.keepIn K (.ref fM) = true) (bM : Binds K fdM ["value"] []) : FnOk P w K mg base CX0 4 f fd ["words", "begin"] spModFrom := by
  refine F.ok sc_moduli_from (fun vs H Q E h => ?_) (fun cdv A outer s H vs Q E hr h => ?_)
  · obtain ⟨L, b, ws, rfl, _⟩ := h
    rfl
  · obtain ⟨L, b, ws, rfl, hL, lw, k⟩ := h
    have hrM : Room 3 _ := hr
    have hrE1 : Room 1 _ := hr.mono (by decide)
    refine ⟨_, (pss_cons (ps_set (i := 2) sc_moduli_from.nd rfl (Or.inl rfl) (pe_lst pa_nil))
 (pss_cons (ps_for PassesOwn.never rfl (pi_list (pe_slice sl_list (pv 0) (po_some (pv 1)) po_none)) (pg_name (i := 3) sc_moduli_from.nd rfl (Or.inl rfl))
 (pss_cons (ps_set (i := 4) sc_moduli_from.nd rfl (Or.inl rfl) (pe_op op_cat (pv 2) (pe_lst (pa_cons (pe_call GWh hrE1 rfl gWh kWh bWh .nil pass0 (pa_cons (pv 3) (pa_cons (pe_glob (v := .int 32) rfl T.g_MOST_BANKS.choose_spec ⟨_, rfl⟩) pa_nil))) pa_nil))))
 (pss_cons (ps_if (pt_not (pt_val (pe_call GM hrM rfl gM kM bM .nil pass0 (pa_cons (pv 4) pa_nil)))) (pss_one ps_break) pss_nil)
 (pss_one (ps_set (i := 2) sc_moduli_from.nd rfl (Or.inl rfl) (pv 4))))))
 (pss_one (ps_ret (pv 2))))), ?_⟩
    refine ⟨(by show 0 ≤ PySem.sizeLine; decide), fun q0 hq0 => ?_⟩
    have y0 := Same.lay (o := .lst []) hq0
    refine ⟨_, rfl, _, rfl, _, rfl, L, _, rfl, SqL.of (y0 _ _ hL), fun S hS => ?_⟩
    rw [cutS_from]
    have yS := Same.lay (o := .lst ((ws.drop b).map V.str)) hS
    have hS1 : (upd (upd H q0 (.lst [])) S (.lst ((ws.drop b).map V.str))) S = some (.lst ((ws.drop b).map V.str)) := upd_same
    have hq1 := yS _ _ (upd_same (H := H) (a := q0) (o := .lst []))
    have S1 : Same H _ := fun _ _ z => yS _ _ (y0 _ _ z)
    generalize upd (upd H q0 (.lst [])) S (.lst ((ws.drop b).map V.str)) = H1 at hS1 hq1 S1 ⊢
    clear yS y0 hS hq0
    refine ⟨S, rfl, ⟨_, SqL.of hS1⟩, for_it (walk_list (xs := (ws.drop b).map V.str)) (fun i σ G => ∃ (q : Addr) (acc : List Int) (u3 u4 : Option V), σ = [some (.ref L), some (.int (b : Int)), some (.ref q), u3, u4] ∧ Same H1 G ∧ G q = some (.lst (acc.map V.int)) ∧ modG [] (ws.drop b) = modG acc ((ws.drop b).drop i) ∧ acc.length = i ∧ (acc = [] ∨ okMod (some (acc.map V.int)) = true)) ⟨q0, [], none, none, rfl, Same.refl _, hq1, rfl, rfl, .inl rfl⟩ (fun i σ G _ ⟨_, _, _, _, _, s, _⟩ => SqL.of (s _ _ hS1)) ?_ ?_⟩
    · rintro i x σ G G' hi ⟨q, acc, u3, u4, rfl, s1, hq, inv, la, oka⟩ ⟨rfl, hx⟩
      rw [List.getElem?_map] at hx
      obtain ⟨wd, hw, rfl⟩ := Option.map_eq_some_iff.mp hx
      have dr : (ws.drop b).drop i = wd :: (ws.drop b).drop (i + 1) := (List.drop_eq_getElem_cons (List.getElem?_eq_some_iff.mp hw).1).trans (by rw [(List.getElem?_eq_some_iff.mp hw).2])
      have l5 : acc.length ≤ 5 := by
        rcases oka with rfl | ok
        · decide
        · obtain ⟨ns, e1, hM, _⟩ := mods_of ok
          obtain rfl := map_int_inj e1
          exact hM.1
      refine ⟨_, rfl, _, rfl, wd, 32, rfl, lw wd (List.mem_of_mem_drop (List.mem_of_getElem? hw)), (by decide), fun G1 s2 => ⟨(by show 1 ≤ PySem.sizeLine; decide), fun D hD => ?_⟩⟩
      have yD := Same.lay (o := .lst [wordV 32 wd]) hD
      have hq2 := yD _ _ (s2 _ _ hq)
      refine ⟨q, D, _, _, rfl, rfl, hq2, upd_same, (by rw [List.length_map]; show acc.length + 1 ≤ 16777216; omega), fun c hc => ?_⟩
      have yc := Same.lay (o := .lst (acc.map V.int ++ [wordV 32 wd])) hc
      have hc1 : (upd (upd G1 D (.lst [wordV 32 wd])) c (.lst (acc.map V.int ++ [wordV 32 wd]))) c = some (.lst (acc.map V.int ++ [wordV 32 wd])) := upd_same
      have hq3 := yc _ _ hq2
      have S3 : Same H1 _ := fun _ _ z => yc _ _ (yD _ _ (s2 _ _ (s1 _ _ z)))
      generalize upd (upd G1 D (.lst [wordV 32 wd])) c (.lst (acc.map V.int ++ [wordV 32 wd])) = G3 at hc1 hq3 S3 ⊢
      clear yc yD hc hD hq2 s2
      have pls : ∀ y ∈ acc.map V.int ++ [wordV 32 wd], ∃ S, Plain K G3 y S := fun y hy => by
        rcases List.mem_append.mp hy with h | h
        · obtain ⟨z, _, rfl⟩ := List.mem_map.mp h
          exact ⟨_, .int z⟩
        · rw [List.mem_singleton.mp h]
          unfold wordV
          cases numW 32 wd with
          | none => exact ⟨_, .non⟩
          | some n => exact ⟨_, .int _⟩
      refine ⟨_, rfl, .ref c, some (acc.map V.int ++ [wordV 32 wd]), rfl, .seq (.inl hc1) pls (by rw [List.length_append, List.length_map]; show acc.length + 1 ≤ 1000; omega), fun G4 s4 => ?_⟩
      have S4 : Same H1 G4 := fun _ _ z => s4 _ _ (S3 _ _ z)
      have e1 : modG acc ((ws.drop b).drop i) = match numW 32 wd with
          | some n => if okMod (some ((acc ++ [(n : Int)]).map V.int)) = true then modG (acc ++ [(n : Int)]) ((ws.drop b).drop (i + 1)) else acc
          | none => acc := by rw [dr]; rfl
      cases e : okMod (some (acc.map V.int ++ [wordV 32 wd])) with
      | false =>
        refine ⟨_, rfl, iteT ⟨_, rfl, k G4 q (fun _ _ z => S4 _ _ (S1 _ _ z)) ?_⟩⟩
        have e2 : modG [] (ws.drop b) = acc := by
          rw [inv, e1]
          unfold wordV at e
          cases en : numW 32 wd with
          | none => rfl
          | some n =>
            rw [en] at e
            refine if_neg ?_
            rw [List.map_append]
            show ¬ okMod (some (acc.map V.int ++ [V.int (n : Int)])) = true
            rw [show okMod (some (acc.map V.int ++ [V.int (n : Int)])) = false from e]
            exact Bool.noConfusion
        rw [e2]
        exact s4 _ _ hq3
      | true =>
        unfold wordV at e hc1
        cases en : numW 32 wd with
        | none =>
          rw [en] at e
          have := (okMod_all e).1
          rw [List.all_append] at this
          have := (Bool.and_eq_true _ _ ▸ this).2
          cases this
        | some n =>
          rw [en] at e hc1 e1
          have em : acc.map V.int ++ [V.int (n : Int)] = (acc ++ [(n : Int)]).map V.int := by rw [List.map_append]; rfl
          replace e : okMod (some (acc.map V.int ++ [V.int (n : Int)])) = true := e
          replace hc1 : G3 c = some (.lst (acc.map V.int ++ [V.int (n : Int)])) := hc1
          rw [em] at e hc1
          refine ⟨_, rfl, iteF ⟨_, rfl, c, acc ++ [(n : Int)], _, _, rfl, S4, s4 _ _ hc1, ?_, by rw [List.length_append, la]; rfl, .inr e⟩⟩
          rw [inv, e1]
          exact if_pos e
    · rintro σ G ⟨q, acc, u3, u4, rfl, s1, hq, inv, la, oka⟩
      rw [List.length_map, List.drop_length] at inv
      refine ⟨_, rfl, k G q (fun _ _ z => s1 _ _ (S1 _ _ z)) ?_⟩
      rw [inv]
      exact hq
abbrev N_weights_from : List Str := ["words", "begin", "banks", "most", "weights", "word", "weight"]
theorem sc_weights_from : FnScope N_weights_from ["words", "begin", "banks", "most"] (defScope s_weights_from) := ⟨rfl, rfl, rfl, by decide +kernel, rfl, by decide +kernel, by decide +kernel⟩
theorem ok_weights_from {f fWh : Addr} {fd fdWh : FuncData} (F : Fun K "weights_from" "weights_from" s_weights_from f fd) (T : TR mg)
    (GWh : FnOk P w K mg base CX0 1 fWh fdWh ["word", "most"] spWhole) (gWh : mg "whole_in" = some (.ref fWh)) (kWh : PySem.W.keepIn K (.ref fWh) = true) (bWh : Binds K fdWh ["word", "most"] []) : FnOk P w K mg base CX0 2 f fd ["words", "begin", "banks", "most"] spWtFrom := by
  refine F.ok sc_weights_from (fun vs H Q E h => ?_) (fun cdv A outer s H vs Q E hr h => ?_)
  · obtain ⟨L, b, m, n, ws, rfl, _⟩ := h
    rfl
  · obtain ⟨L, b, m, n, ws, rfl, hL, lw, n0, n1, m24, k⟩ := h
    have hrE1 : Room 1 _ := hr
    refine ⟨_, (pss_cons (ps_set (i := 4) sc_weights_from.nd rfl (Or.inl rfl) (pe_lst pa_nil))
 (pss_cons (ps_for PassesOwn.never rfl (pi_list (pe_slice sl_list (pv 0) (po_some (pv 1)) (po_some (pe_op op_add (pv 1) (pv 3))))) (pg_name (i := 5) sc_weights_from.nd rfl (Or.inl rfl))
 (pss_cons (ps_set (i := 6) sc_weights_from.nd rfl (Or.inl rfl) (by exact (pe_call GWh hrE1 rfl gWh kWh bWh .nil pass0 (pa_cons (pv 5) (pa_cons (pe_op op_sub (pv 2) pe_int) pa_nil)))))
 (pss_cons (ps_if (pt_cmpR op_isN (pv 6) pe_non (nomark _)) (pss_one ps_break) pss_nil)
 (pss_one (ps_expr (pe_bm PySem.F.plainAttrs_list PySem.F.slot_list_append PySem.F.type_list_append mt_append (pv 4) (pa_cons (pv 6) pa_nil)))))))
 (pss_one (ps_ret (pv 4))))), ?_⟩
    refine ⟨(by show 0 ≤ PySem.sizeLine; decide), fun q hq => ?_⟩
    have y0 := Same.lay (o := .lst []) hq
    refine ⟨_, rfl, _, rfl, _, rfl, _, rfl, _, rfl, _, _, rfl, rfl, _, rfl, L, _, rfl, SqL.of (y0 _ _ hL), fun S hS => ?_⟩
    rw [show cutV (ws.map V.str) (some (b : Int)) (some ((b : Int) + (m : Int))) = ((ws.drop b).take m).map V.str from cutS_n ws b m]
    have yS := Same.lay (o := .lst (((ws.drop b).take m).map V.str)) hS
    have hS1 : (upd (upd H q (.lst [])) S (.lst (((ws.drop b).take m).map V.str))) S = some (.lst (((ws.drop b).take m).map V.str)) := upd_same
    have hq1 := yS _ _ (upd_same (H := H) (a := q) (o := .lst []))
    have S1 : Same H _ := fun _ _ z => yS _ _ (y0 _ _ z)
    have nSq : S ≠ q := fun z => by
      rw [z, upd_same] at hS
      cases hS
    have frq : ∀ b o, H b = some o → b ≠ q := fun b o e => ne_of_none e hq
    generalize upd (upd H q (.lst [])) S (.lst (((ws.drop b).take m).map V.str)) = H1 at hS1 hq1 S1 ⊢
    clear yS y0 hS hq
    have lt : ((ws.drop b).take m).length ≤ 24 := by rw [List.length_take]; omega
    have lw2 : ∀ w ∈ (ws.drop b).take m, w.length ≤ PySem.sizeLine := fun w hw => lw w (List.mem_of_mem_drop (List.mem_of_mem_take hw))
    generalize (ws.drop b).take m = us at hS1 lt lw2 k ⊢
    refine ⟨S, rfl, ⟨_, SqL.of hS1⟩, for_it (walk_list (xs := us.map V.str)) (fun i σ G => ∃ (acc : List Int) (u3 u4 : Option V), σ = [some (.ref L), some (.int (b : Int)), some (.int (n : Int)), some (.int (m : Int)), some (.ref q), u3, u4] ∧ But q H1 G ∧ G q = some (.lst (acc.map V.int)) ∧ wtG (n - 1) us = acc ++ wtG (n - 1) (us.drop i) ∧ acc.length = i) ⟨[], none, none, rfl, But.refl _ _, hq1, rfl, rfl⟩ (fun i σ G _ ⟨_, _, _, _, s, _⟩ => SqL.of (s _ _ nSq hS1)) ?_ ?_⟩
    · rintro i x σ G G' hi ⟨acc, u3, u4, rfl, bt, hG, inv, la⟩ ⟨rfl, hx⟩
      rw [List.length_map] at hi
      rw [List.getElem?_map] at hx
      obtain ⟨wd, hw, rfl⟩ := Option.map_eq_some_iff.mp hx
      have dr : us.drop i = wd :: us.drop (i + 1) := (List.drop_eq_getElem_cons (List.getElem?_eq_some_iff.mp hw).1).trans (by rw [(List.getElem?_eq_some_iff.mp hw).2])
      have e1 : wtG (n - 1) (us.drop i) = match numW (n - 1) wd with
          | some z => (z : Int) :: wtG (n - 1) (us.drop (i + 1))
          | none => [] := by rw [dr]; rfl
      refine ⟨_, rfl, _, rfl, _, _, rfl, rfl, wd, n - 1, (by show [V.str wd, V.int ((n : Int) - 1)] = _; rw [show ((n : Int) - 1) = ((n - 1 : Nat) : Int) by omega]), lw2 wd (List.mem_of_getElem? hw), Nat.lt_of_le_of_lt (show n - 1 ≤ 32 by omega) (by decide), fun G1 s1 => ?_⟩
      have b1 : But q H1 G1 := bt.trans (But.of s1)
      have hG1 := s1 _ _ hG
      unfold wordV
      cases en : numW (n - 1) wd with
      | none =>
        rw [en] at e1
        refine ⟨_, rfl, rfl, _, rfl, iteT ⟨_, rfl, k G1 q (fun c o e => b1 _ _ (frq _ _ e) (S1 _ _ e)) ?_⟩⟩
        rw [inv, e1, List.append_nil]
        exact hG1
      | some z =>
        rw [en] at e1
        refine ⟨_, rfl, rfl, _, rfl, iteF ⟨_, rfl, .inl ⟨rfl, _, SqL.of hG1⟩, _, rfl, q, _, _, rfl, rfl, hG1, small1000 (by rw [List.length_map]; omega), ?_⟩⟩
        refine ⟨acc ++ [(z : Int)], _, _, rfl, b1.put, by rw [upd_same, List.map_append]; rfl, by rw [inv, e1, List.append_assoc]; rfl, by rw [List.length_append, la]; rfl⟩
    · rintro σ G ⟨acc, u3, u4, rfl, bt, hG, inv, la⟩
      rw [List.length_map, List.drop_length] at inv
      refine ⟨_, rfl, k G q (fun c o e => bt _ _ (frq _ _ e) (S1 _ _ e)) ?_⟩
      rw [inv]
      show G q = some (.lst ((acc ++ []).map V.int))
      rw [List.append_nil]
      exact hG
end
end Toy
set_option maxRecDepth 100000
namespace Toy
open PySem L2 LamX Dg TL
def wordsT (a : Str) : List Str := Txt.split a " "
def readR (ws : List Str) (m A : List Int) (a : Nat) : Nat ⊕ (List Int × List Int × List Int) :=
  if ws[a]? = some (Str.ofString "round") then
    if wtG ((prodI m).toNat - 1) ((ws.drop (a + 1)).take (24 - A.length)) = [] ∨ a + 1 + (wtG ((prodI m).toNat - 1) ((ws.drop (a + 1)).take (24 - A.length))).length < ws.length then .inl (a + 1 + (wtG ((prodI m).toNat - 1) ((ws.drop (a + 1)).take (24 - A.length))).length)
    else .inr (m, A, wtG ((prodI m).toNat - 1) ((ws.drop (a + 1)).take (24 - A.length)))
  else .inl a
def readA (ws : List Str) (m : List Int) (a : Nat) : Nat ⊕ (List Int × List Int × List Int) :=
  if ws[a]? = some (Str.ofString "ahead") then
    if wtG ((prodI m).toNat - 1) ((ws.drop (a + 1)).take 23) = [] ∧ ws[a + 1]? ≠ some (Str.ofString "-") then .inl (a + 1)
    else readR ws m (wtG ((prodI m).toNat - 1) ((ws.drop (a + 1)).take 23)) (a + 1 + max 1 (wtG ((prodI m).toNat - 1) ((ws.drop (a + 1)).take 23)).length)
  else .inl a
/-- a rule's words: the first one that cannot stand, or moduli, weights ahead, weights in the round -/
def readP (ws : List Str) : Nat ⊕ (List Int × List Int × List Int) :=
  if ws[0]? = some (Str.ofString "moduli") then
    if modG [] (ws.drop 1) = [] then .inl 1 else readA ws (modG [] (ws.drop 1)) (1 + (modG [] (ws.drop 1)).length)
  else .inl 0
theorem badWord.same {CW : Addr} {H G : Hp} {k : Nat} {E : XK} (h : badWord CW H k E) (s : Same H G) : badWord CW G k E := fun d H' hd s2 e => h d H' (s.free hd) (fun _ _ z => s2 _ _ (s _ _ z)) e
theorem modG_ok : ∀ (ws : List Str) (acc : List Int), (acc = [] ∨ okMod (some (acc.map V.int)) = true) → modG acc ws = [] ∨ okMod (some ((modG acc ws).map V.int)) = true
  | [], acc, h => h
  | w :: r, acc, h => by
    unfold modG
    cases e : numW 32 w with
    | none => exact h
    | some n =>
      show (if _ then _ else _) = [] ∨ okMod (some ((if _ then _ else _ : List Int).map V.int)) = true
      by_cases c : okMod (some ((acc ++ [(n : Int)]).map V.int)) = true
      · rw [if_pos c]
        exact modG_ok r _ (.inr c)
      · rw [if_neg c]
        exact h
theorem wtG_len (b : Nat) : ∀ ws : List Str, (wtG b ws).length ≤ ws.length
  | [] => Nat.le_refl _
  | w :: r => by
    unfold wtG
    cases numW b w with
    | none => exact Nat.zero_le _
    | some n => exact Nat.succ_le_succ (wtG_len b r)
theorem wtG_rng (b : Nat) : ∀ ws : List Str, ∀ z ∈ wtG b ws, 0 ≤ z ∧ z ≤ b
  | w :: r, z, hz => by
    unfold wtG at hz
    cases e : numW b w with
    | none =>
      rw [e] at hz
      cases hz
    | some n =>
      rw [e] at hz
      rcases List.mem_cons.mp hz with rfl | h
      · have := (numW_eq.mp e).2
        omega
      · exact wtG_rng b r z h
def NotStr (K : PySem.W.Frag) (H : Hp) (x : V) : Prop := ∃ t, TyX K H x t ∧ PySem.W.kitOne K t (.type "str") = some false
theorem split_len {a : Str} (h : a.length + 2 ≤ PySem.sizeLine) : (wordsT a).length ≤ 16777216 := by
  have h1 := wt_len (wordsT a)
  have h2 := split_wt (a := a) (sep := (" " : Str)) (s := 32) (by decide +kernel)
  have e : PySem.sizeLine = 16777216 := rfl
  unfold wordsT at h1 ⊢
  omega
theorem ite_no {c : Bool} {A B : Prop} (h : c = false) (b : B) : if c = true then A else B := by
  rw [h]
  exact iteF b
theorem ite_yes {c : Bool} {A B : Prop} (h : c = true) (a : A) : if c = true then A else B := by
  rw [h]
  exact iteT a
def spReadW (CW : Addr) (K : PySem.W.Frag) : Sp := fun vs H Q E => ∃ x, vs = [x, .int 24] ∧ ((∃ a, x = .str a ∧ a.length + 2 ≤ PySem.sizeLine ∧ ChOk a ∧ (∀ k, readP (wordsT a) = .inl k → badWord CW H k E) ∧
    (∀ m A T, readP (wordsT a) = .inr (m, A, T) → ∀ (H' : Hp) (q qm qa qt : Addr), Same H H' → H' q = some (.tup [.ref qm, .ref qa, .ref qt]) → H' qm = some (.lst (m.map V.int)) → H' qa = some (.lst (A.map V.int)) → H' qt = some (.lst (T.map V.int)) → Q (.ref q) H')) ∨
  (NotStr K H x ∧ badWord CW H 0 E))
section
variable {P : Program} {w : World} {K : PySem.W.Frag} {mg : Str → Option Value} {base : Heap} {CR CN CT uR uN uT : Addr} {fdR fdN fdT : FuncData} {C pc pb gc gb : Addr} {CW uW : Addr} {fdW : FuncData}
abbrev N_read_weights : List Str := ["text", "most", "words", "moduli", "at", "ahead", "turn"]
theorem sc_read_weights : FnScope N_read_weights ["text", "most"] (defScope s_read_weights) := ⟨rfl, rfl, rfl, by decide +kernel, rfl, by decide +kernel, by decide +kernel⟩
theorem ok_read_weights {f fEx fMf fWf fB : Addr} {fd fdEx fdMf fdWf fdB : FuncData} (F : Fun K "read_weights" "read_weights" s_read_weights f fd) (T : TR mg) (m_str : mg "str" = none) (m_max : mg "max" = none) (TX : TText K mg CW uW fdW)
    (GEx : FnOk P w K mg base (L2.CX P w) 3 fEx fdEx ["words", "at", "wanted"] (spExpect CW)) (gEx : mg "expect" = some (.ref fEx)) (kEx : PySem.W.keepIn K (.ref fEx) = true) (bEx : Binds K fdEx ["words", "at", "wanted"] [])
    (GMf : FnOk P w K mg base CX0 4 fMf fdMf ["words", "begin"] spModFrom) (gMf : mg "moduli_from" = some (.ref fMf)) (kMf : PySem.W.keepIn K (.ref fMf) = true) (bMf : Binds K fdMf ["words", "begin"] [])
    (GWf : FnOk P w K mg base CX0 2 fWf fdWf ["words", "begin", "banks", "most"] spWtFrom) (gWf : mg "weights_from" = some (.ref fWf)) (kWf : PySem.W.keepIn K (.ref fWf) = true) (bWf : Binds K fdWf ["words", "begin", "banks", "most"] [])
    (GB : FnOk P w K mg base CX0 1 fB fdB ["moduli"] (spBanksBy K)) (gB : mg "banks_by" = some (.ref fB)) (kB : PySem.W.keepIn K (.ref fB) = true) (bB : Binds K fdB ["moduli"] []) : FnOk P w K mg base (L2.CX P w) 5 f fd ["text", "most"] (spReadW CW K) := by
  refine F.okX sc_read_weights (fun vs H Q E h => ?_) (fun cdv A outer s H vs Q E hr h => ?_)
  · obtain ⟨x, rfl, _⟩ := h
    rfl
  · obtain ⟨x, rfl, h⟩ := h
    have hrMf : Room 4 _ := hr
    have hrEx : Room 3 _ := hr.mono (by decide)
    have hrWf : Room 2 _ := hr.mono (by decide)
    have hrE : Room 2 _ := hr.mono (by decide)
    have hrB : Room 1 _ := hr.mono (by decide)
    refine ⟨_, (pss_cons (ps_if (pt_not (pt_val (pe_callB call_isi (by rfl) T.m_isinstance (by decide +kernel) (pa_cons (pv 0) (pa_cons (pe_bltn (v := .ty "str") (u := .type "str") rfl m_str (by decide +kernel) rfl) pa_nil))))) (pss_one (ps_raise rfl (takes_of rfl rfl rfl rfl) (pmk_x TX.iBadText (ok_BadText TX) hrE TX.bBadText (by decide) rfl TX.gBadText (mono_c (mono_c mono_nil)) (pa_cons pe_int (pa_cons pe_int pa_nil))))) pss_nil)
 (pss_cons (ps_set (i := 2) sc_read_weights.nd rfl (Or.inl rfl) (pe_split (pv 0) pe_str))
 (pss_cons (ps_expr (pe_call GEx hrEx rfl gEx kEx bEx .nil (passes_call (takes_of rfl rfl rfl rfl) fun _ _ _ _ h => h) (pa_cons (pv 2) (pa_cons pe_int (pa_cons pe_str pa_nil)))))
 (pss_cons (ps_set (i := 3) sc_read_weights.nd rfl (Or.inl rfl) (by exact (pe_call GMf hrMf rfl gMf kMf bMf .nil pass0 (pa_cons (pv 2) (pa_cons pe_int pa_nil)))))
 (pss_cons (ps_set (i := 4) sc_read_weights.nd rfl (Or.inl rfl) (pe_op op_add pe_int (pe_callB call_len_seq (by rfl) T.m_len (by decide +kernel) (pa_cons (pv 3) pa_nil))))
 (pss_cons (ps_if (pt_not (pt_truth (pv 3) (fun _ => rfl))) (pss_one (ps_raise rfl (takes_of rfl rfl rfl rfl) (pmk_x TX.iBadText (ok_BadText TX) hrE TX.bBadText (by decide) rfl TX.gBadText (mono_c (mono_var mono_nil)) (pa_cons pe_int (pa_cons (pv 4) pa_nil))))) pss_nil)
 (pss_cons (ps_expr (pe_call GEx hrEx rfl gEx kEx bEx .nil (passes_call (takes_of rfl rfl rfl rfl) fun _ _ _ _ h => h) (pa_cons (pv 2) (pa_cons (pv 4) (pa_cons pe_str pa_nil)))))
 (pss_cons (ps_set (i := 5) sc_read_weights.nd rfl (Or.inl rfl) (by exact (pe_call GWf hrWf rfl gWf kWf bWf .nil pass0 (pa_cons (pv 2) (pa_cons (pe_op op_add (pv 4) pe_int) (pa_cons (pe_call GB hrB rfl gB kB bB .nil pass0 (pa_cons (pv 3) pa_nil)) (pa_cons (pe_op op_sub (pv 1) pe_int) pa_nil)))))))
 (C8.pss_cut (ps_if (pt_not (pt_truth (pv 5) (fun _ => rfl))) (pss_one (ps_expr (pe_call GEx hrEx rfl gEx kEx bEx .nil (passes_call (takes_of rfl rfl rfl rfl) fun _ _ _ _ h => h) (pa_cons (pv 2) (pa_cons (pe_op op_add (pv 4) pe_int) (pa_cons pe_str pa_nil)))))) pss_nil)
 (pss_cons (ps_set (i := 4) sc_read_weights.nd rfl (Or.inl rfl) (pe_op op_add (pe_op op_add (pv 4) pe_int) (pe_callB (call_max2 rfl) (by rfl) m_max (by decide +kernel) (pa_cons pe_int (pa_cons (pe_callB call_len_seq (by rfl) T.m_len (by decide +kernel) (pa_cons (pv 5) pa_nil)) pa_nil)))))
 (pss_cons (ps_expr (pe_call GEx hrEx rfl gEx kEx bEx .nil (passes_call (takes_of rfl rfl rfl rfl) fun _ _ _ _ h => h) (pa_cons (pv 2) (pa_cons (pv 4) (pa_cons pe_str pa_nil)))))
 (pss_cons (ps_set (i := 6) sc_read_weights.nd rfl (Or.inl rfl) (by exact (pe_call GWf hrWf rfl gWf kWf bWf .nil pass0 (pa_cons (pv 2) (pa_cons (pe_op op_add (pv 4) pe_int) (pa_cons (pe_call GB hrB rfl gB kB bB .nil pass0 (pa_cons (pv 3) pa_nil)) (pa_cons (pe_op op_sub (pv 1) (pe_callB call_len_seq (by rfl) T.m_len (by decide +kernel) (pa_cons (pv 5) pa_nil))) pa_nil)))))))
 (pss_cons (ps_set (i := 4) sc_read_weights.nd rfl (Or.inl rfl) (pe_op op_add (pe_op op_add (pv 4) pe_int) (pe_callB call_len_seq (by rfl) T.m_len (by decide +kernel) (pa_cons (pv 6) pa_nil))))
 (pss_cons (ps_if (PW.pt (pw_or (pt_not (pt_truth (pv 6) (fun _ => rfl))) (pw_or1 (pt_cmpR op_lt (pv 4) (pe_callB call_len_seq (by rfl) T.m_len (by decide +kernel) (pa_cons (pv 2) pa_nil)) (nomark _))))) (pss_one (ps_raise rfl (takes_of rfl rfl rfl rfl) (pmk_x TX.iBadText (ok_BadText TX) hrE TX.bBadText (by decide) rfl TX.gBadText (mono_c (mono_var mono_nil)) (pa_cons pe_int (pa_cons (pv 4) pa_nil))))) pss_nil)
 (pss_one (ps_ret (pe_tup (pa_cons (pv 3) (pa_cons (pv 5) (pa_cons (pv 6) pa_nil)))))))))))))))))))), ?_⟩
    have ch1 : ChOk (Str.ofString "moduli") := ch_of (by decide +kernel)
    have ch2 : ChOk (Str.ofString "ahead") := ch_of (by decide +kernel)
    have ch3 : ChOk (Str.ofString "-") := ch_of (by decide +kernel)
    have ch4 : ChOk (Str.ofString "round") := ch_of (by decide +kernel)
    rcases h with ⟨a, rfl, ha, oka, kE, kQ⟩ | ⟨⟨t, ty, nk⟩, kE⟩
    rotate_left
    · exact ⟨_, rfl, _, _, _, _, _, rfl, .ty _, ty, nk, _, rfl, iteT ⟨rfl, fun d H' hd s1 e => kE d H' hd s1 e⟩⟩
    refine ⟨_, rfl, _, _, _, _, _, rfl, .ty _, (Plain.str a).ty, rfl, _, rfl, iteF ?_⟩
    refine ⟨_, rfl, ⟨_, rfl⟩, a, " ", rfl, rfl, rfl, ha, fun L hL0 => ?_⟩
    have yL := Same.lay (o := .lst ((Txt.split a " ").map V.str)) hL0
    have hL : (upd H L (.lst ((Txt.split a " ").map V.str))) L = some (.lst ((wordsT a).map V.str)) := upd_same
    have lw : ∀ w ∈ wordsT a, w.length ≤ PySem.sizeLine := fun w hw => by
      have := PyProof.Rows.part_short (x := a) (y := " ") (a := w) hw
      omega
    have okw : ∀ w ∈ wordsT a, ChOk w := ch_split oka
    generalize upd H L (.lst ((Txt.split a " ").map V.str)) = H1 at yL hL ⊢
    clear hL0
    have lW := split_len ha
    generalize wordsT a = ws at hL lw okw kE kQ lW ⊢
    replace kE : ∀ k, readP ws = .inl k → ∀ G, Same H1 G → badWord CW G k E := fun k e G s => (kE k e).same fun _ _ z => s _ _ (yL _ _ z)
    replace kQ : ∀ m A T, readP ws = .inr (m, A, T) → ∀ (H' : Hp) (q qm qa qt : Addr), Same H1 H' → H' q = some (.tup [.ref qm, .ref qa, .ref qt]) → H' qm = some (.lst (m.map V.int)) → H' qa = some (.lst (A.map V.int)) → H' qt = some (.lst (T.map V.int)) → Q (.ref q) H' := fun m A T e H' q qm qa qt s h1 h2 h3 h4 => kQ m A T e H' q qm qa qt (fun _ _ z => s _ _ (yL _ _ z)) h1 h2 h3 h4
    clear yL ha oka
    unfold readP at kE kQ
    refine ⟨_, rfl, L, 0, Str.ofString "moduli", ws, rfl, hL, okw, ch1, fun c0 H2 s2 => ?_, fun c0 => kE 0 (if_neg c0) _ (Same.refl _)⟩
    rw [if_pos c0] at kE kQ
    have hL2 := s2 _ _ hL
    refine ⟨_, rfl, L, 1, ws, rfl, hL2, lw, fun H3 qm s3 hm => ?_⟩
    have hL3 := s3 _ _ hL2
    have s13 : Same H1 H3 := fun _ _ z => s3 _ _ (s2 _ _ z)
    have okm := modG_ok (ws.drop 1) [] (.inl rfl)
    generalize modG [] (ws.drop 1) = m at hm okm kE kQ ⊢
    refine ⟨_, rfl, qm, _, rfl, .inl (SqL.of hm), _, _, rfl, rfl, ?_⟩
    have em : (1 : Int) + ((m.map V.int).length : Nat) = ((1 + m.length : Nat) : Int) := by rw [List.length_map]; omega
    refine ⟨_, rfl, !m.isEmpty, .inl ⟨m.map V.int, SqL.of hm, by cases m <;> rfl⟩, ?_⟩
    by_cases cm : m = []
    · rw [if_pos cm] at kE
      subst cm
      exact iteT ⟨_, rfl, rfl, fun d H' hd s e => kE 1 rfl _ s13 d H' hd s e⟩
    have okm' : okMod (some (m.map V.int)) = true := okm.resolve_left cm
    obtain ⟨mi, e1, hM, _, p32, p2⟩ := mods_of okm'
    obtain rfl := map_int_inj e1
    rw [if_neg cm] at kE kQ
    refine (show (if (!(!m.isEmpty)) = true then _ else _) from ite_no (by cases m with | nil => exact absurd rfl cm | cons _ _ => rfl) ?_)
    refine ⟨_, rfl, _, rfl, L, 1 + m.length, Str.ofString "ahead", ws, (by show [V.ref L, V.int (1 + (((m.map V.int).length : Nat) : Int)), V.str _] = _; rw [em]), hL3, okw, ch2, fun c1 H4 s4 => ?_, fun c1 => kE _ (by unfold readA; exact if_neg c1) _ s13⟩
    unfold readA at kE kQ
    rw [if_pos c1] at kE kQ
    have hL4 := s4 _ _ hL3
    have hm4 := s4 _ _ hm
    have wm := (okMod_all okm').1
    obtain ⟨n, en⟩ := Int.eq_ofNat_of_zero_le (show 0 ≤ prodI m by omega)
    rw [en, Int.toNat_natCast] at kE kQ
    have n2 : 2 ≤ n := by omega
    have n32 : n ≤ 32 := by omega
    refine ⟨_, rfl, _, rfl, _, _, rfl, rfl, _, rfl, qm, m.map V.int, rfl, .inl hm4, wm, _, rfl, _, _, rfl, rfl, ?_⟩
    refine ⟨L, 1 + m.length + 1, 23, n, ws, (by show [V.ref L, V.int (1 + (((m.map V.int).length : Nat) : Int) + 1), V.int (prodV (m.map V.int)), V.int (24 - 1)] = _; rw [em, prodV_map, en]; rfl), hL4, lw, by omega, n32, by decide, fun H5 qa s5 ha => ?_⟩
    have hL5 := s5 _ _ hL4
    have hm5 := s5 _ _ hm4
    have s15 : Same H1 H5 := fun _ _ z => s5 _ _ (s4 _ _ (s13 _ _ z))
    have lA := wtG_len (n - 1) ((ws.drop (1 + m.length + 1)).take 23)
    rw [List.length_take] at lA
    generalize wtG (n - 1) ((ws.drop (1 + m.length + 1)).take 23) = A at ha lA kE kQ ⊢
    clear hL4 hm4 hm hL3 hL2 s2 s3 s4 s5 s13
    refine ⟨fun σ G => σ = [some (.str a), some (.int 24), some (.ref L), some (.ref qm), some (.int (1 + (((m.map V.int).length : Nat) : Int))), some (.ref qa), none] ∧ Same H5 G ∧ ¬ (A = [] ∧ ws[1 + m.length + 1]? ≠ some (Str.ofString "-")), ?_, ?_⟩
    · refine ⟨_, rfl, !A.isEmpty, .inl ⟨A.map V.int, SqL.of ha, by cases A <;> rfl⟩, ?_⟩
      by_cases cA : A = []
      · refine (show (if (!(!A.isEmpty)) = true then _ else _) from ite_yes (by rw [cA]; rfl) ?_)
        refine ⟨_, rfl, _, rfl, _, _, rfl, rfl, L, 1 + m.length + 1, Str.ofString "-", ws, (by show [V.ref L, V.int (1 + (((m.map V.int).length : Nat) : Int) + 1), V.str _] = _; rw [em]; rfl), hL5, okw, ch3, fun c2 H6 s6 => ⟨rfl, s6, fun z => z.2 c2⟩, fun c2 => kE _ (if_pos ⟨cA, c2⟩) _ s15⟩
      · refine (show (if (!(!A.isEmpty)) = true then _ else _) from ite_no (by cases A with | nil => exact absurd rfl cA | cons _ _ => rfl) ?_)
        exact ⟨rfl, Same.refl _, fun z => cA z.1⟩
    rintro σ H6 ⟨rfl, s6, cN⟩
    rw [if_neg cN] at kE kQ
    have hL6 := s6 _ _ hL5
    have hm6 := s6 _ _ hm5
    have ha6 := s6 _ _ ha
    have s16 : Same H1 H6 := fun _ _ z => s6 _ _ (s15 _ _ z)
    clear cN hL5 hm5 ha s6 s15
    refine ⟨_, rfl, _, _, rfl, rfl, _, rfl, qa, _, rfl, .inl (SqL.of ha6), _, _, rfl, _, _, rfl, rfl, ?_⟩
    have e2 : (1 + (((m.map V.int).length : Nat) : Int) + 1 + (if (((A.map V.int).length : Nat) : Int) > 1 then (((A.map V.int).length : Nat) : Int) else 1)) = ((1 + m.length + 1 + max 1 A.length : Nat) : Int) := by
      rw [List.length_map, List.length_map]
      split <;> omega
    generalize 1 + m.length + 1 + max 1 A.length = b at e2 kE kQ ⊢
    refine ⟨_, rfl, _, rfl, L, b, Str.ofString "round", ws, (by show [V.ref L, V.int (1 + (((m.map V.int).length : Nat) : Int) + 1 + (if (((A.map V.int).length : Nat) : Int) > 1 then (((A.map V.int).length : Nat) : Int) else 1)), V.str _] = _; rw [e2]), hL6, okw, ch4, fun c3 H7 s7 => ?_, fun c3 => kE _ (by unfold readR; exact if_neg c3) _ s16⟩
    unfold readR at kE kQ
    rw [if_pos c3] at kE kQ
    rw [en, Int.toNat_natCast] at kE kQ
    have hL7 := s7 _ _ hL6
    have hm7 := s7 _ _ hm6
    have ha7 := s7 _ _ ha6
    refine ⟨_, rfl, _, rfl, _, _, rfl, rfl, _, rfl, qm, m.map V.int, rfl, .inl hm7, wm, _, rfl, _, rfl, qa, _, rfl, .inl (SqL.of ha7), _, _, rfl, rfl, ?_⟩
    refine ⟨L, b + 1, 24 - A.length, n, ws, (by show [V.ref L, V.int (1 + (((m.map V.int).length : Nat) : Int) + 1 + (if (((A.map V.int).length : Nat) : Int) > 1 then (((A.map V.int).length : Nat) : Int) else 1) + 1), V.int (prodV (m.map V.int)), V.int (24 - (((A.map V.int).length : Nat) : Int))] = _; rw [e2, prodV_map, en, List.length_map, show (24 - (A.length : Int)) = ((24 - A.length : Nat) : Int) by omega]; rfl), hL7, lw, by omega, n32, by omega, fun H8 qt s8 ht => ?_⟩
    have hm8 := s8 _ _ hm7
    have ha8 := s8 _ _ ha7
    have s18 : Same H1 H8 := fun _ _ z => s8 _ _ (s7 _ _ (s16 _ _ z))
    have hL8 := s8 _ _ hL7
    generalize wtG (n - 1) ((ws.drop (b + 1)).take (24 - A.length)) = T' at ht kE kQ ⊢
    clear hL7 hm7 ha7 hL6 hm6 ha6 s7 s8 s16
    refine ⟨_, rfl, _, _, rfl, rfl, _, rfl, qt, _, rfl, .inl (SqL.of ht), _, _, rfl, rfl, ?_⟩
    have e3 : (1 + (((m.map V.int).length : Nat) : Int) + 1 + (if (((A.map V.int).length : Nat) : Int) > 1 then (((A.map V.int).length : Nat) : Int) else 1) + 1 + (((T'.map V.int).length : Nat) : Int)) = ((b + 1 + T'.length : Nat) : Int) := by
      rw [e2, List.length_map]
      omega
    refine ⟨_, rfl, !T'.isEmpty, .inl ⟨T'.map V.int, SqL.of ht, by cases T' <;> rfl⟩, ?_⟩
    have bad : (T' = [] ∨ b + 1 + T'.length < ws.length) → ∀ d H', H8 d = none → Same H8 H' → H' d = some (.xd [("word", .int (1 + (((m.map V.int).length : Nat) : Int) + 1 + (if (((A.map V.int).length : Nat) : Int) > 1 then (((A.map V.int).length : Nat) : Int) else 1) + 1 + (((T'.map V.int).length : Nat) : Int))), ("line", .int 0)]) → E (.ref CW) (some d) H' := fun c d H' hd s e => by
      rw [e3] at e
      exact kE _ (if_pos c) _ s18 d H' hd s e
    by_cases cT : T' = []
    · refine (show (if (!(!T'.isEmpty)) = true then _ else _) from ite_yes (by rw [cT]; rfl) ?_)
      exact ⟨_, rfl, rfl, fun d H' hd s e => bad (.inl cT) d H' hd s e⟩
    refine (show (if (!(!T'.isEmpty)) = true then _ else _) from ite_no (by cases T' with | nil => exact absurd rfl cT | cons _ _ => rfl) ?_)
    refine ⟨_, rfl, _, rfl, L, _, rfl, .inl (SqL.of hL8), _, _, rfl, rfl, _, rfl, ?_⟩
    by_cases cB : b + 1 + T'.length < ws.length
    · refine ite_yes (decide_eq_true ?_) ⟨_, rfl, rfl, fun d H' hd s e => bad (.inr cB) d H' hd s e⟩
      show (1 + (((m.map V.int).length : Nat) : Int) + 1 + (if (((A.map V.int).length : Nat) : Int) > 1 then (((A.map V.int).length : Nat) : Int) else 1) + 1 + (((T'.map V.int).length : Nat) : Int)) < _
      rw [e3, List.length_map]
      omega
    · refine ite_no (decide_eq_false ?_) ?_
      · show ¬ (1 + (((m.map V.int).length : Nat) : Int) + 1 + (if (((A.map V.int).length : Nat) : Int) > 1 then (((A.map V.int).length : Nat) : Int) else 1) + 1 + (((T'.map V.int).length : Nat) : Int)) < _
        rw [e3, List.length_map]
        omega
      refine ⟨_, rfl, _, rfl, _, rfl, (by show 3 ≤ PySem.sizeLine; decide), fun q hq => ?_⟩
      have yq := Same.lay (o := .tup [V.ref qm, V.ref qa, V.ref qt]) hq
      exact kQ m A T' (if_neg (fun z => z.elim cT cB)) _ q qm qa qt (fun _ _ z => yq _ _ (s18 _ _ z)) upd_same (yq _ _ hm8) (yq _ _ ha8) (yq _ _ ht)
end
end Toy
set_option maxRecDepth 100000
namespace L2
open PySem PySem.Spec PyProof.Rows LamX
/-! cls(e, ..), cls a name of the def that holds the class -/
def tMakeV (i : Nat) (C : Addr) (sp : Sp) (dvs : List V) (E : XK) (t : TA) : TE := fun σ H Q => σ[i]? = some (some (.ref C)) ∧ tMake C sp dvs E t σ H Q
theorem pe_makeV {X : Cx} {CX : CXT} {k : Nat} {f C : Addr} {fd : FuncData} {ps : List Str} {ds : List Value} {dvs : List V} {sp : Sp} {E : XK} {x : Str} {p pos : Pos} {e : Expr} {es : List Expr} {t : TA} {i : Nat}
    (M : Mk X.K C f) (F : FnOk X.prog X.w X.K X.mg X.base CX k f fd ps sp) (hr : Room (k + 1) X.A) (hN : X.N[i]? = some x) (hv : Vis X.env.scope x) (hb : Binds X.K fd ps ds) (hd : Vals dvs ds) (hx : Passes CX X E)
    (ha : PA X (e :: es) t) (hdb : (x == ("__debug__" : Str)) = false := by decide) (hcd : (x == ("__classdict__" : Str)) = false := by decide) (he : starEach (e :: es) X.env = (false, eval e X.env) :: starEach es X.env := by rfl) (hpl : (backTo pos (starEach es X.env)).any (·.1) = false := by rfl) :
    PE X (.Call (.Name x p) (e :: es) [] pos) (tMakeV i C sp dvs E t) := by
  refine ⟨fun pins s σ H Q I h => ?_⟩
  obtain ⟨hs, h⟩ := h
  refine wpAny_Call_Name_kw (thn ((pe_var (pos := p) (i := i) hN hv hdb hcd).run pins s σ H (fun v H1 => v = .ref C ∧ H1 = H) I ⟨.ref C, hs, rfl, rfl⟩) fun u s1 ⟨v, H1, I1, r1, q1⟩ => ?_)
  obtain ⟨rfl, rfl⟩ := q1
  obtain rfl : u = Value.ref C := r1
  refine PySem.W.callWith_K (h₀ := X.base) I.ok.mod.kin M.kp (thn (ha.run pos pins s1 σ _ _ I1 h) fun us s2 ⟨vs, H2, I2, r, q⟩ => ⟨I2.kIn, ?_⟩) he hpl
  exact run_make M F hr hb hd hx I2 r q
end L2
set_option maxRecDepth 100000
set_option maxHeartbeats 2000000
/-! own classes: truth by __len__, <=, == beside any plain value; static methods -/
namespace L2
open PySem PySem.Spec PyProof.Rows ClX
theorem oth_looks {X : Cx} {C : Addr} {pins : List (Addr × Obj)} {σ : St} {H : Hp} {s : Shared} {y : V} {u : Value} (I : Inv X pins σ H s) (r : RelV y u) (h : Oth X.K C H y) : ∃ t, (∀ M : Model, PySem.W.Looks M s.heap (typeOf u) t) ∧ PySem.W.notFirst X.K C t = true := by
  rcases h with ⟨b, dx, fs, rfl, h⟩ | ⟨S, h⟩
  · cases r
    obtain ⟨mA, J, _⟩ := ins_get I.hok h
    obtain ⟨od, J, _⟩ := J.look
    exact ⟨_, fun M => J.type, by simp [PySem.W.notFirst]⟩
  · refine ⟨.type S, fun M => plain_looks I r h M, ?_⟩
    unfold PySem.W.notFirst
    rw [sub_no X.K C S (plain_name h)]
    simp
/-- own comparisons beside an instance or a plain value -/
def rOwnC (C : Addr) (sp : Sp) (E : XK) (K : PySem.W.Frag) : R2 := fun x y H Q => ∃ (a dx : Addr) (fs : List (Str × V)), x = .ref a ∧ H a = some (.ins C dx fs) ∧ Oth K C H y ∧ sp [x, y] H (fun v H' => ∃ b : Bool, v = .bl b ∧ Q (.bl b) H') E
section
variable {X : Cx} {CX : CXT} {n : Nat} {C f : Addr} {sp : Sp} {E : XK}
theorem own_cmp {op : CmpOp} (F : FnR X.prog X.w X.K X.mg X.base CX n f sp) (h1 : PySem.W.findIn X.K (.ref C) (cmpInfo op).2.1 = some (some (.ref f))) (h2 : PySem.W.isFn X.K (.ref f) = true) (hr : Room n X.A) (hx : Passes CX X E)
    {pins : List (Addr × Obj)} {σ : St} {H : Hp} {s : Shared} {x y : V} {v u : Value} {Q : VK} (I : Inv X pins σ H s) (rx : RelV x v) (ry : RelV y u) (hq : rOwnC C sp E X.K x y H Q) : wpAny (model X.prog X.w) X.A (richCompare op v u) (EP X pins σ Q) X.xe s := by
  obtain ⟨a, dx, fs, rfl, ha, hy, hsp⟩ := hq
  cases rx
  obtain ⟨mA, J, _⟩ := ins_get I.hok ha
  obtain ⟨od, J, _⟩ := J.look
  obtain ⟨t, ht, hn⟩ := oth_looks I ry hy
  obtain ⟨m, hF⟩ := I.fr
  refine PySem.W.cmp_K (op := op) (tb := t) hr.units0 hF I.ok.mod.kin J (ht _) hn h1 h2 (wpAny_call (codeAny_mono (own_codeR F hr rfl hx I (show Vals [V.ref a, y] [Value.ref a, u] from .cons rfl (.cons ry .nil)) hsp) fun r s' z => ?_))
  match r, z with
  | .error e, z => exact z
  | .ok .next, z => exact z.elim
  | .ok .brk, z => exact z.elim
  | .ok .cont, z => exact z.elim
  | .ok (.ret w), z =>
    obtain ⟨v, H', I', rz, b, rfl, q⟩ := z
    obtain rfl : w = Value.bool b := rz
    exact ⟨.bl b, H', I', rfl, q⟩
theorem op_leOwn (F : FnR X.prog X.w X.K X.mg X.base CX n f sp) (h1 : PySem.W.findIn X.K (.ref C) "__le__" = some (some (.ref f))) (h2 : PySem.W.isFn X.K (.ref f) = true) (hr : Room n X.A) (hx : Passes CX X E) : OpR X (compareOp .LtE) (rOwnC C sp E X.K) := by
  intro pins s σ H x y v u Q I rx ry hq
  exact own_cmp (op := .LtE) F h1 h2 hr hx I rx ry hq
theorem op_eqOwnP (F : FnR X.prog X.w X.K X.mg X.base CX n f sp) (h1 : PySem.W.findIn X.K (.ref C) "__eq__" = some (some (.ref f))) (h2 : PySem.W.isFn X.K (.ref f) = true) (hr : Room n X.A) (hx : Passes CX X E) : OpR X (compareOp .Eq) (rOwnC C sp E X.K) := by
  intro pins s σ H x y v u Q I rx ry hq
  exact own_cmp (op := .Eq) F h1 h2 hr hx I rx ry hq
/-! truth -/
def rTruI (C : Addr) (sp : Sp) (E : XK) : V → Hp → (Bool → Hp → Prop) → Prop := fun x H Q => ∃ (a dx : Addr) (fs : List (Str × V)), x = V.ref a ∧ H a = some (.ins C dx fs) ∧ sp [V.ref a] H (fun v H' => ∃ i : Int, v = V.int i ∧ 0 ≤ i ∧ i < 2 ^ 63 ∧ Q (i != 0) H') E
theorem truth_len (F : FnR X.prog X.w X.K X.mg X.base CX n f sp) (hr : Room (n + 1) X.A) (h0 : PySem.W.findIn X.K (.ref C) "__bool__" = some none) (h1 : PySem.W.findIn X.K (.ref C) "__len__" = some (some (.ref f))) (h2 : PySem.W.isFn X.K (.ref f) = true) (hx : Passes CX X E)
    {pins : List (Addr × Obj)} {σ : St} {H : Hp} {s : Shared} {x : V} {v : Value} {Q : Bool → Hp → Prop} (I : Inv X pins σ H s) (rx : RelV x v) (hq : rTruI C sp E x H Q) : wpAny (model X.prog X.w) X.A (truthy v) (fun b s' => ∃ H', Inv X pins σ H' s' ∧ Q b H') X.xe s := by
  obtain ⟨a, dx, fs, rfl, ha, hsp⟩ := hq
  cases rx
  obtain ⟨mA, J, _⟩ := ins_get I.hok ha
  obtain ⟨od, J, _⟩ := J.look
  obtain ⟨m0, hF⟩ := I.fr
  have hr2 : Room n X.A.in1 := ⟨hr.hd, by have := hr.dp; show X.A.depth + 3 * n + 5 < _; omega, by have := hr.un; show X.A.units + 1 + 16 * n + 200 < _; omega⟩
  unfold truthy
  refine wpAny_bind (m := callSpecial? (.ref a) (Str.ofString "__bool__")) (wpAny_bind (wpAny_bind (J.type.here ((PySem.W.looks_findIn I.kIn h0).here (wpAny_pure ?_)))))
  refine wpAny_bind (wpAny_bind (J.type.here ((PySem.W.looks_findIn I.kIn h1).here ?_)))
  show wpAny _ _ (runValue (.builtin "len" ⟨[.ref a], []⟩) >>= _) _ _ _
  refine wpAny_bind (wpAny_runValue (codeAny_builtin entry_len ?_))
  rw [Around.under_plainId plain_len _]
  unfold Builtin.«len»
  refine wpAny_bind (m := oneArg "len" _) (wpAny_pure ?_)
  refine wpAny_bind (m := callSpecial? (.ref a) (Str.ofString "__len__")) (PySem.W.special_fn I.kIn J h1 (beq_iff_eq.mp h2) (wpAny_mono (wpAny_call (codeAny_mono (own_codeR F hr2 rfl hx I (show Vals [V.ref a] [Value.ref a] from .cons rfl .nil) hsp) (R := fun r s' => match r with | .ok (.ret v) => EP X pins σ _ v s' | .ok _ => False | .error e => X.xe e s') fun r s' z => z)) (fun r s' hr => ?_) fun _ _ y => y))
  obtain ⟨v, H', I', rz, i, rfl, i0, i1, q⟩ := hr
  obtain ⟨t, rfl⟩ := (show ∃ t, r = Value.int i t from rz)
  refine wpAny_bind (wpAny_holding (wpAny_pure ?_))
  refine wpAny_bind (wpAny_letGo ?_)
  show wpAny _ _ (if i < 0 then _ else _) _ _ _
  rw [if_neg (by omega)]
  show wpAny _ _ (if i ≥ 2 ^ 63 then _ else _) _ _ _
  rw [if_neg (by omega)]
  exact wpAny_bind (wpAny_mkInt (wpAny_pure (wpAny_pure ⟨H', I'.tok _, q⟩)))
theorem pt_truthI {e : Expr} {te : TE} (he : PE X e te) (F : FnR X.prog X.w X.K X.mg X.base CX n f sp) (hr : Room (n + 1) X.A) (h0 : PySem.W.findIn X.K (.ref C) "__bool__" = some none) (h1 : PySem.W.findIn X.K (.ref C) "__len__" = some (some (.ref f))) (h2 : PySem.W.isFn X.K (.ref f) = true) (hx : Passes CX X E)
    (hw : ∀ whole, isTrue e X.env whole = (do let v ← whole; standAt e.pos; holding [v] (truthy v)) := by exact fun _ => rfl) : PT X e (fun σ H Q => te σ H fun x H' => rTruI C sp E x H' Q) := by
  refine ⟨fun pins s σ H Q I h => ?_⟩
  exact isTrue_plain (thn (he.run pins s σ H _ I h) fun v s1 hh => by
    obtain ⟨x, H1, I1, r1, q1⟩ := hh
    exact truth_len F hr h0 h1 h2 hx I1 r1 q1) (hw _)
end
/-! static methods, called through the class -/
structure SMet (K : PySem.W.Frag) (C : Addr) (mc : Value) (m : Str) (p g : Addr) : Prop where
  at_ : PySem.W.findCls K (.ref C) mc m = some (.get (.builtin "staticmethod.__get__") (.ref p) .none (.ref C))
  rc : ∃ rest, PySem.W.recIn K p "staticmethod" = some (.ref g :: rest)
  kp : PySem.W.keepIn K (.ref g) = true
def tSMeth (C : Addr) (sp : Sp) (E : XK) (ta : TE) (t : TA) : TE := fun σ H Q => ta σ H fun x H1 => x = .ref C ∧ t σ H1 fun vs H2 => sp vs H2 Q E
section
variable {X : Cx} {CX : CXT} {k : Nat} {C p g : Addr} {mc : Value} {sp : Sp} {E : XK} {o e : Expr} {es : List Expr} {m : Str} {pos apos : Pos} {ta : TE} {t : TA} {pl : Sem Bool}
theorem getmethsm_ok {pins : List (Addr × Obj)} {σ : St} {H : Hp} {s : Shared} {A : Around} {Q : Value × List Value → Shared → Prop} {E : Value → Shared → Prop} (I : Inv X pins σ H s) (r : CRead X.K C mc) (c : SMet X.K C mc m p g) (h : ∀ s', Inv X pins σ H s' → Q (.ref g, []) s') : wpAny (model X.prog X.w) A (getMethod (.ref C) m pl) Q E s := by
  obtain ⟨rest, hp⟩ := c.rc
  refine PySem.W.method_cls I.kIn r.ga (PySem.W.cls_bind I.kIn r.rd c.at_ (wpAny_call (PySem.W.sm_get (s := { s with toks := s.toks + 1 }) I.kIn hp (PySem.W.handed_on rfl ?_))))
  exact h _ (I.tok _)
theorem pe_smeth (he : PE X o ta) (r : CRead X.K C mc) (c : SMet X.K C mc m p g) (F : FnR X.prog X.w X.K X.mg X.base CX k g sp) (hr : Room k X.A) (hx : Passes CX X E) (ha : PA X (e :: es) t)
    (hst : starEach (e :: es) X.env = (false, eval e X.env) :: starEach es X.env := by rfl) (hpl : (backTo pos (starEach es X.env)).any (·.1) = false := by rfl)
    (ht : eval (.Call (.Attribute o m apos) (e :: es) [] pos) X.env = (do
      let ov ← eval o X.env
      standAt apos.atName
      let (f, first) ← holding [ov] (getMethod ov m pl)
      callWith pos f first (backTo pos (starEach (e :: es) X.env)) (backToKw pos (keywordEach [] X.env))) := by rfl) : PE X (.Call (.Attribute o m apos) (e :: es) [] pos) (tSMeth C sp E ta t) := by
  refine ⟨fun pins s σ H Q I h => ?_⟩
  refine PySem.W.methodCall_KW (pl := pl) (thn (he.run pins s σ H _ I h) fun u s1 hh => ?_) ht
  obtain ⟨x, H1, I1, rx, ex, q⟩ := hh
  subst ex
  obtain rfl : u = Value.ref C := rx
  refine getmethsm_ok I1 r c fun s2 I2 => ?_
  refine PySem.W.callWith_K (h₀ := X.base) I2.ok.mod.kin c.kp (thn (ha.run pos pins s2 σ H1 _ I2 q) fun us s3 hv => ?_) hst hpl
  obtain ⟨vs, H2, I3, rv, q2⟩ := hv
  exact ⟨I3.kIn, wpAny_call (run_fnR F hr hx I3 rv q2)⟩
end
section
variable {X : Cx} {CX : CXT} {k : Nat} {p g C : Addr} {mc : Value} {fd : FuncData} {ps ks : List Str} {m : Str} {sp : Sp} {E : XK} {o : Expr} {ta : TE} {tk : TA} {pos apos : Pos} {kws : List Keyword} {gg : List Value → List Value → List Value} {gV : List V → List V → List V}
def tSMethK (C : Addr) (n : Nat) (sp : Sp) (gV : List V → List V → List V) (E : XK) (ta : TE) (tk : TA) : TE := fun σ H Q => ta σ H fun x H1 => x = .ref C ∧ tk σ H1 fun zs H2 => zs.length = n ∧ sp (gV [] zs) H2 Q E
theorem pe_smethK {pl : Sem Bool} (he : PE X o ta) (r : CRead X.K C mc) (c : SMet X.K C mc m p g) (F : FnOk X.prog X.w X.K X.mg X.base CX k g fd ps sp) (hr : Room k X.A) (hb : KBn X.K fd ps 0 ks gg gV) (hx : Passes CX X E) (hkw : PK X kws tk)
    (hall : (backToKw pos (keywordEach kws X.env)).all (·.1.isSome) = true := by rfl) (hks : (backToKw pos (keywordEach kws X.env)).filterMap (·.1) = ks := by rfl)
    (hpl : ((backTo pos (starEach [] X.env)).any (·.1) || (backToKw pos (keywordEach kws X.env)).any (·.1.isNone)) = false := by rfl)
    (ht : eval (.Call (.Attribute o m apos) [] kws pos) X.env = (do
      let ov ← eval o X.env
      standAt apos.atName
      let (f, first) ← holding [ov] (getMethod ov m pl)
      callWith pos f first (backTo pos (starEach [] X.env)) (backToKw pos (keywordEach kws X.env))) := by rfl) :
    PE X (.Call (.Attribute o m apos) [] kws pos) (tSMethK C ks.length sp gV E ta tk) := by
  refine ⟨fun pins s σ H Q I h => ?_⟩
  refine PySem.W.methodCall_KW (pl := pl) (thn (he.run pins s σ H _ I h) fun u s1 hh => ?_) ht
  obtain ⟨x, H1, I1, rx, ex, q⟩ := hh
  subst ex
  obtain rfl : u = Value.ref C := rx
  refine getmethsm_ok I1 r c fun s2 I2 => ?_
  refine PySem.W.callWith_KW0 (h₀ := X.base) I2.ok.mod.kin c.kp hall ?_ hpl
  refine thn (hkw.run pos pins s2 σ H1 _ I2 q) fun ws s3 hw => ?_
  obtain ⟨zs, H2, I3, rz, l2, q2⟩ := hw
  refine ⟨I3.kIn, ?_⟩
  rw [hks]
  have rr : Vals ([] : List V) ([] : List Value) := .nil
  have r2 := hb.rel rr rz
  refine wpAny_call (codeAny_mono (F.run X.A X.stack s3 H2 ⟨[], ks.zip ws⟩ (gg [] ws) (gV [] zs) Q E hr I3.env0 (hb.to s3 [] ws I3.kIn rfl (rz.length.symm.trans l2)) r2 q2) fun r s' hq => ?_)
  match r, hq with
  | .error e, hq => exact hx _ σ H2 s3 e s' I3 hq
  | .ok (.ret u), hq => exact I3.after hq
  | .ok .next, hq => exact hq.elim
  | .ok .brk, hq => exact hq.elim
  | .ok .cont, hq => exact hq.elim
end
/-- what the top has written of a static method -/
def smB (K : PySem.W.Frag) (C : Addr) (m : Str) : Bool := He5.wrapB K C "staticmethod" "staticmethod.__get__" m && PySem.W.keepIn K (.ref (He5.wf K C "staticmethod" m))
theorem sm_of {K : PySem.W.Frag} {C : Addr} {m : Str} (h : smB K C m = true) : SMet K C (.type "type") m (He.ma K C m) (He5.wf K C "staticmethod" m) := by
  obtain ⟨h1, h2⟩ := He.ba h
  obtain ⟨h3, h4⟩ := He5.wrapB_ok h1
  exact ⟨h3, h4, h2⟩
end L2
set_option maxRecDepth 100000
namespace Toy
open PySem L2 LamX Dg TL
abbrev s_Rule_read : Stmt := (inClass (top 34) 4)
theorem readP_inr {ws : List Str} {m A T : List Int} (h : readP ws = .inr (m, A, T)) : okMod (some (m.map V.int)) = true ∧ (∀ z ∈ A, 0 ≤ z ∧ z ≤ prodV (m.map V.int) - 1) ∧ (∀ z ∈ T, 0 ≤ z ∧ z ≤ prodV (m.map V.int) - 1) ∧ T ≠ [] ∧ A.length + T.length ≤ 24 := by
  unfold readP at h
  split at h
  rotate_left
  · cases h
  have okm := modG_ok (ws.drop 1) [] (.inl rfl)
  generalize modG [] (ws.drop 1) = m1 at h okm
  split at h
  · cases h
  rename_i cm
  replace okm := okm.resolve_left cm
  obtain ⟨mi, e1, hM, _, p32, p2⟩ := mods_of okm
  obtain rfl := map_int_inj e1
  unfold readA at h
  split at h
  rotate_left
  · cases h
  split at h
  · cases h
  have rA := wtG_rng ((prodI m1).toNat - 1) ((ws.drop (1 + m1.length + 1)).take 23)
  have lA := wtG_len ((prodI m1).toNat - 1) ((ws.drop (1 + m1.length + 1)).take 23)
  rw [List.length_take] at lA
  generalize wtG ((prodI m1).toNat - 1) ((ws.drop (1 + m1.length + 1)).take 23) = A1 at h rA lA
  unfold readR at h
  split at h
  rotate_left
  · cases h
  generalize 1 + m1.length + 1 + max 1 A1.length = b at h
  have rT := wtG_rng ((prodI m1).toNat - 1) ((ws.drop (b + 1)).take (24 - A1.length))
  have lT := wtG_len ((prodI m1).toNat - 1) ((ws.drop (b + 1)).take (24 - A1.length))
  rw [List.length_take] at lT
  generalize wtG ((prodI m1).toNat - 1) ((ws.drop (b + 1)).take (24 - A1.length)) = T1 at h rT lT
  split at h
  · cases h
  rename_i cT
  have h2 := Sum.inr.inj h
  obtain ⟨rfl, h3⟩ := Prod.mk.inj h2
  obtain ⟨rfl, rfl⟩ := Prod.mk.inj h3
  rw [prodV_map]
  exact ⟨okm, fun z hz => by have := rA z hz; omega, fun z hz => by have := rT z hz; omega, fun z => cT (.inl z), by omega⟩
theorem wAt_mem {A T : List Int} {z : Int} (h : z ∈ A ∨ z ∈ T) : ∃ i, wAt A T i = z := by
  rcases h with h | h
  · obtain ⟨i, hi, rfl⟩ := List.mem_iff_getElem.mp h
    refine ⟨i, ?_⟩
    unfold wAt
    rw [if_pos hi, List.getD_eq_getElem?_getD, List.getElem?_eq_getElem hi]
    rfl
  · obtain ⟨i, hi, rfl⟩ := List.mem_iff_getElem.mp h
    refine ⟨A.length + i, ?_⟩
    unfold wAt pAt
    rw [if_neg (by omega), Nat.add_sub_cancel_left, Nat.mod_eq_of_lt hi, List.getD_eq_getElem?_getD, List.getElem?_eq_getElem hi]
    rfl
theorem tostr_num (n : Nat) : (toString ((n : Nat) : Int) : Str) = numT n := rfl
theorem shown_nums {ns : List Int} (h : ∀ z ∈ ns, 0 ≤ z) : shownS ns = (ns.map Int.toNat).map numT := by
  unfold shownS
  rw [List.map_map]
  refine List.map_congr_left fun z hz => ?_
  have e : z = ((z.toNat : Nat) : Int) := (Int.toNat_of_nonneg (h z hz)).symm
  show Str.ofString (toString z) = numT z.toNat
  unfold numT
  rw [← e]
theorem numT_small {n : Nat} (h : n < 1000) : (numT n).length ≤ 3 := by
  rw [len_numT]
  exact numL_len (by decide) h
theorem fit_of {ns : List Int} (l : ns.length ≤ 40) (h : ∀ z ∈ ns, 0 ≤ z ∧ z < 1000) : FitS ns := by
  have sm : ((shownS ns).map (·.length)).sum ≤ 3 * ns.length := by
    rw [shown_nums fun z hz => (h z hz).1]
    clear l
    induction ns with
    | nil => exact Nat.le_refl _
    | cons z r ih =>
      have h1 := ih fun y hy => h y (List.mem_cons_of_mem _ hy)
      have h2 := numT_small (n := z.toNat) (by have := h z List.mem_cons_self; omega)
      show (numT z.toNat).length + (((r.map Int.toNat).map numT).map (·.length)).sum ≤ 3 * (r.length + 1)
      omega
  have ls : (shownS ns).length = ns.length := List.length_map ..
  have l1 : (Str.ofString " ").length = 1 := by decide +kernel
  refine ⟨by omega, fun z hz => by have := h z hz; omega, by rw [ls, l1]; omega, ?_⟩
  unfold spacedS
  split
  · decide +kernel
  · have h3 := StrLaws.join_length_le (Str.ofString " ") (shownS ns)
    rw [← TL.join_eq] at h3
    refine Nat.le_trans h3 ?_
    rw [ls, l1]
    omega
def spRuleRead (CW C : Addr) (K : PySem.W.Frag) : Sp := fun vs H Q E => ∃ x, vs = [.ref C, x] ∧ ((∃ a, x = .str a ∧ a.length + 2 ≤ PySem.sizeLine ∧ ChOk a ∧ (∀ k, readP (wordsT a) = .inl k → badWord CW H k E) ∧
    (∀ m A T, readP (wordsT a) = .inr (m, A, T) → (ruleTxt m (normW A T).1 (normW A T).2 ≠ a → badWord CW H 0 E) ∧ (ruleTxt m (normW A T).1 (normW A T).2 = a → ∀ H' x, Same H H' → RuleAt C H' x (m.map V.int) (normW A T).1 (normW A T).2 → Q (.ref x) H'))) ∨
  (NotStr K H x ∧ badWord CW H 0 E))
section
variable {P : Program} {w : World} {K : PySem.W.Frag} {mg : Str → Option Value} {base : Heap} {CR CN CT uR uN uT : Addr} {fdR fdN fdT : FuncData} {C pc pb gc gb : Addr} {CW uW : Addr} {fdW : FuncData}
abbrev N_Rule_read : List Str := ["cls", "text", "moduli", "ahead", "turn", "rule"]
theorem sc_Rule_read : FnScope N_Rule_read ["cls", "text"] (defScope s_Rule_read) := ⟨rfl, rfl, rfl, by decide +kernel, rfl, by decide +kernel, by decide +kernel⟩
theorem ok_Rule_read {f fRw fRI fSt : Addr} {fd fdRw fdRI fdSt : FuncData} (F : Fun K "read" "Rule.read" s_Rule_read f fd) (T : TR mg) (m_str : mg "str" = none) (TX : TText K mg CW uW fdW) (TU : TRule K mg C pc pb gc gb)
    (GRw : FnOk P w K mg base (L2.CX P w) 5 fRw fdRw ["text", "most"] (spReadW CW K)) (gRw : mg "read_weights" = some (.ref fRw)) (kRw : PySem.W.keepIn K (.ref fRw) = true) (bRw : Binds K fdRw ["text", "most"] [])
    (MRI : Mk K C fRI) (GRI : FnOk P w K mg base (L2.CX P w) 4 fRI fdRI ["self", "moduli", "ahead", "turn"] (spInit CR CT C K)) (bRI : Binds K fdRI ["self", "moduli", "ahead", "turn"] [])
    (GSt : FnOk P w K mg base CX0 2 fSt fdSt ["self"] (spStr C)) (bSt : Binds K fdSt ["self"] []) (nSt : PySem.W.findIn K (.ref C) "__str__" = some (some (.ref fSt))) (nSt2 : PySem.W.isFn K (.ref fSt) = true) : FnOk P w K mg base (L2.CX P w) 6 f fd ["cls", "text"] (spRuleRead CW C K) := by
  refine F.okX sc_Rule_read (fun vs H Q E h => ?_) (fun cdv A outer s H vs Q E hr h => ?_)
  · obtain ⟨x, rfl, _⟩ := h
    rfl
  · obtain ⟨x, rfl, h⟩ := h
    have hrRw : Room 5 _ := hr
    have hrM : Room 5 _ := hr
    have hrSt : Room 3 _ := hr.mono (by decide)
    have hrE : Room 2 _ := hr.mono (by decide)
    refine ⟨_, (pss_cons (ps_asg (pe_call GRw hrRw rfl gRw kRw bRw .nil (passes_call (takes_of rfl rfl rfl rfl) fun _ _ _ _ h => h) (pa_cons (pv 1) (pa_cons (pe_glob (v := .int 24) rfl T.g_MOST_PLACES.choose_spec ⟨_, rfl⟩) pa_nil))) (pg_tup rfl (pgs_cons (pg_name (i := 2) sc_Rule_read.nd rfl (Or.inl rfl)) (pgs_cons (pg_name (i := 3) sc_Rule_read.nd rfl (Or.inl rfl)) (pgs_cons (pg_name (i := 4) sc_Rule_read.nd rfl (Or.inl rfl)) pgs_nil)))))
 (pss_cons (ps_set (i := 5) sc_Rule_read.nd rfl (Or.inl rfl) (by exact (pe_makeV (i := 0) MRI GRI hrM rfl (Or.inl rfl) bRI .nil (passes_call (takes_of rfl rfl rfl rfl) fun _ _ _ _ h => h) (pa_cons (pv 2) (pa_cons (pv 3) (pa_cons (pv 4) pa_nil))))))
 (pss_cons (ps_if (pt_cmpR op_ne (pe_callTy (call_strI GSt bSt hrSt nSt nSt2 pass0) (by rfl) m_str (by decide +kernel) (pa_cons (pv 5) pa_nil)) (pv 1) (nomark _)) (pss_one (ps_raise rfl (takes_of rfl rfl rfl rfl) (pmk_x TX.iBadText (ok_BadText TX) hrE TX.bBadText (by decide) rfl TX.gBadText (mono_c (mono_c mono_nil)) (pa_cons pe_int (pa_cons pe_int pa_nil))))) pss_nil)
 (pss_one (ps_ret (pv 5)))))), ?_⟩
    rcases h with ⟨a, rfl, ha, oka, kE, kQ⟩ | ⟨ns, kE⟩
    rotate_left
    · exact ⟨_, rfl, x, rfl, .inr ⟨ns, kE⟩⟩
    refine ⟨_, rfl, .str a, rfl, .inl ⟨a, rfl, ha, oka, kE, fun m A' T' er H1 q qm qa qt s1 hq hm hA hT => ?_⟩⟩
    obtain ⟨okm, rA, rT, tne, l24⟩ := readP_inr er
    obtain ⟨kE2, kQ2⟩ := kQ m A' T' er
    obtain ⟨nA, nS, nl1, nl2⟩ := normW_ok (A := A') tne
    refine ⟨q, _, rfl, SqT.of hq, rfl, _, _, rfl, _, _, rfl, _, _, rfl, rfl, ?_⟩
    refine ⟨rfl, _, rfl, _, rfl, _, rfl, fun x dx nx ndx nex => ?_⟩
    refine init_ok (A := noA) nx ndx (argA_mods (.inl hm) (fun z => z) okm) (argA_ints (.inl hA) (fun z => z) (by omega)) (argA_ints (.inl hT) (fun z => z) (by omega)) (ruleErr_ok okm rA rT tne) (fun big => absurd big (by omega)) (fun _ H2 s2 R2 => ⟨rfl, ?_⟩)
    obtain ⟨dy, pm, pa, pt, h1, h2, h3, h4⟩ := id R2
    obtain ⟨mi, e1, hM, _, p32, p2⟩ := mods_of okm
    obtain rfl := map_int_inj e1
    have rw1 : ∀ i, 0 ≤ wAt A' T' i ∧ wAt A' T' i < 32 := fun i => by
      rw [prodV_map] at rA rT
      have mem : ∀ {l : List Int} {j : Nat}, (∀ z ∈ l, 0 ≤ z ∧ z ≤ prodI m - 1) → j < l.length → 0 ≤ l.getD j 0 ∧ l.getD j 0 < 32 := fun {l j} hl hj => by
        rw [List.getD_eq_getElem?_getD, List.getElem?_eq_getElem hj]
        have := hl _ (List.getElem_mem hj)
        show 0 ≤ l[j] ∧ l[j] < 32
        omega
      unfold wAt pAt
      split
      · rename_i c
        exact mem rA c
      · exact mem rT (Nat.mod_lt _ (List.length_pos_iff.mpr tne))
    have wm : ∀ z, z ∈ (normW A' T').1 ∨ z ∈ (normW A' T').2 → 0 ≤ z ∧ z < 1000 := fun z hz => by
      obtain ⟨i, ei⟩ := wAt_mem hz
      rw [nS] at ei
      have := rw1 i
      omega
    have f1 : FitS m := fit_of (by have := hM.1; omega) fun z hz => by have := hM.2 z hz; omega
    have f2 : FitS (normW A' T').1 := fit_of (by omega) fun z hz => wm z (.inl hz)
    have f3 : FitS (normW A' T').2 := fit_of (by omega) fun z hz => wm z (.inr hz)
    refine ⟨_, rfl, x, dy, _, rfl, h1, x, m, _, _, rfl, R2, f1, f2, f3, fun H3 s3 => ⟨_, rfl, _, rfl, rfl, _, rfl, ?_⟩⟩
    have S3 : Same H H3 := fun _ _ z => s3 _ _ (s2 _ _ (s1 _ _ z))
    by_cases c : ruleTxt m (normW A' T').1 (normW A' T').2 = a
    · exact ite_no (by simp [c]) ⟨_, rfl, kQ2 c H3 x S3 (R2.same s3)⟩
    · exact ite_yes (by simp [c]) ⟨rfl, fun d H' hd s e => kE2 c d H' (S3.free hd) (fun _ _ z => s _ _ (S3 _ _ z)) e⟩
end
end Toy
set_option maxRecDepth 100000
namespace Toy
open PySem L2 LamX Dg TL
abbrev s__law_number : Stmt := top 43
abbrev s__law_moduli : Stmt := top 44
abbrev s__law_weights : Stmt := top 45
/-- the signs that are no digits -/
def odds (cs : List Nat) : List Str := (cs.filter fun c => !decide (48 ≤ c ∧ c ≤ 57)).map fun c => ⟨#[c]⟩
theorem odds_nil {w : Str} : odds (tl w) = [] ↔ digB w = true := by
  unfold odds digB
  rw [List.map_eq_nil_iff, List.filter_eq_nil_iff, List.all_eq_true]
  constructor
  · intro h c hc
    have := h c hc
    cases e : decide (48 ≤ c ∧ c ≤ 57) with
    | true => rfl
    | false =>
      rw [e] at this
      exact absurd rfl this
  · intro h c hc
    rw [h c hc]
    decide
theorem odds_ok {w : Str} (h : ChOk w) : ∀ u ∈ odds (tl w), ChOk u := fun u hu c hc => by
  obtain ⟨x, hx, rfl⟩ := List.mem_map.mp hu
  have e : c = x := List.mem_singleton.mp hc
  rw [e]
  exact h x (List.mem_filter.mp hx).1
def numR (lo hi : Nat) (w : Str) : V := match numW hi w with
  | some n => if lo ≤ n then .int (n : Int) else .non
  | none => .non
theorem numR_bad {lo hi : Nat} {w : Str} (h : ∀ n, n ≤ hi → lo ≤ n → w ≠ numT n) : numR lo hi w = .non := by
  unfold numR
  cases e : numW hi w with
  | none => rfl
  | some n =>
    obtain ⟨e1, e2⟩ := numW_eq.mp e
    refine if_neg fun z => h n e2 z e1
theorem numR_ok {lo hi n : Nat} {w : Str} (e : w = numT n) (h1 : lo ≤ n) (h2 : n ≤ hi) : numR lo hi w = .int (n : Int) := by
  unfold numR
  rw [e, numW_num h2]
  exact if_pos h1
def spNum : Sp := fun vs H Q _ => ∃ (w : Str) (lo hi : Nat), vs = [.str w, .int (lo : Int), .int (hi : Int)] ∧ w.length ≤ PySem.sizeLine ∧ ChOk w ∧ hi ≤ 999 ∧ ∀ H', Same H H' → Q (numR lo hi w) H'
section
variable {P : Program} {w : World} {K : PySem.W.Frag} {mg : Str → Option Value} {base : Heap} {CR CN CT uR uN uT : Addr} {fdR fdN fdT : FuncData} {C pc pb gc gb : Addr} {CW uW : Addr} {fdW : FuncData}
abbrev N__law_number : List Str := ["_law_word", "_law_least", "_law_most", "_law_sign"]
theorem sc__law_number : FnScope N__law_number ["_law_word", "_law_least", "_law_most"] (defScope s__law_number) := ⟨rfl, rfl, rfl, by decide +kernel, rfl, by decide +kernel, by decide +kernel⟩
theorem ok__law_number {f : Addr} {fd : FuncData} (F : Fun K "_law_number" "_law_number" s__law_number f fd) (T : TR mg) (m_str : mg "str" = none) : FnOk P w K mg base CX0 1 f fd ["_law_word", "_law_least", "_law_most"] spNum := by
  refine F.ok sc__law_number (fun vs H Q E h => ?_) (fun cdv A outer s H vs Q E hr h => ?_)
  · obtain ⟨a, lo, hi, rfl, _⟩ := h
    rfl
  · obtain ⟨wd, lo, hi, rfl, lw, okw, h9, k⟩ := h
    refine ⟨_, (pss_cons (ps_if (PW.pt (pw_or (pt_cmpR op_eq (pv 0) pe_str (nomark _)) (pw_or (pt_cmpR op_gt (pe_callB call_len_str (by rfl) T.m_len (by decide +kernel) (pa_cons (pv 0) pa_nil)) pe_int (nomark _)) (pw_or1 (pt_cmpR (op_neD hr.units) (pe_lc (own := [("_law_sign", 3)]) (g := (gName 3)) rfl sc__law_number.nd (pi_str (pv 0)) (blkOk_by (N := N__law_number) (sc := defScope s__law_number) (by decide +kernel)) (fun _ _ _ _ _ => (pg_name (i := 3) sc__law_number.nd rfl (Or.inl rfl))) (fun _ _ _ _ _ => (pts_one (pt_cmpR op_notIn_sign (pv 3) pe_str (by rfl)))) (fun _ _ _ _ _ => (pv 3))) (pe_lst pa_nil) (nomark _)))))) (pss_one (ps_ret pe_non)) pss_nil)
 (pss_one (ps_ret (pe_ifExp (PW.pt (pw_and (pt_cmpR op_eq (pe_callTy call_str_int (by rfl) m_str (by decide +kernel) (pa_cons (pe_callTy call_int_str (by rfl) T.m_int (by decide +kernel) (pa_cons (pv 0) pa_nil)) pa_nil)) (pv 0) (nomark _)) (pw_and1 (pt_chain op_le op_le (pv 1) (pe_callTy call_int_str (by rfl) T.m_int (by decide +kernel) (pa_cons (pv 0) pa_nil)) (pv 2))))) (pe_callTy call_int_str (by rfl) T.m_int (by decide +kernel) (pa_cons (pv 0) pa_nil)) pe_non)))), ?_⟩
    have bad : (∀ n, n ≤ hi → lo ≤ n → wd ≠ numT n) → ∀ G, Same H G → Q V.non G := fun h G s => by
      rw [← numR_bad h]
      exact k G s
    refine ⟨_, rfl, rfl, _, rfl, ?_⟩
    cases c1 : decide (V.str wd = V.str (Str.ofString "")) with
    | true =>
      refine iteT (iteT (bad (fun n _ _ e => ?_) H (Same.refl H)))
      have e2 := V.str.inj (of_decide_eq_true c1)
      have := pos_numT n
      rw [← e, e2] at this
      exact absurd this (by decide +kernel)
    | false =>
      have w1 : 1 ≤ wd.length := by
        rcases Nat.eq_zero_or_pos wd.length with z | z
        · refine absurd (congrArg V.str (str_ext (a := wd) (b := Str.ofString "") ?_)) (of_decide_eq_false c1)
          rw [len_tl] at z
          rw [List.length_eq_zero_iff.mp z]
          rfl
        · exact z
      refine iteF ⟨_, rfl, wd, rfl, lw, _, _, rfl, rfl, _, rfl, ?_⟩
      cases c2 : decide ((3 : Int) < ((wd.length : Nat) : Int)) with
      | true =>
        refine iteT (iteT (bad (fun n hn _ e => ?_) H (Same.refl H)))
        have h1 := of_decide_eq_true c2
        have h2 := numT_small (n := n) (by omega)
        rw [← e] at h2
        omega
      | false =>
        have w3 : wd.length ≤ 3 := by
          have := of_decide_eq_false c2
          omega
        refine iteF ⟨_, rfl, wd, rfl, fun D hD => ?_⟩
        have sz : wd.cps.size = (tl wd).length := Array.length_toList.symm
        refine lc_it walk_str (fun j G3 => G3 = upd H D (.lst ((odds ((tl wd).take j)).map V.str))) rfl (fun _ _ _ _ => trivial) ?_ ?_
        · rintro j x G3 G4 hj rfl ⟨rfl, c, hc, rfl⟩
          have hc2 : (tl wd)[j]? = some c := by
            show wd.cps.toList[j]? = _
            rw [Array.getElem?_toList]
            exact hc
          refine ⟨rfl, _, rfl, c, _, rfl, rfl, _, rfl, ?_⟩
          rw [dig_in]
          have ot : odds ((tl wd).take (j + 1)) = if (!decide (48 ≤ c ∧ c ≤ 57)) = true then odds ((tl wd).take j) ++ [⟨#[c]⟩] else odds ((tl wd).take j) := by
            rw [List.take_add_one, hc2]
            unfold odds
            rw [List.filter_append, List.map_append]
            by_cases h : 48 ≤ c ∧ c ≤ 57
            · simp [h]
            · have h2 : c < 48 ∨ 57 < c := by omega
              rw [show decide (48 ≤ c ∧ c ≤ 57) = false from decide_eq_false h]
              simp [h2]
          rw [ot]
          cases c4 : (!decide (48 ≤ c ∧ c ≤ 57)) with
          | true =>
            refine iteT ⟨_, rfl, _, upd_same, ?_, ?_⟩
            · have e : PySem.sizeLine = 16777216 := rfl
              have l1 : (odds ((tl wd).take j)).length ≤ wd.length := by
                unfold odds
                rw [List.length_map, len_tl]
                exact Nat.le_trans (List.length_filter_le ..) (by rw [List.length_take]; omega)
              rw [List.length_map]
              omega
            · rw [upd_upd, if_pos rfl, List.map_append]
              rfl
          | false =>
            refine iteF ?_
            rw [if_neg Bool.false_ne_true]
        rintro G3 rfl
        rw [sz, List.take_length]
        have s3 : Same H (upd H D (.lst ((odds (tl wd)).map V.str))) := Same.lay hD
        refine ⟨(by show 0 ≤ PySem.sizeLine; decide), fun E1 hE1 => ?_⟩
        have y1 := Same.lay (o := .lst []) hE1
        have s4 : Same H (upd (upd H D (.lst ((odds (tl wd)).map V.str))) E1 (.lst [])) := fun _ _ z => y1 _ _ (s3 _ _ z)
        refine ⟨.list ((odds (tl wd)).map .str), .list [], .lst (SqL.of (y1 _ _ upd_same)) (dp_strs _), .lst (SqL.of upd_same) .nil, shaped_strs (odds_ok okw), rfl, _, rfl, ?_⟩
        cases c3 : digB wd with
        | false =>
          have ne : odds (tl wd) ≠ [] := fun z => by
            rw [odds_nil.mp z] at c3
            cases c3
          have e : (!PyData.eqv (.list ((odds (tl wd)).map .str)) (.list [])) = true := by
            cases h : odds (tl wd) with
            | nil => exact absurd h ne
            | cons _ _ => rfl
          rw [e]
          refine iteT (bad (fun n _ _ e => ?_) _ s4)
          rw [e, digB_num] at c3
          cases c3
        | true =>
          have e : (!PyData.eqv (.list ((odds (tl wd)).map .str)) (.list [])) = false := by
            rw [odds_nil.mpr c3]
            rfl
          rw [e]
          have it := int_dig c3 w1 (by omega)
          have v3 : valT wd < 10 ^ 3 := Nat.lt_of_lt_of_le (valT_lt c3) (Nat.pow_le_pow_right (by decide) w3)
          refine iteF ⟨_, rfl, _, _, rfl, it, by omega, _, rfl, log_small (Nat.lt_trans v3 (by decide +kernel)), _, rfl, rfl, _, rfl, ?_⟩
          by_cases c5 : numT (valT wd) = wd
          · rw [show decide (V.str (Str.ofString (toString ((valT wd : Nat) : Int))) = V.str wd) = true from decide_eq_true (congrArg V.str c5)]
            generalize valT wd = n at it v3 c5
            refine iteT ⟨_, rfl, _, rfl, _, _, rfl, it, by omega, _, _, rfl, rfl, _, rfl, ?_⟩
            refine ite2 (fun c6 => ?_) (fun c6 => ?_)
            · have c6' := of_decide_eq_true c6
              refine ⟨_, rfl, _, _, rfl, rfl, _, rfl, ?_⟩
              refine ite2 (fun c7 => ?_) (fun c7 => ?_)
              · have c7' := of_decide_eq_true c7
                refine ⟨_, rfl, _, _, rfl, it, by omega, ?_⟩
                rw [← numR_ok c5.symm (show lo ≤ n by omega) (show n ≤ hi by omega)]
                exact k _ s4
              · refine bad (fun m hm hl e => c7 (decide_eq_true ?_)) _ s4
                have := numT_inj (c5.trans e)
                omega
            · refine ⟨_, rfl, bad (fun m hm hl e => c6 (decide_eq_true ?_)) _ s4⟩
              have := numT_inj (c5.trans e)
              omega
          · rw [show decide (V.str (Str.ofString (toString ((valT wd : Nat) : Int))) = V.str wd) = false from decide_eq_false fun y => c5 (V.str.inj y)]
            refine iteF (iteF (bad (fun n _ _ e => c5 ?_) _ s4))
            rw [e, valT_num]
end
end Toy
set_option maxRecDepth 100000
/-! readings that may be weakened: what a while's condition must show; own work -/
namespace L2
open PySem
def MonE (t : TE) : Prop := ∀ σ H Q Q', (∀ v H1, Q v H1 → Q' v H1) → t σ H Q → t σ H Q'
def MonA (t : TA) : Prop := ∀ σ H Q Q', (∀ v H1, Q v H1 → Q' v H1) → t σ H Q → t σ H Q'
def MonT (t : TT) : Prop := ∀ σ H Q Q', (∀ b H1, Q b H1 → Q' b H1) → t σ H Q → t σ H Q'
def MonR (r : R2) : Prop := ∀ x y H Q Q', (∀ v H1, Q v H1 → Q' v H1) → r x y H Q → r x y H Q'
def MonB (r : List V → Hp → VK → Prop) : Prop := ∀ xs H Q Q', (∀ v H1, Q v H1 → Q' v H1) → r xs H Q → r xs H Q'
theorem mo_var {i : Nat} : MonE (tVar i) := fun _ _ _ _ im ⟨v, e, q⟩ => ⟨v, e, im _ _ q⟩
theorem mo_c {v : V} : MonE (tC v) := fun _ _ _ _ im q => im _ _ q
theorem mo_nil : MonA tNil := fun _ _ _ _ im q => im _ _ q
theorem mo_cons {a : TE} {t : TA} (ha : MonE a) (ht : MonA t) : MonA (tCons a t) := fun σ _ _ _ im q => ha _ _ _ _ (fun _ _ q => ht σ _ _ _ (fun _ _ q => im _ _ q) q) q
theorem mo_op {r : R2} {a b : TE} (hr : MonR r) (ha : MonE a) (hb : MonE b) : MonE (tOp r a b) := fun _ _ _ _ im q => ha _ _ _ _ (fun _ _ q => hb _ _ _ _ (fun _ _ q => hr _ _ _ _ _ im q) q) q
theorem mo_lst {t : TA} (h : MonA t) : MonE (tLst t) := fun _ _ _ _ im q => h _ _ _ _ (fun _ _ q => ⟨q.1, fun p hp => im _ _ (q.2 p hp)⟩) q
theorem mo_tup {t : TA} (h : MonA t) : MonE (tTup t) := fun _ _ _ _ im q => h _ _ _ _ (fun _ _ q => ⟨q.1, fun p hp => im _ _ (q.2 p hp)⟩) q
theorem mo_cb {r : List V → Hp → VK → Prop} {t : TA} (hr : MonB r) (h : MonA t) : MonE (tCB r t) := fun _ _ _ _ im q => h _ _ _ _ (fun _ _ q => hr _ _ _ _ im q) q
theorem mo_test {t : TE} (h : MonE t) : MonT (tTest t) := fun _ _ _ _ im q => h _ _ _ _ (fun _ _ ⟨k, e, q⟩ => ⟨k, e, im _ _ q⟩) q
theorem mo_b {t : TE} (h : MonE t) : MonT (tB t) := fun _ _ _ _ im q => h _ _ _ _ (fun _ _ ⟨k, e, q⟩ => ⟨k, e, im _ _ q⟩) q
theorem mo_not {t : TT} (h : MonT t) : MonT (tNot t) := fun _ _ _ _ im q => h _ _ _ _ (fun _ _ q => im _ _ q) q
theorem mo_or {t u : TT} (ht : MonT t) (hu : MonT u) : MonT (tOr t u) := fun σ _ _ _ im q => ht _ _ _ _ (fun b _ q => by
  cases b with
  | true => exact im _ _ q
  | false => exact hu σ _ _ _ im q) q
theorem mo_and {t u : TT} (ht : MonT t) (hu : MonT u) : MonT (tAnd t u) := fun σ _ _ _ im q => ht _ _ _ _ (fun b _ q => by
  cases b with
  | true => exact hu σ _ _ _ im q
  | false => exact im _ _ q) q
theorem mr_i {C : Int → Int → Prop} {g : Int → Int → V} : MonR (rI C g) := fun _ _ _ _ _ im ⟨i, j, a, b, c, q⟩ => ⟨i, j, a, b, c, im _ _ q⟩
theorem mr_i0 {g : Int → Int → V} : MonR (rI0 g) := fun _ _ _ _ _ im ⟨i, j, a, b, q⟩ => ⟨i, j, a, b, im _ _ q⟩
theorem mr_eq : MonR rEq := fun _ _ _ _ _ im ⟨a, q⟩ => ⟨a, im _ _ q⟩
theorem mr_ne : MonR rNe := fun _ _ _ _ _ im ⟨a, q⟩ => ⟨a, im _ _ q⟩
theorem mr_ixL {K : PySem.W.Frag} : MonR (rIxL K) := fun _ _ _ _ _ im ⟨p, xs, i, v, a, b, c, d, q⟩ => ⟨p, xs, i, v, a, b, c, d, im _ _ q⟩
theorem mr_ixT {K : PySem.W.Frag} : MonR (rIxT K) := fun _ _ _ _ _ im ⟨p, xs, i, v, a, b, c, d, q⟩ => ⟨p, xs, i, v, a, b, c, d, im _ _ q⟩
theorem mr_eqD {K : PySem.W.Frag} : MonR (rEqD K) := fun _ _ _ _ _ im ⟨d, e, a, b, c, f, q⟩ => ⟨d, e, a, b, c, f, im _ _ q⟩
theorem mr_neD {K : PySem.W.Frag} : MonR (rNeD K) := fun _ _ _ _ _ im ⟨d, e, a, b, c, f, q⟩ => ⟨d, e, a, b, c, f, im _ _ q⟩
theorem mr_in {K : PySem.W.Frag} {n : Bool} : MonR (rIn K n) := fun _ _ _ _ _ im ⟨p, xs, a, b, c, d, q⟩ => ⟨p, xs, a, b, c, d, im _ _ q⟩
theorem mb_len {K : PySem.W.Frag} : MonB (fun xs H Q => ∃ p ys, xs = [.ref p] ∧ (SqL K H p ys ∨ SqT K H p ys) ∧ Q (.int (ys.length : Nat)) H) := fun _ _ _ _ im ⟨p, ys, a, b, q⟩ => ⟨p, ys, a, b, im _ _ q⟩
end L2
set_option maxRecDepth 100000
namespace Toy
open PySem L2 LamX Dg TL
def lawM (us : List Str) : Option (List Int) := if modG [] (us.drop 1) = [] ∨ ((modG [] (us.drop 1)).length < 5 ∧ us[1 + (modG [] (us.drop 1)).length]? ≠ some (Str.ofString "ahead")) then none else some (modG [] (us.drop 1))
def spLMod : Sp := fun vs H Q _ => ∃ (q : Addr) (us : List Str), vs = [.ref q] ∧ H q = some (.lst (us.map V.str)) ∧ (∀ w ∈ us, w.length ≤ PySem.sizeLine ∧ ChOk w) ∧ 10 ≤ us.length ∧ us.length ≤ 16777216 ∧
  ∀ (H' : Hp) (r : Addr) (y : V), Same H H' → H' r = some (.tup [.int ((1 + (modG [] (us.drop 1)).length : Nat) : Int), y]) → (lawM us = none → y = .non) → (∀ m, lawM us = some m → ∃ x, y = .ref x ∧ H' x = some (.lst (m.map V.int))) → Q (.ref r) H'
/-- the spot's measure: what stands in slot 3 -/
def spotAt (k : Int) (σ : L2.St) (_ : Hp) : Nat := match σ with
  | _ :: _ :: _ :: some (.int i) :: _ => (k - i).toNat
  | _ => 0
theorem prodI_snoc (n : Int) : ∀ acc : List Int, prodI (acc ++ [n]) = prodI acc * n
  | [] => by show n * 1 = 1 * n; omega
  | z :: r => by
    show z * prodI (r ++ [n]) = z * prodI r * n
    rw [prodI_snoc n r, Int.mul_assoc]
theorem eqv_nil (acc : List Int) : PyData.eqv (.list (acc.map .int)) (.list []) = decide (acc = []) := by
  cases acc <;> simp [PyData.eqv, PyData.eqvAll]
theorem numW_letters {m : Nat} {w : Str} (h : digB w = false) : numW m w = none := numW_none fun n _ e => by
  have := digB_num n
  rw [← e, h] at this
  cases this
theorem numR_cases (lo hi : Nat) (w : Str) : (numR lo hi w = .non ∧ ∀ n, numW hi w = some n → ¬ lo ≤ n) ∨ ∃ n, numW hi w = some n ∧ lo ≤ n ∧ n ≤ hi ∧ numR lo hi w = .int (n : Int) := by
  unfold numR
  cases e : numW hi w with
  | none => exact .inl ⟨rfl, fun n z => by cases z⟩
  | some n =>
    by_cases c : lo ≤ n
    · exact .inr ⟨n, rfl, c, (numW_eq.mp e).2, if_pos c⟩
    · exact .inl ⟨if_neg c, fun m z => by rw [← Option.some.inj z]; exact c⟩
theorem okMod_more {acc : List Int} {n : Nat} (ok : acc = [] ∨ okMod (some (acc.map V.int)) = true) : okMod (some ((acc ++ [(n : Int)]).map V.int)) = true ↔ acc.length < 5 ∧ 2 ≤ n ∧ n ≤ 32 ∧ prodI acc * (n : Int) ≤ 32 := by
  have wa : (acc.map V.int).all (withinV 2 32) = true := by
    rcases ok with rfl | h
    · rfl
    · exact (okMod_all h).1
  have e : okMod (some ((acc ++ [(n : Int)]).map V.int)) = (decide (1 ≤ (acc ++ [(n : Int)]).length ∧ (acc ++ [(n : Int)]).length ≤ 5) && (((acc ++ [(n : Int)]).map V.int).all (withinV 2 32) && decide (prodV ((acc ++ [(n : Int)]).map V.int) ≤ 32))) := by
    show (decide (1 ≤ ((acc ++ [(n : Int)]).map V.int).length ∧ ((acc ++ [(n : Int)]).map V.int).length ≤ 5) && _) = _
    rw [List.length_map]
  rw [e, prodV_map, List.map_append, List.all_append, wa]
  have ep := prodI_snoc (n : Int) acc
  have en : ([(n : Int)].map V.int).all (withinV 2 32) = decide (2 ≤ n ∧ n ≤ 32) := by
    show (decide ((2 : Int) ≤ n ∧ (n : Int) ≤ 32) && true) = _
    rw [Bool.and_true]
    exact decide_eq_decide.mpr ⟨fun h => ⟨by omega, by omega⟩, fun h => ⟨by omega, by omega⟩⟩
  rw [ep, en, List.length_append]
  simp only [Bool.and_eq_true, decide_eq_true_eq, List.length_singleton, Bool.true_and]
  constructor
  · rintro ⟨h1, h2, h3⟩
    exact ⟨by omega, h2.1, h2.2, h3⟩
  · rintro ⟨h1, h2, h3, h4⟩
    exact ⟨by omega, ⟨h2, h3⟩, h4⟩
section
variable {P : Program} {w : World} {K : PySem.W.Frag} {mg : Str → Option Value} {base : Heap} {CR CN CT uR uN uT : Addr} {fdR fdN fdT : FuncData} {C pc pb gc gb : Addr} {CW uW : Addr} {fdW : FuncData}
abbrev N__law_moduli : List Str := ["_law_words", "_law_found", "_law_banks", "_law_spot", "_law_modulus"]
theorem sc__law_moduli : FnScope N__law_moduli ["_law_words"] (defScope s__law_moduli) := ⟨rfl, rfl, rfl, by decide +kernel, rfl, by decide +kernel, by decide +kernel⟩
theorem ok__law_moduli {f fNu : Addr} {fd fdNu : FuncData} (F : Fun K "_law_moduli" "_law_moduli" s__law_moduli f fd) (T : TR mg)
    (GNu : FnOk P w K mg base CX0 1 fNu fdNu ["_law_word", "_law_least", "_law_most"] spNum) (gNu : mg "_law_number" = some (.ref fNu)) (kNu : PySem.W.keepIn K (.ref fNu) = true) (bNu : Binds K fdNu ["_law_word", "_law_least", "_law_most"] []) : FnOk P w K mg base CX0 2 f fd ["_law_words"] spLMod := by
  refine F.ok sc__law_moduli (fun vs H Q E h => ?_) (fun cdv A outer s H vs Q E hr h => ?_)
  · obtain ⟨q, us, rfl, _⟩ := h
    rfl
  · obtain ⟨q, us, rfl, hq, okw, l10, lu, k⟩ := h
    have hrD1 : Room 1 _ := hr
    refine ⟨_, (pss_cons (ps_par3 (i := 1) (j := 2) (l := 3) rfl sc__law_moduli.nd rfl rfl rfl (by decide) (by decide) (by decide) rfl rfl rfl (pa_cons (pe_lst pa_nil) (pa_cons pe_int (pa_cons pe_int pa_nil))) rfl)
 (pss_cons (ps_while PassesOwn.never (PW.pt (pw_or (pt_cmpR (op_eqD hr.units) (pv 1) (pe_lst pa_nil) (nomark _)) (pw_or1 (PW.pt (pw_and (pt_cmpR op_lt (pe_callB call_len_seq (by rfl) T.m_len (by decide +kernel) (pa_cons (pv 1) pa_nil)) pe_int (nomark _)) (pw_and1 (pt_cmpR op_ne (pe_ix ix_list (pv 0) (pv 3) (fun _ _ => rfl)) pe_str (nomark _))))))))
 (pss_cons (ps_set (i := 4) sc__law_moduli.nd rfl (Or.inl rfl) (by exact (pe_call GNu hrD1 rfl gNu kNu bNu .nil pass0 (pa_cons (pe_ix ix_list (pv 0) (pv 3) (fun _ _ => rfl)) (pa_cons pe_int (pa_cons pe_int pa_nil))))))
 (pss_cons (ps_if (PW.pt (pw_or (pt_cmpR op_isN (pv 4) pe_non (nomark _)) (pw_or1 (pt_cmpR op_gt (pe_op op_mul (pv 4) (pv 2)) pe_int (nomark _))))) (pss_one (ps_ret (pe_tup (pa_cons (pv 3) (pa_cons pe_non pa_nil))))) pss_nil)
 (pss_cons (ps_expr (pe_bm PySem.F.plainAttrs_list PySem.F.slot_list_append PySem.F.type_list_append mt_append (pv 1) (pa_cons (pv 4) pa_nil)))
 (pss_one (ps_par (i := 2) (j := 3) rfl sc__law_moduli.nd rfl rfl (by decide) rfl rfl (pa_cons (pe_op op_mul (pv 2) (pv 4)) (pa_cons (pe_op op_add (pv 3) pe_int) pa_nil)) rfl))))))
 (pss_one (ps_ret (pe_tup (pa_cons (pv 3) (pa_cons (pv 1) pa_nil))))))), ?_⟩
    refine ⟨(by show 0 ≤ PySem.sizeLine; decide), fun f0 hf0 => ⟨_, _, _, rfl, ?_⟩⟩
    have nq : q ≠ f0 := ne_of_none hq hf0
    have y0 := Same.lay (o := .lst []) hf0
    have hq0 := y0 _ _ hq
    have hf1 : (upd H f0 (.lst [])) f0 = some (.lst []) := upd_same
    generalize upd H f0 (.lst []) = H0 at y0 hq0 hf1 ⊢
    refine (fun mono => while_by (fun σ G => ∃ (acc : List Int) (u4 : Option V), σ = [some (.ref q), some (.ref f0), some (.int (prodI acc)), some (.int ((1 + acc.length : Nat) : Int)), u4] ∧ But f0 H0 G ∧ G f0 = some (.lst (acc.map V.int)) ∧ (acc = [] ∨ okMod (some (acc.map V.int)) = true) ∧ modG [] (us.drop 1) = modG acc (us.drop (1 + acc.length))) (spotAt 8) ⟨[], none, rfl, But.refl _ _, hf1, .inl rfl, rfl⟩ ?_ mono) (mo_or (mo_test (mo_op mr_eqD mo_var (mo_lst mo_nil))) (mo_and (mo_test (mo_op mr_i0 (mo_cb mb_len (mo_cons mo_var mo_nil)) mo_c)) (mo_test (mo_op mr_ne (mo_op mr_ixL mo_var mo_var) mo_c))))
    rintro σ G ⟨acc, u4, rfl, bt, hG, oka, inv⟩
    have l5 : acc.length ≤ 5 := by
      rcases oka with rfl | ok
      · decide
      · obtain ⟨ns, e1, hM, _⟩ := mods_of ok
        obtain rfl := map_int_inj e1
        exact hM.1
    have lt : 1 + acc.length < us.length := by omega
    have hqG := bt _ _ nq hq0
    obtain ⟨wd, hw⟩ : ∃ wd, us[1 + acc.length]? = some wd := ⟨_, List.getElem?_eq_getElem lt⟩
    have dr : us.drop (1 + acc.length) = wd :: us.drop (1 + acc.length + 1) := (List.drop_eq_getElem_cons lt).trans (by rw [(List.getElem?_eq_some_iff.mp hw).2])
    have at1 : atI (us.map V.str) ((1 + acc.length : Nat) : Int) = some (V.str wd) := atI_nat (by rw [List.getElem?_map, hw]; rfl)
    have okwd := okw wd (List.mem_of_getElem? hw)
    refine mono _ G (fun b G2 => Same G G2 ∧ (b = true ↔ (acc = [] ∨ (acc.length < 5 ∧ wd ≠ Str.ofString "ahead")))) _ (fun b G2 hb => ?_) ?_
    · obtain ⟨s2, hb⟩ := hb
      have SG : ∀ G3, Same G2 G3 → Same H G3 := fun G3 s3 c o e => s3 _ _ (s2 _ _ (bt _ _ (ne_of_none e hf0) (y0 _ _ e)))
      have e1 : modG acc (us.drop (1 + acc.length)) = match numW 32 wd with
          | some n => if okMod (some ((acc ++ [(n : Int)]).map V.int)) = true then modG (acc ++ [(n : Int)]) (us.drop (1 + acc.length + 1)) else acc
          | none => acc := by rw [dr]; rfl
      have fin : ∀ (G3 : Hp) (r : Addr) (y : V), modG [] (us.drop 1) = acc → Same G2 G3 → G3 r = none → (lawM us = none → y = .non) → (∀ m, lawM us = some m → ∃ x, y = .ref x ∧ G3 x = some (.lst (m.map V.int))) → Q (.ref r) (upd G3 r (.tup [.int ((1 + acc.length : Nat) : Int), y])) := fun G3 r y em s3 hr h1 h2 => by
        have yr := Same.lay (o := .tup [V.int ((1 + acc.length : Nat) : Int), y]) hr
        refine k _ r y (fun _ _ z => yr _ _ (SG _ s3 _ _ z)) (by rw [em]; exact upd_same) h1 fun m hm => ?_
        obtain ⟨x, ex, hx⟩ := h2 m hm
        exact ⟨x, ex, yr _ _ hx⟩
      have stop : b = true → modG [] (us.drop 1) = acc → lawM us = none := fun hbt em => by
        unfold lawM
        rw [em, hw]
        refine if_pos ((hb.mp hbt).imp_right fun z => ⟨z.1, fun w => z.2 (Option.some.inj w)⟩)
      cases b with
      | false =>
        have nb : ¬ (acc = [] ∨ (acc.length < 5 ∧ wd ≠ Str.ofString "ahead")) := fun z => Bool.noConfusion (hb.mpr z)
        have em : modG [] (us.drop 1) = acc := by
          rw [inv, e1]
          cases en : numW 32 wd with
          | none => rfl
          | some n =>
            refine if_neg fun z => ?_
            have h1 := (okMod_more oka).mp z
            by_cases ca : wd = Str.ofString "ahead"
            · rw [ca, numW_letters (by decide +kernel)] at en
              cases en
            · exact nb (.inr ⟨h1.1, ca⟩)
        refine iteF ⟨_, rfl, _, rfl, (by show 2 ≤ PySem.sizeLine; decide), fun r hr => fin G2 r (.ref f0) em (Same.refl _) hr (fun z => ?_) (fun m hm => ?_)⟩
        · unfold lawM at z
          rw [em, hw, if_neg (fun y => nb (y.imp_right fun u => ⟨u.1, fun v => u.2 (congrArg some v)⟩))] at z
          cases z
        · unfold lawM at hm
          rw [em, hw, if_neg (fun y => nb (y.imp_right fun u => ⟨u.1, fun v => u.2 (congrArg some v)⟩))] at hm
          obtain rfl := Option.some.inj hm
          exact ⟨f0, rfl, s2 _ _ hG⟩
      | true =>
        refine iteT ⟨_, rfl, _, rfl, q, _, _, _, rfl, rfl, SqL.of (s2 _ _ hqG), at1, wd, 2, 32, rfl, okwd.1, okwd.2, by decide, fun G3 s3 => ?_⟩
        have out : modG [] (us.drop 1) = acc → ∀ r, G3 r = none → Q (.ref r) (upd G3 r (.tup [.int ((1 + acc.length : Nat) : Int), .non])) := fun em r hr => fin G3 r .non em s3 hr (fun _ => rfl) fun m hm => by
          rw [stop rfl em] at hm
          cases hm
        have hG3 := s3 _ _ (s2 _ _ hG)
        have pa : 0 < prodI acc ∧ prodI acc ≤ 32 := by
          rcases oka with rfl | ok
          · decide
          · obtain ⟨ns, e1, hM, _, p32, p2⟩ := mods_of ok
            obtain rfl := map_int_inj e1
            omega
        rcases numR_cases 2 32 wd with ⟨hv, hn⟩ | ⟨n, en, n2, n32, hv⟩
        · have em : modG [] (us.drop 1) = acc := by
            rw [inv, e1]
            cases en : numW 32 wd with
            | none => rfl
            | some n => exact if_neg fun z => hn n en ((okMod_more oka).mp z).2.1
          rw [hv]
          exact ⟨_, rfl, rfl, _, rfl, iteT (iteT ⟨_, rfl, (by show 2 ≤ PySem.sizeLine; decide), out em⟩)⟩
        · rw [en] at e1
          rw [hv]
          refine ⟨_, rfl, rfl, _, rfl, iteF ⟨_, rfl, _, rfl, _, _, rfl, rfl, .inl ⟨by omega, by omega⟩, _, _, rfl, rfl, _, rfl, ?_⟩⟩
          by_cases c3 : (32 : Int) < (n : Int) * prodI acc
          · refine ite_yes (decide_eq_true c3) ⟨_, rfl, (by show 2 ≤ PySem.sizeLine; decide), out ?_⟩
            refine (inv.trans e1).trans (if_neg fun z => ?_)
            have := ((okMod_more oka).mp z).2.2.2
            rw [Int.mul_comm] at this
            omega
          · refine ite_no (decide_eq_false c3) ?_
            have h5 : acc.length < 5 := by
              rcases hb.mp rfl with h | h
              · rw [h]; decide
              · exact h.1
            have okn : okMod (some ((acc ++ [(n : Int)]).map V.int)) = true := (okMod_more oka).mpr ⟨h5, n2, n32, by rw [Int.mul_comm]; omega⟩
            refine ⟨_, rfl, .inl ⟨rfl, _, SqL.of hG3⟩, _, rfl, f0, _, _, rfl, rfl, hG3, small1000 (by rw [List.length_map]; omega), ?_⟩
            refine ⟨_, rfl, _, rfl, _, _, rfl, rfl, .inl ⟨by omega, by omega⟩, _, rfl, _, _, rfl, rfl, _, _, rfl, ?_⟩
            have el : ((1 + acc.length : Nat) : Int) + 1 = ((1 + (acc ++ [(n : Int)]).length : Nat) : Int) := by
              rw [List.length_append, List.length_singleton]
              omega
            refine ⟨⟨acc ++ [(n : Int)], some (.int (n : Int)), ?_, ((bt.trans (But.of s2)).trans (But.of s3)).put, ?_, .inr okn, ?_⟩, ?_⟩
            · show [_, _, some (V.int (prodI acc * (n : Int))), some (V.int (((1 + acc.length : Nat) : Int) + 1)), _] = _
              rw [el, ← prodI_snoc]
            · rw [upd_same, List.map_append]
              rfl
            · rw [inv, e1]
              refine (if_pos okn).trans ?_
              rw [List.length_append, List.length_singleton]
              rfl
            · show (8 - (((1 + acc.length : Nat) : Int) + 1)).toNat < (8 - ((1 + acc.length : Nat) : Int)).toNat
              omega
    · refine ⟨_, rfl, (by show 0 ≤ PySem.sizeLine; decide), fun e1 he1 => ?_⟩
      have y1 := Same.lay (o := .lst []) he1
      refine ⟨.list (acc.map .int), .list [], .lst (SqL.of (y1 _ _ hG)) (dp_ints acc), .lst (SqL.of upd_same) .nil, shaped_ints acc, rfl, _, rfl, ?_⟩
      rw [eqv_nil]
      by_cases c0 : acc = []
      · rw [decide_eq_true c0]
        exact iteT ⟨y1, iff_of_true rfl (.inl c0)⟩
      · rw [decide_eq_false c0]
        refine iteF ⟨_, rfl, f0, _, rfl, .inl (SqL.of (y1 _ _ hG)), _, _, rfl, rfl, _, rfl, ?_⟩
        by_cases c1 : acc.length < 5
        · refine ite_yes (decide_eq_true (by rw [List.length_map]; omega)) ⟨_, rfl, _, rfl, q, _, _, _, rfl, rfl, SqL.of (y1 _ _ hqG), at1, rfl, _, rfl, y1, ?_⟩
          by_cases c2 : wd = Str.ofString "ahead"
          · simp [c0, c2]
          · simp [c0, c1, c2]
        · refine ite_no (decide_eq_false (by rw [List.length_map]; omega)) ⟨y1, ?_⟩
          simp [c0, c1]
end
end Toy
set_option maxRecDepth 100000
namespace Toy
open PySem L2 LamX Dg TL
/-- the weights that the law reads: the row, and whether it may stand -/
def lawW (us : List Str) (s n k : Nat) : Option (List Int) := if wtG (n - 1) ((us.drop s).take k) = [] ∨ ((wtG (n - 1) ((us.drop s).take k)).length < k ∧ us[s + (wtG (n - 1) ((us.drop s).take k)).length]? ≠ some (Str.ofString "round") ∧ us[s + (wtG (n - 1) ((us.drop s).take k)).length]? ≠ some (Str.ofString "")) then none else some (wtG (n - 1) ((us.drop s).take k))
def spLWt : Sp := fun vs H Q _ => ∃ (q : Addr) (us : List Str) (s n k : Nat), vs = [.ref q, .int (s : Int), .int (n : Int), .int (k : Int)] ∧ H q = some (.lst (us.map V.str)) ∧ (∀ w ∈ us, w.length ≤ PySem.sizeLine ∧ ChOk w) ∧ s + k < us.length ∧ us.length ≤ 16777216 ∧ 1 ≤ n ∧ n ≤ 32 ∧ 1 ≤ k ∧ k ≤ 24 ∧
  ∀ (H' : Hp) (r : Addr) (y : V), Same H H' → H' r = some (.tup [.int ((s + (wtG (n - 1) ((us.drop s).take k)).length : Nat) : Int), y]) → (lawW us s n k = none → y = .non) → (∀ m, lawW us s n k = some m → ∃ x, y = .ref x ∧ H' x = some (.lst (m.map V.int))) → Q (.ref r) H'
/-- the spot's measure: what stands in slot 1 -/
def spotAt1 (k : Int) (σ : L2.St) (_ : Hp) : Nat := match σ with
  | _ :: some (.int i) :: _ => (k - i).toNat
  | _ => 0
section
variable {P : Program} {w : World} {K : PySem.W.Frag} {mg : Str → Option Value} {base : Heap} {CR CN CT uR uN uT : Addr} {fdR fdN fdT : FuncData} {C pc pb gc gb : Addr} {CW uW : Addr} {fdW : FuncData}
abbrev N__law_weights : List Str := ["_law_words", "_law_spot", "_law_banks", "_law_most", "_law_found", "_law_weight"]
theorem sc__law_weights : FnScope N__law_weights ["_law_words", "_law_spot", "_law_banks", "_law_most"] (defScope s__law_weights) := ⟨rfl, rfl, rfl, by decide +kernel, rfl, by decide +kernel, by decide +kernel⟩
theorem ok__law_weights {f fNu : Addr} {fd fdNu : FuncData} (F : Fun K "_law_weights" "_law_weights" s__law_weights f fd) (T : TR mg)
    (GNu : FnOk P w K mg base CX0 1 fNu fdNu ["_law_word", "_law_least", "_law_most"] spNum) (gNu : mg "_law_number" = some (.ref fNu)) (kNu : PySem.W.keepIn K (.ref fNu) = true) (bNu : Binds K fdNu ["_law_word", "_law_least", "_law_most"] []) : FnOk P w K mg base CX0 2 f fd ["_law_words", "_law_spot", "_law_banks", "_law_most"] spLWt := by
  refine F.ok sc__law_weights (fun vs H Q E h => ?_) (fun cdv A outer s H vs Q E hr h => ?_)
  · obtain ⟨q, us, s, n, k, rfl, _⟩ := h
    rfl
  · obtain ⟨q, us, sp, n, m, rfl, hq, okw, l1, lu, n1, n32, m1, m24, k⟩ := h
    have hrD1 : Room 1 _ := hr
    refine ⟨_, (pss_cons (ps_set (i := 4) sc__law_weights.nd rfl (Or.inl rfl) (pe_lst pa_nil))
 (pss_cons (ps_while PassesOwn.never (PW.pt (pw_or (pt_cmpR (op_eqD hr.units) (pv 4) (pe_lst pa_nil) (nomark _)) (pw_or1 (PW.pt (pw_and (pt_cmpR op_lt (pe_callB call_len_seq (by rfl) T.m_len (by decide +kernel) (pa_cons (pv 4) pa_nil)) (pv 3) (nomark _)) (pw_and1 (pt_cmpR op_notIn_seq (pe_ix ix_list (pv 0) (pv 1) (fun _ _ => rfl)) (pe_tup (pa_cons pe_str (pa_cons pe_str pa_nil))) (by rfl))))))))
 (pss_cons (ps_set (i := 5) sc__law_weights.nd rfl (Or.inl rfl) (by exact (pe_call GNu hrD1 rfl gNu kNu bNu .nil pass0 (pa_cons (pe_ix ix_list (pv 0) (pv 1) (fun _ _ => rfl)) (pa_cons pe_int (pa_cons (pe_op op_sub (pv 2) pe_int) pa_nil))))))
 (pss_cons (ps_if (pt_cmpR op_isN (pv 5) pe_non (nomark _)) (pss_one (ps_ret (pe_tup (pa_cons (pv 1) (pa_cons pe_non pa_nil))))) pss_nil)
 (pss_cons (ps_expr (pe_bm PySem.F.plainAttrs_list PySem.F.slot_list_append PySem.F.type_list_append mt_append (pv 4) (pa_cons (pv 5) pa_nil)))
 (pss_one (ps_aug (i := 1) sc__law_weights.nd rfl (Or.inl rfl) pe_int ip_add))))))
 (pss_one (ps_ret (pe_tup (pa_cons (pv 1) (pa_cons (pv 4) pa_nil))))))), ?_⟩
    refine ⟨(by show 0 ≤ PySem.sizeLine; decide), fun f0 hf0 => ?_⟩
    have nq : q ≠ f0 := ne_of_none hq hf0
    have y0 := Same.lay (o := .lst []) hf0
    have hq0 := y0 _ _ hq
    have hf1 : (upd H f0 (.lst [])) f0 = some (.lst []) := upd_same
    generalize upd H f0 (.lst []) = H0 at y0 hq0 hf1 ⊢
    refine (fun mono => while_by (fun σ G => ∃ (acc : List Int) (u5 : Option V), σ = [some (.ref q), some (.int ((sp + acc.length : Nat) : Int)), some (.int (n : Int)), some (.int (m : Int)), some (.ref f0), u5] ∧ But f0 H0 G ∧ G f0 = some (.lst (acc.map V.int)) ∧ acc.length ≤ m ∧ wtG (n - 1) ((us.drop sp).take m) = acc ++ wtG (n - 1) ((us.drop (sp + acc.length)).take (m - acc.length))) (spotAt1 ((sp + m + 1 : Nat) : Int)) ⟨[], none, rfl, But.refl _ _, hf1, Nat.zero_le _, rfl⟩ ?_ mono) (mo_or (mo_test (mo_op mr_eqD mo_var (mo_lst mo_nil))) (mo_and (mo_test (mo_op mr_i0 (mo_cb mb_len (mo_cons mo_var mo_nil)) mo_var)) (mo_test (mo_op mr_in (mo_op mr_ixL mo_var mo_var) (mo_tup (mo_cons mo_c (mo_cons mo_c mo_nil)))))))
    rintro σ G ⟨acc, u5, rfl, bt, hG, lm, inv⟩
    have lt : sp + acc.length < us.length := by omega
    have hqG := bt _ _ nq hq0
    obtain ⟨wd, hw⟩ : ∃ wd, us[sp + acc.length]? = some wd := ⟨_, List.getElem?_eq_getElem lt⟩
    have dr : us.drop (sp + acc.length) = wd :: us.drop (sp + acc.length + 1) := (List.drop_eq_getElem_cons lt).trans (by rw [(List.getElem?_eq_some_iff.mp hw).2])
    have at1 : atI (us.map V.str) ((sp + acc.length : Nat) : Int) = some (V.str wd) := atI_nat (by rw [List.getElem?_map, hw]; rfl)
    have okwd := okw wd (List.mem_of_getElem? hw)
    refine mono _ G (fun b G2 => Same G G2 ∧ (b = true ↔ (acc = [] ∨ (acc.length < m ∧ wd ≠ Str.ofString "round" ∧ wd ≠ Str.ofString "")))) _ (fun b G2 hb => ?_) ?_
    rotate_left
    · refine ⟨_, rfl, (by show 0 ≤ PySem.sizeLine; decide), fun e1 he1 => ?_⟩
      have y1 := Same.lay (o := .lst []) he1
      refine ⟨.list (acc.map .int), .list [], .lst (SqL.of (y1 _ _ hG)) (dp_ints acc), .lst (SqL.of upd_same) .nil, shaped_ints acc, rfl, _, rfl, ?_⟩
      rw [eqv_nil]
      by_cases c0 : acc = []
      · rw [decide_eq_true c0]
        exact iteT ⟨y1, iff_of_true rfl (.inl c0)⟩
      · rw [decide_eq_false c0]
        refine iteF ⟨_, rfl, f0, _, rfl, .inl (SqL.of (y1 _ _ hG)), _, rfl, _, _, rfl, rfl, _, rfl, ?_⟩
        by_cases c1 : acc.length < m
        · refine ite_yes (decide_eq_true (by rw [List.length_map]; omega)) ⟨_, rfl, _, rfl, q, _, _, _, rfl, rfl, SqL.of (y1 _ _ hqG), at1, (by show 2 ≤ PySem.sizeLine; decide), fun t1 ht1 => ?_⟩
          have y2 := Same.lay (o := .tup [V.str (Str.ofString "round"), V.str (Str.ofString "")]) ht1
          refine ⟨t1, _, rfl, .inr (SqT.of upd_same), rfl, rfl, _, rfl, fun _ _ z => y2 _ _ (y1 _ _ z), ?_⟩
          rw [if_pos rfl]
          unfold inV
          have es : ∀ x y : Str, eqV (V.str x) (V.str y) = decide (x = y) := fun x y => by
            by_cases h : x = y <;> simp [eqV, h]
          simp only [List.any_cons, List.any_nil, es]
          by_cases c2 : wd = Str.ofString "round"
          · simp [c0, c1, c2]
          · by_cases c3 : wd = Str.ofString ""
            · simp [c0, c1, c3]
            · simp [c0, c1, c2, c3, Ne.symm c2, Ne.symm c3]
        · refine ite_no (decide_eq_false (by rw [List.length_map]; omega)) ⟨y1, ?_⟩
          simp [c0, c1]
    · obtain ⟨s2, hb⟩ := hb
      have SG : ∀ G3, Same G2 G3 → Same H G3 := fun G3 s3 c o e => s3 _ _ (s2 _ _ (bt _ _ (ne_of_none e hf0) (y0 _ _ e)))
      have fin : ∀ (G3 : Hp) (r : Addr) (y : V), wtG (n - 1) ((us.drop sp).take m) = acc → Same G2 G3 → G3 r = none → (lawW us sp n m = none → y = .non) → (∀ z, lawW us sp n m = some z → ∃ x, y = .ref x ∧ G3 x = some (.lst (z.map V.int))) → Q (.ref r) (upd G3 r (.tup [.int ((sp + acc.length : Nat) : Int), y])) := fun G3 r y em s3 hr h1 h2 => by
        have yr := Same.lay (o := .tup [V.int ((sp + acc.length : Nat) : Int), y]) hr
        refine k _ r y (fun _ _ z => yr _ _ (SG _ s3 _ _ z)) (by rw [em]; exact upd_same) h1 fun z hz => ?_
        obtain ⟨x, ex, hx⟩ := h2 z hz
        exact ⟨x, ex, yr _ _ hx⟩
      have lw : wtG (n - 1) ((us.drop sp).take m) = acc → (lawW us sp n m = none ↔ b = true) := fun em => by
        unfold lawW
        rw [em, hw, hb]
        by_cases c : acc = [] ∨ (acc.length < m ∧ some wd ≠ some (Str.ofString "round") ∧ some wd ≠ some (Str.ofString ""))
        · rw [if_pos c]
          exact iff_of_true rfl (c.imp_right fun z => ⟨z.1, fun v => z.2.1 (congrArg some v), fun v => z.2.2 (congrArg some v)⟩)
        · rw [if_neg c]
          exact iff_of_false (fun z => nomatch z) fun z => c (z.imp_right fun y => ⟨y.1, fun v => y.2.1 (Option.some.inj v), fun v => y.2.2 (Option.some.inj v)⟩)
      have e1 : acc.length < m → wtG (n - 1) ((us.drop (sp + acc.length)).take (m - acc.length)) = match numW (n - 1) wd with
          | some z => (z : Int) :: wtG (n - 1) ((us.drop (sp + acc.length + 1)).take (m - acc.length - 1))
          | none => [] := fun c => by
        obtain ⟨j, hj⟩ : ∃ j, m - acc.length = j + 1 := ⟨m - acc.length - 1, by omega⟩
        rw [dr, hj, List.take_succ_cons]
        rfl
      cases b with
      | false =>
        have nb : ¬ (acc = [] ∨ (acc.length < m ∧ wd ≠ Str.ofString "round" ∧ wd ≠ Str.ofString "")) := fun z => Bool.noConfusion (hb.mpr z)
        have em : wtG (n - 1) ((us.drop sp).take m) = acc := by
          rw [inv]
          by_cases c : acc.length < m
          · rw [e1 c]
            have : numW (n - 1) wd = none := by
              by_cases c1 : wd = Str.ofString "round"
              · rw [c1]; exact numW_letters (by decide +kernel)
              · by_cases c2 : wd = Str.ofString ""
                · rw [c2]
                  exact numW_none fun z _ e => by
                    have := pos_numT z
                    rw [← e] at this
                    exact absurd this (by decide +kernel)
                · exact absurd (.inr ⟨c, c1, c2⟩) nb
            rw [this, List.append_nil]
          · rw [show m - acc.length = 0 by omega, List.take_zero]
            show acc ++ [] = acc
            rw [List.append_nil]
        refine iteF ⟨_, rfl, _, rfl, (by show 2 ≤ PySem.sizeLine; decide), fun r hr => fin G2 r (.ref f0) em (Same.refl _) hr (fun z => absurd ((lw em).mp z) Bool.noConfusion) (fun z hz => ?_)⟩
        unfold lawW at hz
        rw [em, hw, if_neg (fun y => nb (y.imp_right fun u => ⟨u.1, fun v => u.2.1 (congrArg some v), fun v => u.2.2 (congrArg some v)⟩))] at hz
        obtain rfl := Option.some.inj hz
        exact ⟨f0, rfl, s2 _ _ hG⟩
      | true =>
        have lc : acc.length < m := by
          rcases hb.mp rfl with h | h
          · rw [h]; exact m1
          · exact h.1
        refine iteT ⟨_, rfl, _, rfl, q, _, _, _, rfl, rfl, SqL.of (s2 _ _ hqG), at1, _, rfl, _, _, rfl, rfl, wd, 0, n - 1, (by show [V.str wd, V.int 0, V.int ((n : Int) - 1)] = _; rw [show ((n : Int) - 1) = ((n - 1 : Nat) : Int) by omega]; rfl), okwd.1, okwd.2, by omega, fun G3 s3 => ?_⟩
        have hG3 := s3 _ _ (s2 _ _ hG)
        rcases numR_cases 0 (n - 1) wd with ⟨hv, hn⟩ | ⟨z, en, _, _, hv⟩
        · have em : wtG (n - 1) ((us.drop sp).take m) = acc := by
            rw [inv, e1 lc]
            cases en : numW (n - 1) wd with
            | none => exact List.append_nil _
            | some z => exact absurd (Nat.zero_le _) (hn z en)
          rw [hv]
          exact ⟨_, rfl, rfl, _, rfl, iteT ⟨_, rfl, (by show 2 ≤ PySem.sizeLine; decide), fun r hr => fin G3 r .non em s3 hr (fun _ => rfl) (fun z hz => by rw [(lw em).mpr rfl] at hz; cases hz)⟩⟩
        · rw [hv]
          refine ⟨_, rfl, rfl, _, rfl, iteF ⟨_, rfl, .inl ⟨rfl, _, SqL.of hG3⟩, _, rfl, f0, _, _, rfl, rfl, hG3, small1000 (by rw [List.length_map]; omega), _, rfl, _, _, rfl, rfl, ?_⟩⟩
          have el : ((sp + acc.length : Nat) : Int) + 1 = ((sp + (acc ++ [(z : Int)]).length : Nat) : Int) := by
            rw [List.length_append, List.length_singleton]
            omega
          refine ⟨⟨acc ++ [(z : Int)], some (.int (z : Int)), ?_, ((bt.trans (But.of s2)).trans (But.of s3)).put, ?_, by rw [List.length_append, List.length_singleton]; omega, ?_⟩, ?_⟩
          · show [_, some (V.int (((sp + acc.length : Nat) : Int) + 1)), _, _, _, _] = _
            rw [el]
          · rw [upd_same, List.map_append]
            rfl
          · rw [inv, e1 lc, en, List.append_assoc, List.length_append, List.length_singleton]
            rfl
          · show (((sp + m + 1 : Nat) : Int) - (((sp + acc.length : Nat) : Int) + 1)).toNat < (((sp + m + 1 : Nat) : Int) - ((sp + acc.length : Nat) : Int)).toNat
            omega
end
end Toy
set_option maxRecDepth 100000
namespace Toy
open PySem L2 LamX Dg TL
abbrev s__law_wrong : Stmt := top 46
abbrev noW : Str := Str.ofString ""
def padW (ws : List Str) : List Str := ws ++ List.replicate 60 noW
theorem numW_no (b : Nat) : numW b noW = none := numW_none fun z _ e => by
  have := pos_numT z
  rw [← e] at this
  exact absurd this (by decide +kernel)
theorem modG_cons (acc : List Int) (w : Str) (r : List Str) : modG acc (w :: r) = match numW 32 w with
    | some n => if okMod (some ((acc ++ [(n : Int)]).map V.int)) = true then modG (acc ++ [(n : Int)]) r else acc
    | none => acc := rfl
theorem wtG_cons (b : Nat) (w : Str) (r : List Str) : wtG b (w :: r) = match numW b w with
    | some n => (n : Int) :: wtG b r
    | none => [] := rfl
theorem modG_pad (k : Nat) : ∀ (l : List Str) (acc : List Int), modG acc (l ++ List.replicate k noW) = modG acc l
  | [], acc => by
    cases k with
    | zero => rfl
    | succ k =>
      rw [List.nil_append, List.replicate_succ, modG_cons, numW_no]
      rfl
  | w :: r, acc => by
    rw [List.cons_append, modG_cons, modG_cons]
    cases numW 32 w with
    | none => rfl
    | some n =>
      show (if _ then _ else _) = (if _ then _ else _)
      rw [modG_pad k r]
theorem wtG_pad (b k : Nat) : ∀ l : List Str, wtG b (l ++ List.replicate k noW) = wtG b l
  | [] => by
    cases k with
    | zero => rfl
    | succ k =>
      rw [List.nil_append, List.replicate_succ, wtG_cons, numW_no]
      rfl
  | w :: r => by
    rw [List.cons_append, wtG_cons, wtG_cons]
    cases numW b w with
    | none => rfl
    | some n => show _ :: _ = _ :: _; rw [wtG_pad b k r]
theorem pad_mod {ws : List Str} (h : ws ≠ []) : modG [] ((padW ws).drop 1) = modG [] (ws.drop 1) := by
  unfold padW
  cases ws with
  | nil => exact absurd rfl h
  | cons w r => exact modG_pad 60 r []
theorem pad_wt (b s k : Nat) (ws : List Str) : wtG b (((padW ws).drop s).take k) = wtG b ((ws.drop s).take k) := by
  unfold padW
  rw [List.drop_append, List.take_append, List.drop_replicate, List.take_replicate, wtG_pad]
theorem pad_at {ws : List Str} {i : Nat} {w : Str} (h : w ≠ noW) : (padW ws)[i]? = some w ↔ ws[i]? = some w := by
  unfold padW
  by_cases c : i < ws.length
  · rw [List.getElem?_append_left c]
  · rw [List.getElem?_append_right (by omega), List.getElem?_eq_none (show ws.length ≤ i by omega), List.getElem?_replicate]
    constructor
    · intro z
      split at z
      · exact absurd (Option.some.inj z).symm h
      · cases z
    · intro z
      cases z
theorem words_ne (a : Str) : wordsT a ≠ [] := fun z => by
  have := PyProof.Rows.split_pos a " "
  rw [show Txt.split a " " = [] from z] at this
  exact absurd this (by decide)
theorem pad_len (ws : List Str) : (padW ws).length = ws.length + 60 := by
  unfold padW
  rw [List.length_append, List.length_replicate]
theorem pad_ok {ws : List Str} (h : ∀ w ∈ ws, w.length ≤ PySem.sizeLine ∧ ChOk w) : ∀ w ∈ padW ws, w.length ≤ PySem.sizeLine ∧ ChOk w := fun w hw => by
  rcases List.mem_append.mp hw with z | z
  · exact h w z
  · rw [List.eq_of_mem_replicate z]
    exact ⟨by decide +kernel, ch_of (by decide +kernel)⟩
/-- what the law finds: the wrong word, or the rule's parts -/
def WrongAt (H : Hp) (ws : List Str) (y z : V) : Prop := (∃ k, readP ws = .inl k ∧ y = .int ((k : Nat) : Int) ∧ z = .non) ∨ ∃ (m A T : List Int) (p pm pa pt : Addr), readP ws = .inr (m, A, T) ∧ y = .non ∧ z = .ref p ∧ H p = some (.tup [.ref pm, .ref pa, .ref pt]) ∧ H pm = some (.tup (m.map V.int)) ∧ H pa = some (.tup (A.map V.int)) ∧ H pt = some (.tup (T.map V.int))
def spLWrong : Sp := fun vs H Q _ => ∃ a : Str, vs = [.str a] ∧ a.length ≤ 1000000 ∧ ChOk a ∧ ∀ (H' : Hp) (r : Addr) (y z : V), Same H H' → H' r = some (.tup [y, z]) → WrongAt H' (wordsT a) y z → Q (.ref r) H'
section
variable {P : Program} {w : World} {K : PySem.W.Frag} {mg : Str → Option Value} {base : Heap} {CR CN CT uR uN uT : Addr} {fdR fdN fdT : FuncData} {C pc pb gc gb : Addr} {CW uW : Addr} {fdW : FuncData}
abbrev N__law_wrong : List Str := ["_law_line", "_law_many", "_law_words", "_law_spot", "_law_moduli_here", "_law_banks", "_law_ahead", "_law_modulus", "_law_turn"]
theorem sc__law_wrong : FnScope N__law_wrong ["_law_line"] (defScope s__law_wrong) := ⟨rfl, rfl, rfl, by decide +kernel, rfl, by decide +kernel, by decide +kernel⟩
theorem ok__law_wrong {f fLm fLw : Addr} {fd fdLm fdLw : FuncData} (F : Fun K "_law_wrong" "_law_wrong" s__law_wrong f fd) (T : TR mg)
    (GLm : FnOk P w K mg base CX0 2 fLm fdLm ["_law_words"] spLMod) (gLm : mg "_law_moduli" = some (.ref fLm)) (kLm : PySem.W.keepIn K (.ref fLm) = true) (bLm : Binds K fdLm ["_law_words"] [])
    (GLw : FnOk P w K mg base CX0 2 fLw fdLw ["_law_words", "_law_spot", "_law_banks", "_law_most"] spLWt) (gLw : mg "_law_weights" = some (.ref fLw)) (kLw : PySem.W.keepIn K (.ref fLw) = true) (bLw : Binds K fdLw ["_law_words", "_law_spot", "_law_banks", "_law_most"] []) : FnOk P w K mg base CX0 3 f fd ["_law_line"] spLWrong := by
  refine F.ok sc__law_wrong (fun vs H Q E h => ?_) (fun cdv A outer s H vs Q E hr h => ?_)
  · obtain ⟨a, rfl, _⟩ := h
    rfl
  · obtain ⟨a, rfl, la, oka, k⟩ := h
    have hrLm : Room 2 _ := hr
    refine ⟨_, (pss_cons (ps_par (i := 1) (j := 2) rfl sc__law_wrong.nd rfl rfl (by decide) rfl rfl (pa_cons (pe_callB call_len_seq (by rfl) T.m_len (by decide +kernel) (pa_cons (pe_split (pv 0) pe_str) pa_nil)) (pa_cons (pe_op op_cat (pe_split (pv 0) pe_str) (pe_op op_rep (pe_lst (pa_cons pe_str pa_nil)) pe_int)) pa_nil)) rfl)
 (pss_cons (ps_if (pt_cmpR op_ne (pe_ix ix_list (pv 2) pe_int (fun _ _ => rfl)) pe_str (nomark _)) (pss_one (ps_ret (pe_tup (pa_cons pe_int (pa_cons pe_non pa_nil))))) pss_nil)
 (pss_cons (ps_asg (pe_call GLm hrLm rfl gLm kLm bLm .nil pass0 (pa_cons (pv 2) pa_nil)) (pg_tup rfl (pgs_cons (pg_name (i := 3) sc__law_wrong.nd rfl (Or.inl rfl)) (pgs_cons (pg_name (i := 4) sc__law_wrong.nd rfl (Or.inl rfl)) pgs_nil))))
 (pss_cons (ps_if (PW.pt (pw_or (pt_cmpR op_isN (pv 4) pe_non (nomark _)) (pw_or1 (pt_cmpR op_ne (pe_ix ix_list (pv 2) (pv 3) (fun _ _ => rfl)) pe_str (nomark _))))) (pss_one (ps_ret (pe_tup (pa_cons (pv 3) (pa_cons pe_non pa_nil))))) pss_nil)
 (pss_cons (ps_par (i := 5) (j := 6) rfl sc__law_wrong.nd rfl rfl (by decide) rfl rfl (pa_cons pe_int (pa_cons (pe_lst pa_nil) pa_nil)) rfl)
 (pss_cons (ps_for PassesOwn.never rfl (pi_list (pv 4)) (pg_name (i := 7) sc__law_wrong.nd rfl (Or.inl rfl))
 (pss_one (ps_set (i := 5) sc__law_wrong.nd rfl (Or.inl rfl) (pe_op op_mul (pv 5) (pv 7)))))
 (pss_cons (ps_set (i := 3) sc__law_wrong.nd rfl (Or.inl rfl) (pe_op op_add (pv 3) pe_int))
 (C8.pss_cut (ps_if (pt_cmpR op_eq (pe_ix ix_list (pv 2) (pv 3) (fun _ _ => rfl)) pe_str (nomark _)) (pss_one (ps_set (i := 3) sc__law_wrong.nd rfl (Or.inl rfl) (pe_op op_add (pv 3) pe_int))) (pss_one (ps_asg (pe_call GLw hrLm rfl gLw kLw bLw .nil pass0 (pa_cons (pv 2) (pa_cons (pv 3) (pa_cons (pv 5) (pa_cons pe_int pa_nil))))) (pg_tup rfl (pgs_cons (pg_name (i := 3) sc__law_wrong.nd rfl (Or.inl rfl)) (pgs_cons (pg_name (i := 6) sc__law_wrong.nd rfl (Or.inl rfl)) pgs_nil))))))
 (pss_cons (ps_if (PW.pt (pw_or (pt_cmpR op_isN (pv 6) pe_non (nomark _)) (pw_or1 (pt_cmpR op_ne (pe_ix ix_list (pv 2) (pv 3) (fun _ _ => rfl)) pe_str (nomark _))))) (pss_one (ps_ret (pe_tup (pa_cons (pv 3) (pa_cons pe_non pa_nil))))) pss_nil)
 (pss_cons (ps_asg (pe_call GLw hrLm rfl gLw kLw bLw .nil pass0 (pa_cons (pv 2) (pa_cons (pe_op op_add (pv 3) pe_int) (pa_cons (pv 5) (pa_cons (pe_op op_sub pe_int (pe_callB call_len_seq (by rfl) T.m_len (by decide +kernel) (pa_cons (pv 6) pa_nil))) pa_nil))))) (pg_tup rfl (pgs_cons (pg_name (i := 3) sc__law_wrong.nd rfl (Or.inl rfl)) (pgs_cons (pg_name (i := 8) sc__law_wrong.nd rfl (Or.inl rfl)) pgs_nil))))
 (pss_cons (ps_if (PW.pt (pw_or (pt_cmpR op_isN (pv 8) pe_non (nomark _)) (pw_or1 (pt_cmpR op_lt (pv 3) (pv 1) (nomark _))))) (pss_one (ps_ret (pe_tup (pa_cons (pv 3) (pa_cons pe_non pa_nil))))) pss_nil)
 (pss_one (ps_ret (pe_tup (pa_cons pe_non (pa_cons (pe_tup (pa_cons (pe_callTy call_tupP (by rfl) T.m_tuple (by decide +kernel) (pa_cons (pv 4) pa_nil)) (pa_cons (pe_callTy call_tupP (by rfl) T.m_tuple (by decide +kernel) (pa_cons (pv 6) pa_nil)) (pa_cons (pe_callTy call_tupP (by rfl) T.m_tuple (by decide +kernel) (pa_cons (pv 8) pa_nil)) pa_nil)))) pa_nil)))))))))))))))), ?_⟩
    have sz : PySem.sizeLine = 16777216 := rfl
    have ew : Txt.split a (Str.ofString " ") = wordsT a := rfl
    refine ⟨_, rfl, ⟨_, rfl⟩, a, " ", rfl, rfl, rfl, by omega, fun L1 hL1 => ?_⟩
    rw [ew]
    have y1 := Same.lay (o := .lst ((wordsT a).map V.str)) hL1
    refine ⟨L1, (wordsT a).map V.str, rfl, .inl (SqL.of upd_same), ?_⟩
    refine ⟨_, rfl, ⟨_, rfl⟩, a, " ", rfl, rfl, rfl, by omega, fun L2 hL2 => ?_⟩
    rw [ew]
    have y2 := Same.lay (o := .lst ((wordsT a).map V.str)) hL2
    refine ⟨(by show 1 ≤ PySem.sizeLine; decide), fun D hD => ?_⟩
    have y3 := Same.lay (o := .lst [V.str noW]) hD
    refine ⟨D, 60, _, rfl, rfl, upd_same, by decide, by decide, (by show 1 * 60 ≤ PySem.sizeLine; decide), fun R hR => ?_⟩
    have y4 := Same.lay (o := .lst (List.replicate (60 : Int).toNat [V.str noW]).flatten) hR
    have ls := split_len (a := a) (by omega)
    refine ⟨L2, R, _, _, rfl, rfl, y4 _ _ (y3 _ _ upd_same), upd_same, (by
      rw [List.length_map, show (List.replicate (60 : Int).toNat [V.str noW]).flatten = List.replicate 60 (V.str noW) from List.flatten_replicate_singleton .., List.length_replicate]
      have h1 := wt_len (wordsT a)
      have h2 := split_wt (a := a) (sep := (" " : Str)) (s := 32) (by decide +kernel)
      unfold wordsT at h1 ⊢
      omega), fun U hU => ⟨_, _, rfl, ?_⟩⟩
    have y5 := Same.lay (o := .lst ((wordsT a).map V.str ++ (List.replicate (60 : Int).toNat [V.str noW]).flatten)) hU
    rw [show (wordsT a).map V.str ++ (List.replicate (60 : Int).toNat [V.str noW]).flatten = (padW (wordsT a)).map V.str by
      unfold padW
      rw [List.map_append, List.map_replicate, show (List.replicate (60 : Int).toNat [V.str noW]).flatten = List.replicate 60 (V.str noW) from List.flatten_replicate_singleton ..]] at y5 ⊢
    have lW : (wordsT a).length ≤ 1000001 := by
      have h1 := wt_len (wordsT a)
      have h2 := split_wt (a := a) (sep := (" " : Str)) (s := 32) (by decide +kernel)
      unfold wordsT at h1 ⊢
      omega
    have wne := words_ne a
    have okw : ∀ w ∈ wordsT a, w.length ≤ PySem.sizeLine ∧ ChOk w := fun w hw => by
      have := PyProof.Rows.part_short (x := a) (y := " ") (a := w) hw
      exact ⟨by omega, ch_split oka w hw⟩
    have lmany : ((((wordsT a).map V.str).length : Nat) : Int) = ((wordsT a).length : Int) := by rw [List.length_map]
    generalize wordsT a = ws at y1 y2 y3 y4 y5 lW wne okw k ls lmany hL2 hD hR hU ⊢
    have S1 : Same H _ := fun _ _ z => y5 _ _ (y4 _ _ (y3 _ _ (y2 _ _ (y1 _ _ z))))
    have hUx := upd_same (H := upd (upd (upd (upd H L1 (.lst (ws.map V.str))) L2 (.lst (ws.map V.str))) D (.lst [V.str noW])) R (.lst (List.replicate (60 : Int).toNat [V.str noW]).flatten)) (a := U) (o := .lst ((padW ws).map V.str))
    generalize upd (upd (upd (upd (upd H L1 (.lst (ws.map V.str))) L2 (.lst (ws.map V.str))) D (.lst [V.str noW])) R (.lst (List.replicate (60 : Int).toNat [V.str noW]).flatten)) U (.lst ((padW ws).map V.str)) = H1 at S1 hUx ⊢
    clear y1 y2 y3 y4 y5 hL1 hL2 hD hR hU
    have lp := pad_len ws
    have okp := pad_ok okw
    have bad : ∀ (G : Hp) (r : Addr) (k0 : Nat), Same H1 G → G r = none → readP ws = .inl k0 → Q (.ref r) (upd G r (.tup [.int ((k0 : Nat) : Int), .non])) := fun G r k0 s hr e => k _ r _ _ (fun _ _ z => Same.lay hr _ _ (s _ _ (S1 _ _ z))) upd_same (.inl ⟨k0, e, rfl, rfl⟩)
    obtain ⟨w0, hw0⟩ : ∃ w, (padW ws)[0]? = some w := ⟨_, List.getElem?_eq_getElem (show 0 < (padW ws).length by omega)⟩
    refine ⟨_, rfl, U, _, 0, .str w0, rfl, rfl, SqL.of hUx, atI_nat (j := 0) (by rw [List.getElem?_map, hw0]; rfl), rfl, _, rfl, ?_⟩
    have kO : ∀ (G : Hp) (r : Addr) (m A T : List Int) (p pm pa pt : Addr), readP ws = .inr (m, A, T) → Same H1 G → G r = none → G p = some (.tup [.ref pm, .ref pa, .ref pt]) → G pm = some (.tup (m.map V.int)) → G pa = some (.tup (A.map V.int)) → G pt = some (.tup (T.map V.int)) → Q (.ref r) (upd G r (.tup [.non, .ref p])) := fun G r m A T p pm pa pt e s hr h1 h2 h3 h4 => by
      have yr := Same.lay (o := .tup [V.non, V.ref p]) hr
      exact k _ r _ _ (fun _ _ z => yr _ _ (s _ _ (S1 _ _ z))) upd_same (.inr ⟨m, A, T, p, pm, pa, pt, e, rfl, rfl, yr _ _ h1, yr _ _ h2, yr _ _ h3, yr _ _ h4⟩)
    clear k
    have nn1 : Str.ofString "moduli" ≠ noW := by decide +kernel
    have nn2 : Str.ofString "ahead" ≠ noW := by decide +kernel
    have nn3 : Str.ofString "-" ≠ noW := by decide +kernel
    have nn4 : Str.ofString "round" ≠ noW := by decide +kernel
    unfold readP at bad kO
    by_cases c0 : w0 = Str.ofString "moduli"
    rotate_left
    · refine ite_yes (by simp [c0]) ⟨(by show 2 ≤ PySem.sizeLine; decide), fun r hr => bad H1 r 0 (Same.refl _) hr (if_neg fun z => c0 ?_)⟩
      rw [(pad_at nn1).mpr z] at hw0
      exact (Option.some.inj hw0).symm
    refine ite_no (by simp [c0]) ?_
    have c0' : ws[0]? = some (Str.ofString "moduli") := (pad_at nn1).mp (by rw [hw0, c0])
    rw [if_pos c0'] at bad kO
    refine ⟨_, rfl, U, padW ws, rfl, hUx, okp, by omega, by omega, fun H2 r1 y s2 hr1 hn hs => ⟨r1, _, rfl, SqT.of hr1, rfl, _, _, rfl, _, _, rfl, rfl, ?_⟩⟩
    unfold lawM at hn hs
    rw [pad_mod wne] at hn hs
    have okm := modG_ok (ws.drop 1) [] (.inl rfl)
    rw [pad_mod wne]
    clear hr1
    generalize modG [] (ws.drop 1) = m at hn hs okm bad kO ⊢
    have hU2 := s2 _ _ hUx
    have l5 : m.length ≤ 5 := by
      rcases okm with rfl | ok
      · decide
      · obtain ⟨ns, e1, hM, _⟩ := mods_of ok
        obtain rfl := map_int_inj e1
        exact hM.1
    obtain ⟨w1, hw1⟩ : ∃ w, (padW ws)[1 + m.length]? = some w := ⟨_, List.getElem?_eq_getElem (show 1 + m.length < (padW ws).length by omega)⟩
    have at1 : atI ((padW ws).map V.str) ((1 + m.length : Nat) : Int) = some (V.str w1) := atI_nat (by rw [List.getElem?_map, hw1]; rfl)
    rw [hw1] at hn hs
    have na : ∀ {w : Str} {i : Nat} {v : Str}, (padW ws)[i]? = some w → v ≠ noW → w ≠ v → ws[i]? ≠ some v := fun {w i v} h hv n z => n (by
      rw [(pad_at hv).mpr z] at h
      exact (Option.some.inj h).symm)
    by_cases cm : m = [] ∨ (m.length < 5 ∧ some w1 ≠ some (Str.ofString "ahead"))
    · rw [if_pos cm] at hn
      rw [hn rfl]
      refine ⟨_, rfl, rfl, _, rfl, iteT (iteT ⟨_, rfl, (by show 2 ≤ PySem.sizeLine; decide), fun r hr => bad H2 r (1 + m.length) s2 hr ?_⟩)⟩
      by_cases c1 : m = []
      · rw [if_pos c1, c1]
        rfl
      · rw [if_neg c1]
        unfold readA
        exact if_neg (na hw1 nn2 fun z => (cm.resolve_left c1).2 (congrArg some z))
    rw [if_neg cm] at hs
    obtain ⟨x, rfl, hx⟩ := hs m rfl
    have m0 : m ≠ [] := fun z => cm (.inl z)
    rw [if_neg m0] at bad kO
    clear hn hs cm
    refine ⟨_, rfl, rfl, _, rfl, iteF ⟨_, rfl, _, rfl, U, _, _, _, rfl, rfl, SqL.of hU2, at1, rfl, _, rfl, ?_⟩⟩
    by_cases c1 : w1 = Str.ofString "ahead"
    rotate_left
    · refine ite_yes (by simp [c1]) ⟨_, rfl, (by show 2 ≤ PySem.sizeLine; decide), fun r hr => bad H2 r (1 + m.length) s2 hr ?_⟩
      unfold readA
      exact if_neg (na hw1 nn2 c1)
    refine ite_no (by simp [c1]) ?_
    have c1' : ws[1 + m.length]? = some (Str.ofString "ahead") := (pad_at nn2).mp (by rw [hw1, c1])
    obtain ⟨mi, e1, hM, _, p32, p2⟩ := mods_of (okm.resolve_left m0)
    obtain rfl := map_int_inj e1
    obtain ⟨n, en⟩ := Int.eq_ofNat_of_zero_le (show 0 ≤ prodI m by omega)
    refine ⟨(by show 0 ≤ PySem.sizeLine; decide), fun a0 ha0 => ⟨_, _, rfl, ?_⟩⟩
    have y3 := Same.lay (o := .lst []) ha0
    have hU3 := y3 _ _ hU2
    have hx3 := y3 _ _ hx
    have ha3 : (upd H2 a0 (.lst [])) a0 = some (.lst []) := upd_same
    have s3 : Same H1 (upd H2 a0 (.lst [])) := fun _ _ z => y3 _ _ (s2 _ _ z)
    generalize upd H2 a0 (.lst []) = H3 at hU3 hx3 ha3 s3 ⊢
    clear y3 ha0 hU2 hx s2
    refine ⟨_, rfl, x, rfl, ⟨_, SqL.of hx3⟩, for_it (walk_list (xs := m.map V.int)) (fun i σ G => ∃ u7, σ = [some (.str a), some (.int (((ws.map V.str).length : Nat) : Int)), some (.ref U), some (.int ((1 + m.length : Nat) : Int)), some (.ref x), some (.int (prodI (m.take i))), some (.ref a0), u7, none] ∧ G = H3) ⟨none, rfl, rfl⟩ (fun i σ G _ ⟨_, _, e⟩ => by rw [e]; exact SqL.of hx3) ?_ ?_⟩
    · rintro i v σ G G' hi ⟨u7, rfl, rfl⟩ ⟨rfl, hv⟩
      rw [List.getElem?_map] at hv
      obtain ⟨z, hz, rfl⟩ := Option.map_eq_some_iff.mp hv
      have hzm := hM.2 z (List.mem_of_getElem? hz)
      refine ⟨_, rfl, _, rfl, _, _, rfl, rfl, .inr ⟨by omega, by omega⟩, some (.int z), ?_, rfl⟩
      show [_, _, _, _, _, some (V.int (prodI (m.take i) * z)), _, _, _] = _
      rw [← prodI_snoc, List.take_add_one, hz]
      rfl
    rintro σ H3 ⟨u7, rfl, rfl⟩
    rw [show m.take (m.map V.int).length = m by rw [List.length_map, List.take_length], en]
    refine ⟨_, rfl, _, _, rfl, rfl, ?_⟩
    have lws : (1 + m.length + 1) + 50 < (padW ws).length := by omega
    obtain ⟨w2, hw2⟩ : ∃ w, (padW ws)[1 + m.length + 1]? = some w := ⟨_, List.getElem?_eq_getElem (show 1 + m.length + 1 < (padW ws).length by omega)⟩
    have at2 : atI ((padW ws).map V.str) ((1 + m.length + 1 : Nat) : Int) = some (V.str w2) := atI_nat (by rw [List.getElem?_map, hw2]; rfl)
    have n2 : 2 ≤ n := by omega
    have n32 : n ≤ 32 := by omega
    refine ⟨fun σ G => ∃ (b : Nat) (ya : V), σ = [some (.str a), some (.int (((ws.map V.str).length : Nat) : Int)), some (.ref U), some (.int (b : Int)), some (.ref x), some (.int (n : Int)), some ya, u7, none] ∧ Same H3 G ∧ b ≤ 30 ∧ ((ya = .non ∧ readA ws m (1 + m.length) = .inl b) ∨ ∃ (xa : Addr) (A : List Int), ya = .ref xa ∧ G xa = some (.lst (A.map V.int)) ∧ A.length ≤ 23 ∧ readA ws m (1 + m.length) = readR ws m A b), ?_, ?_⟩
    · refine ⟨_, rfl, _, rfl, U, _, _, _, rfl, rfl, SqL.of hU3, at2, rfl, _, rfl, ?_⟩
      unfold readA
      rw [if_pos c1', en, Int.toNat_natCast]
      by_cases c2 : w2 = Str.ofString "-"
      · refine ite_yes (by simp [c2]) ⟨_, rfl, _, _, rfl, rfl, 1 + m.length + 1 + 1, .ref a0, rfl, Same.refl _, by omega, .inr ⟨a0, [], rfl, ha3, by decide, ?_⟩⟩
        have h2 : ws[1 + m.length + 1]? = some (Str.ofString "-") := (pad_at nn3).mp (by rw [hw2, c2])
        have eA : wtG (n - 1) ((ws.drop (1 + m.length + 1)).take 23) = [] := by
          obtain ⟨h3, e3⟩ := List.getElem?_eq_some_iff.mp h2
          rw [List.drop_eq_getElem_cons h3, e3, List.take_succ_cons, wtG_cons, numW_letters (by decide +kernel)]
        rw [eA, if_neg (fun z => z.2 h2)]
        rfl
      · refine ite_no (by simp [c2]) ⟨_, rfl, _, rfl, _, rfl, U, padW ws, 1 + m.length + 1, n, 23, rfl, hU3, okp, by omega, by omega, by omega, n32, by decide, by decide, fun H4 r4 y4 s4 hr4 hn4 hs4 => ⟨r4, _, rfl, SqT.of hr4, rfl, _, _, rfl, _, _, rfl, rfl, ?_⟩⟩
        unfold lawW at hn4 hs4
        rw [pad_wt] at hn4 hs4
        rw [pad_wt]
        have lA := wtG_len (n - 1) ((ws.drop (1 + m.length + 1)).take 23)
        rw [List.length_take] at lA
        generalize wtG (n - 1) ((ws.drop (1 + m.length + 1)).take 23) = A at hn4 hs4 lA ⊢
        have nd : ws[1 + m.length + 1]? ≠ some (Str.ofString "-") := na hw2 nn3 c2
        refine ⟨1 + m.length + 1 + A.length, y4, rfl, s4, by omega, ?_⟩
        by_cases cA : A = [] ∨ (A.length < 23 ∧ (padW ws)[1 + m.length + 1 + A.length]? ≠ some (Str.ofString "round") ∧ (padW ws)[1 + m.length + 1 + A.length]? ≠ some (Str.ofString ""))
        · rw [if_pos cA] at hn4
          refine .inl ⟨hn4 rfl, ?_⟩
          by_cases cB : A = []
          · rw [if_pos ⟨cB, nd⟩, cB]
            rfl
          · rw [if_neg (fun z => cB z.1)]
            unfold readR
            have l1 := List.length_pos_iff.mpr cB
            rw [show max 1 A.length = A.length by omega]
            exact if_neg fun z => (cA.resolve_left cB).2.1 ((pad_at nn4).mpr z)
        · rw [if_neg cA] at hs4
          obtain ⟨xa, e4, hxa⟩ := hs4 A rfl
          have cB : A ≠ [] := fun z => cA (.inl z)
          have l1 := List.length_pos_iff.mpr cB
          refine .inr ⟨xa, A, e4, hxa, by omega, ?_⟩
          rw [if_neg (fun z => cB z.1), show max 1 A.length = A.length by omega]
    rintro σ G4 ⟨b, ya, rfl, s4, b30, hy⟩
    have hU4 := s4 _ _ hU3
    have hx4 := s4 _ _ hx3
    have S4 : Same H1 G4 := fun _ _ z => s4 _ _ (s3 _ _ z)
    rcases hy with ⟨rfl, er⟩ | ⟨xa, A, rfl, hxa, lA, er⟩
    · rw [er] at bad
      exact ⟨_, rfl, rfl, _, rfl, iteT (iteT ⟨_, rfl, (by show 2 ≤ PySem.sizeLine; decide), fun r hr => bad G4 r b S4 hr rfl⟩)⟩
    rw [er] at bad kO
    obtain ⟨w3, hw3⟩ : ∃ w, (padW ws)[b]? = some w := ⟨_, List.getElem?_eq_getElem (show b < (padW ws).length by omega)⟩
    have at3 : atI ((padW ws).map V.str) ((b : Nat) : Int) = some (V.str w3) := atI_nat (by rw [List.getElem?_map, hw3]; rfl)
    refine ⟨_, rfl, rfl, _, rfl, iteF ⟨_, rfl, _, rfl, U, _, _, _, rfl, rfl, SqL.of hU4, at3, rfl, _, rfl, ?_⟩⟩
    unfold readR at bad kO
    by_cases c3 : w3 = Str.ofString "round"
    rotate_left
    · exact ite_yes (by simp [c3]) ⟨_, rfl, (by show 2 ≤ PySem.sizeLine; decide), fun r hr => bad G4 r b S4 hr (if_neg (na hw3 nn4 c3))⟩
    refine ite_no (by simp [c3]) ?_
    have c3' : ws[b]? = some (Str.ofString "round") := (pad_at nn4).mp (by rw [hw3, c3])
    rw [if_pos c3', en, Int.toNat_natCast] at bad kO
    refine ⟨_, rfl, _, rfl, _, _, rfl, rfl, _, rfl, _, rfl, xa, _, rfl, .inl (SqL.of hxa), _, _, rfl, rfl, ?_⟩
    refine ⟨U, padW ws, b + 1, n, 24 - A.length, (by show [V.ref U, V.int ((b : Int) + 1), V.int (n : Int), V.int (24 - (((A.map V.int).length : Nat) : Int))] = _; rw [List.length_map, show (24 - (A.length : Int)) = ((24 - A.length : Nat) : Int) by omega]; rfl), hU4, okp, by omega, by omega, by omega, n32, by omega, by omega, fun H5 r5 y5 s5 hr5 hn5 hs5 => ⟨r5, _, rfl, SqT.of hr5, rfl, _, _, rfl, _, _, rfl, rfl, ?_⟩⟩
    unfold lawW at hn5 hs5
    rw [pad_wt] at hn5 hs5
    rw [pad_wt]
    generalize wtG (n - 1) ((ws.drop (b + 1)).take (24 - A.length)) = T' at hn5 hs5 bad kO ⊢
    have S5 : Same H1 H5 := fun _ _ z => s5 _ _ (S4 _ _ z)
    have hx5 := s5 _ _ hx4
    have hxa5 := s5 _ _ hxa
    by_cases cT : T' = [] ∨ (T'.length < 24 - A.length ∧ (padW ws)[b + 1 + T'.length]? ≠ some (Str.ofString "round") ∧ (padW ws)[b + 1 + T'.length]? ≠ some (Str.ofString ""))
    · rw [if_pos cT] at hn5
      rw [hn5 rfl]
      refine ⟨_, rfl, rfl, _, rfl, iteT (iteT ⟨_, rfl, (by show 2 ≤ PySem.sizeLine; decide), fun r hr => bad H5 r _ S5 hr (if_pos ?_)⟩)⟩
      by_cases cU : T' = []
      · exact .inl cU
      · refine .inr (Nat.lt_of_not_le fun z => (cT.resolve_left cU).2.2 ?_)
        unfold padW
        have := (cT.resolve_left cU).1
        rw [List.getElem?_append_right z, List.getElem?_replicate, if_pos (by omega)]
    rw [if_neg cT] at hs5
    obtain ⟨xt, rfl, hxt⟩ := hs5 T' rfl
    have cU : T' ≠ [] := fun z => cT (.inl z)
    refine ⟨_, rfl, rfl, _, rfl, iteF ⟨_, rfl, _, rfl, _, _, rfl, rfl, _, rfl, ?_⟩⟩
    by_cases cB : b + 1 + T'.length < ws.length
    · exact ite_yes (decide_eq_true (by rw [List.length_map]; omega)) ⟨_, rfl, (by show 2 ≤ PySem.sizeLine; decide), fun r hr => bad H5 r _ S5 hr (if_pos (.inr cB))⟩
    refine ite_no (decide_eq_false (by rw [List.length_map]; omega)) ?_
    have e7 : ¬(T' = [] ∨ b + 1 + T'.length < ws.length) := fun z => z.elim cU cB
    refine ⟨_, rfl, x, _, rfl, .inl (hx5), fun pm G6 t6 hpm => ⟨_, rfl, xa, _, rfl, .inl (t6 _ _ hxa5), fun pa G7 t7 hpa => ⟨_, rfl, xt, _, rfl, .inl (t7 _ _ (t6 _ _ hxt)), fun pt G8 t8 hpt => ⟨(by show 3 ≤ PySem.sizeLine; decide), fun p hp => ⟨(by show 2 ≤ PySem.sizeLine; decide), fun r hr => ?_⟩⟩⟩⟩⟩
    have y9 := Same.lay (o := .tup [.ref pm, .ref pa, .ref pt]) hp
    exact kO _ r m A T' p pm pa pt (if_neg e7) (fun _ _ z => y9 _ _ (t8 _ _ (t7 _ _ (t6 _ _ (S5 _ _ z))))) hr upd_same (y9 _ _ (t8 _ _ (t7 _ _ hpm))) (y9 _ _ (t8 _ _ hpa)) (y9 _ _ hpt)
end
end Toy
set_option maxRecDepth 100000
namespace Toy
open PySem L2 LamX Dg TL
abbrev s__law_text : Stmt := top 42
theorem join6 (a b c d e f : Str) : Txt.join " " [a, b, c, d, e, f] = a ++ " " ++ b ++ " " ++ c ++ " " ++ d ++ " " ++ e ++ " " ++ f := by
  rw [TL.join_eq]
  refine str_ext ?_
  rw [TL.tl_join]
  simp only [List.map, TL.tl_append, joinL]
  simp only [List.append_assoc]
/-- a plain rule, as the law holds it -/
def PlainAt (H : Hp) (q : Addr) (ms as ts : List Int) : Prop := ∃ pm pa pt : Addr, H q = some (.tup [.ref pm, .ref pa, .ref pt]) ∧ H pm = some (.tup (ms.map V.int)) ∧ H pa = some (.tup (as.map V.int)) ∧ H pt = some (.tup (ts.map V.int))
theorem PlainAt.same {H G : Hp} {q : Addr} {ms as ts : List Int} (s : Same H G) (h : PlainAt H q ms as ts) : PlainAt G q ms as ts :=
  let ⟨pm, pa, pt, h1, h2, h3, h4⟩ := h
  ⟨pm, pa, pt, s _ _ h1, s _ _ h2, s _ _ h3, s _ _ h4⟩
def spLText : Sp := fun vs H Q _ => ∃ (q : Addr) (ms as ts : List Int), vs = [.ref q] ∧ PlainAt H q ms as ts ∧ FitS ms ∧ FitS as ∧ FitS ts ∧ ms ≠ [] ∧ ts ≠ [] ∧ ∀ H', Same H H' → Q (.str (ruleTxt ms as ts)) H'
theorem spaced_ne {ns : List Int} (h : ns ≠ []) : spacedS ns = Txt.join " " (shownS ns) := by
  unfold spacedS
  exact if_neg h
theorem lc_strs {K : PySem.W.Frag} {j i : Nat} {σ : L2.St} {H : Hp} {Q : VK} {p : Addr} {ns : List Int} (e : σ[j]? = some (some (.ref p))) (hi : i < σ.length) (hp : H p = some (.tup (ns.map V.int))) (f : FitS ns) (k : ∀ D G, Same H G → G D = some (.lst ((shownS ns).map V.str)) → Q (.ref D) G) :
    tLc (iTup K (tVar j)) (gName i) tYes (tCB (fun xs H Q => ∃ i : Int, xs = [V.int i] ∧ i.natAbs.log2 < 1920 ∧ Q (V.str (Str.ofString (toString i))) H) (tCons (tVar i) tNil)) [i] σ H Q := by
  obtain ⟨l, sm, _, _⟩ := f
  refine ⟨_, e, p, rfl, ⟨_, SqT.of hp⟩, fun D hD => ?_⟩
  have vD := Same.lay (o := .lst []) hD
  have nD : ∀ {b : Addr} {o : HO}, H b = some o → b ≠ D := fun e => ne_of_none e hD
  refine lc_it (walk_tup (xs := ns.map V.int)) (fun i G => But D (upd H D (.lst [])) G ∧ G D = some (.lst ((shownS (ns.take i)).map V.str))) ⟨But.refl _ _, upd_same⟩ (fun i G _ h => SqT.of (h.1 _ _ (nD hp) (vD _ _ hp))) ?_ ?_
  · rintro n v G G' hn ⟨bt, hG⟩ ⟨rfl, hx⟩
    rw [List.getElem?_map] at hx
    obtain ⟨z, hz, rfl⟩ := Option.map_eq_some_iff.mp hx
    have e2 : ((σ.set i none).set i (some (V.int z)))[i]? = some (some (V.int z)) := by
      rw [List.set_set, List.getElem?_set_self hi]
    refine ⟨(by show ((σ.set i none).set i (some (V.int z))).set i none = σ.set i none; rw [List.set_set, List.set_set]), _, e2, _, rfl, ?_, _, hG, small1000 (by unfold shownS; rw [List.length_map, List.length_map, List.length_take]; omega), bt.put, ?_⟩
    · have := sm z (List.mem_of_getElem? hz)
      have h2 := Nat.log2_lt (n := z.natAbs) (k := 20)
      by_cases c : z.natAbs = 0
      · rw [c]; decide
      · have := (h2 c).mpr (by omega)
        omega
    · rw [upd_same, List.take_add_one, hz]
      unfold shownS
      rw [List.map_append, List.map_append]
      rfl
  · rintro G ⟨bt, hG⟩
    rw [List.length_map, List.take_length] at hG
    exact k _ G (fun b o e => bt b o (nD e) (vD _ _ e)) hG
abbrev rJn (K : PySem.W.Frag) : V → List V → Hp → VK → Prop := fun x xs H Q => ∃ (a : Str) (p : Addr) (ys : List Str), x = V.str a ∧ xs = [V.ref p] ∧ (SqL K H p (List.map V.str ys) ∨ SqT K H p (List.map V.str ys)) ∧ (List.map (fun x => x.length) ys).sum + ys.length * a.length ≤ 16777216 ∧ Q (V.str (Txt.join a ys)) H
abbrev rSi : List V → Hp → VK → Prop := fun xs H Q => ∃ i : Int, xs = [V.int i] ∧ i.natAbs.log2 < 1920 ∧ Q (V.str (Str.ofString (toString i))) H
theorem jn_strs {K : PySem.W.Frag} {j i : Nat} {σ : L2.St} {H : Hp} {Q : VK} {p : Addr} {ns : List Int} (e : σ[j]? = some (some (.ref p))) (hi : i < σ.length) (hp : H p = some (.tup (ns.map V.int))) (f : FitS ns) (k : ∀ G, Same H G → Q (.str (Txt.join " " (shownS ns))) G) :
    tM1 (rJn K) (tC (V.str (Str.ofString " "))) (tLc (iTup K (tVar j)) (gName i) tYes (tCB rSi (tCons (tVar i) tNil)) [i]) σ H Q := by
  exact ⟨⟨_, rfl⟩, lc_strs e hi hp f fun D G s h => ⟨_, D, _, rfl, rfl, .inl (SqL.of h), f.2.2.1, k G s⟩⟩
theorem jn_or {K : PySem.W.Frag} {j i : Nat} {σ : L2.St} {H : Hp} {Q : VK} {p : Addr} {ns : List Int} (e : σ[j]? = some (some (.ref p))) (hi : i < σ.length) (hp : H p = some (.tup (ns.map V.int))) (f : FitS ns) (k : ∀ G, Same H G → Q (.str (spacedS ns)) G) :
    if decide (ns ≠ []) = true then tM1 (rJn K) (tC (V.str (Str.ofString " "))) (tLc (iTup K (tVar j)) (gName i) tYes (tCB rSi (tCons (tVar i) tNil)) [i]) σ H Q else tC (V.str (Str.ofString "-")) σ H Q := by
  by_cases c : ns = []
  · rw [decide_eq_false (fun z => z c), if_neg Bool.false_ne_true]
    have := k H (Same.refl H)
    unfold spacedS at this
    rw [if_pos c] at this
    exact this
  · rw [decide_eq_true c, if_pos rfl]
    refine jn_strs e hi hp f fun G s => ?_
    rw [← spaced_ne c]
    exact k G s
theorem txt6 (ms as ts : List Int) : Txt.join " " ["moduli", spacedS ms, "ahead", spacedS as, "round", spacedS ts] = ruleTxt ms as ts := by
  rw [join6]
  unfold ruleTxt
  refine str_ext ?_
  simp only [TL.tl_append]
  have e1 : tl (Str.empty) ++ tl ("moduli " : Str) = tl ("moduli" : Str) ++ tl (" " : Str) := by decide +kernel
  have e2 : tl (" ahead " : Str) = tl (" " : Str) ++ (tl ("ahead" : Str) ++ tl (" " : Str)) := by decide +kernel
  have e3 : tl (" round " : Str) = tl (" " : Str) ++ (tl ("round" : Str) ++ tl (" " : Str)) := by decide +kernel
  rw [e1, e2, e3]
  simp only [List.append_assoc]
section
variable {P : Program} {w : World} {K : PySem.W.Frag} {mg : Str → Option Value} {base : Heap} {CR CN CT uR uN uT : Addr} {fdR fdN fdT : FuncData} {C pc pb gc gb : Addr} {CW uW : Addr} {fdW : FuncData}
abbrev N__law_text : List Str := ["_law_plain_here", "_law_moduli_here", "_law_ahead", "_law_turn", "_law_front", "_law_weight", "_law_tail", "_law_modulus"]
theorem sc__law_text : FnScope N__law_text ["_law_plain_here"] (defScope s__law_text) := ⟨rfl, rfl, rfl, by decide +kernel, rfl, by decide +kernel, by decide +kernel⟩
theorem ok__law_text {f : Addr} {fd : FuncData} (F : Fun K "_law_text" "_law_text" s__law_text f fd) (T : TR mg) (m_str : mg "str" = none) : FnOk P w K mg base CX0 1 f fd ["_law_plain_here"] spLText := by
  refine F.ok sc__law_text (fun vs H Q E h => ?_) (fun cdv A outer s H vs Q E hr h => ?_)
  · obtain ⟨q, ms, as, ts, rfl, _⟩ := h
    rfl
  · obtain ⟨q, ms, as, ts, rfl, ⟨pm, pa, pt, h1, h2, h3, h4⟩, f1, f2, f3, nm, nt, k⟩ := h
    refine ⟨_, (pss_cons (ps_asg (pv 0) (pg_tup rfl (pgs_cons (pg_name (i := 1) sc__law_text.nd rfl (Or.inl rfl)) (pgs_cons (pg_name (i := 2) sc__law_text.nd rfl (Or.inl rfl)) (pgs_cons (pg_name (i := 3) sc__law_text.nd rfl (Or.inl rfl)) pgs_nil)))))
 (pss_cons (ps_set (i := 4) sc__law_text.nd rfl (Or.inl rfl) (pe_ifExp (pt_cmpR (op_neP hr.units) (pv 2) (pe_tup pa_nil) (nomark _)) (pe_m1 PySem.F.slot_str_join PySem.F.type_str_join mt_join pe_str (pe_lc (own := [("_law_weight", 5)]) (g := (gName 5)) (tt := tYes) rfl sc__law_text.nd (pi_tup (pv 2)) (blkOk_by (N := N__law_text) (sc := defScope s__law_text) (by decide +kernel)) (fun _ _ _ _ _ => (pg_name (i := 5) sc__law_text.nd rfl (Or.inl rfl))) (fun _ _ _ _ _ => pts_nil) (fun _ _ _ _ _ => (pe_callTy call_str_int (by rfl) m_str (by decide +kernel) (pa_cons (pv 5) pa_nil))))) pe_str))
 (pss_cons (ps_set (i := 6) sc__law_text.nd rfl (Or.inl rfl) (pe_m1 PySem.F.slot_str_join PySem.F.type_str_join mt_join pe_str (pe_lc (own := [("_law_weight", 5)]) (g := (gName 5)) (tt := tYes) rfl sc__law_text.nd (pi_tup (pv 3)) (blkOk_by (N := N__law_text) (sc := defScope s__law_text) (by decide +kernel)) (fun _ _ _ _ _ => (pg_name (i := 5) sc__law_text.nd rfl (Or.inl rfl))) (fun _ _ _ _ _ => pts_nil) (fun _ _ _ _ _ => (pe_callTy call_str_int (by rfl) m_str (by decide +kernel) (pa_cons (pv 5) pa_nil))))))
 (pss_one (ps_ret (pe_m1 PySem.F.slot_str_join PySem.F.type_str_join mt_join pe_str (pe_lst (pa_cons pe_str (pa_cons (pe_m1 PySem.F.slot_str_join PySem.F.type_str_join mt_join pe_str (pe_lc (own := [("_law_modulus", 7)]) (g := (gName 7)) (tt := tYes) rfl sc__law_text.nd (pi_tup (pv 1)) (blkOk_by (N := N__law_text) (sc := defScope s__law_text) (by decide +kernel)) (fun _ _ _ _ _ => (pg_name (i := 7) sc__law_text.nd rfl (Or.inl rfl))) (fun _ _ _ _ _ => pts_nil) (fun _ _ _ _ _ => (pe_callTy call_str_int (by rfl) m_str (by decide +kernel) (pa_cons (pv 7) pa_nil))))) (pa_cons pe_str (pa_cons (pv 4) (pa_cons pe_str (pa_cons (pv 6) pa_nil))))))))))))), ?_⟩
    refine ⟨_, rfl, q, _, rfl, SqT.of h1, rfl, _, _, rfl, _, _, rfl, _, _, rfl, rfl, ?_⟩
    refine ⟨_, rfl, (by show 0 ≤ PySem.sizeLine; decide), fun e0 he0 => ?_⟩
    have y0 := Same.lay (o := .tup []) he0
    have g2 := y0 _ _ h2
    have g3 := y0 _ _ h3
    have g4 := y0 _ _ h4
    have hk : ∀ G, Same (upd H e0 (.tup [])) G → Q (.str (ruleTxt ms as ts)) G := fun G s => k G fun _ _ z => s _ _ (y0 _ _ z)
    clear k
    refine ⟨_, _, as, [], rfl, rfl, g3, upd_same, _, rfl, ?_⟩
    generalize upd H e0 (.tup []) = H0 at g2 g3 g4 hk ⊢
    clear y0 h1 h2 h3 h4 he0
    refine jn_or rfl (by show 5 < 8; decide) g3 f2 fun G1 s1 => ?_
    dsimp only [gName, tSeq, tAsg]
    refine jn_strs rfl (by show 5 < 8; decide) (s1 _ _ g4) f3 fun G2 s2 => ?_
    dsimp only [gName, tRet]
    refine ⟨⟨_, rfl⟩, ?_⟩
    dsimp only [tLst, tCons, tC]
    refine jn_strs rfl (by show 7 < 8; decide) (s2 _ _ (s1 _ _ g2)) f1 fun G3 s3 => ?_
    refine ⟨_, rfl, _, rfl, (by show 6 ≤ PySem.sizeLine; decide), fun p hp => ?_⟩
    have y4 := Same.lay (o := .lst [.str (Str.ofString "moduli"), .str (Txt.join " " (shownS ms)), .str (Str.ofString "ahead"), .str (spacedS as), .str (Str.ofString "round"), .str (Txt.join " " (shownS ts))]) hp
    refine ⟨_, p, [Str.ofString "moduli", Txt.join " " (shownS ms), Str.ofString "ahead", spacedS as, Str.ofString "round", Txt.join " " (shownS ts)], rfl, rfl, .inl (SqL.of upd_same), ?_, ?_⟩
    · have z1 := f1.2.2.2
      have z2 := f2.2.2.2
      have z3 := f3.2.2.2
      rw [← spaced_ne nm, ← spaced_ne nt]
      have e1 : (Str.ofString "moduli").length = 6 := by decide +kernel
      have e2 : (Str.ofString "ahead").length = 5 := by decide +kernel
      have e3 : (Str.ofString "round").length = 5 := by decide +kernel
      have e4 : (Str.ofString " ").length = 1 := by decide +kernel
      show (Str.ofString "moduli").length + ((spacedS ms).length + ((Str.ofString "ahead").length + ((spacedS as).length + ((Str.ofString "round").length + ((spacedS ts).length + 0))))) + 6 * (Str.ofString " ").length ≤ _
      omega
    · have e := txt6 ms as ts
      rw [spaced_ne nm, spaced_ne nt] at e
      show Q (.str (Txt.join " " ["moduli", Txt.join " " (shownS ms), "ahead", spacedS as, "round", Txt.join " " (shownS ts)])) _
      rw [e]
      exact hk _ fun _ _ z => y4 _ _ (s3 _ _ (s2 _ _ (s1 _ _ z)))
end
end Toy
set_option maxRecDepth 100000
namespace Toy
open PySem L2 LamX Dg TL
abbrev s__law_due : Stmt := top 47
/-- a text's words name a rule whose text it is -/
def ruleOf (a : Str) : Option (List Int × List Int × List Int) := match readP (wordsT a) with
  | .inl _ => none
  | .inr (m, A, T) => if ruleTxt m (normW A T).1 (normW A T).2 = a then some (m, (normW A T).1, (normW A T).2) else none
def wrongOf (a : Str) : Nat := match readP (wordsT a) with
  | .inl k => k
  | .inr _ => 0
/-- what reading a text gives -/
def ansO (a : Str) : HO := match ruleOf a with
  | some _ => .lst [.str a]
  | none => .tup [.int 0, .int ((wrongOf a : Nat) : Int)]
def spDue : Sp := fun vs H Q _ => ∃ a : Str, vs = [.str a] ∧ a.length ≤ 1000000 ∧ ChOk a ∧ ∀ (H' : Hp) (p : Addr), Same H H' → H' p = some (ansO a) → Q (.ref p) H'
theorem fits_norm {m A T : List Int} (okm : okMod (some (m.map V.int)) = true) (rA : ∀ z ∈ A, 0 ≤ z ∧ z ≤ prodV (m.map V.int) - 1) (rT : ∀ z ∈ T, 0 ≤ z ∧ z ≤ prodV (m.map V.int) - 1) (tne : T ≠ []) (l24 : A.length + T.length ≤ 24) : m ≠ [] ∧ FitS m ∧ FitS A ∧ FitS T ∧ FitS (normW A T).1 ∧ FitS (normW A T).2 := by
  obtain ⟨nA, nS, nl1, nl2⟩ := normW_ok (A := A) tne
  obtain ⟨mi, e1, hM, m0, p32, p2⟩ := mods_of okm
  obtain rfl := map_int_inj e1
  rw [prodV_map] at rA rT
  have rw1 : ∀ i, 0 ≤ wAt A T i ∧ wAt A T i < 32 := fun i => by
    have mem : ∀ {l : List Int} {j : Nat}, (∀ z ∈ l, 0 ≤ z ∧ z ≤ prodI m - 1) → j < l.length → 0 ≤ l.getD j 0 ∧ l.getD j 0 < 32 := fun {l j} hl hj => by
      rw [List.getD_eq_getElem?_getD, List.getElem?_eq_getElem hj]
      have := hl _ (List.getElem_mem hj)
      show 0 ≤ l[j] ∧ l[j] < 32
      omega
    unfold wAt pAt
    split
    · rename_i c
      exact mem rA c
    · exact mem rT (Nat.mod_lt _ (List.length_pos_iff.mpr tne))
  have wm : ∀ z, z ∈ (normW A T).1 ∨ z ∈ (normW A T).2 → 0 ≤ z ∧ z < 1000 := fun z hz => by
    obtain ⟨i, ei⟩ := wAt_mem hz
    rw [nS] at ei
    have := rw1 i
    omega
  refine ⟨fun z => ?_, fit_of (by have := hM.1; omega) fun z hz => by have := hM.2 z hz; omega, fit_of (by omega) fun z hz => by have := rA z hz; omega, fit_of (by omega) fun z hz => by have := rT z hz; omega, fit_of (by omega) fun z hz => wm z (.inl hz), fit_of (by omega) fun z hz => wm z (.inr hz)⟩
  rw [z] at p2
  exact absurd p2 (by decide)
section
variable {P : Program} {w : World} {K : PySem.W.Frag} {mg : Str → Option Value} {base : Heap} {CR CN CT uR uN uT : Addr} {fdR fdN fdT : FuncData} {C pc pb gc gb : Addr} {CW uW : Addr} {fdW : FuncData}
abbrev N__law_due : List Str := ["_law_line", "_law_wrong_here", "_law_plain_here"]
theorem sc__law_due : FnScope N__law_due ["_law_line"] (defScope s__law_due) := ⟨rfl, rfl, rfl, by decide +kernel, rfl, by decide +kernel, by decide +kernel⟩
theorem ok__law_due {f fWr fNm fTx : Addr} {fd fdWr fdNm fdTx : FuncData} (F : Fun K "_law_due" "_law_due" s__law_due f fd) (T : TR mg)
    (GWr : FnOk P w K mg base CX0 3 fWr fdWr ["_law_line"] spLWrong) (gWr : mg "_law_wrong" = some (.ref fWr)) (kWr : PySem.W.keepIn K (.ref fWr) = true) (bWr : Binds K fdWr ["_law_line"] [])
    (GNm : FnOk P w K mg base CX0 1 fNm fdNm ["_law_plain_here"] spNormal) (gNm : mg "_law_normal" = some (.ref fNm)) (kNm : PySem.W.keepIn K (.ref fNm) = true) (bNm : Binds K fdNm ["_law_plain_here"] [])
    (GTx : FnOk P w K mg base CX0 1 fTx fdTx ["_law_plain_here"] spLText) (gTx : mg "_law_text" = some (.ref fTx)) (kTx : PySem.W.keepIn K (.ref fTx) = true) (bTx : Binds K fdTx ["_law_plain_here"] []) : FnOk P w K mg base CX0 4 f fd ["_law_line"] spDue := by
  refine F.ok sc__law_due (fun vs H Q E h => ?_) (fun cdv A outer s H vs Q E hr h => ?_)
  · obtain ⟨a, rfl, _⟩ := h
    rfl
  · obtain ⟨a, rfl, la, oka, k⟩ := h
    have hrD1 : Room 1 _ := hr.mono (by decide)
    refine ⟨_, (pss_cons (ps_asg (pe_call GWr hr rfl gWr kWr bWr .nil pass0 (pa_cons (pv 0) pa_nil)) (pg_tup rfl (pgs_cons (pg_name (i := 1) sc__law_due.nd rfl (Or.inl rfl)) (pgs_cons (pg_name (i := 2) sc__law_due.nd rfl (Or.inl rfl)) pgs_nil))))
 (pss_cons (ps_if (pt_cmpR op_notN (pv 1) pe_non (nomark _)) (pss_one (ps_ret (pe_tup (pa_cons pe_int (pa_cons (pv 1) pa_nil))))) pss_nil)
 (pss_one (ps_ret (pe_ifExp (pt_cmpR op_eq (pe_call GTx hrD1 rfl gTx kTx bTx .nil pass0 (pa_cons (pe_call GNm hrD1 rfl gNm kNm bNm .nil pass0 (pa_cons (pv 2) pa_nil)) pa_nil)) (pv 0) (nomark _)) (pe_lst (pa_cons (pv 0) pa_nil)) (pe_tup (pa_cons pe_int (pa_cons pe_int pa_nil)))))))), ?_⟩
    refine ⟨_, rfl, a, rfl, la, oka, fun H1 r y z s1 hr1 hw => ?_⟩
    refine ⟨r, _, rfl, SqT.of hr1, rfl, _, _, rfl, _, _, rfl, rfl, ?_⟩
    rcases hw with ⟨k0, er, rfl, rfl⟩ | ⟨m, A', T', p, pm, pa, pt, er, rfl, rfl, hp, hm, hA, hT⟩
    · have eo : ansO a = .tup [.int 0, .int ((k0 : Nat) : Int)] := by
        unfold ansO ruleOf wrongOf
        rw [er]
      refine ⟨_, rfl, rfl, _, rfl, iteT ⟨_, rfl, (by show 2 ≤ PySem.sizeLine; decide), fun q hq => ?_⟩⟩
      exact k _ q (fun _ _ z => Same.lay hq _ _ (s1 _ _ z)) (by rw [eo]; exact upd_same)
    obtain ⟨okm, rA, rT, tne, l24⟩ := readP_inr er
    obtain ⟨m0, f1, f2, f3, f4, f5⟩ := fits_norm okm rA rT tne l24
    refine ⟨_, rfl, rfl, _, rfl, iteF ?_⟩
    refine ⟨_, rfl, p, pa, pt, .ref pm, A', T', rfl, hp, hA, hT, tne, by omega, by omega, fun H2 q xa xt A2 T2 s2 hq hxa hxt prim edge wts l1 l2 _ _ => ?_⟩
    obtain ⟨e1, e2⟩ := norm_uniq (normW_ok (A := A') tne).1 ⟨prim, edge⟩ fun i => by rw [(normW_ok (A := A') tne).2.1, wts]
    subst e1 e2
    refine ⟨q, m, _, _, rfl, ⟨pm, xa, xt, hq, s2 _ _ hm, hxa, hxt⟩, f1, f4, f5, m0, prim.1, fun H3 s3 => ?_⟩
    refine ⟨_, rfl, rfl, _, rfl, ?_⟩
    have S3 : Same H H3 := fun _ _ z => s3 _ _ (s2 _ _ (s1 _ _ z))
    by_cases c : ruleTxt m (normW A' T').1 (normW A' T').2 = a
    · have eo : ansO a = .lst [.str a] := by
        unfold ansO ruleOf
        rw [er]
        dsimp only
        rw [if_pos c]
      refine ite_yes (by simp [c]) ⟨_, rfl, (by show 1 ≤ PySem.sizeLine; decide), fun x hx => ?_⟩
      exact k _ x (fun _ _ z => Same.lay hx _ _ (S3 _ _ z)) (by rw [eo]; exact upd_same)
    · have eo : ansO a = .tup [.int 0, .int 0] := by
        unfold ansO ruleOf wrongOf
        rw [er]
        dsimp only
        rw [if_neg c]
        rfl
      refine ite_no (by simp [c]) ⟨(by show 2 ≤ PySem.sizeLine; decide), fun x hx => ?_⟩
      exact k _ x (fun _ _ z => Same.lay hx _ _ (S3 _ _ z)) (by rw [eo]; exact upd_same)
end
end Toy
set_option maxRecDepth 100000
namespace L2
open PySem PySem.Spec PyProof.Rows LamX
/-! the law's call, where nothing is being shown and one def makes lambdas: its code object at c, its table at t -/
theorem end_tab {P : Program} {w : World} {K : PySem.W.Frag} {mg mb : Str → Option Value} {k : Nat} {fa a c t : Addr} {fd : FuncData} {x : Str} {sp : Sp} {s₁ : Shared} {vs : List Value} {H : Hp}
    (KX : K.In s₁.heap) (hns : s₁.heap.Ns mainGlobals mg) (hb : s₁.heap.Ns builtinsNs mb) (hbb : ∀ y : Str, y ≠ "__name__" → mb y = bootBuiltins y) (lim : s₁.heap.NoLimit) (hg : s₁.gens = #[])
    (ht : s₁.heap.get? t = some { cls := .none, data := .fields #[] }) (nt : K.lookup t = none) (hc : PySem.W.CodeHd s₁.heap c t)
    (bm : ∃ (m : Addr) (om : Obj), mg "__builtins__" = some (.ref m) ∧ m ≠ builtinsNs ∧ s₁.heap.get? m = some om ∧ om.cls = .type "module" ∧ om.dict = some builtinsNs ∧ om.data = .plain)
    (ha : s₁.heap.get? a = some { cls := .type "list", data := .seq vs.toArray }) (hr : Room k callerA)
    (F : ∀ base : Heap, K.In base → base.Ns mainGlobals mg → TabB base mg c t → FnG P w K mg base CX0 k fa fd [x] sp) (bind : ∀ (s : Shared) (u : Value), BindsTo s fd ⟨[u], []⟩ [(x, u)])
    (hHt : H t = some (.tbl #[])) (hO : ∀ b, b ≠ t → H b = none ∨ ∃ o xs, H b = some (.frz o (.lst xs))) (hok : HOk P w H s₁.heap) (hA : ∀ b, b ≠ t → H b ≠ none → b = a) (hK : H a ≠ none → K.lookup a = none)
    (hsp : sp [.ref a] H (fun v _ => v = .bl true) fun _ _ _ => False) :
    codeAny (model P w) callerA (.call (.ref fa) ⟨[.ref a], []⟩) (fun r s' => r = .ok (.ret (.bool true)) ∧ OldK s₁.heap s'.heap ∧ s'.os = s₁.os ∧ AllBare s'.gens) s₁ := by
  have apart : ∀ {b : Addr} {o : Obj}, s₁.heap.get? b = some o → o.data ≠ .fields #[] → b ≠ t := by
    intro b o e d z
    rw [z, ht] at e
    have eo := Option.some.inj e
    exact d (by rw [← eo])
  have free : ∀ {b : Addr} {o : Obj}, s₁.heap.get? b = some o → o.data ≠ .fields #[] → (∀ v n, o.data ≠ .seq v n) → H b = none := by
    intro b o e d1 d2
    refine Classical.byContradiction fun n => ?_
    have eb := hA b (apart e d1) n
    subst eb
    have eo := Option.some.inj (e.symm.trans ha)
    exact d2 vs.toArray _ (by rw [eo])
  have ns' : ∀ {b : Addr} {m : Str → Option Value}, s₁.heap.Ns b m → (hidT s₁.heap H).Ns b m := by
    rintro b m ⟨o, es, ep, e, d, r⟩
    exact ⟨o, es, ep, hidT_get e (free e (by rw [d]; intro z; cases z) fun v n z => by rw [d] at z; cases z), d, r⟩
  have kb : K.In (hidT s₁.heap H) := by
    intro b o e
    refine hidT_get (KX b o e) (Classical.byContradiction fun n => ?_)
    by_cases eb : b = t
    · subst eb
      rw [nt] at e
      cases e
    · have e2 := hA b eb n
      subst e2
      rw [hK n] at e
      cases e
  have md : Mod K mg (hidT s₁.heap H) := by
    obtain ⟨mc, h1, h2⟩ := lim
    exact ⟨kb, ns' hns, ⟨mb, ns' hb, hbb⟩, ⟨mc, ns' h1, h2⟩⟩
  have tb : TabB (hidT s₁.heap H) mg c t := by
    obtain ⟨m, om, m1, m2, m3, m4, m5, m6⟩ := id bm
    have hm : H m = none := free m3 (by rw [m6]; intro z; cases z) fun v n z => by rw [m6] at z; cases z
    have gm : m ≠ mainGlobals := fun z => by
      obtain ⟨o, es, ep, e, d, _⟩ := hns
      rw [z, e] at m3
      have eo := Option.some.inj m3
      rw [← eo, d] at m6
      cases m6
    have mt : m ≠ t := apart m3 (by rw [m6]; intro z; cases z)
    refine ⟨?_, ⟨m, om, m1, m2, gm, mt, hidT_get m3 hm, m4, m5, m6⟩, fun z => ?_⟩
    · obtain ⟨o, us, fi, tf, fl, tg, inF, tx, tt, c1, c2, c3, c4, rest⟩ := hc
      refine ⟨o, us, fi, tf, fl, tg, inF, tx, tt, hidT_get c1 (free c1 (fun z => ?_) fun v n z => ?_), c2, c3, c4, rest⟩
      · rw [c3] at z
        have e := Data.fields.inj z
        rw [e] at c4
        simp at c4
      · rw [c3] at z
        cases z
    · obtain ⟨o, es, ep, e, d, _⟩ := hns
      rw [z, ht] at e
      have eo := Option.some.inj e
      rw [← eo] at d
      cases d
  have ev : Env0 P w K mg (hidT s₁.heap H) callerA [] s₁ H :=
    ⟨rfl, md, fun b o e => of_hidT e, Nat.le_of_eq (hidT_size _ _), trivial, fun b hb => (nomatch hb), hok, .of_eq hg⟩
  refine codeAny_mono ((F _ kb (ns' hns) tb).run callerA [] s₁ H _ [.ref a] [.ref a] _ _ rfl hr ev (bind s₁ (.ref a)) (.cons rfl .nil) hsp) fun r s' h => ?_
  cases r with
  | error e => exact (h : False).elim
  | ok fl =>
    cases fl with
    | next => exact (h : False).elim
    | brk => exact (h : False).elim
    | cont => exact (h : False).elim
    | ret u =>
      obtain ⟨v, H', os, bare, un, hok', r', q⟩ := h
      have q' : v = .bl true := q
      subst q'
      obtain rfl : u = Value.bool true := r'
      have keep : ∀ b o, b ≠ t → s₁.heap.get? b = some o → s'.heap.get? b = some o := by
        intro b o n e
        rcases hO b n with z | ⟨ob, xs, z⟩
        · exact un.keep b o e z (fun m => nomatch m) (fun m => nomatch m)
        · have e1 := (hok b _ z).1
          have e2 := (hok' b _ (un.frzs b ob _ z)).1
          exact (Option.some.inj (e.symm.trans e1)) ▸ e2
      obtain ⟨more, gt⟩ := un.tbls t #[] hHt
      have gt2 : s'.heap.get? t = some { cls := .none, data := .fields (#[] ++ more) } := hok' t _ gt
      refine ⟨rfl, ⟨fun b o e => ?_, fun b o e => ?_⟩, os, bare⟩
      · by_cases eb : b = t
        · subst eb
          have eo := Option.some.inj (e.symm.trans ht)
          subst eo
          exact .inr (.inl ⟨(hc.tab ht).isCodeTable, rfl, #[], more, rfl, gt2⟩)
        · exact .inl (keep b o eb e)
      · by_cases eb : b = t
        · subst eb
          exact ⟨_, gt2⟩
        · exact ⟨o, keep b o eb e⟩
theorem walk_tab {l : PySem.W.OpenLaw} {n k : Nat} {q : Program} {loose : List Str} {XP : (Str → Option Value) → Heap → Prop} {YP : World → Heap → Prop} {d : DefRec} {sp : PySem.W.Frag → Addr → Sp} {x : Str}
    (hn : l.most = some n) (hn2 : n ≤ sizeLine) (hdf : d.params.defaults = []) (hr : Room k callerA)
    (F : ∀ (w : World) (mg : Str → Option Value) (fa : Addr) (h : Heap), YP w h → h.Ns mainGlobals mg → mg d.name = some (.ref fa) →
      ∃ (K : PySem.W.Frag) (c t : Addr) (fd : FuncData), K.In h ∧ h.get? t = some { cls := .none, data := .fields #[] } ∧ K.lookup t = none ∧ PySem.W.CodeHd h c t ∧ (∀ (s : Shared) (u : Value), BindsTo s fd ⟨[u], []⟩ [(x, u)]) ∧
        ∀ base : Heap, K.In base → base.Ns mainGlobals mg → TabB base mg c t → FnG l.prog w K mg base CX0 k fa fd [x] (sp K t))
    (hsp : ∀ (K : PySem.W.Frag) (t : Addr) (H : Hp) (a : Addr) (ns : List Int), ns.length ≤ n → (∀ z ∈ ns, Builtin.Int.intBits z ≤ 1048576) → H t = some (.tbl #[]) → SqL K H a (ns.map V.int) → sp K t [.ref a] H (fun v _ => v = .bl true) fun _ _ _ => False) :
    PySem.W.WalkO q loose XP YP l.row.toRowW d [] (fun f vs => PySem.call f vs) := by
  refine Att.attach_callB hn hdf fun w s₀ s₁ mg mb fa o pm cd doc a vs ns G Y ho hd hcd hmg hobj hints hlen hbits hg => ?_
  obtain ⟨K, c, t, fd, KX, ht, nt, hc, b, f⟩ := F w mg fa _ Y G.T.g hmg
  have rv := vals_ints hints
  have lv := hints.length
  have nat_ : a ≠ t := fun z => by
    have e := hobj
    rw [z, ht] at e
    have eo := congrArg Obj.data (Option.some.inj e)
    cases eo
  have hl : ns.length ≤ sizeLine := Nat.le_trans hlen hn2
  cases hk : K.lookup a with
  | some oa =>
    have eo := Option.some.inj ((KX a oa hk).symm.trans hobj)
    subst eo
    refine end_tab (H := fun b => if b = t then some (.tbl #[]) else none) KX G.T.g G.T.b G.T.builtins G.T.nolimit hg ht nt hc G.T.bmain hobj hr f b (if_pos rfl) (fun b n => .inl (if_neg n)) (fun b u z => ?_) (fun b n z => absurd (if_neg n) z) (fun z => absurd (if_neg nat_) z) ?_
    · by_cases eb : b = t
      · subst eb
        have eu := Option.some.inj ((if_pos rfl).symm.trans z)
        subst eu
        exact ht
      · exact nomatch (if_neg eb).symm.trans z
    · exact hsp K t _ a ns hlen hbits (if_pos rfl) (.inr ⟨_, vs.toArray, _, hk, rfl, rfl, rfl, by rw [List.size_toArray, lv]; exact hl, by simpa using rv⟩)
  | none =>
    refine end_tab (H := fun b => if b = t then some (.tbl #[]) else if b = a then some (HO.frz { cls := .type "list", data := .seq vs.toArray } (.lst (ns.map V.int))) else none) KX G.T.g G.T.b G.T.builtins G.T.nolimit hg ht nt hc G.T.bmain hobj hr f b (if_pos rfl) (fun b n => ?_) (fun b u z => ?_) (fun b n z => ?_) (fun _ => hk) ?_
    · by_cases eb : b = a
      · exact .inr ⟨_, _, (if_neg n).trans (if_pos eb)⟩
      · exact .inl ((if_neg n).trans (if_neg eb))
    · by_cases eb : b = t
      · subst eb
        have eu := Option.some.inj ((if_pos rfl).symm.trans z)
        subst eu
        exact ht
      · have z2 := (if_neg eb).symm.trans z
        by_cases e2 : b = a
        · subst e2
          have eu := Option.some.inj ((if_pos rfl).symm.trans z2)
          subst eu
          exact ⟨hobj, by rw [List.length_map]; exact hl, vs, _, rv, hobj⟩
        · exact nomatch (if_neg e2).symm.trans z2
    · refine Classical.byContradiction fun e2 => z ((if_neg n).trans (if_neg e2))
    · exact hsp K t _ a ns hlen hbits (if_pos rfl) (.inl (.inr ⟨_, (if_neg nat_).trans (if_pos rfl)⟩))
end L2
set_option maxRecDepth 100000
namespace L2
open PySem PySem.Spec PyProof.Rows LamX
/-! the law's call, where nothing is being shown and several defs make lambdas: their code objects and tables in ts -/
theorem end_tabs {P : Program} {w : World} {K : PySem.W.Frag} {mg mb : Str → Option Value} {k : Nat} {fa a : Addr} {ts : List (Addr × Addr)} {fd : FuncData} {x : Str} {sp : Sp} {s₁ : Shared} {vs : List Value} {H : Hp}
    (KX : K.In s₁.heap) (hns : s₁.heap.Ns mainGlobals mg) (hb : s₁.heap.Ns builtinsNs mb) (hbb : ∀ y : Str, y ≠ "__name__" → mb y = bootBuiltins y) (lim : s₁.heap.NoLimit) (hg : s₁.gens = #[])
    (ht : ∀ p ∈ ts, s₁.heap.get? p.2 = some { cls := .none, data := .fields #[] }) (nt : ∀ p ∈ ts, K.lookup p.2 = none) (hc : ∀ p ∈ ts, PySem.W.CodeHd s₁.heap p.1 p.2)
    (bm : ∃ (m : Addr) (om : Obj), mg "__builtins__" = some (.ref m) ∧ m ≠ builtinsNs ∧ s₁.heap.get? m = some om ∧ om.cls = .type "module" ∧ om.dict = some builtinsNs ∧ om.data = .plain)
    (ha : s₁.heap.get? a = some { cls := .type "list", data := .seq vs.toArray }) (hr : Room k callerA)
    (F : ∀ base : Heap, K.In base → base.Ns mainGlobals mg → (∀ p ∈ ts, TabB base mg p.1 p.2) → FnG P w K mg base CX0 k fa fd [x] sp) (bind : ∀ (s : Shared) (u : Value), BindsTo s fd ⟨[u], []⟩ [(x, u)])
    (hHt : ∀ p ∈ ts, H p.2 = some (.tbl #[])) (hO : ∀ b, (∀ p ∈ ts, b ≠ p.2) → H b = none ∨ ∃ o xs, H b = some (.frz o (.lst xs))) (hok : HOk P w H s₁.heap) (hA : ∀ b, (∀ p ∈ ts, b ≠ p.2) → H b ≠ none → b = a) (hK : H a ≠ none → K.lookup a = none)
    (hsp : sp [.ref a] H (fun v _ => v = .bl true) fun _ _ _ => False) :
    codeAny (model P w) callerA (.call (.ref fa) ⟨[.ref a], []⟩) (fun r s' => r = .ok (.ret (.bool true)) ∧ OldK s₁.heap s'.heap ∧ s'.os = s₁.os ∧ AllBare s'.gens) s₁ := by
  have apart : ∀ {b : Addr} {o : Obj}, s₁.heap.get? b = some o → o.data ≠ .fields #[] → ∀ p ∈ ts, b ≠ p.2 := by
    intro b o e d p hp z
    rw [z, ht p hp] at e
    have eo := Option.some.inj e
    exact d (by rw [← eo])
  have free : ∀ {b : Addr} {o : Obj}, s₁.heap.get? b = some o → o.data ≠ .fields #[] → (∀ v n, o.data ≠ .seq v n) → H b = none := by
    intro b o e d1 d2
    refine Classical.byContradiction fun n => ?_
    have eb := hA b (apart e d1) n
    subst eb
    have eo := Option.some.inj (e.symm.trans ha)
    exact d2 vs.toArray _ (by rw [eo])
  have ns' : ∀ {b : Addr} {m : Str → Option Value}, s₁.heap.Ns b m → (hidT s₁.heap H).Ns b m := by
    rintro b m ⟨o, es, ep, e, d, r⟩
    exact ⟨o, es, ep, hidT_get e (free e (by rw [d]; intro z; cases z) fun v n z => by rw [d] at z; cases z), d, r⟩
  have kb : K.In (hidT s₁.heap H) := by
    intro b o e
    refine hidT_get (KX b o e) (Classical.byContradiction fun n => ?_)
    by_cases eb : ∃ p ∈ ts, b = p.2
    · obtain ⟨p, hp, eb⟩ := eb
      rw [eb, nt p hp] at e
      cases e
    · have e2 := hA b (fun p hp z => eb ⟨p, hp, z⟩) n
      subst e2
      rw [hK n] at e
      cases e
  have md : Mod K mg (hidT s₁.heap H) := by
    obtain ⟨mc, h1, h2⟩ := lim
    exact ⟨kb, ns' hns, ⟨mb, ns' hb, hbb⟩, ⟨mc, ns' h1, h2⟩⟩
  have tb : ∀ p ∈ ts, TabB (hidT s₁.heap H) mg p.1 p.2 := by
    intro p hp
    obtain ⟨m, om, m1, m2, m3, m4, m5, m6⟩ := id bm
    have hm : H m = none := free m3 (by rw [m6]; intro z; cases z) fun v n z => by rw [m6] at z; cases z
    have gm : m ≠ mainGlobals := fun z => by
      obtain ⟨o, es, ep, e, d, _⟩ := hns
      rw [z, e] at m3
      have eo := Option.some.inj m3
      rw [← eo, d] at m6
      cases m6
    have mt : m ≠ p.2 := apart m3 (by rw [m6]; intro z; cases z) p hp
    refine ⟨?_, ⟨m, om, m1, m2, gm, mt, hidT_get m3 hm, m4, m5, m6⟩, fun z => ?_⟩
    · obtain ⟨o, us, fi, tf, fl, tg, inF, tx, tt, c1, c2, c3, c4, rest⟩ := hc p hp
      refine ⟨o, us, fi, tf, fl, tg, inF, tx, tt, hidT_get c1 (free c1 (fun z => ?_) fun v n z => ?_), c2, c3, c4, rest⟩
      · rw [c3] at z
        have e := Data.fields.inj z
        rw [e] at c4
        simp at c4
      · rw [c3] at z
        cases z
    · obtain ⟨o, es, ep, e, d, _⟩ := hns
      rw [z, ht p hp] at e
      have eo := Option.some.inj e
      rw [← eo] at d
      cases d
  have ev : Env0 P w K mg (hidT s₁.heap H) callerA [] s₁ H :=
    ⟨rfl, md, fun b o e => of_hidT e, Nat.le_of_eq (hidT_size _ _), trivial, fun b hb => (nomatch hb), hok, .of_eq hg⟩
  refine codeAny_mono ((F _ kb (ns' hns) tb).run callerA [] s₁ H _ [.ref a] [.ref a] _ _ rfl hr ev (bind s₁ (.ref a)) (.cons rfl .nil) hsp) fun r s' h => ?_
  cases r with
  | error e => exact (h : False).elim
  | ok fl =>
    cases fl with
    | next => exact (h : False).elim
    | brk => exact (h : False).elim
    | cont => exact (h : False).elim
    | ret u =>
      obtain ⟨v, H', os, bare, un, hok', r', q⟩ := h
      have q' : v = .bl true := q
      subst q'
      obtain rfl : u = Value.bool true := r'
      have keep : ∀ b o, (∀ p ∈ ts, b ≠ p.2) → s₁.heap.get? b = some o → s'.heap.get? b = some o := by
        intro b o n e
        rcases hO b n with z | ⟨ob, xs, z⟩
        · exact un.keep b o e z (fun m => nomatch m) (fun m => nomatch m)
        · have e1 := (hok b _ z).1
          have e2 := (hok' b _ (un.frzs b ob _ z)).1
          exact (Option.some.inj (e.symm.trans e1)) ▸ e2
      refine ⟨rfl, ⟨fun b o e => ?_, fun b o e => ?_⟩, os, bare⟩
      · by_cases eb : ∃ p ∈ ts, b = p.2
        · obtain ⟨p, hp, eb⟩ := eb
          obtain ⟨more, gt⟩ := un.tbls p.2 #[] (hHt p hp)
          have gt2 : s'.heap.get? p.2 = some { cls := .none, data := .fields (#[] ++ more) } := hok' p.2 _ gt
          subst eb
          have eo := Option.some.inj (e.symm.trans (ht p hp))
          subst eo
          exact .inr (.inl ⟨((hc p hp).tab (ht p hp)).isCodeTable, rfl, #[], more, rfl, gt2⟩)
        · exact .inl (keep b o (fun p hp z => eb ⟨p, hp, z⟩) e)
      · by_cases eb : ∃ p ∈ ts, b = p.2
        · obtain ⟨p, hp, eb⟩ := eb
          obtain ⟨more, gt⟩ := un.tbls p.2 #[] (hHt p hp)
          have gt2 : s'.heap.get? p.2 = some { cls := .none, data := .fields (#[] ++ more) } := hok' p.2 _ gt
          subst eb
          exact ⟨_, gt2⟩
        · exact ⟨o, keep b o (fun p hp z => eb ⟨p, hp, z⟩) e⟩
open Classical in
theorem walk_tabs {l : PySem.W.OpenLaw} {n k : Nat} {q : Program} {loose : List Str} {XP : (Str → Option Value) → Heap → Prop} {YP : World → Heap → Prop} {d : DefRec} {sp : PySem.W.Frag → List (Addr × Addr) → Sp} {x : Str}
    (hn : l.most = some n) (hn2 : n ≤ sizeLine) (hdf : d.params.defaults = []) (hr : Room k callerA)
    (F : ∀ (w : World) (mg : Str → Option Value) (fa : Addr) (h : Heap), YP w h → h.Ns mainGlobals mg → mg d.name = some (.ref fa) →
      ∃ (K : PySem.W.Frag) (ts : List (Addr × Addr)) (fd : FuncData), K.In h ∧ (∀ p ∈ ts, h.get? p.2 = some { cls := .none, data := .fields #[] }) ∧ (∀ p ∈ ts, K.lookup p.2 = none) ∧ (∀ p ∈ ts, PySem.W.CodeHd h p.1 p.2) ∧ (∀ (s : Shared) (u : Value), BindsTo s fd ⟨[u], []⟩ [(x, u)]) ∧
        ∀ base : Heap, K.In base → base.Ns mainGlobals mg → (∀ p ∈ ts, TabB base mg p.1 p.2) → FnG l.prog w K mg base CX0 k fa fd [x] (sp K ts))
    (hsp : ∀ (K : PySem.W.Frag) (ts : List (Addr × Addr)) (H : Hp) (a : Addr) (ns : List Int), ns.length ≤ n → (∀ z ∈ ns, Builtin.Int.intBits z ≤ 1048576) → (∀ p ∈ ts, H p.2 = some (.tbl #[])) → SqL K H a (ns.map V.int) → sp K ts [.ref a] H (fun v _ => v = .bl true) fun _ _ _ => False) :
    PySem.W.WalkO q loose XP YP l.row.toRowW d [] (fun f vs => PySem.call f vs) := by
  refine Att.attach_callB hn hdf fun w s₀ s₁ mg mb fa o pm cd doc a vs ns G Y ho hd hcd hmg hobj hints hlen hbits hg => ?_
  obtain ⟨K, ts, fd, KX, ht, nt, hc, b, f⟩ := F w mg fa _ Y G.T.g hmg
  have rv := vals_ints hints
  have lv := hints.length
  have nat_ : ¬ ∃ p ∈ ts, a = p.2 := fun ⟨p, hp, z⟩ => by
    have e := hobj
    rw [z, ht p hp] at e
    have eo := congrArg Obj.data (Option.some.inj e)
    cases eo
  have hl : ns.length ≤ sizeLine := Nat.le_trans hlen hn2
  have no : ∀ {b : Addr}, (∀ p ∈ ts, b ≠ p.2) → ¬ ∃ p ∈ ts, b = p.2 := fun n ⟨p, hp, z⟩ => n p hp z
  cases hk : K.lookup a with
  | some oa =>
    have eo := Option.some.inj ((KX a oa hk).symm.trans hobj)
    subst eo
    refine end_tabs (H := fun b => if ∃ p ∈ ts, b = p.2 then some (.tbl #[]) else none) KX G.T.g G.T.b G.T.builtins G.T.nolimit hg ht nt hc G.T.bmain hobj hr f b (fun p hp => if_pos ⟨p, hp, rfl⟩) (fun b n => .inl (if_neg (no n))) (fun b u z => ?_) (fun b n z => absurd (if_neg (no n)) z) (fun z => absurd (if_neg nat_) z) ?_
    · by_cases eb : ∃ p ∈ ts, b = p.2
      · have eu := Option.some.inj ((if_pos eb).symm.trans z)
        subst eu
        obtain ⟨p, hp, eb⟩ := eb
        subst eb
        exact ht p hp
      · exact nomatch (if_neg eb).symm.trans z
    · exact hsp K ts _ a ns hlen hbits (fun p hp => if_pos ⟨p, hp, rfl⟩) (.inr ⟨_, vs.toArray, _, hk, rfl, rfl, rfl, by rw [List.size_toArray, lv]; exact hl, by simpa using rv⟩)
  | none =>
    refine end_tabs (H := fun b => if ∃ p ∈ ts, b = p.2 then some (.tbl #[]) else if b = a then some (HO.frz { cls := .type "list", data := .seq vs.toArray } (.lst (ns.map V.int))) else none) KX G.T.g G.T.b G.T.builtins G.T.nolimit hg ht nt hc G.T.bmain hobj hr f b (fun p hp => if_pos ⟨p, hp, rfl⟩) (fun b n => ?_) (fun b u z => ?_) (fun b n z => ?_) (fun _ => hk) ?_
    · by_cases eb : b = a
      · exact .inr ⟨_, _, (if_neg (no n)).trans (if_pos eb)⟩
      · exact .inl ((if_neg (no n)).trans (if_neg eb))
    · by_cases eb : ∃ p ∈ ts, b = p.2
      · have eu := Option.some.inj ((if_pos eb).symm.trans z)
        subst eu
        obtain ⟨p, hp, eb⟩ := eb
        subst eb
        exact ht p hp
      · have z2 := (if_neg eb).symm.trans z
        by_cases e2 : b = a
        · subst e2
          have eu := Option.some.inj ((if_pos rfl).symm.trans z2)
          subst eu
          exact ⟨hobj, by rw [List.length_map]; exact hl, vs, _, rv, hobj⟩
        · exact nomatch (if_neg e2).symm.trans z2
    · refine Classical.byContradiction fun e2 => z ((if_neg (no n)).trans (if_neg e2))
    · exact hsp K ts _ a ns hlen hbits (fun p hp => if_pos ⟨p, hp, rfl⟩) (.inl (.inr ⟨_, (if_neg nat_).trans (if_pos rfl)⟩))
end L2
set_option maxRecDepth 100000
namespace Toy
open PySem L2 LamX Dg TL ClX
abbrev s__law_heard : Stmt := top 41
/-- how the law tells what it caught: by the error's class -/
structure THeard (K : PySem.W.Frag) (mg : Str → Option Value) (CW B : Addr) : Prop where
  gB : mg "BankError" = some (.ref B)
  gW : mg "BadText" = some (.ref CW)
  xW : XvC K CW
  nW : PySem.W.findIn K (.ref CW) "word" = some none
  nL : PySem.W.findIn K (.ref CW) "line" = some none
  eW : PySem.W.exmOne K (.ref CW) (.ref B) = some true
  WW : PySem.W.kitOne K (.ref CW) (.ref CW) = some true
  m_isinstance : mg "isinstance" = none
  m_str : mg "str" = none
def Told (CW : Addr) (H : Hp) (cls : Value) (d : Option Addr) (x y : V) : Prop := ∃ dd, d = some dd ∧ cls = .ref CW ∧ H dd = some (.xd [("word", y), ("line", x)])
/-- heard: the list of the answer's text, or the pair -/
def TTH (CW C : Addr) : (XK → Hp → VK → Prop) → Hp → VK → Prop := fun tl H Q =>
  tl (fun cls d H' => ∃ x y, Told CW H' cls d x y ∧ ∀ H'' p, Same H' H'' → H'' p = some (.tup [x, y]) → Q (.ref p) H'') H (fun v H' => rStrI C (spStr C) C8.E0 [v] H' (fun u H2 => [u].length ≤ PySem.sizeLine ∧ ∀ p, H2 p = none → Q (.ref p) (upd H2 p (.lst [u]))))
abbrev N__law_heard : List Str := ["_law_ask", "_law_caught", "error"]
theorem sc__law_heard : FnScope N__law_heard ["_law_ask"] (defScope s__law_heard) := ⟨rfl, rfl, rfl, by decide +kernel, rfl, by decide +kernel, by decide +kernel⟩
theorem heard_gives {X : Cx} {k : Nat} {g : Addr} {cdg : Value} {q : Str} {CW B C fSt : Addr} {fdSt : FuncData} (T : THeard X.K X.mg CW B) (hr : Room (k + 2) X.A) (hgd : X.A.guards = some [])
    (GSt : FnOk X.prog X.w X.K X.mg X.base CX0 2 fSt fdSt ["self"] (spStr C)) (bSt : Binds X.K fdSt ["self"] []) (nSt : PySem.W.findIn X.K (.ref C) "__str__" = some (some (.ref fSt))) (nSt2 : PySem.W.isFn X.K (.ref fSt) = true) (k3 : 2 ≤ k := by decide) :
    GivesTo X N__law_heard "_law_heard" (defScope s__law_heard) g cdg (defBody s__law_heard) "_law_ask" q (TTH CW C) := by
  intro f c' s H Q tl act hc h
  have gd : (cxOf C8.CX0 X.prog X.w X.K X.mg X.base N__law_heard "_law_heard" (defScope s__law_heard) g cdg X.A X.stack s H C8.E0).nox.A.guards = some [] := hgd
  have hr' : Room (k + 1) (cxOf C8.CX0 X.prog X.w X.K X.mg X.base N__law_heard "_law_heard" (defScope s__law_heard) g cdg X.A X.stack s H C8.E0).nox.A := hr.deeper _
  have hrSt : Room 3 (cxOf C8.CX0 X.prog X.w X.K X.mg X.base N__law_heard "_law_heard" (defScope s__law_heard) g cdg X.A X.stack s H C8.E0).nox.A := hr'.mono (by omega)
  refine ⟨_, (pss_cons (ps_set (i := 1) sc__law_heard.nd rfl (Or.inl rfl) pe_non)
 (pss_cons (ps_try_keep (i := 2) (c := .ref B) (tb := fun W D σ H => ∃ Ech : XK, (∀ cls d σ' H', Ech cls d H' → W cls d σ' H') ∧ σ[0]? = some (some (.ref f)) ∧ H c' = some (CodeO c' q) ∧ tl Ech H (fun v H' => rStrI C (spStr C) E0 [v] H' (fun u H2 => [u].length ≤ PySem.sizeLine ∧ ∀ p, H2 p = none → D.rt (.ref p) (upd H2 p (.lst [u]))))) rfl rfl sc__law_heard.nd rfl rfl ⟨rfl, by decide, .inl T.gB⟩ L2.takes0 rfl (fun W pn xe tk _ => ?_) (fun a oe cls d pn _ _ => pss_one (ps_set (i := 1) sc__law_heard.nd rfl (Or.inl rfl) (pv 2))))
 (pss_one (ps_ret (pe_ifExp (pt_val (pe_callB call_isz (by rfl) T.m_isinstance (by decide +kernel) (pa_cons (pv 1) (pa_cons (pe_glob (v := .ref CW) rfl T.gW rfl) pa_nil)))) (pe_tup (pa_cons (pe_zat (pv 1)) (pa_cons (pe_zat (pv 1)) pa_nil))) (pe_tup (pa_cons pe_str pa_nil))))))), ?_⟩
  · refine ⟨fun pins s' σ G D I h' => ?_⟩
    obtain ⟨Ech, hW, h1, h2, h3⟩ := h'
    exact (pss_one (ps_ret (pe_lst (pa_cons (pe_callTy (X := (cxOf C8.CX0 X.prog X.w X.K X.mg X.base N__law_heard "_law_heard" (defScope s__law_heard) g cdg X.A X.stack s H C8.E0).nox.tr pn xe) (call_strI GSt bSt hrSt nSt nSt2 pass0) (by rfl) T.m_str (by decide +kernel) (pa_cons (act W pn xe Ech _ _ tk hW) pa_nil)) pa_nil)))).run pins s' σ G D I ⟨h1, h2, h3⟩
  · refine ⟨_, fun cls d σ' G e => ?_, rfl, hc, h⟩
    obtain ⟨x, y, ⟨dd, rfl, rfl, hd⟩, hq⟩ := e
    have shape : σ'.length = 3 → ∃ w0 w1 w2, σ' = [w0, w1, w2] := fun hl => by
      match σ', hl with
      | [w0, w1, w2], _ => exact ⟨w0, w1, w2, rfl⟩
    refine ⟨true, T.eW, fun _ hl a na => ?_, fun z => nomatch z⟩
    obtain ⟨w0, w1, w2, rfl⟩ := shape hl
    have s1 : Same G (upd G a (exz a (.ref CW) (some dd))) := Same.lay na
    have c1 : Caught (upd G a (exz a (.ref CW) (some dd))) a CW [("word", y), ("line", x)] := ⟨dd, upd_same, s1 _ _ hd⟩
    refine ⟨_, rfl, _, rfl, a, CW, _, _, _, true, rfl, c1, T.xW, .own _, T.WW, _, rfl, ?_⟩
    exact iteT ⟨_, rfl, a, CW, _, x, rfl, c1, T.xW, T.nL, rfl, _, rfl, a, CW, _, y, rfl, c1, T.xW, T.nW, rfl, (by show 2 ≤ PySem.sizeLine; decide), fun t ht => hq _ t (fun _ _ z => Same.lay ht _ _ (s1 _ _ z)) upd_same⟩
end Toy
set_option maxRecDepth 100000
namespace Toy
open PySem L2 LamX Dg TL ClX
abbrev s__law_right : Stmt := top 48
abbrev qR : Str := "_law_right" ++ ".<locals>." ++ "<lambda>"
abbrev qLaw : Str := "law" ++ ".<locals>." ++ "<lambda>"
def T2 (a b : Addr) : List (Addr × Str) := [(a, qR), (b, qLaw)]
section
variable {a b : Addr}
theorem t2_cases {p : Addr × Str} (h : p ∈ T2 a b) : p = (a, qR) ∨ p = (b, qLaw) := by simpa [T2] using h
theorem t2_r : (a, qR) ∈ T2 a b := .head _
theorem t2_l : (b, qLaw) ∈ T2 a b := .tail _ (.head _)
theorem t2u_r (D : a ≠ b) : ∀ p ∈ T2 a b, p.1 = a → p.2 = qR := fun p h e => by
  rcases t2_cases h with rfl | rfl
  · rfl
  · exact absurd e.symm D
theorem t2u_l (D : a ≠ b) : ∀ p ∈ T2 a b, p.1 = b → p.2 = qLaw := fun p h e => by
  rcases t2_cases h with rfl | rfl
  · exact absurd e D
  · rfl
end
theorem tabs_but {p : Addr} {T : List (Addr × Str)} {G G' : Hp} {xs : List V} (hp : G p = some (.lst xs)) (bt : But p G G') (t : Tabs T G) : Tabs T G' := fun y hy => by
  obtain ⟨ps, h1, h2, h3⟩ := t y hy
  refine ⟨ps, bt _ _ (fun z => ?_) h1, h2, fun pos cv hc => ?_⟩
  · rw [z, hp] at h1
    cases h1
  · obtain ⟨c, e1, e2⟩ := h3 pos cv hc
    refine ⟨c, e1, bt _ _ (fun z => ?_) e2⟩
    rw [z, hp] at e2
    have e3 : HO.lst xs = HO.ext _ := Option.some.inj e2
    cases e3
/-- what reading a text gives, as data -/
def ansD (a : Str) : PyData := match ruleOf a with
  | some _ => .list [.str a]
  | none => .tuple [.int 0, .int ((wrongOf a : Nat) : Int)]
theorem ansO_nt (a : Str) : ∀ ps, ansO a ≠ .tbl ps := fun ps z => by
  unfold ansO at z
  split at z <;> cases z
theorem ans_dp {K : PySem.W.Frag} {H : Hp} {p : Addr} {a : Str} (h : H p = some (ansO a)) : Dp K H (.ref p) (ansD a) := by
  unfold ansO at h
  unfold ansD
  cases e : ruleOf a with
  | some r =>
    rw [e] at h
    exact .lst (SqL.of h) (.cons (.str _) .nil)
  | none =>
    rw [e] at h
    exact .tup (SqT.of h) (.cons (.int _) (.cons (.int _) .nil))
theorem strOk_of {a : Str} (h : ChOk a) : PyData.strOk a = true := by
  unfold PyData.strOk
  rw [← Array.all_toList]
  exact List.all_eq_true.mpr fun c hc => decide_eq_true (h c hc)
theorem ans_lay {a : Str} (h : ChOk a) : (ansD a).canLay0 = true ∧ (ansD a).depth ≤ 10 := by
  unfold ansD
  cases ruleOf a with
  | some r => exact ⟨by simp [PyData.canLay0, PyData.canLayAll0, strOk_of h], by simp [PyData.depth, PyData.depthAll]⟩
  | none => exact ⟨by simp [PyData.canLay0, PyData.canLayAll0], by simp [PyData.depth, PyData.depthAll]⟩
theorem ans_two {a : Str} (h : ChOk a) : SeqAt.shaped (.list [ansD a, ansD a]) = true := by
  obtain ⟨h1, h2⟩ := ans_lay h
  unfold SeqAt.shaped
  rw [Bool.and_eq_true]
  refine ⟨by simp [PyData.canLay0, PyData.canLayAll0, h1], decide_eq_true ?_⟩
  simp [PyData.depth, PyData.depthAll]
  omega
theorem ruleOf_some {a : Str} {m A T : List Int} (h : ruleOf a = some (m, A, T)) : ruleTxt m A T = a ∧ FitS m ∧ FitS A ∧ FitS T := by
  unfold ruleOf at h
  split at h
  · cases h
  · rename_i m1 A1 T1 er
    obtain ⟨okm, rA, rT, tne, l24⟩ := readP_inr er
    obtain ⟨_, f1, _, _, f4, f5⟩ := fits_norm okm rA rT tne l24
    split at h
    · rename_i c
      cases h
      exact ⟨c, f1, f4, f5⟩
    · cases h
section
variable {P : Program} {w : World} {K : PySem.W.Frag} {mg : Str → Option Value} {base : Heap} {CR CN CT B uR uN uT : Addr} {fdR fdN fdT : FuncData} {C pc pb gc gb : Addr} {CW uW : Addr} {fdW : FuncData} {mc : Value}
/-- what read's spec asks, from what the law's reading tells -/
theorem read_ans {a : Str} {H : Hp} {Q : VK} {E : XK} (la : a.length ≤ 1000000) (oka : ChOk a) (hE : ruleOf a = none → badWord CW H (wrongOf a) E) (hQ : ∀ m A T, ruleOf a = some (m, A, T) → ∀ H' x, Same H H' → RuleAt C H' x (m.map V.int) A T → Q (.ref x) H') : spRuleRead CW C K [.ref C, .str a] H Q E := by
  refine ⟨_, rfl, .inl ⟨a, rfl, (by have e : PySem.sizeLine = 16777216 := rfl; omega), oka, fun k e => ?_, fun m A T e => ⟨fun ne => ?_, fun eq H' x s R => hQ m _ _ ?_ H' x s R⟩⟩⟩
  · have h1 : ruleOf a = none := by unfold ruleOf; rw [e]
    have h2 : wrongOf a = k := by unfold wrongOf; rw [e]
    rw [← h2]
    exact hE h1
  · have h1 : ruleOf a = none := by
      unfold ruleOf
      rw [e]
      exact if_neg ne
    have h2 : wrongOf a = 0 := by unfold wrongOf; rw [e]
    rw [← h2]
    exact hE h1
  · unfold ruleOf
    rw [e]
    exact if_pos eq
/-- reading a text, heard -/
theorem heard_ans {a : Str} {H : Hp} {Q : VK} {tl : XK → Hp → VK → Prop} (htl : ∀ (E : XK) (H : Hp) (Q : VK), spRuleRead CW C K [.ref C, .str a] H Q E → tl E H Q) (la : a.length ≤ 1000000) (oka : ChOk a) (k : ∀ (H' : Hp) (p : Addr), Same H H' → H' p = some (ansO a) → Q (.ref p) H') : TTH CW C tl H Q := by
  refine htl _ _ _ (read_ans la oka (fun e d H' hd s hx => ?_) (fun m A T e H' x s R => ?_))
  · refine ⟨.int 0, .int ((wrongOf a : Nat) : Int), ⟨d, rfl, rfl, hx⟩, fun H3 p s4 hp => k H3 p (fun _ _ z => s4 _ _ (s _ _ z)) ?_⟩
    unfold ansO
    rw [e]
    exact hp
  · obtain ⟨et, f1, f2, f3⟩ := ruleOf_some e
    obtain ⟨dx, pm, pa, pt, h1, h2, h3, h4⟩ := id R
    refine ⟨x, dx, _, rfl, h1, x, m, A, T, rfl, R, f1, f2, f3, fun H3 s3 => ⟨_, rfl, (by show 1 ≤ PySem.sizeLine; decide), fun p hp => ?_⟩⟩
    refine k _ p (fun _ _ z => Same.lay hp _ _ (s3 _ _ (s _ _ z))) ?_
    unfold ansO
    rw [e, et]
    exact upd_same
def spRight (TR_ TL : Addr) : Sp := fun vs H Q _ => ∃ a : Str, vs = [.str a] ∧ a.length ≤ 1000000 ∧ ChOk a ∧ Tabs (T2 TR_ TL) H ∧ ∀ H', ExtN H H' → Tabs (T2 TR_ TL) H' → Q (.bl true) H'
abbrev N__law_right : List Str := ["_law_line", "_law_due_here", "_law_heard_here"]
theorem sc__law_right : FnScope N__law_right ["_law_line"] (defScope s__law_right) := ⟨rfl, rfl, rfl, by decide +kernel, rfl, by decide +kernel, by decide +kernel⟩
set_option maxHeartbeats 4000000 in
theorem ok__law_right {f fDu fHe fSt c TR_ TL pRd gRd : Addr} {fdDu fdRd fdSt : FuncData} {gK : List Value → List Value → List Value} {oc kV doc pm ct : Value} {od an : Option Addr} {osl : Array (Option Value)} {och kVh doch pmh cdvh cth : Value} {odh anh : Option Addr} {oslh : Array (Option Value)}
    (lk : K.lookup f = some ⟨oc, od, .func (PySem.W.fnOf "_law_right" "_law_right" (defArgs s__law_right) (defBody s__law_right) (defScope s__law_right) .none kV doc pm an (.ref c) ct), osl⟩) (hcd : PySem.W.codeIn K (.ref c) "_law_right" = true) (TBR : TabB base mg c TR_) (dis : TR_ ≠ TL)
    (T : TR mg) (TU : TRule K mg C pc pb gc gb) (THd : THeard K mg CW B)
    (GDu : FnOk P w K mg base CX0 4 fDu fdDu ["_law_line"] spDue) (gDu : mg "_law_due" = some (.ref fDu)) (kDu : PySem.W.keepIn K (.ref fDu) = true) (bDu : Binds K fdDu ["_law_line"] [])
    (rcR : CRead K C mc) (cmR : CMet K C mc "read" pRd gRd) (GRd : FnOk P w K mg base (L2.CX P w) 6 gRd fdRd ["cls", "text"] (spRuleRead CW C K)) (bRd : Binds K fdRd ["cls", "text"] []) (kRd : KBn K fdRd ["cls", "text"] 1 ["text"] gK (fun vs zs => vs ++ zs))
    (nSt : PySem.W.findIn K (.ref C) "__str__" = some (some (.ref fSt))) (nSt2 : PySem.W.isFn K (.ref fSt) = true) (GSt : FnOk P w K mg base CX0 2 fSt fdSt ["self"] (spStr C)) (bSt : Binds K fdSt ["self"] [])
    (gHe : mg "_law_heard" = some (.ref fHe)) (kHe : PySem.W.keepIn K (.ref fHe) = true) (lkHe : K.lookup fHe = some ⟨och, odh, .func (PySem.W.fnOf "_law_heard" "_law_heard" (defArgs s__law_heard) (defBody s__law_heard) (defScope s__law_heard) .none kVh doch pmh anh cdvh cth), oslh⟩) (hcHe : PySem.W.codeIn K cdvh "_law_heard" = true)
    (bHe : L2.Binds K (PySem.W.fnOf "_law_heard" "_law_heard" (defArgs s__law_heard) (defBody s__law_heard) (defScope s__law_heard) .none kVh doch pmh anh cdvh cth) ["_law_ask"] []) :
    FnG P w K mg base CX0 9 f (PySem.W.fnOf "_law_right" "_law_right" (defArgs s__law_right) (defBody s__law_right) (defScope s__law_right) .none kV doc pm an (.ref c) ct) ["_law_line"] (spRight TR_ TL) := by
  refine fnG_of lk hcd sc__law_right (fun vs H Q E h => ?_) (fun A outer s H vs Q E hgd hr h => ?_)
  · obtain ⟨a, rfl, _⟩ := h
    rfl
  · obtain ⟨a, rfl, la, oka, hTb, k⟩ := h
    have hrH : Room 8 _ := hr
    have hrDu : Room 4 _ := hr.mono (by decide)
    have hrD1 : Room 1 _ := hr.mono (by decide)
    refine ⟨_, (pss_cons (ps_set (i := 1) sc__law_right.nd rfl (Or.inl rfl) (by exact (pe_call GDu hrDu rfl gDu kDu bDu .nil pass0 (pa_cons (pv 0) pa_nil))))
 (pss_cons (ps_set (i := 2) sc__law_right.nd rfl (Or.inl rfl) (pe_lst (pa_cons (pe_lamcall (T := T2 TR_ TL) (TT := TTH CW C) (k := 6) (t := (fun E => tCMeth C (fun vs H Q E => spRuleRead CW C K (vs ++ []) H Q E) E (tC (.ref C)) (tCons (tVar 0) tNil))) rfl gHe kHe lkHe hcHe bHe sc__law_heard rfl (Or.inl rfl) (heard_gives THd hrH hgd GSt bSt nSt nSt2) TBR rfl t2_r (t2u_r dis) hrH (lamS_by (show lamSB (defScope s__law_right) _ = true by decide +kernel)) rfl (fun _ _ _ _ _ => rfl) (fun A outer s H E f c' hr => (pe_cmeth (pe_glob (v := .ref C) rfl TU.gC rfl) rcR cmR (GRd.raw bRd .nil) hr (passes_call (takes_of rfl rfl rfl rfl) fun _ _ _ _ h => h) (pa_cons (pv 0) pa_nil)))) pa_nil)))
 (pss_cons (ps_expr (pe_bm PySem.F.plainAttrs_list PySem.F.slot_list_append PySem.F.type_list_append mt_append (pv 2) (pa_cons (pe_lamcall (T := T2 TR_ TL) (TT := TTH CW C) (k := 6) (t := (fun E => tCMethK C (["text"] : List Str).length (spRuleRead CW C K) (fun vs zs => vs ++ zs) E (tC (.ref C)) (tCons (tVar 0) tNil))) rfl gHe kHe lkHe hcHe bHe sc__law_heard rfl (Or.inl rfl) (heard_gives THd hrH hgd GSt bSt nSt nSt2) TBR rfl t2_r (t2u_r dis) hrH (lamS_by (show lamSB (defScope s__law_right) _ = true by decide +kernel)) rfl (fun _ _ _ _ _ => rfl) (fun A outer s H E f c' hr => (pe_cmethK (pe_glob (v := .ref C) rfl TU.gC rfl) rcR cmR GRd hr kRd (passes_call (takes_of rfl rfl rfl rfl) fun _ _ _ _ h => h) (pk_cons (pv 0) pk_nil)))) pa_nil)))
 (pss_one (ps_ret (pe_cmpR (op_eqD hrD1.units) (pv 2) (pe_lst (pa_cons (pv 1) (pa_cons (pv 1) pa_nil))) (nomark _))))))), ?_⟩
    refine ⟨_, rfl, a, rfl, la, oka, fun H1 d s1 hd => ?_⟩
    refine ⟨hTb.ext s1, fun G2 e2 T2 => ?_⟩
    refine heard_ans (fun E H Q h => ⟨rfl, _, rfl, h⟩) la oka fun H3 p1 s3 h1 => ?_
    refine ⟨(by show 1 ≤ PySem.sizeLine; decide), fun l hl => ?_⟩
    have y3 := Same.lay (o := .lst [V.ref p1]) hl
    have e03 : ExtN H (upd H3 l (.lst [V.ref p1])) := (ExtN.of s1).trans (ExtN.trans e2 (ExtN.of fun _ _ z => y3 _ _ (s3 _ _ z)))
    have fr : ∀ b o, H b = some o → (∀ ps, o ≠ .tbl ps) → b ≠ l := fun b o hb nb => ne_of_none (s3 _ _ (e2 _ _ (s1 _ _ hb) nb)) hl
    have t3 : Tabs (Toy.T2 TR_ TL) (upd H3 l (.lst [V.ref p1])) := T2.ext fun _ _ z => y3 _ _ (s3 _ _ z)
    have d3 : (upd H3 l (.lst [V.ref p1])) d = some (ansO a) := y3 _ _ (s3 _ _ (e2 _ _ hd (ansO_nt a)))
    have h13 := y3 _ _ h1
    have hl3 : (upd H3 l (.lst [V.ref p1])) l = some (.lst [V.ref p1]) := upd_same
    generalize upd H3 l (.lst [V.ref p1]) = G3 at e03 t3 d3 h13 hl3 ⊢
    refine ⟨_, rfl, .inl ⟨rfl, _, SqL.of hl3⟩, t3, fun G4 e4 t4 => ?_⟩
    refine heard_ans (fun E H Q h => ⟨rfl, _, rfl, rfl, h⟩) la oka fun H5 p2 s5 h2 => ?_
    have l5 := s5 _ _ (e4 _ _ hl3 fun ps z => by cases z)
    have d5 := s5 _ _ (e4 _ _ d3 (ansO_nt a))
    have h15 := s5 _ _ (e4 _ _ h13 (ansO_nt a))
    have e05 : ExtN H H5 := e03.trans (ExtN.trans e4 (ExtN.of s5))
    have t5 : Tabs (Toy.T2 TR_ TL) H5 := t4.ext s5
    have lx : ∀ {p : Addr}, H5 p = some (ansO a) → p ≠ l := fun h z => by
      rw [z, l5] at h
      unfold ansO at h
      split at h
      · cases h
      · cases h
    refine ⟨l, [.ref p1], .ref p2, rfl, rfl, l5, (by show 1 < PySem.sizeLine; decide), ?_⟩
    have d6 : (upd H5 l (.lst ([.ref p1] ++ [.ref p2]))) d = some (ansO a) := by rw [upd_ne (lx d5)]; exact d5
    have h16 : (upd H5 l (.lst ([.ref p1] ++ [.ref p2]))) p1 = some (ansO a) := by rw [upd_ne (lx h15)]; exact h15
    have h26 : (upd H5 l (.lst ([.ref p1] ++ [.ref p2]))) p2 = some (ansO a) := by rw [upd_ne (lx h2)]; exact h2
    have l6 : (upd H5 l (.lst ([.ref p1] ++ [.ref p2]))) l = some (.lst [.ref p1, .ref p2]) := upd_same
    have bt : But l H5 (upd H5 l (.lst ([.ref p1] ++ [.ref p2]))) := (But.refl l H5).put
    have t6 : Tabs (Toy.T2 TR_ TL) (upd H5 l (.lst ([.ref p1] ++ [.ref p2]))) := tabs_but l5 bt t5
    have e06 : ExtN H (upd H5 l (.lst ([.ref p1] ++ [.ref p2]))) := fun b o hb nb => by
      rw [upd_ne (fr b o hb nb)]
      exact e05 b o hb nb
    generalize upd H5 l (.lst ([.ref p1] ++ [.ref p2])) = H6 at d6 h16 h26 l6 t6 e06 ⊢
    refine ⟨_, rfl, _, rfl, _, rfl, (by show 2 ≤ PySem.sizeLine; decide), fun q hq => ?_⟩
    have y7 := Same.lay (o := .lst [V.ref d, V.ref d]) hq
    refine ⟨.list [ansD a, ansD a], .list [ansD a, ansD a], .lst (SqL.of (y7 _ _ l6)) (.cons (ans_dp (y7 _ _ h16)) (.cons (ans_dp (y7 _ _ h26)) .nil)), .lst (SqL.of upd_same) (.cons (ans_dp (y7 _ _ d6)) (.cons (ans_dp (y7 _ _ d6)) .nil)), ans_two oka, ans_two oka, ?_⟩
    rw [PySem.SeqAt.eqv_refl _ (SeqAt.canLay_of_shaped (ans_two oka))]
    exact k _ (e06.trans (ExtN.of y7)) (t6.ext y7)
end
end Toy
set_option maxRecDepth 100000
namespace Toy
open PySem L2 LamX Dg TL ClX
abbrev s__law_bent : Stmt := top 49
def spBent : Sp := fun vs H Q _ => ∃ (p l : Addr) (ns : List Int) (a b : Int) (t : Str), vs = [.ref p, .str t] ∧ PenAt H p l ns a b ∧ a ≤ 900000 ∧ ChOk t ∧ t.length ≤ 200000 ∧
  ∀ (H' : Hp) (u : Str) (a' b' : Int), But p H H' → PenAt H' p l ns a' b' → a ≤ a' → a' ≤ a + 10 → ChOk u → u.length ≤ 2 * t.length + 20 → Q (.str u) H'
def oddWs : List Str := ["", "0", "1", "2", "7", "31", "33", "-1", "01", "-", "moduli", "ahead", "round", "x", "1\n"]
theorem odd_ok : ∀ w ∈ oddWs, ChOk w ∧ w.length ≤ 6 := fun w hw => by
  have z : ∀ w ∈ oddWs, chB w = true ∧ w.length ≤ 6 := by decide +kernel
  exact ⟨ch_of (z w hw).1, (z w hw).2⟩
section
variable {P : Program} {w : World} {K : PySem.W.Frag} {mg : Str → Option Value} {base : Heap}
abbrev N__law_bent : List Str := ["_law_pen_here", "_law_line", "_law_words", "_law_spot", "_law_way", "_law_odd"]
theorem sc__law_bent : FnScope N__law_bent ["_law_pen_here", "_law_line"] (defScope s__law_bent) := ⟨rfl, rfl, rfl, by decide +kernel, rfl, by decide +kernel, by decide +kernel⟩
set_option maxHeartbeats 4000000 in
theorem ok__law_bent {f fD fPk : Addr} {fd fdD fdPk : FuncData} (F : Fun K "_law_bent" "_law_bent" s__law_bent f fd) (T : TR mg)
    (GD : FnOk P w K mg base CX0 1 fD fdD ["_law_pen_here", "_law_many"] spDraw) (gD : mg "_law_draw" = some (.ref fD)) (kD : PySem.W.keepIn K (.ref fD) = true) (bD : Binds K fdD ["_law_pen_here", "_law_many"] [])
    (GPk : FnOk P w K mg base CX0 2 fPk fdPk ["_law_pen_here", "_law_some"] (spPick K)) (gPk : mg "_law_pick" = some (.ref fPk)) (kPk : PySem.W.keepIn K (.ref fPk) = true) (bPk : Binds K fdPk ["_law_pen_here", "_law_some"] []) :
    FnOk P w K mg base CX0 3 f fd ["_law_pen_here", "_law_line"] spBent := by
  refine F.ok sc__law_bent (fun vs H Q E h => ?_) (fun cdv A outer s H vs Q E hrD2 h => ?_)
  · obtain ⟨p, l, ns, a, b, t, rfl, _⟩ := h
    rfl
  · obtain ⟨p, l, ns, a, b, t, rfl, hP, ha, ct, lt, k⟩ := h
    have hrD1 : Room 1 _ := hrD2.mono (by decide)
    refine ⟨_, (pss_cons (ps_set (i := 2) sc__law_bent.nd rfl (Or.inl rfl) (pe_split (pv 1) pe_str))
 (pss_cons (ps_par (i := 3) (j := 4) rfl sc__law_bent.nd rfl rfl (by decide) rfl rfl (pa_cons (pe_call GD hrD1 rfl gD kD bD .nil pass0 (pa_cons (pv 0) (pa_cons (pe_op op_add (pe_callB call_len_seq (by rfl) T.m_len (by decide +kernel) (pa_cons (pv 2) pa_nil)) pe_int) pa_nil))) (pa_cons (pe_call GD hrD1 rfl gD kD bD .nil pass0 (pa_cons (pv 0) (pa_cons pe_int pa_nil))) pa_nil)) rfl)
 (pss_cons (ps_set (i := 5) sc__law_bent.nd rfl (Or.inl rfl) (by exact (pe_call GPk hrD2 rfl gPk kPk bPk .nil pass0 (pa_cons (pv 0) (pa_cons (pe_lst (pa_cons pe_str (pa_cons pe_str (pa_cons pe_str (pa_cons pe_str (pa_cons pe_str (pa_cons pe_str (pa_cons pe_str (pa_cons pe_str (pa_cons pe_str (pa_cons pe_str (pa_cons pe_str (pa_cons pe_str (pa_cons pe_str (pa_cons pe_str (pa_cons pe_str pa_nil)))))))))))))))) pa_nil)))))
 (pss_cons (ps_if (pt_cmpR op_eq (pv 4) pe_int (nomark _)) (pss_one (ps_ret (pe_m1 PySem.F.slot_str_join PySem.F.type_str_join mt_join pe_str (pe_op op_cat (pe_slice sl_list (pv 2) po_none (po_some (pv 3))) (pe_slice sl_list (pv 2) (po_some (pe_op op_add (pv 3) pe_int)) po_none))))) pss_nil)
 (pss_cons (ps_if (pt_cmpR op_eq (pv 4) pe_int (nomark _)) (pss_one (ps_ret (pe_m1 PySem.F.slot_str_join PySem.F.type_str_join mt_join pe_str (pe_op op_cat (pe_slice sl_list (pv 2) po_none (po_some (pe_op op_add (pv 3) pe_int))) (pe_slice sl_list (pv 2) (po_some (pv 3)) po_none))))) pss_nil)
 (pss_cons (ps_if (pt_cmpR op_eq (pv 4) pe_int (nomark _)) (pss_one (ps_ret (pe_m1 PySem.F.slot_str_join PySem.F.type_str_join mt_join pe_str (pe_op op_cat (pe_op op_cat (pe_slice sl_list (pv 2) po_none (po_some (pv 3))) (pe_lst (pa_cons (pv 5) pa_nil))) (pe_slice sl_list (pv 2) (po_some (pv 3)) po_none))))) pss_nil)
 (pss_one (ps_ret (pe_ifExp (pt_cmpR op_eq (pv 4) pe_int (nomark _)) (pe_op op_add_str (pv 1) pe_str) (pe_m1 PySem.F.slot_str_join PySem.F.type_str_join mt_join pe_str (pe_op op_cat (pe_op op_cat (pe_slice sl_list (pv 2) po_none (po_some (pv 3))) (pe_lst (pa_cons (pv 5) pa_nil))) (pe_slice sl_list (pv 2) (po_some (pe_op op_add (pv 3) pe_int)) po_none)))))))))))), ?_⟩
    have sz : PySem.sizeLine = 16777216 := rfl
    refine ⟨_, rfl, ⟨_, rfl⟩, t, " ", rfl, rfl, rfl, by omega, fun W hW => ?_⟩
    have nW : W ≠ p := (ne_of_none hP.pen hW).symm
    have y0 := Same.lay (o := .lst ((Txt.split t " ").map V.str)) hW
    have P0 := hP.new (o := .lst ((Txt.split t " ").map V.str)) hW
    have hW0 : (upd H W (.lst ((Txt.split t " ").map V.str))) W = some (.lst ((Txt.split t " ").map V.str)) := upd_same
    have wwt : wt (Txt.split t " ") = t.length + 1 := split_wt (s := 32) rfl
    have wch : ∀ w ∈ Txt.split t " ", ChOk w := ch_split ct
    have bt0 : But p H (upd H W (.lst ((Txt.split t " ").map V.str))) := fun c o _ e => y0 _ _ e
    refine (show gName 2 (V.ref W) _ (upd H W (.lst ((Txt.split t " ").map V.str))) _ from ?_)
    generalize upd H W (.lst ((Txt.split t " ").map V.str)) = H0 at P0 hW0 bt0 ⊢
    generalize Txt.split t " " = ws at hW0 wwt wch ⊢
    clear y0 hW
    have wll := wt_len ws
    refine ⟨_, rfl, _, rfl, W, _, rfl, .inl (SqL.of hW0), _, _, rfl, rfl, p, l, ns, a, b, _, rfl, P0, by omega, by rw [List.length_map]; omega, ?_, fun H1 sp a1 b1 s0 s1 h10 h11 bt1 P1 => ?_⟩
    · rw [List.length_map]
      exact (by
        show (ws.length + 1).log2 < 9000
        have := (Nat.log2_lt (n := ws.length + 1) (k := 20) (by omega)).mpr (by omega)
        omega)
    rw [List.length_map] at s1
    obtain ⟨i, rfl⟩ : ∃ i : Nat, sp = ((i : Nat) : Int) := ⟨sp.toNat, (Int.toNat_of_nonneg s0).symm⟩
    have hW1 := bt1 _ _ nW hW0
    refine ⟨_, rfl, p, l, ns, a1, b1, 5, rfl, P1, by omega, by decide, by decide +kernel, fun H2 way a2 b2 w0 w1 h20 h21 bt2 P2 => ⟨_, _, rfl, ?_⟩⟩
    have hW2 := bt2 _ _ nW hW1
    refine ⟨_, rfl, (by show 15 ≤ PySem.sizeLine; decide), fun q hq => ?_⟩
    have nq : q ≠ p := (ne_of_none P2.pen hq).symm
    have y3 := Same.lay (o := .lst (oddWs.map V.str)) hq
    have P3 := P2.new (o := .lst (oddWs.map V.str)) hq
    refine ⟨p, l, q, ns, a2, b2, oddWs.map V.str, rfl, P3, by omega, SqL.of upd_same, nq, by decide, by decide, fun H4 pi v a4 b4 hv h40 h41 bt4 P4 => ?_⟩
    rw [List.getElem?_map] at hv
    obtain ⟨x, hx, rfl⟩ := Option.map_eq_some_iff.mp hv
    obtain ⟨xc, xl⟩ := odd_ok x (List.mem_of_getElem? hx)
    have hW4 := bt4 _ _ nW (y3 _ _ hW2)
    have bt : But p H H4 := fun c o n e => bt4 _ _ n (y3 _ _ (bt2 _ _ n (bt1 _ _ n (bt0 _ _ n e))))
    clear y3 P3 hq hx
    have sg : ∀ c ∈ tl (" " : Str), c < 1114112 := (ch_of (w := " ") (by decide +kernel))
    have e1 : (Str.ofString " ").length = 1 := by decide +kernel
    have fin : ∀ (G : Hp) (ys : List Str), Same H4 G → (∀ w ∈ ys, ChOk w) → wt ys ≤ 2 * t.length + 20 → ((ys.map (·.length)).sum + ys.length * (Str.ofString " ").length ≤ 16777216) ∧ Q (.str (Txt.join " " ys)) G := fun G ys s hc hw => by
      have z1 := wt_sum ys
      have z2 := join_le (sep := " ") (s := 32) (ws := ys) rfl
      refine ⟨?_, k G _ a4 b4 (fun c o n e => s _ _ (bt _ _ n e)) ⟨s _ _ P4.pen, s _ _ P4.cells, P4.few, P4.bits, P4.low⟩ (by omega) (by omega) (ch_join sg hc) (by omega)⟩
      rw [e1]
      omega
    have lt1 := wt_len (ws.take i)
    have lt2 := wt_len (ws.drop i)
    have lt3 := wt_len (ws.drop (i + 1))
    have lt4 := wt_len (ws.take (i + 1))
    have w1 := wt_cut ws i
    have w2 := wt_cut ws (i + 1)
    have xone := wt_one x
    have cTo : cutV (ws.map V.str) none (some ((i : Nat) : Int)) = (ws.take i).map V.str := cutS_to ws i
    have cFr : cutV (ws.map V.str) (some ((i : Nat) : Int)) none = (ws.drop i).map V.str := cutS_from ws i
    have cTo1 : cutV (ws.map V.str) none (some (((i : Nat) : Int) + 1)) = (ws.take (i + 1)).map V.str := cutS_to ws (i + 1)
    have cFr1 : cutV (ws.map V.str) (some (((i : Nat) : Int) + 1)) none = (ws.drop (i + 1)).map V.str := cutS_from ws (i + 1)
    have m1 : [V.str x] = [x].map V.str := rfl
    have mc := map_cat
    have ct1 : ∀ n, ∀ w ∈ ws.take n, ChOk w := fun n w h => wch w (List.mem_of_mem_take h)
    have cd : ∀ n, ∀ w ∈ ws.drop n, ChOk w := fun n w h => wch w (List.mem_of_mem_drop h)
    have ca : ∀ {u v : List Str}, (∀ w ∈ u, ChOk w) → (∀ w ∈ v, ChOk w) → ∀ w ∈ u ++ v, ChOk w := fun hu hv w h => (List.mem_append.mp h).elim (hu w) (hv w)
    have c1 : ∀ w ∈ [x], ChOk w := fun w h => by rw [List.mem_singleton.mp h]; exact xc
    have no : ∀ {n m : Int} {A B : Prop}, n ≠ m → B → (if decide (V.int n = V.int m) = true then A else B) := fun hne hb => by
      rw [decide_eq_false (fun z => hne (V.int.inj z))]
      exact iteF hb
    have ya : ∀ {n : Int} {A B : Prop}, A → (if decide (V.int n = V.int n) = true then A else B) := fun hb => by
      rw [decide_eq_true rfl]
      exact iteT hb
    have wcase : way = 0 ∨ way = 1 ∨ way = 2 ∨ way = 3 ∨ way = 4 := by omega
    rcases wcase with rfl | rfl | rfl | rfl | rfl
    · refine ⟨_, rfl, rfl, _, rfl, ya ?_⟩
      refine ⟨⟨_, rfl⟩, _, rfl, _, rfl, _, rfl, W, _, rfl, SqL.of hW4, fun r1 hr1 => ?_⟩
      rw [cTo]
      have z1 := Same.lay (o := .lst ((ws.take i).map V.str)) hr1
      refine ⟨_, rfl, _, rfl, _, _, rfl, rfl, _, rfl, W, _, rfl, SqL.of (z1 _ _ hW4), fun r2 hr2 => ?_⟩
      rw [cFr1]
      have z2 := Same.lay (o := .lst ((ws.drop (i + 1)).map V.str)) hr2
      refine ⟨r1, r2, _, _, rfl, rfl, z2 _ _ upd_same, upd_same, ?_, fun r3 hr3 => ?_⟩
      · rw [List.length_map, List.length_map]
        omega
      rw [mc]
      have z3 := Same.lay (o := .lst (((ws.take i) ++ (ws.drop (i + 1))).map V.str)) hr3
      have f := fin _ ((ws.take i) ++ (ws.drop (i + 1))) (fun _ _ z => z3 _ _ (z2 _ _ (z1 _ _ z))) (ca (ct1 _) (cd _)) (by rw [wt_app]; omega)
      exact ⟨" ", r3, _, rfl, rfl, .inl (SqL.of upd_same), f.1, f.2⟩
    · refine ⟨_, rfl, rfl, _, rfl, no (by decide) ⟨_, rfl, rfl, _, rfl, ya ?_⟩⟩
      refine ⟨⟨_, rfl⟩, _, rfl, _, rfl, _, _, rfl, rfl, _, rfl, W, _, rfl, SqL.of hW4, fun r1 hr1 => ?_⟩
      rw [cTo1]
      have z1 := Same.lay (o := .lst ((ws.take (i + 1)).map V.str)) hr1
      refine ⟨_, rfl, _, rfl, _, rfl, W, _, rfl, SqL.of (z1 _ _ hW4), fun r2 hr2 => ?_⟩
      rw [cFr]
      have z2 := Same.lay (o := .lst ((ws.drop i).map V.str)) hr2
      refine ⟨r1, r2, _, _, rfl, rfl, z2 _ _ upd_same, upd_same, ?_, fun r3 hr3 => ?_⟩
      · rw [List.length_map, List.length_map]
        omega
      rw [mc]
      have z3 := Same.lay (o := .lst (((ws.take (i + 1)) ++ (ws.drop i)).map V.str)) hr3
      have f := fin _ ((ws.take (i + 1)) ++ (ws.drop i)) (fun _ _ z => z3 _ _ (z2 _ _ (z1 _ _ z))) (ca (ct1 _) (cd _)) (by rw [wt_app]; omega)
      exact ⟨" ", r3, _, rfl, rfl, .inl (SqL.of upd_same), f.1, f.2⟩
    · refine ⟨_, rfl, rfl, _, rfl, no (by decide) ⟨_, rfl, rfl, _, rfl, no (by decide) ⟨_, rfl, rfl, _, rfl, ya ?_⟩⟩⟩
      refine ⟨⟨_, rfl⟩, _, rfl, _, rfl, _, rfl, W, _, rfl, SqL.of hW4, fun r1 hr1 => ?_⟩
      rw [cTo]
      have z1 := Same.lay (o := .lst ((ws.take i).map V.str)) hr1
      refine ⟨_, rfl, (by show 1 ≤ PySem.sizeLine; decide), fun r2 hr2 => ?_⟩
      have z2 := Same.lay (o := .lst [V.str x]) hr2
      refine ⟨r1, r2, _, _, rfl, rfl, z2 _ _ upd_same, upd_same, by rw [List.length_map]; show _ + 1 ≤ _; omega, fun r3 hr3 => ?_⟩
      rw [m1, mc]
      have z3 := Same.lay (o := .lst (((ws.take i) ++ [x]).map V.str)) hr3
      refine ⟨_, rfl, _, rfl, _, rfl, W, _, rfl, SqL.of (z3 _ _ (z2 _ _ (z1 _ _ hW4))), fun r4 hr4 => ?_⟩
      rw [cFr]
      have z4 := Same.lay (o := .lst ((ws.drop i).map V.str)) hr4
      refine ⟨r3, r4, _, _, rfl, rfl, z4 _ _ upd_same, upd_same, ?_, fun r5 hr5 => ?_⟩
      · rw [List.length_map, List.length_map, List.length_append]
        show _ + 1 + _ ≤ _
        omega
      rw [mc]
      have z5 := Same.lay (o := .lst (((ws.take i) ++ [x] ++ (ws.drop i)).map V.str)) hr5
      have f := fin _ ((ws.take i) ++ [x] ++ (ws.drop i)) (fun _ _ z => z5 _ _ (z4 _ _ (z3 _ _ (z2 _ _ (z1 _ _ z))))) (ca (ca (ct1 _) c1) (cd _)) (by rw [wt_app, wt_app]; omega)
      exact ⟨" ", r5, _, rfl, rfl, .inl (SqL.of upd_same), f.1, f.2⟩
    · refine ⟨_, rfl, rfl, _, rfl, no (by decide) ⟨_, rfl, rfl, _, rfl, no (by decide) ⟨_, rfl, rfl, _, rfl, no (by decide) ⟨_, rfl, rfl, _, rfl, ya ?_⟩⟩⟩⟩
      refine ⟨_, rfl, _, _, rfl, rfl, ?_, ?_⟩
      · show t.length + (Str.ofString " ").length ≤ _
        omega
      exact k H4 _ a4 b4 bt P4 (by omega) (by omega) (ch_app ct sg) (by show (t ++ (" " : Str)).length ≤ _; rw [Str.length_append]; show t.length + (Str.ofString " ").length ≤ _; omega)
    · refine ⟨_, rfl, rfl, _, rfl, no (by decide) ⟨_, rfl, rfl, _, rfl, no (by decide) ⟨_, rfl, rfl, _, rfl, no (by decide) ⟨_, rfl, rfl, _, rfl, no (by decide) ?_⟩⟩⟩⟩
      refine ⟨⟨_, rfl⟩, _, rfl, _, rfl, _, rfl, W, _, rfl, SqL.of hW4, fun r1 hr1 => ?_⟩
      rw [cTo]
      have z1 := Same.lay (o := .lst ((ws.take i).map V.str)) hr1
      refine ⟨_, rfl, (by show 1 ≤ PySem.sizeLine; decide), fun r2 hr2 => ?_⟩
      have z2 := Same.lay (o := .lst [V.str x]) hr2
      refine ⟨r1, r2, _, _, rfl, rfl, z2 _ _ upd_same, upd_same, by rw [List.length_map]; show _ + 1 ≤ _; omega, fun r3 hr3 => ?_⟩
      rw [m1, mc]
      have z3 := Same.lay (o := .lst (((ws.take i) ++ [x]).map V.str)) hr3
      refine ⟨_, rfl, _, rfl, _, _, rfl, rfl, _, rfl, W, _, rfl, SqL.of (z3 _ _ (z2 _ _ (z1 _ _ hW4))), fun r4 hr4 => ?_⟩
      rw [cFr1]
      have z4 := Same.lay (o := .lst ((ws.drop (i + 1)).map V.str)) hr4
      refine ⟨r3, r4, _, _, rfl, rfl, z4 _ _ upd_same, upd_same, ?_, fun r5 hr5 => ?_⟩
      · rw [List.length_map, List.length_map, List.length_append]
        show _ + 1 + _ ≤ _
        omega
      rw [mc]
      have z5 := Same.lay (o := .lst (((ws.take i) ++ [x] ++ (ws.drop (i + 1))).map V.str)) hr5
      have f := fin _ ((ws.take i) ++ [x] ++ (ws.drop (i + 1))) (fun _ _ z => z5 _ _ (z4 _ _ (z3 _ _ (z2 _ _ (z1 _ _ z))))) (ca (ca (ct1 _) c1) (cd _)) (by rw [wt_app, wt_app]; omega)
      exact ⟨" ", r5, _, rfl, rfl, .inl (SqL.of upd_same), f.1, f.2⟩
end
end Toy
set_option maxRecDepth 100000
namespace Toy
open PySem L2 LamX Dg TL ClX
theorem prodI_app : ∀ a b : List Int, prodI (a ++ b) = prodI a * prodI b
  | [], b => by
    show prodI b = 1 * prodI b
    omega
  | z :: a, b => by
    show z * prodI (a ++ b) = z * prodI a * prodI b
    rw [prodI_app a b, Int.mul_assoc]
theorem modG_all {w : Str} {r : List Str} (hw : numW 32 w = none) : ∀ (l acc : List Int), (acc = [] ∨ okMod (some (acc.map V.int)) = true) → (∀ z ∈ acc ++ l, 2 ≤ z ∧ z ≤ 32) → (acc ++ l).length ≤ 5 → prodI (acc ++ l) ≤ 32 → modG acc (shownS l ++ w :: r) = acc ++ l
  | [], acc, _, _, _, _ => by
    show modG acc (w :: r) = _
    rw [modG_cons, hw, List.append_nil]
  | z :: l, acc, ok, hm, hl, hp => by
    have hz := hm z (List.mem_append_right _ List.mem_cons_self)
    have ez : z = ((z.toNat : Nat) : Int) := (Int.toNat_of_nonneg (by omega)).symm
    have e1 : shownS (z :: l) ++ w :: r = numT z.toNat :: (shownS l ++ w :: r) := by
      show (toString z : Str) :: _ = _
      congr 1
      show Str.ofString (toString z) = numT z.toNat
      unfold numT
      rw [← ez]
    have ha : ∀ y ∈ acc, 2 ≤ y ∧ y ≤ 32 := fun y hy => hm y (List.mem_append_left _ hy)
    have hll : ∀ y ∈ l, 2 ≤ y ∧ y ≤ 32 := fun y hy => hm y (List.mem_append_right _ (List.mem_cons_of_mem _ hy))
    have e2 : acc ++ z :: l = (acc ++ [z]) ++ l := by rw [List.append_assoc]; rfl
    have p1 := prodI_pos ha
    have p2 := prodI_pos hll
    have p3 : prodI acc * z ≤ 32 := by
      rw [e2, prodI_app, prodI_snoc] at hp
      have h0 : 0 ≤ prodI acc * z := Int.mul_nonneg (by omega) (by omega)
      have := Int.mul_le_mul_of_nonneg_left p2 h0
      omega
    have ok2 : okMod (some ((acc ++ [(z.toNat : Int)]).map V.int)) = true := (okMod_more ok).mpr ⟨by rw [List.length_append, List.length_cons] at hl; omega, by omega, by omega, by rw [← ez]; exact p3⟩
    rw [e1, modG_cons, numW_num (by omega)]
    dsimp only
    rw [if_pos ok2, ← ez]
    rw [← ez] at ok2
    rw [modG_all hw l (acc ++ [z]) (.inr ok2) (by rw [← e2]; exact hm) (by rw [← e2]; exact hl) (by rw [← e2]; exact hp), ← e2]
theorem wtG_all {b : Nat} : ∀ (l : List Int) (k : Nat) (r : List Str), (∀ z ∈ l, 0 ≤ z ∧ z ≤ b) → l.length ≤ k → (r = [] ∨ ∃ w r', r = w :: r' ∧ numW b w = none) → wtG b ((shownS l ++ r).take k) = l
  | [], k, r, _, _, hr => by
    show wtG b (r.take k) = []
    rcases hr with rfl | ⟨w, r', rfl, hw⟩
    · rw [List.take_nil]
      rfl
    · cases k with
      | zero => rfl
      | succ k => rw [List.take_succ_cons, wtG_cons, hw]
  | z :: l, k, r, hm, hk, hr => by
    have hz := hm z List.mem_cons_self
    have ez : z = ((z.toNat : Nat) : Int) := (Int.toNat_of_nonneg (by omega)).symm
    have e1 : shownS (z :: l) ++ r = numT z.toNat :: (shownS l ++ r) := by
      show (toString z : Str) :: _ = _
      congr 1
      show Str.ofString (toString z) = numT z.toNat
      unfold numT
      rw [← ez]
    cases k with
    | zero => exact absurd hk (by simp)
    | succ k =>
      rw [e1, List.take_succ_cons, wtG_cons, numW_num (by omega)]
      dsimp only
      rw [← ez, wtG_all l k r (fun y hy => hm y (List.mem_cons_of_mem _ hy)) (by rw [List.length_cons] at hk; omega) hr]
/-- the words of a rule's text -/
def wordsA (A : List Int) : List Str := if A = [] then [Str.ofString "-"] else shownS A
def ruleWs (ms A T : List Int) : List Str := (Str.ofString "moduli") :: (shownS ms ++ ((Str.ofString "ahead") :: (wordsA A ++ ((Str.ofString "round") :: shownS T))))
theorem wordsA_len (A : List Int) : (wordsA A).length = max 1 A.length := by
  unfold wordsA
  by_cases c : A = []
  · rw [if_pos c, c]
    rfl
  · rw [if_neg c]
    have := List.length_pos_iff.mpr c
    unfold shownS
    rw [List.length_map]
    omega
theorem shown_len (ns : List Int) : (shownS ns).length = ns.length := List.length_map ..
theorem readP_rule {ms A T : List Int} (okm : okMod (some (ms.map V.int)) = true) (rA : ∀ z ∈ A, 0 ≤ z ∧ z ≤ prodI ms - 1) (rT : ∀ z ∈ T, 0 ≤ z ∧ z ≤ prodI ms - 1) (tne : T ≠ []) (l24 : A.length + T.length ≤ 24) : readP (ruleWs ms A T) = .inr (ms, A, T) := by
  obtain ⟨mi, e1, hM, m0, p32, p2⟩ := mods_of okm
  obtain rfl := map_int_inj e1
  obtain ⟨n, en⟩ := Int.eq_ofNat_of_zero_le (show 0 ≤ prodI ms by omega)
  have eb : (prodI ms).toNat - 1 = n - 1 := by rw [en, Int.toNat_natCast]
  have lT := List.length_pos_iff.mpr tne
  have eM : modG [] ((ruleWs ms A T).drop 1) = ms := modG_all (w := (Str.ofString "ahead")) (r := wordsA A ++ ((Str.ofString "round") :: shownS T)) (numW_letters (by decide +kernel)) ms [] (.inl rfl) hM.2 hM.1 p32
  unfold readP
  rw [if_pos (show (ruleWs ms A T)[0]? = some (Str.ofString "moduli") from rfl), eM, if_neg m0]
  have d1 : (ruleWs ms A T).drop (1 + ms.length) = (Str.ofString "ahead") :: (wordsA A ++ ((Str.ofString "round") :: shownS T)) := by
    show ((Str.ofString "moduli") :: (shownS ms ++ ((Str.ofString "ahead") :: (wordsA A ++ ((Str.ofString "round") :: shownS T))))).drop (1 + ms.length) = _
    rw [Nat.add_comm, List.drop_succ_cons, ← shown_len ms, List.drop_left]
  have d2 : (ruleWs ms A T).drop (1 + ms.length + 1) = wordsA A ++ ((Str.ofString "round") :: shownS T) := by
    rw [← List.drop_drop, d1]
    rfl
  have d3 : (ruleWs ms A T).drop (1 + ms.length + 1 + (wordsA A).length) = (Str.ofString "round") :: shownS T := by
    rw [← List.drop_drop, d2, List.drop_left]
  have d4 : (ruleWs ms A T).drop (1 + ms.length + 1 + (wordsA A).length + 1) = shownS T := by
    rw [← List.drop_drop, d3]
    rfl
  have at_ : ∀ {k : Nat} {w : Str} {r : List Str}, (ruleWs ms A T).drop k = w :: r → (ruleWs ms A T)[k]? = some w := fun {k w r} e => by
    have := List.getElem?_drop (xs := ruleWs ms A T) (i := k) (j := 0)
    rw [e, Nat.add_zero] at this
    exact this.symm
  have len : (ruleWs ms A T).length = 1 + ms.length + 1 + (wordsA A).length + 1 + T.length := by
    unfold ruleWs
    rw [List.length_cons, List.length_append, List.length_cons, List.length_append, List.length_cons, shown_len, shown_len]
    omega
  have bA : ∀ z ∈ A, 0 ≤ z ∧ z ≤ ((n - 1 : Nat) : Int) := fun z hz => by have := rA z hz; omega
  have bT : ∀ z ∈ T, 0 ≤ z ∧ z ≤ ((n - 1 : Nat) : Int) := fun z hz => by have := rT z hz; omega
  have eA : wtG (n - 1) (((ruleWs ms A T).drop (1 + ms.length + 1)).take 23) = A := by
    rw [d2]
    unfold wordsA
    by_cases c : A = []
    · rw [if_pos c, c]
      show wtG (n - 1) ((Str.ofString "-") :: _) = []
      rw [wtG_cons, numW_letters (by decide +kernel)]
    · rw [if_neg c]
      exact wtG_all A 23 _ bA (by omega) (.inr ⟨_, _, rfl, numW_letters (by decide +kernel)⟩)
  unfold readA
  have nz : ¬(A = [] ∧ (ruleWs ms A T)[1 + ms.length + 1]? ≠ some (Str.ofString "-")) := fun z => z.2 (at_ (r := Str.ofString "round" :: shownS T) (by
    rw [d2]
    unfold wordsA
    rw [if_pos z.1]
    rfl))
  rw [if_pos (at_ d1), eb, eA, if_neg nz]
  unfold readR
  rw [← wordsA_len, if_pos (at_ d3), eb, d4]
  have eT : wtG (n - 1) ((shownS T).take (24 - A.length)) = T := by
    have := wtG_all (b := n - 1) T (24 - A.length) [] bT (by omega) (.inl rfl)
    rw [List.append_nil] at this
    exact this
  rw [eT, if_neg (fun z => z.elim tne (by rw [len]; omega))]
theorem join_app {xs ys : List Str} (hx : xs ≠ []) (hy : ys ≠ []) : Txt.join " " (xs ++ ys) = Txt.join " " xs ++ " " ++ Txt.join " " ys := by
  rw [TL.join_eq, TL.join_eq, TL.join_eq]
  refine str_ext ?_
  rw [TL.tl_append, TL.tl_append, TL.tl_join, TL.tl_join, TL.tl_join, List.map_append]
  induction xs with
  | nil => exact absurd rfl hx
  | cons x r ih =>
    cases r with
    | nil =>
      cases ys with
      | nil => exact absurd rfl hy
      | cons y r2 =>
        show tl x ++ (tl (" " : Str) ++ joinL (tl (" " : Str)) ((y :: r2).map tl)) = tl x ++ tl (" " : Str) ++ joinL (tl (" " : Str)) ((y :: r2).map tl)
        rw [List.append_assoc]
    | cons x2 r =>
      have := ih (by simp)
      show tl x ++ (tl (" " : Str) ++ joinL (tl (" " : Str)) (((x2 :: r).map tl) ++ ys.map tl)) = (tl x ++ (tl (" " : Str) ++ joinL (tl (" " : Str)) ((x2 :: r).map tl))) ++ tl (" " : Str) ++ joinL (tl (" " : Str)) (ys.map tl)
      rw [this]
      simp only [List.append_assoc]
theorem spaced_join (A : List Int) : spacedS A = Txt.join " " (wordsA A) := by
  unfold spacedS wordsA
  by_cases c : A = []
  · rw [if_pos c, if_pos c]
    rfl
  · rw [if_neg c, if_neg c]
theorem words_rule {ms A T : List Int} (m0 : ms ≠ []) (t0 : T ≠ []) (pm : ∀ z ∈ ms, 0 ≤ z) (pA : ∀ z ∈ A, 0 ≤ z) (pT : ∀ z ∈ T, 0 ≤ z) : wordsT (ruleTxt ms A T) = ruleWs ms A T := by
  have one : ∀ w : Str, Txt.join " " [w] = w := fun w => by
    rw [TL.join_eq]
    refine str_ext ?_
    rw [TL.tl_join]
    rfl
  have sne : ∀ {l : List Int}, l ≠ [] → shownS l ≠ [] := fun h z => h (List.map_eq_nil_iff.mp z)
  have wne : wordsA A ≠ [] := fun z => by
    have := wordsA_len A
    rw [z] at this
    have e : ([] : List Str).length = 0 := rfl
    omega
  have e : ruleTxt ms A T = Txt.join " " (ruleWs ms A T) := by
    rw [← txt6, join6]
    unfold ruleWs
    have s1 : ∀ (w : Str) (r : List Str), w :: r = [w] ++ r := fun _ _ => rfl
    rw [s1 (Str.ofString "moduli"), join_app (by simp) (by simp), join_app (sne m0) (by simp), s1 (Str.ofString "ahead"), join_app (by simp) (by simp), join_app wne (by simp), s1 (Str.ofString "round"), join_app (by simp) (sne t0), one, one, one, ← spaced_join, ← spaced_ne m0, ← spaced_ne t0]
    simp only [← Str.append_assoc]
  rw [e]
  have fr : ∀ {l : List Int}, (∀ z ∈ l, 0 ≤ z) → ∀ p ∈ shownS l, 32 ∉ tl p := fun {l} h p hp => by
    rw [shown_nums h] at hp
    obtain ⟨n, _, rfl⟩ := List.mem_map.mp hp
    rw [tl_numT]
    exact numL_free (.inl (by decide))
  have w1 : 32 ∉ tl (Str.ofString "moduli") := by decide +kernel
  have w2 : 32 ∉ tl (Str.ofString "ahead") := by decide +kernel
  have w3 : 32 ∉ tl (Str.ofString "round") := by decide +kernel
  have w4 : 32 ∉ tl (Str.ofString "-") := by decide +kernel
  refine TL.split_join (y := (" " : Str)) (s := 32) (S := []) (by decide +kernel) (by decide +kernel) (by unfold ruleWs; simp) fun p hp => ?_
  unfold ruleWs at hp
  rcases List.mem_cons.mp hp with rfl | hp
  · exact w1
  rcases List.mem_append.mp hp with hp | hp
  · exact fr pm p hp
  rcases List.mem_cons.mp hp with rfl | hp
  · exact w2
  rcases List.mem_append.mp hp with hp | hp
  · unfold wordsA at hp
    split at hp
    · rw [List.mem_singleton.mp hp]
      exact w4
    · exact fr pA p hp
  rcases List.mem_cons.mp hp with rfl | hp
  · exact w3
  · exact fr pT p hp
/-- a normal rule's text is read back -/
theorem ruleOf_txt {ms A T : List Int} (okm : okMod (some (ms.map V.int)) = true) (rA : ∀ z ∈ A, 0 ≤ z ∧ z ≤ prodI ms - 1) (rT : ∀ z ∈ T, 0 ≤ z ∧ z ≤ prodI ms - 1) (nf : Normal A T) (l24 : A.length + T.length ≤ 24) : ruleOf (ruleTxt ms A T) = some (ms, A, T) := by
  obtain ⟨mi, e1, hM, m0, p32, p2⟩ := mods_of okm
  obtain rfl := map_int_inj e1
  unfold ruleOf
  rw [words_rule m0 nf.1.1 (fun z hz => by have := hM.2 z hz; omega) (fun z hz => (rA z hz).1) (fun z hz => (rT z hz).1), readP_rule okm rA rT nf.1.1 l24]
  dsimp only
  rw [norm_fix nf.1 nf.2, if_pos rfl]
end Toy
set_option maxRecDepth 100000
namespace Toy
open PySem L2 LamX Dg TL ClX
abbrev s_law : Stmt := top 50
def spTabs (K : PySem.W.Frag) (ts : List (Addr × Addr)) : Sp := fun vs H Q _ => ∃ (a : Addr) (ns : List Int), vs = [.ref a] ∧ SqL K H a (ns.map V.int) ∧ ns.length ≤ 63 ∧ (∀ z ∈ ns, Builtin.Int.intBits z ≤ 1048576) ∧ (∀ p ∈ ts, H p.2 = some (.tbl #[])) ∧ ∀ H', Q (.bl true) H'
theorem pen_ext {H H' : Hp} {p l : Addr} {ns : List Int} {a b : Int} (e : ExtN H H') (P : PenAt H p l ns a b) : PenAt H' p l ns a b := ⟨e _ _ P.pen (fun _ z => by cases z), e _ _ P.cells (fun _ z => by cases z), P.few, P.bits, P.low⟩
def some1 : List Str := ["", "moduli", "moduli 33", "moduli 4 9", "moduli 2 2 2 2 2 2 ahead - round 0", "moduli 2 ahead round 0", "moduli 2 ahead - -"]
def some2 : List Str := ["moduli 2 ahead - round", "moduli 2 ahead - round 1 0 1 0", "moduli 2 ahead 1 round 1", "moduli 2 ahead - round 2"]
def some3 : List Str := [(Str.ofString "moduli 2 ahead ") ++ Txt.mul "1 0 " 11 ++ (Str.ofString "1 round 0"), (Str.ofString "moduli 2 ahead ") ++ Txt.mul "1 0 " 12 ++ (Str.ofString "round 0"), (Str.ofString "moduli 2 ahead - round ") ++ Txt.mul "0 " 24 ++ (Str.ofString "1")]
def some4 : List Str := [(Str.ofString "moduli 2 ahead ") ++ Txt.mul "0 1 " 11 ++ (Str.ofString "1 round 0 1"), "moduli 4 ahead 3 - round 1", "moduli 4 ahead - 3 round 1", "moduli 2 ahead - round 1 round"]
def someS : List Str := some1 ++ some2 ++ some3 ++ some4
theorem some_ok : ∀ w ∈ someS, ChOk w ∧ w.length ≤ 1000000 := fun w hw => by
  have z : ∀ w ∈ someS, chB w = true ∧ w.length ≤ 1000 := by decide +kernel
  exact ⟨ch_of (z w hw).1, Nat.le_trans (z w hw).2 (by decide)⟩
theorem mulOk1 : MulOk "1 0 " 11 ∧ MulOk "1 0 " 12 ∧ MulOk "0 " 24 ∧ MulOk "0 1 " 11 := by
  unfold MulOk
  refine ⟨?_, ?_, ?_, ?_⟩
  all_goals decide +kernel
/-- a normal form's weights are weights -/
theorem norm_mem {m A T : List Int} (p2 : 2 ≤ prodI m) (rA : ∀ z ∈ A, 0 ≤ z ∧ z ≤ prodI m - 1) (rT : ∀ z ∈ T, 0 ≤ z ∧ z ≤ prodI m - 1) (tne : T ≠ []) : ∀ z, z ∈ (normW A T).1 ∨ z ∈ (normW A T).2 → 0 ≤ z ∧ z ≤ prodI m - 1 := fun z hz => by
  obtain ⟨nA, nS, nl1, nl2⟩ := normW_ok (A := A) tne
  obtain ⟨i, ei⟩ := wAt_mem hz
  rw [nS] at ei
  rw [← ei]
  have mem : ∀ {l : List Int} {j : Nat}, (∀ z ∈ l, 0 ≤ z ∧ z ≤ prodI m - 1) → j < l.length → 0 ≤ l.getD j 0 ∧ l.getD j 0 ≤ prodI m - 1 := fun {l j} hl hj => by
    rw [List.getD_eq_getElem?_getD, List.getElem?_eq_getElem hj]
    exact hl _ (List.getElem_mem hj)
  unfold wAt pAt
  split
  · rename_i c
    exact mem rA c
  · exact mem rT (Nat.mod_lt _ (List.length_pos_iff.mpr tne))
theorem ch_spaced {ns : List Int} (h : ∀ z ∈ ns, 0 ≤ z) : ChOk (spacedS ns) := by
  unfold spacedS
  split
  · exact ch_of (by decide +kernel)
  · refine ch_join (ch_of (by decide +kernel)) fun w hw => ?_
    rw [shown_nums h] at hw
    obtain ⟨n, _, rfl⟩ := List.mem_map.mp hw
    intro c hc
    have := of_decide_eq_true (List.all_eq_true.mp (digB_num n) c hc)
    omega
theorem ch_txt {ms A T : List Int} (h1 : ∀ z ∈ ms, 0 ≤ z) (h2 : ∀ z ∈ A, 0 ≤ z) (h3 : ∀ z ∈ T, 0 ≤ z) : ChOk (ruleTxt ms A T) := by
  unfold ruleTxt
  have c0 : ChOk (Str.empty ++ ("moduli " : Str)) := ch_of (by decide +kernel)
  have c1 : ChOk (" ahead " : Str) := ch_of (by decide +kernel)
  have c2 : ChOk (" round " : Str) := ch_of (by decide +kernel)
  exact ch_app (ch_app (ch_app (ch_app (ch_app c0 (ch_spaced h1)) c1) (ch_spaced h2)) c2) (ch_spaced h3)
theorem len_txt {ms A T : List Int} (f1 : FitS ms) (f2 : FitS A) (f3 : FitS T) : (ruleTxt ms A T).length ≤ 12030 := by
  have z1 := f1.2.2.2
  have z2 := f2.2.2.2
  have z3 := f3.2.2.2
  have e1 : (Str.empty ++ ("moduli " : Str)).length = 7 := by decide +kernel
  have e2 : (" ahead " : Str).length = 7 := by decide +kernel
  have e3 : (" round " : Str).length = 7 := by decide +kernel
  unfold ruleTxt
  rw [Str.length_append, Str.length_append, Str.length_append, Str.length_append, Str.length_append]
  omega
theorem own_same {C : Addr} {H : Hp} {Q : VK} {E : XK} {x y : Addr} {ms A T : List Int} (R : RuleAt C H x (ms.map V.int) A T) (R2 : RuleAt C H y (ms.map V.int) A T) (k : ∀ H', Same H H' → Q (.bl false) H') : rOwn C (spRuleEq C) E true (.ref x) (.ref y) H Q := by
  obtain ⟨dx, _, _, _, hx, _⟩ := id R
  obtain ⟨dy, _, _, _, hy, _⟩ := id R2
  exact ⟨x, dx, _, rfl, hx, .ins hy, x, ms, A, T, .ref y, rfl, R, .inl ⟨y, ms, A, T, rfl, R2, fun H' s => ⟨true, by rw [decide_eq_true ⟨rfl, rfl, rfl⟩], k H' s⟩⟩⟩
section
variable {P : Program} {w : World} {K : PySem.W.Frag} {mg : Str → Option Value} {base : Heap} {CR CN CT B uR uN uT : Addr} {fdR fdN fdT : FuncData} {C pc pb gc gb : Addr} {CW uW : Addr} {fdW : FuncData} {mc : Value}
abbrev N_law : List Str := ["_law_script", "_law_pen_here", "_law_turn", "_law_plain_here", "_law_rule_so", "_law_line", "_law_some", "_law_odd"]
theorem sc_law : FnScope N_law ["_law_script"] (defScope s_law) := ⟨rfl, rfl, rfl, by decide +kernel, rfl, by decide +kernel, by decide +kernel⟩
set_option maxHeartbeats 4000000 in
theorem ok_law {f fPn fPk fPl fNm fTx fBe fRt fHe fSt fEq fRI c TR_ TL cR cL pRd gRd : Addr} {fdPn fdPk fdPl fdNm fdTx fdBe fdRt fdRd fdSt fdEq fdRI : FuncData} {oc kV doc pm ct : Value} {od an : Option Addr} {osl : Array (Option Value)} {och kVh doch pmh cdvh cth : Value} {odh anh : Option Addr} {oslh : Array (Option Value)}
    (lk : K.lookup f = some ⟨oc, od, .func (PySem.W.fnOf "law" "law" (defArgs s_law) (defBody s_law) (defScope s_law) .none kV doc pm an (.ref c) ct), osl⟩) (hcd : PySem.W.codeIn K (.ref c) "law" = true) (TBl : TabB base mg c TL) (dis : TR_ ≠ TL)
    (T : TR mg) (m_str : mg "str" = none) (TU : TRule K mg C pc pb gc gb) (RC : RuleCls K C) (kCs : PySem.W.kitOne K (.ref C) (.type "str") = some false) (THd : THeard K mg CW B)
    (GPn : FnOk P w K mg base CX0 1 fPn fdPn ["_law_script"] (spPen K)) (gPn : mg "_law_pen" = some (.ref fPn)) (kPn : PySem.W.keepIn K (.ref fPn) = true) (bPn : Binds K fdPn ["_law_script"] [])
    (GPk : FnOk P w K mg base CX0 2 fPk fdPk ["_law_pen_here", "_law_some"] (spPick K)) (gPk : mg "_law_pick" = some (.ref fPk)) (kPk : PySem.W.keepIn K (.ref fPk) = true) (bPk : Binds K fdPk ["_law_pen_here", "_law_some"] [])
    (GPl : FnOk P w K mg base CX0 3 fPl fdPl ["_law_pen_here"] spPlain) (gPl : mg "_law_plain" = some (.ref fPl)) (kPl : PySem.W.keepIn K (.ref fPl) = true) (bPl : Binds K fdPl ["_law_pen_here"] [])
    (GNm : FnOk P w K mg base CX0 1 fNm fdNm ["_law_plain_here"] spNormal) (gNm : mg "_law_normal" = some (.ref fNm)) (kNm : PySem.W.keepIn K (.ref fNm) = true) (bNm : Binds K fdNm ["_law_plain_here"] [])
    (GTx : FnOk P w K mg base CX0 1 fTx fdTx ["_law_plain_here"] spLText) (gTx : mg "_law_text" = some (.ref fTx)) (kTx : PySem.W.keepIn K (.ref fTx) = true) (bTx : Binds K fdTx ["_law_plain_here"] [])
    (GBe : FnOk P w K mg base CX0 3 fBe fdBe ["_law_pen_here", "_law_line"] spBent) (gBe : mg "_law_bent" = some (.ref fBe)) (kBe : PySem.W.keepIn K (.ref fBe) = true) (bBe : Binds K fdBe ["_law_pen_here", "_law_line"] [])
    (GRt : FnG P w K mg base CX0 9 fRt fdRt ["_law_line"] (spRight TR_ TL)) (gRt : mg "_law_right" = some (.ref fRt)) (kRt : PySem.W.keepIn K (.ref fRt) = true) (bRt : Binds K fdRt ["_law_line"] [])
    (rcR : CRead K C mc) (cmR : CMet K C mc "read" pRd gRd) (GRd : FnOk P w K mg base (L2.CX P w) 6 gRd fdRd ["cls", "text"] (spRuleRead CW C K)) (bRd : Binds K fdRd ["cls", "text"] [])
    (nSt : PySem.W.findIn K (.ref C) "__str__" = some (some (.ref fSt))) (nSt2 : PySem.W.isFn K (.ref fSt) = true) (GSt : FnOk P w K mg base CX0 2 fSt fdSt ["self"] (spStr C)) (bSt : Binds K fdSt ["self"] [])
    (OC : OwnCmp K C fEq) (GEq : FnOk P w K mg base CX0 1 fEq fdEq ["self", "other"] (spRuleEq C)) (bEq : Binds K fdEq ["self", "other"] [])
    (MRI : Mk K C fRI) (GRI : FnOk P w K mg base (L2.CX P w) 4 fRI fdRI ["self", "moduli", "ahead", "turn"] (spInit CR CT C K)) (bRI : Binds K fdRI ["self", "moduli", "ahead", "turn"] [])
    (gHe : mg "_law_heard" = some (.ref fHe)) (kHe : PySem.W.keepIn K (.ref fHe) = true) (lkHe : K.lookup fHe = some ⟨och, odh, .func (PySem.W.fnOf "_law_heard" "_law_heard" (defArgs s__law_heard) (defBody s__law_heard) (defScope s__law_heard) .none kVh doch pmh anh cdvh cth), oslh⟩) (hcHe : PySem.W.codeIn K cdvh "_law_heard" = true)
    (bHe : L2.Binds K (PySem.W.fnOf "_law_heard" "_law_heard" (defArgs s__law_heard) (defBody s__law_heard) (defScope s__law_heard) .none kVh doch pmh anh cdvh cth) ["_law_ask"] []) :
    FnG P w K mg base CX0 10 f (PySem.W.fnOf "law" "law" (defArgs s_law) (defBody s_law) (defScope s_law) .none kV doc pm an (.ref c) ct) ["_law_script"] (spTabs K [(cR, TR_), (cL, TL)]) := by
  refine fnG_of lk hcd sc_law (fun vs H Q E h => ?_) (fun A outer s H vs Q E hgd hr h => ?_)
  · obtain ⟨a, ns, rfl, _⟩ := h
    rfl
  · obtain ⟨a, ns, rfl, hS, hl, hb, hTs, k⟩ := h
    have hrT : Room 9 _ := hr
    have hrH : Room 8 _ := hr.mono (by decide)
    have hrM : Room 5 _ := hr.mono (by decide)
    have hrR : Room 6 _ := hr.mono (by decide)
    have hrBe : Room 3 _ := hr.mono (by decide)
    have hrD : Room 3 _ := hr.mono (by decide)
    have hrSt : Room 3 _ := hr.mono (by decide)
    have hrD2 : Room 2 _ := hr.mono (by decide)
    have hrD1 : Room 1 _ := hr.mono (by decide)
    have hrC1 : Room 1 _ := hr.mono (by decide)
    have sz : PySem.sizeLine = 16777216 := rfl
    refine ⟨_, (pss_cons (ps_set (i := 1) sc_law.nd rfl (Or.inl rfl) (by exact (pe_call GPn hrC1 rfl gPn kPn bPn .nil pass0 (pa_cons (pv 0) pa_nil))))
 (pss_cons (ps_for PassesOwn.never rfl (pi_range1 rfl T.m_range (pa_cons pe_int pa_nil)) (pg_name (i := 2) sc_law.nd rfl (Or.inl rfl))
 (pss_cons (ps_set (i := 3) sc_law.nd rfl (Or.inl rfl) (by exact (pe_call GPl hrD rfl gPl kPl bPl .nil pass0 (pa_cons (pv 1) pa_nil))))
 (pss_cons (ps_par (i := 4) (j := 5) rfl sc_law.nd rfl rfl (by decide) rfl rfl (pa_cons (pe_make MRI GRI hrM rfl TU.gC bRI .nil passL (pa_cons (pe_ix ix_tup (pv 3) pe_int (fun _ _ => rfl)) (pa_cons (pe_ix ix_tup (pv 3) pe_int (fun _ _ => rfl)) (pa_cons (pe_ix ix_tup (pv 3) pe_int (fun _ _ => rfl)) pa_nil)))) (pa_cons (pe_call GTx hrD1 rfl gTx kTx bTx .nil pass0 (pa_cons (pe_call GNm hrD1 rfl gNm kNm bNm .nil pass0 (pa_cons (pv 3) pa_nil)) pa_nil)) pa_nil)) rfl)
 (pss_cons (ps_if (PW.pt (pw_or (pt_cmpR op_ne (pe_callTy (call_strI GSt bSt hrSt nSt nSt2 pass0) (by rfl) m_str (by decide +kernel) (pa_cons (pv 4) pa_nil)) (pv 5) (nomark _)) (pw_or (pt_cmpR (op_neOwn GEq OC bEq hrD2 pass0) (pe_cmeth (pe_glob (v := .ref C) rfl TU.gC rfl) rcR cmR (GRd.raw bRd .nil) hrR passL (pa_cons (pv 5) pa_nil)) (pv 4) (nomark _)) (pw_or1 (pt_not (pt_val (pe_callG GRt hgd hrT rfl gRt kRt bRt .nil pass0 (pa_cons (pe_call GTx hrD1 rfl gTx kTx bTx .nil pass0 (pa_cons (pv 3) pa_nil)) pa_nil)))))))) (pss_one (ps_ret pe_bl)) pss_nil)
 (pss_one (ps_if (PW.pt (pw_or (pt_not (pt_val (pe_callG GRt hgd hrT rfl gRt kRt bRt .nil pass0 (pa_cons (pv 5) pa_nil)))) (pw_or (pt_not (pt_val (pe_callG GRt hgd hrT rfl gRt kRt bRt .nil pass0 (pa_cons (pe_call GBe hrBe rfl gBe kBe bBe .nil pass0 (pa_cons (pv 1) (pa_cons (pv 5) pa_nil))) pa_nil)))) (pw_or1 (pt_not (pt_val (pe_callG GRt hgd hrT rfl gRt kRt bRt .nil pass0 (pa_cons (pe_call GBe hrBe rfl gBe kBe bBe .nil pass0 (pa_cons (pv 1) (pa_cons (pe_call GBe hrBe rfl gBe kBe bBe .nil pass0 (pa_cons (pv 1) (pa_cons (pv 5) pa_nil))) pa_nil))) pa_nil)))))))) (pss_one (ps_ret pe_bl)) pss_nil))))))
 (pss_cons (ps_set (i := 6) sc_law.nd rfl (Or.inl rfl) (pe_lst (pa_cons pe_str (pa_cons pe_str (pa_cons pe_str (pa_cons pe_str (pa_cons pe_str (pa_cons pe_str (pa_cons pe_str pa_nil)))))))))
 (pss_cons (ps_set (i := 6) sc_law.nd rfl (Or.inl rfl) (pe_op op_cat (pv 6) (pe_lst (pa_cons pe_str (pa_cons pe_str (pa_cons pe_str (pa_cons pe_str pa_nil)))))))
 (pss_cons (ps_set (i := 6) sc_law.nd rfl (Or.inl rfl) (pe_op op_cat (pv 6) (pe_lst (pa_cons (pe_op op_add_str (pe_op op_add_str pe_str (pe_op op_mulS pe_str pe_int)) pe_str) (pa_cons (pe_op op_add_str (pe_op op_add_str pe_str (pe_op op_mulS pe_str pe_int)) pe_str) (pa_cons (pe_op op_add_str (pe_op op_add_str pe_str (pe_op op_mulS pe_str pe_int)) pe_str) pa_nil))))))
 (pss_cons (ps_set (i := 6) sc_law.nd rfl (Or.inl rfl) (pe_op op_cat (pv 6) (pe_lst (pa_cons (pe_op op_add_str (pe_op op_add_str pe_str (pe_op op_mulS pe_str pe_int)) pe_str) (pa_cons pe_str (pa_cons pe_str (pa_cons pe_str pa_nil)))))))
 (pss_cons (ps_if (pt_cmpR (op_neD hrD1.units) (pe_lc (own := [("_law_line", 5)]) (g := (gName 5)) rfl sc_law.nd (pi_list (pv 6)) (blkOk_by (N := N_law) (sc := defScope s_law) (by decide +kernel)) (fun _ _ _ _ _ => (pg_name (i := 5) sc_law.nd rfl (Or.inl rfl))) (fun _ _ _ _ _ => (pts_one (pt_not (pt_val (pe_callG GRt hgd hrT rfl gRt kRt bRt .nil pass0 (pa_cons (pv 5) pa_nil)))))) (fun _ _ _ _ _ => (pv 5))) (pe_lst pa_nil) (nomark _)) (pss_one (ps_ret pe_bl)) pss_nil)
 (pss_cons (ps_set (i := 7) sc_law.nd rfl (Or.inr rfl) (by exact (pe_call GPk hrD2 rfl gPk kPk bPk .nil pass0 (pa_cons (pv 1) (pa_cons (pe_lst (pa_cons pe_non (pa_cons pe_int (pa_cons pe_bl (pa_cons (pe_lst (pa_cons pe_str pa_nil)) (pa_cons (pe_tup (pa_cons pe_str pa_nil)) (pa_cons pe_dnewK (pa_cons (pe_make MRI GRI hrM rfl TU.gC bRI .nil passL (pa_cons (pe_tup (pa_cons pe_int pa_nil)) (pa_cons (pe_tup pa_nil) (pa_cons (pe_tup (pa_cons pe_int pa_nil)) pa_nil)))) pa_nil)))))))) pa_nil)))))
 (pss_one (ps_ret (pe_cmpR (op_eqD hrD1.units) (pe_lamcall (T := T2 TR_ TL) (TT := TTH CW C) (k := 6) (t := (fun E => tCMeth C (fun vs H Q E => spRuleRead CW C K (vs ++ []) H Q E) E (tC (.ref C)) (tCons (tVar 7) tNil))) rfl gHe kHe lkHe hcHe bHe sc__law_heard rfl (Or.inl rfl) (heard_gives THd hrH hgd GSt bSt nSt nSt2) TBl rfl t2_l (t2u_l dis) hrH (lamS_by (show lamSB (defScope s_law) _ = true by decide +kernel)) rfl (fun _ _ _ _ _ => rfl) (fun A outer s H E f c' hr => (pe_cmeth (pe_glob (v := .ref C) rfl TU.gC rfl) rcR cmR (GRd.raw bRd .nil) hr (passes_call (takes_of rfl rfl rfl rfl) fun _ _ _ _ h => h) (pa_cons (pv 7) pa_nil)))) (pe_tup (pa_cons pe_int (pa_cons pe_int pa_nil))) (nomark _)))))))))))), ?_⟩
    refine ⟨_, rfl, a, ns, rfl, hS, hl, hb, fun H1 p l s1 np P1 => ?_⟩
    refine ⟨14, rfl, by decide, by decide, for_it walk_range (fun i σ G => ∃ (a' b' : Int) (u2 u3 u4 u5 u6 u7 : Option V), σ = [some (.ref a), some (.ref p), u2, u3, u4, u5, u6, u7] ∧ PenAt G p l ns a' b' ∧ a' ≤ 60 * (i : Int) ∧ Tabs (T2 TR_ TL) G) ?_ (fun _ _ _ _ _ => trivial) ?_ ?_⟩
    · refine ⟨0, 0, none, none, none, none, none, none, rfl, P1, by omega, fun y hy => ?_⟩
      have h1 := hTs _ List.mem_cons_self
      have h2 := hTs _ (List.mem_cons_of_mem _ List.mem_cons_self)
      rcases t2_cases hy with rfl | rfl
      · exact TabS.nil (s1 _ _ h1)
      · exact TabS.nil (s1 _ _ h2)
    · rintro i v σ G G' hi ⟨a', b', u2, u3, u4, u5, u6, u7, rfl, PG, ha, tb⟩ ⟨rfl, rfl⟩
      have hi2 : i < 14 := hi
      refine ⟨_, rfl, p, l, ns, a', b', rfl, PG, by omega, fun G1 q pm pa pt msV as ts a1 b1 bt1 PP1 h11 hq hm hA hT okm rA rT lA tne lT _ => ?_⟩
      obtain ⟨ms, rfl, hM, m0, p32, p2⟩ := mods_of okm
      have tb1 := tabs_but PG.pen bt1 tb
      have low1 := PP1.low
      clear bt1 PG tb
      refine ⟨_, rfl, q, _, 0, .ref pm, rfl, rfl, SqT.of hq, atI_nat (j := 0) rfl, _, rfl, q, _, 1, .ref pa, rfl, rfl, SqT.of hq, atI_nat (j := 1) rfl, _, rfl, q, _, 2, .ref pt, rfl, rfl, SqT.of hq, atI_nat (j := 2) rfl, fun x dx nx ndx ne => ?_⟩
      obtain ⟨nf, nS, nl1, nl2⟩ := normW_ok (A := as) tne
      obtain ⟨_, f1, f2, f3, f4, f5⟩ := fits_norm okm rA rT tne (by omega)
      refine init_ok (A := noA) nx ndx (argA_mods (.inr hm) (fun z => z) okm) (argA_ints (.inr hA) (fun z => z) (by omega)) (argA_ints (.inr hT) (fun z => z) (by omega)) (ruleErr_ok okm rA rT tne) (fun big => absurd big (by omega)) (fun _ G2 s2 R2 => ⟨rfl, ?_⟩)
      clear nx ndx ne
      refine ⟨_, rfl, q, pa, pt, .ref pm, as, ts, rfl, s2 _ _ hq, s2 _ _ hA, s2 _ _ hT, tne, by omega, by omega, fun G3 q2 xa xt A2 T2 s3 hq2 hxa hxt prim edge wts l1 l2 _ _ => ?_⟩
      obtain ⟨e1, e2⟩ := norm_uniq nf ⟨prim, edge⟩ fun i => by rw [nS, wts]
      subst e1 e2
      refine ⟨q2, ms, _, _, rfl, ⟨pm, xa, xt, hq2, s3 _ _ (s2 _ _ hm), hxa, hxt⟩, f1, f4, f5, m0, prim.1, fun G4 s4 => ⟨_, _, rfl, ?_⟩⟩
      have R4 := R2.same fun _ _ z => s4 _ _ (s3 _ _ z)
      have S4 : Same G1 G4 := fun _ _ z => s4 _ _ (s3 _ _ (s2 _ _ z))
      have P4 := pen_same S4 PP1
      have tb4 := tb1.ext S4
      have q4 : PlainAt G4 q ms as ts := ⟨pm, pa, pt, S4 _ _ hq, S4 _ _ hm, S4 _ _ hA, S4 _ _ hT⟩
      clear R2 s2 s3 s4 S4 hq2 hxa hxt hq hm hA hT PP1 tb1
      rw [prodV_map] at rA rT
      have nm := norm_mem p2 rA rT tne
      have rO := ruleOf_txt okm (fun z hz => nm z (.inl hz)) (fun z hz => nm z (.inr hz)) nf (by omega)
      have cL : ChOk (ruleTxt ms (normW as ts).1 (normW as ts).2) := ch_txt (fun z hz => by have := hM.2 z hz; omega) (fun z hz => (nm z (.inl hz)).1) (fun z hz => (nm z (.inr hz)).1)
      have lL := len_txt f1 f4 f5
      have cT : ChOk (ruleTxt ms as ts) := ch_txt (fun z hz => by have := hM.2 z hz; omega) (fun z hz => (rA z hz).1) (fun z hz => (rT z hz).1)
      have lT0 := len_txt f1 f2 f3
      obtain ⟨dy, _, _, _, hx4, _⟩ := id R4
      refine ⟨_, rfl, x, dy, _, rfl, hx4, x, ms, _, _, rfl, R4, f1, f4, f5, fun G5 s5 => ⟨_, rfl, _, rfl, rfl, _, rfl, ?_⟩⟩
      refine ite_no (by simp) ?_
      refine ⟨rfl, _, rfl, ?_⟩
      delta tNil
      refine (show spRuleRead CW C K [.ref C, .str (ruleTxt ms (normW as ts).1 (normW as ts).2)] _ _ _ from ?_)
      refine read_ans (by omega) cL (fun e => by rw [rO] at e; cases e) (fun m2 A2 T2 e G6 y s6 R6 => ?_)
      rw [rO] at e
      cases e
      refine ⟨_, rfl, own_same R6 (R4.same fun _ _ z => s6 _ _ (s5 _ _ z)) fun G7 s7 => ⟨_, rfl, iteF ?_⟩⟩
      have S7 : Same G4 G7 := fun _ _ z => s7 _ _ (s6 _ _ (s5 _ _ z))
      refine ⟨_, rfl, q, ms, as, ts, rfl, q4.same S7, f1, f2, f3, m0, tne, fun G8 s8 => ?_⟩
      have S8 : Same G4 G8 := fun _ _ z => s8 _ _ (S7 _ _ z)
      refine ⟨_, rfl, by omega, cT, tb4.ext S8, fun G9 e9 t9 => ?_⟩
      have P9 := pen_ext e9 (pen_same S8 P4)
      refine ⟨_, rfl, iteF ?_⟩
      clear R4 R6 S7 S8 s5 s6 s7 s8 q4 tb4 P4 hx4
      refine ⟨_, rfl, _, rfl, by omega, cL, t9, fun G10 e10 t10 => ⟨_, rfl, iteF ?_⟩⟩
      have P10 := pen_ext e10 P9
      refine ⟨_, rfl, _, rfl, p, l, ns, _, _, _, rfl, P10, by omega, cL, by omega, fun G11 u a2 b2 bt11 P11 l21 l22 cu lu => ?_⟩
      refine ⟨_, rfl, by omega, cu, tabs_but P10.pen bt11 t10, fun G12 e12 t12 => ⟨_, rfl, iteF ?_⟩⟩
      have P12 := pen_ext e12 P11
      refine ⟨_, rfl, _, rfl, _, rfl, p, l, ns, _, _, _, rfl, P12, by omega, cL, by omega, fun G13 v a3 b3 bt13 P13 l31 l32 cv lv => ?_⟩
      refine ⟨p, l, ns, _, _, _, rfl, P13, by omega, cv, by omega, fun G14 v2 a4 b4 bt14 P14 l41 l42 cv2 lv2 => ?_⟩
      refine ⟨_, rfl, by omega, cv2, tabs_but P13.pen bt14 (tabs_but P12.pen bt13 t12), fun G15 e15 t15 => ⟨_, rfl, iteF ?_⟩⟩
      exact ⟨_, _, _, _, _, _, _, _, rfl, pen_ext e15 P14, by omega, t15⟩
    · rintro σ G ⟨a', b', u2, u3, u4, u5, u6, u7, rfl, PG, ha, tb⟩
      have ha2 : a' ≤ 900 := by
        have : ((14 : Int).toNat : Int) = 14 := rfl
        omega
      obtain ⟨mo1, mo2, mo3, mo4⟩ := mulOk1
      refine ⟨(by show 7 ≤ PySem.sizeLine; decide), fun c1 g1 => ?_⟩
      change gName 6 (V.ref c1) _ (upd G c1 (.lst (some1.map V.str))) _
      have s1 : Same G (upd G c1 (.lst (some1.map V.str))) := Same.lay g1
      have h1 : (upd G c1 (.lst (some1.map V.str))) c1 = some (.lst (some1.map V.str)) := upd_same
      generalize upd G c1 (.lst (some1.map V.str)) = G1 at s1 h1 ⊢
      refine ⟨_, rfl, (by show 4 ≤ PySem.sizeLine; decide), fun c2 g2 => ?_⟩
      have y2 := Same.lay (o := .lst (some2.map V.str)) g2
      refine ⟨c1, c2, some1.map V.str, some2.map V.str, rfl, rfl, y2 _ _ h1, upd_same, by decide, fun c3 g3 => ?_⟩
      have y3 := Same.lay (o := .lst ((some1 ++ some2).map V.str)) g3
      change gName 6 (V.ref c3) _ (upd (upd G1 c2 (.lst (some2.map V.str))) c3 (.lst ((some1 ++ some2).map V.str))) _
      have s3 : Same G (upd (upd G1 c2 (.lst (some2.map V.str))) c3 (.lst ((some1 ++ some2).map V.str))) := fun _ _ z => y3 _ _ (y2 _ _ (s1 _ _ z))
      have h3 : (upd (upd G1 c2 (.lst (some2.map V.str))) c3 (.lst ((some1 ++ some2).map V.str))) c3 = some (.lst ((some1 ++ some2).map V.str)) := upd_same
      generalize upd (upd G1 c2 (.lst (some2.map V.str))) c3 (.lst ((some1 ++ some2).map V.str)) = G3 at s3 h3 ⊢
      clear y2 y3 s1 h1 g1 g2 g3
      refine ⟨_, rfl, _, _, rfl, rfl, mo1, _, _, rfl, rfl, (by decide +kernel), _, _, rfl, rfl, (by decide +kernel), _, _, rfl, rfl, mo2, _, _, rfl, rfl, (by decide +kernel), _, _, rfl, rfl, (by decide +kernel), _, _, rfl, rfl, mo3, _, _, rfl, rfl, (by decide +kernel), _, _, rfl, rfl, (by decide +kernel), (by show 3 ≤ PySem.sizeLine; decide), fun c4 g4 => ?_⟩
      have y4 := Same.lay (o := .lst (some3.map V.str)) g4
      refine ⟨c3, c4, (some1 ++ some2).map V.str, some3.map V.str, rfl, rfl, y4 _ _ h3, upd_same, by decide, fun c5 g5 => ?_⟩
      have y5 := Same.lay (o := .lst ((some1 ++ some2 ++ some3).map V.str)) g5
      change gName 6 (V.ref c5) _ (upd (upd G3 c4 (.lst (some3.map V.str))) c5 (.lst ((some1 ++ some2 ++ some3).map V.str))) _
      have s5 : Same G (upd (upd G3 c4 (.lst (some3.map V.str))) c5 (.lst ((some1 ++ some2 ++ some3).map V.str))) := fun _ _ z => y5 _ _ (y4 _ _ (s3 _ _ z))
      have h5 : (upd (upd G3 c4 (.lst (some3.map V.str))) c5 (.lst ((some1 ++ some2 ++ some3).map V.str))) c5 = some (.lst ((some1 ++ some2 ++ some3).map V.str)) := upd_same
      generalize upd (upd G3 c4 (.lst (some3.map V.str))) c5 (.lst ((some1 ++ some2 ++ some3).map V.str)) = G5 at s5 h5 ⊢
      clear y4 y5 s3 h3 g4 g5
      refine ⟨_, rfl, _, _, rfl, rfl, mo4, _, _, rfl, rfl, (by decide +kernel), _, _, rfl, rfl, (by decide +kernel), (by show 4 ≤ PySem.sizeLine; decide), fun c6 g6 => ?_⟩
      have y6 := Same.lay (o := .lst (some4.map V.str)) g6
      refine ⟨c5, c6, (some1 ++ some2 ++ some3).map V.str, some4.map V.str, rfl, rfl, y6 _ _ h5, upd_same, by decide, fun S hS => ?_⟩
      have y7 := Same.lay (o := .lst (someS.map V.str)) hS
      change gName 6 (V.ref S) _ (upd (upd G5 c6 (.lst (some4.map V.str))) S (.lst (someS.map V.str))) _
      have sS : Same G (upd (upd G5 c6 (.lst (some4.map V.str))) S (.lst (someS.map V.str))) := fun _ _ z => y7 _ _ (y6 _ _ (s5 _ _ z))
      have hSS : (upd (upd G5 c6 (.lst (some4.map V.str))) S (.lst (someS.map V.str))) S = some (.lst (someS.map V.str)) := upd_same
      generalize upd (upd G5 c6 (.lst (some4.map V.str))) S (.lst (someS.map V.str)) = GS at sS hSS ⊢
      clear y6 y7 s5 h5 g6 hS
      have tbS := tb.ext sS
      have PS := pen_same sS PG
      refine ⟨_, rfl, S, rfl, ⟨_, SqL.of hSS⟩, fun D3 hD3 => ?_⟩
      have y3 := Same.lay (o := .lst []) hD3
      refine lc_it (walk_list (xs := someS.map V.str)) (fun i G => ExtN (upd GS D3 (.lst [])) G ∧ Tabs (T2 TR_ TL) G) ⟨ExtN.refl _, tbS.ext y3⟩ (fun i G _ z => SqL.of (z.1 _ _ (y3 _ _ hSS) fun _ y => by cases y)) ?_ ?_
      · rintro i x G3 G4 hi ⟨eG, tG⟩ ⟨rfl, hx⟩
        rw [List.getElem?_map] at hx
        obtain ⟨w, hw, rfl⟩ := Option.map_eq_some_iff.mp hx
        obtain ⟨cw, lw⟩ := some_ok w (List.mem_of_getElem? hw)
        refine ⟨rfl, _, rfl, w, rfl, lw, cw, tG, fun G5 e5 t5 => ⟨_, rfl, iteF ⟨ExtN.trans eG e5, t5⟩⟩⟩
      rintro G3 ⟨eG, tG⟩
      have hD := eG _ _ upd_same fun _ y => by cases y
      have PG3 := pen_ext eG (pen_same y3 PS)
      refine ⟨(by show 0 ≤ PySem.sizeLine; decide), fun E1 hE1 => ?_⟩
      have y4 := Same.lay (o := .lst []) hE1
      refine ⟨.list [], .list [], .lst (SqL.of (y4 _ _ hD)) .nil, .lst (SqL.of upd_same) .nil, rfl, rfl, _, rfl, ?_⟩
      refine iteF ?_
      have PA := pen_same y4 PG3
      have tA := tG.ext y4
      generalize upd G3 E1 (.lst []) = G at PA tA ⊢
      clear y4 y3 hD hE1 eG tG PG3 PG tb PS tbS sS hSS hD3
      refine ⟨_, rfl, ?_⟩
      refine ⟨(by show 1 ≤ PySem.sizeLine; decide), fun e1 g1 => ?_⟩
      have y1 := Same.lay (o := .lst [V.str "moduli"]) g1
      refine ⟨(by show 1 ≤ PySem.sizeLine; decide), fun e2 g2 => ?_⟩
      have y2 := Same.lay (o := .tup [V.str "moduli"]) g2
      refine fun e3 g3 => ?_
      have y3 := Same.lay (o := .dK []) g3
      refine ⟨(by show 1 ≤ PySem.sizeLine; decide), fun e4 g4 => ⟨(by show 0 ≤ PySem.sizeLine; decide), fun e5 g5 => ⟨(by show 1 ≤ PySem.sizeLine; decide), fun e6 g6 => ?_⟩⟩⟩
      have y4 := Same.lay (o := .tup [V.int 2]) g4
      have y5 := Same.lay (o := .tup []) g5
      have y6 := Same.lay (o := .tup [V.int 1]) g6
      refine fun x dx nx ndx ne => ?_
      have okm : okMod (some [V.int 2]) = true := by decide
      refine init_ok (A := noA) (ms := [V.int 2]) (ns := []) (ts := [1]) nx ndx (argA_mods (.inr (y6 _ _ (y5 _ _ upd_same))) (fun z => z) okm) (argA_ints (.inr (y6 _ _ upd_same)) (fun z => z) (by decide)) (argA_ints (.inr upd_same) (fun z => z) (by decide)) (ruleErr_ok okm (fun _ z => absurd z List.not_mem_nil) (fun z hz => by rw [List.mem_singleton.mp hz]; decide) (by decide)) (fun big => absurd big (by decide +kernel)) (fun _ GE sE RE => ⟨rfl, ?_⟩)
      have k1 := sE _ _ (y6 _ _ (y5 _ _ (y4 _ _ (y3 _ _ (y2 _ _ upd_same)))))
      have k2 := sE _ _ (y6 _ _ (y5 _ _ (y4 _ _ (y3 _ _ upd_same))))
      have k3 := sE _ _ (y6 _ _ (y5 _ _ (y4 _ _ upd_same)))
      have s3 : Same G GE := fun _ _ z => sE _ _ (y6 _ _ (y5 _ _ (y4 _ _ (y3 _ _ (y2 _ _ (y1 _ _ z))))))
      have PE1 := pen_same s3 PA
      have tE := tA.ext s3
      obtain ⟨dE, _, _, _, iE, _⟩ := RE
      clear y1 y2 y3 y4 y5 y6 s3 sE nx ndx ne g1 g2 g3 g4 g5 g6
      refine ⟨(by show 7 ≤ PySem.sizeLine; decide), fun L6 hL6 => ?_⟩
      have y4 := Same.lay (o := .lst [V.non, V.int 0, V.bl true, V.ref e1, V.ref e2, V.ref e3, V.ref x]) hL6
      have nL6 : L6 ≠ p := (ne_of_none PE1.pen hL6).symm
      refine ⟨p, l, L6, ns, a', b', _, rfl, pen_same y4 PE1, by omega, SqL.of upd_same, nL6, (by show 0 < 7; decide), (by show 7 ≤ 1000; decide), fun GF j v a6 b6 hv h61 h62 bt6 P6 => ?_⟩
      have kF : ∀ {b : Addr} {o : HO}, GE b = some o → (∀ xs, o ≠ .lst xs ∨ b ≠ p) → GF b = some o := fun {b o} hb hn => bt6 _ _ (fun z => by
        rw [z, PE1.pen] at hb
        rcases hn _ with h | h
        · exact h (Option.some.inj hb).symm
        · exact h z) (y4 _ _ hb)
      have ne1 : e1 ≠ p := fun z => by
        have := PE1.pen
        rw [← z, k1] at this
        cases this
      have tF := tabs_but PE1.pen (But.trans (But.of y4) bt6) tE
      refine ⟨tF, fun G2 e2x T2x => ?_⟩
      have nst2 : NotStr K G2 v := by
        have hv2 := List.mem_of_getElem? hv
        simp only [List.mem_cons, List.not_mem_nil, or_false] at hv2
        rcases hv2 with rfl | rfl | rfl | rfl | rfl | rfl | rfl
        · exact ⟨_, (Plain.non (K := K)).ty, rfl⟩
        · exact ⟨_, (Plain.int (K := K) 0).ty, rfl⟩
        · exact ⟨_, (Plain.bl (K := K) true).ty, rfl⟩
        · exact ⟨_, (Plain.lst (K := K) (e2x _ _ (kF k1 fun _ => .inr ne1) fun _ z => by cases z)).ty, rfl⟩
        · exact ⟨_, (Plain.tup (K := K) (e2x _ _ (kF k2 fun _ => .inl fun z => by cases z) fun _ z => by cases z)).ty, rfl⟩
        · exact ⟨_, (Plain.dK (K := K) (e2x _ _ (kF k3 fun _ => .inl fun z => by cases z) fun _ z => by cases z)).ty, rfl⟩
        · exact ⟨_, .base (.ins (e2x _ _ (kF iE fun _ => .inl fun z => by cases z) fun _ z => by cases z) RC.cl RC.ha RC.hn RC.ht RC.hm), kCs⟩
      refine ⟨rfl, _, rfl, v, rfl, .inr ⟨nst2, fun d H' hd s5 hx => ?_⟩⟩
      refine ⟨.int 0, .int 0, ⟨d, rfl, rfl, hx⟩, fun H3 w s6 hw => ?_⟩
      refine ⟨(by show 2 ≤ PySem.sizeLine; decide), fun t ht => ?_⟩
      have y7 := Same.lay (o := .tup [V.int 0, V.int 0]) ht
      refine ⟨.tuple [.int 0, .int 0], .tuple [.int 0, .int 0], .tup (SqT.of (y7 _ _ hw)) (.cons (.int _) (.cons (.int _) .nil)), .tup (SqT.of upd_same) (.cons (.int _) (.cons (.int _) .nil)), by decide +kernel, by decide +kernel, ?_⟩
      rw [show PyData.eqv (.tuple [.int 0, .int 0]) (.tuple [.int 0, .int 0]) = true by decide +kernel]
      exact k _
end
end Toy
set_option maxRecDepth 100000
namespace L2
open PySem PySem.Spec PyProof.Rows
/-- what the written part says of an own error class below B, itself right below ValueError -/
def XL (K : PySem.W.Frag) (C B : Addr) : Prop := ∃ nm q N bs sn sub ab col dd k0 k1 k2 k3 k5, K.lookup C = some (excClassObj nm q C N bs (.ref B :: PySem.HandSPX.veTail) true sn sub ab col dd k0 k1 k2 k3 k5 "ValueError.__new__")
theorem XL.cls {K : PySem.W.Frag} {C B : Addr} (h : XL K C B) : ∃ cd : ClassData, PySem.W.clsIn K C = some cd ∧ cd.mro = .ref C :: .ref B :: PySem.HandSPX.veTail ∧ cd.hasDict = true := by
  obtain ⟨nm, q, N, bs, sn, sub, ab, col, dd, k0, k1, k2, k3, k5, e⟩ := h
  refine ⟨_, by unfold PySem.W.clsIn; rw [e] <;> rfl, rfl, rfl⟩
theorem XL.ty {K : PySem.W.Frag} {C B : Addr} (h : XL K C B) : PySem.W.typeIn K (.ref C) = some (.type "type") := by
  obtain ⟨nm, q, N, bs, sn, sub, ab, col, dd, k0, k1, k2, k3, k5, e⟩ := h
  show (K.lookup C).map (·.cls) = _
  rw [e]
  rfl
theorem XL.mro {K : PySem.W.Frag} {C B : Addr} (h : XL K C B) (x : Value) : PySem.W.mroIn K C x = some ((.ref C :: .ref B :: PySem.HandSPX.veTail).contains x) := by
  obtain ⟨cd, e, m, _⟩ := h.cls
  unfold PySem.W.mroIn
  rw [e, Option.bind_some, m]
  rfl
theorem XL.isC {K : PySem.W.Frag} {C B : Addr} (h : XL K C B) : (PySem.W.clsIn K C).isSome = true := by
  obtain ⟨cd, e, _⟩ := h.cls
  rw [e]
  rfl
theorem XL.dict {K : PySem.W.Frag} {C B : Addr} (h : XL K C B) : PySem.W.hasDictIn K C = true := by
  obtain ⟨cd, e, _, d⟩ := h.cls
  unfold PySem.W.hasDictIn
  rw [e]
  exact d
theorem XL.x {K : PySem.W.Frag} {C B : Addr} (h : XL K C B) (sa : PySem.W.findIn K (.ref C) "__setattr__" = some (some (.builtin "object.__setattr__"))) (ga : PySem.W.findIn K (.ref C) "__getattribute__" = some (some (.builtin "BaseException.__getattribute__")))
    (gg : PySem.W.findIn K (.ref C) "__getattr__" = some none) (ca : PySem.W.findIn K (.ref C) "__class__" = some (some (.builtin "object.__class__"))) (kC : PySem.W.keepIn K (.ref C) = true)
    (gs : PySem.W.specialIn K (.builtin "object.__class__") "__get__" = some (some (.builtin "getset_descriptor.__get__"))) (tk : PySem.W.takesIn K (.builtin "object.__class__") = some true) : XvC K C where
  oex := {
    cls := by
      obtain ⟨nm, q, N, bs, sn, sub, ab, col, dd, k0, k1, k2, k3, k5, e⟩ := h
      exact ⟨nm, q, N, bs, _, sn, sub, ab, col, dd, k0, k1, k2, k3, k5, e, by show PySem.HandSPX.refsVE PySem.HandSPX.veTail = true; decide +kernel⟩
    sa := sa
    exC := (h.mro _).trans (by simp)
    tyC := h.ty
    kC := kC }
  ga := ga
  gg := gg
  dd := h.dict
  ic := h.isC
  ca := ca
  gs := gs
  tk := tk
  mo := (h.mro _).trans (by simp)
theorem kit_own {K : PySem.W.Frag} {C B D : Addr} (h : XL K C B) (hd : (PySem.W.clsIn K D).isSome = true) (ht : PySem.W.typeIn K (.ref D) = some (.type "type")) : PySem.W.kitOne K (.ref C) (.ref D) = some (decide (C = D) || decide (B = D)) := by
  unfold PySem.W.kitOne
  by_cases e : C = D
  · subst e
    simp
  · have e1 : (Value.ref C == Value.ref D) = false := by simpa using e
    rw [e1, if_neg Bool.false_ne_true]
    unfold PySem.W.kitCls
    have e2 : ((PySem.W.clsIn K D).isSome && PySem.W.typeIn K (.ref D) == some (.type "type")) = true := by rw [hd, ht]; rfl
    show (if ((PySem.W.clsIn K D).isSome && PySem.W.typeIn K (.ref D) == some (.type "type")) = true then PySem.W.mroIn K C (.ref D) else none) = _
    rw [if_pos e2, h.mro]
    have e3 : (Value.ref D == Value.ref C) = false := by simpa using fun z => e z.symm
    by_cases e4 : B = D
    · subst e4
      simp [e]
    · have e5 : ¬ D = B := fun z => e4 z.symm
      have e7 : (Value.ref D == Value.ref B) = false := by simpa using e5
      rw [decide_eq_false e, decide_eq_false e4]
      rw [List.contains_cons, e3, List.contains_cons, e7]
      rfl
theorem kit_ve {K : PySem.W.Frag} {C B : Addr} (h : XL K C B) : PySem.W.kitOne K (.ref C) (.type "ValueError") = some true := by
  unfold PySem.W.kitOne
  have e1 : (Value.ref C == Value.type "ValueError") = false := rfl
  rw [e1, if_neg Bool.false_ne_true]
  show (if PySem.W.kitMeta "ValueError" = true then PySem.W.mroIn K C (.type "ValueError") else none) = _
  rw [if_pos (by decide +kernel), h.mro]
  simp
end L2
set_option maxRecDepth 100000
namespace L2
open PySem PySem.Spec PyProof.Rows
/-! facts of the top as Bools of the written part -/
/-- an own error class right below B, itself right below ValueError -/
def xlB (K : PySem.W.Frag) (C B : Addr) : Bool := match K.lookup C with
  | some ⟨.type "type", _, .cls cd, sl⟩ => (match cd.mro, sl.toList with
    | .ref C' :: .ref B' :: rest, [_, _, _, _, some (.builtin n), _] => decide (C' = C) && (decide (B' = B) && (decide (n = "ValueError.__new__") && (!cd.hasDel && (cd.hasDict && decide (rest = PySem.HandSPX.veTail)))))
    | _, _ => false)
  | _ => false
theorem xl_of {K : PySem.W.Frag} {C B : Addr} (q : xlB K C B = true) : XL K C B := by
  unfold xlB at q
  split at q
  · rename_i dd cd sl ho
    split at q
    · rename_i C' B' rest k0 k1 k2 k3 n k5 hm hs
      simp only [Bool.and_eq_true, decide_eq_true_eq, Bool.not_eq_true'] at q
      obtain ⟨rfl, rfl, rfl, hdel, hdict, rfl⟩ := q
      obtain ⟨nm, bs, mro, ns, qn, hd, sn, sub, ab, col, del⟩ := cd
      dsimp only at hm hdel hdict
      subst hm hdel hdict
      have hsl : sl = #[k0, k1, k2, k3, some (.builtin "ValueError.__new__"), k5] := by
        obtain ⟨l⟩ := sl
        simp only at hs
        rw [hs]
      subst hsl
      exact ⟨nm, qn, ns, bs, sn, sub, ab, col, dd, k0, k1, k2, k3, k5, ho⟩
    · cases q
  · cases q
/-- what is asked of such a class beside -/
def xcB (K : PySem.W.Frag) (C : Addr) : Bool := decide (PySem.W.findIn K (.ref C) "__setattr__" = some (some (.builtin "object.__setattr__"))) && (decide (PySem.W.findIn K (.ref C) "__getattribute__" = some (some (.builtin "BaseException.__getattribute__"))) &&
  (decide (PySem.W.findIn K (.ref C) "__getattr__" = some none) && (decide (PySem.W.findIn K (.ref C) "__class__" = some (some (.builtin "object.__class__"))) && (PySem.W.keepIn K (.ref C) &&
  (decide (PySem.W.specialIn K (.builtin "object.__class__") "__get__" = some (some (.builtin "getset_descriptor.__get__"))) && decide (PySem.W.takesIn K (.builtin "object.__class__") = some true))))))
theorem xc_of {K : PySem.W.Frag} {C B : Addr} (l : XL K C B) (q : xcB K C = true) : XvC K C := by
  unfold xcB at q
  simp only [Bool.and_eq_true, decide_eq_true_eq] at q
  obtain ⟨h1, h2, h3, h4, h5, h6, h7⟩ := q
  exact l.x h1 h2 h3 h4 h5 h6 h7
/-- a property's getter -/
def getterOf (K : PySem.W.Frag) (p : Addr) : Addr := match PySem.W.recIn K p "property" with
  | some (.ref g :: _) => g
  | _ => 0
def propB (K : PySem.W.Frag) (C : Addr) (f : Str) : Bool := decide (PySem.W.findIn K (.ref C) f = some (some (.ref (He.ma K C f)))) && (decide (PySem.W.specialIn K (.ref (He.ma K C f)) "__get__" = some (some (.builtin "property.__get__"))) &&
  (decide (PySem.W.takesIn K (.ref (He.ma K C f)) = some true) && (match PySem.W.recIn K (He.ma K C f) "property" with
    | some (.ref _ :: _) => true
    | _ => false)))
theorem prop_of {K : PySem.W.Frag} {C : Addr} {f : Str} (q : propB K C f = true) : PropOf K C f (He.ma K C f) (getterOf K (He.ma K C f)) := by
  unfold propB at q
  simp only [Bool.and_eq_true, decide_eq_true_eq] at q
  obtain ⟨h1, h2, h3, h4⟩ := q
  refine ⟨h1, h2, h3, ?_⟩
  split at h4
  · rename_i g rest e
    exact ⟨rest, by unfold getterOf; rw [e]⟩
  · cases h4
/-- a def without defaults -/
theorem fun_of {K : PySem.W.Frag} {x qual : Str} {st : Stmt} {f : Addr} {fd : FuncData} (F : FunD K x qual (defArgs st) (defBody st) (defScope st) [] [] f fd) : Fun K x qual st f fd := by
  obtain ⟨oc, od, dV, kV, doc, pm, an, cdv, ct, osl, rfl, lk, hc, hd, _⟩ := F.ex
  rcases hd with ⟨_, rfl⟩ | ⟨n, _⟩
  · exact ⟨⟨oc, od, kV, doc, pm, an, cdv, ct, osl, rfl, lk, hc⟩, F.kp⟩
  · exact absurd rfl n
end L2
set_option maxRecDepth 100000
namespace L2
open PySem PySem.Spec PyProof.Rows He
/-! a head by defs at told places, one Bool, and the table of one def that makes lambdas -/
structure DefA where
  at_ : PySem.W.Frag → Addr
  name : Str
  qual : Str
  st : Stmt
def fnA (K : PySem.W.Frag) (d : DefA) : FnW := match K.lookup (d.at_ K) with
  | some ⟨_, _, .func fd, _⟩ => some (fd.name, fd.qualname, fd.params, fd.body, fd.scope, fd.globals, fd.closure, fd.builtins)
  | _ => none
def DefA.val (d : DefA) : FnW := some (d.name, d.qual, defArgs d.st, .stmts (defBody d.st), defScope d.st, mainGlobals, [], builtinsNs)
def DefA.ok (K : PySem.W.Frag) (d : DefA) : Bool := PySem.W.keepIn K (.ref (d.at_ K)) && (match K.lookup (d.at_ K) with
  | some ⟨_, _, .func fd, _⟩ => PySem.W.codeIn K fd.code d.qual && decide (fd.defaults = .none)
  | _ => false)
theorem DefA.to {K : PySem.W.Frag} {d : DefA} (e : fnA K d = d.val) (c : d.ok K = true) : ∃ fd, Fun K d.name d.qual d.st (d.at_ K) fd := by
  obtain ⟨kp, c2⟩ := ba c
  unfold fnA at e
  split at e
  · rename_i oc od fd osl q
    rw [q] at c2
    obtain ⟨m1, m2, m3, m4, m5, m6, m7, m8, m9, m10, m11, m12, m13, m14, m15⟩ := fd
    have e2 := Option.some.inj e
    simp only [Prod.mk.injEq] at e2
    obtain ⟨h1, h2, h3, h4, h5, h6, h7, h8⟩ := e2
    subst h1 h2 h3 h4 h5 h6 h7 h8
    obtain ⟨k1, k2⟩ := ba c2
    have k3 := of_decide_eq_true k2
    dsimp only at k3
    subst k3
    exact ⟨_, ⟨oc, od, _, _, _, _, _, _, osl, rfl, q, k1⟩, kp⟩
  · cases e
structure SaysH (ds : List DefA) (p : Defn) (ex : PySem.W.Frag → Bool) (h : Heap) (K : PySem.W.Frag) : Prop where
  more : ex K = true
  defs : ∀ d ∈ ds, ∃ fd, Fun K d.name d.qual d.st (d.at_ K) fd
  hd : PySem.W.codeHdIn K (cT K p).1 (cT K p).2 = true
  out : K.lookup (cT K p).2 = none
  empty : h.get? (cT K p).2 = some { cls := .none, data := .fields #[] }
def obsH (n : Nat) (ds : List DefA) (p : Defn) (ex : PySem.W.Frag → Bool) (g : Addr → Option Obj) : Bool × List FnW :=
  (ex (frT g (asD g n)) && ((ds.all fun d => d.ok (frT g (asD g n))) && tabsB g [p] (frT g (asD g n))), ds.map (fnA (frT g (asD g n))))
theorem says_of {n : Nat} {ds : List DefA} {p : Defn} {ex : PySem.W.Frag → Bool} {h : Heap} (e : obsH n ds p ex h.get? = (true, ds.map DefA.val)) : SaysH ds p ex h (frT h.get? (asD h.get? n)) := by
  have e1 : (ex (frT h.get? (asD h.get? n)) && ((ds.all fun d => d.ok (frT h.get? (asD h.get? n))) && tabsB h.get? [p] (frT h.get? (asD h.get? n)))) = true := congrArg (·.1) e
  have e2 : ds.map (fnA (frT h.get? (asD h.get? n))) = ds.map DefA.val := congrArg (·.2) e
  obtain ⟨x1, x2⟩ := ba e1
  obtain ⟨x3, x4⟩ := ba x2
  obtain ⟨y1, y2⟩ := ba (List.all_eq_true.mp x4 p (List.mem_singleton.mpr rfl))
  obtain ⟨o, o1, o2⟩ : ∃ o, h.get? (cT (frT h.get? (asD h.get? n)) p).2 = some o ∧ emptyTab o = true := by
    split at y2
    · rename_i o q
      exact ⟨o, q, y2⟩
    · cases y2
  refine ⟨x1, fun d hd => ?_, y1, frT_none o1 o2, by rw [o1, emptyTab_eq o2]⟩
  obtain ⟨i, hi, ei⟩ := List.mem_iff_getElem.mp hd
  refine DefA.to ?_ (List.all_eq_true.mp x3 d hd)
  have z : (ds.map (fnA (frT h.get? (asD h.get? n))))[i]? = (ds.map DefA.val)[i]? := by rw [e2]
  rw [List.getElem?_map, List.getElem?_map, List.getElem?_eq_getElem hi, ei] at z
  exact Option.some.inj z
def hookH (n : Nat) (ds : List DefA) (p : Defn) (ex : PySem.W.Frag → Bool) : PySem.W.Hook where
  α := Bool × List FnW
  obs := fun s => obsH n ds p ex s.heap.get?
  val := fun _ => (true, ds.map DefA.val)
  says := fun _ h => ∃ K : PySem.W.Frag, K.In h ∧ SaysH ds p ex h K
  of := fun _ _ e => ⟨_, frT_in, says_of e⟩
  keeps := fun _ _ _ ⟨K, hK, c⟩ k => ⟨K, PySem.W.Frag.In.keeps hK k, ⟨c.more, c.defs, c.hd, c.out, k _ _ c.empty⟩⟩
theorem obsH_eq {n : Nat} {ds : List DefA} {p : Defn} {ex : PySem.W.Frag → Bool} {g : Addr → Option Obj} {s : Shared} (h : ∀ a, g a = s.heap.get? a) : obsH n ds p ex g = (hookH n ds p ex).obs s := by
  obtain rfl : g = s.heap.get? := funext h
  rfl
end L2
set_option maxRecDepth 100000
namespace L2
open PySem PySem.Spec PyProof.Rows He
/-! a head by defs at told places, one Bool, and the tables of several defs that make lambdas -/
structure SaysHs (ds : List DefA) (ps : List Defn) (ex : PySem.W.Frag → Bool) (h : Heap) (K : PySem.W.Frag) : Prop where
  more : ex K = true
  defs : ∀ d ∈ ds, ∃ fd, Fun K d.name d.qual d.st (d.at_ K) fd
  hd : ∀ p ∈ ps, PySem.W.codeHdIn K (cT K p).1 (cT K p).2 = true
  out : ∀ p ∈ ps, K.lookup (cT K p).2 = none
  empty : ∀ p ∈ ps, h.get? (cT K p).2 = some { cls := .none, data := .fields #[] }
def obsHs (n : Nat) (ds : List DefA) (ps : List Defn) (ex : PySem.W.Frag → Bool) (g : Addr → Option Obj) : Bool × List FnW :=
  (ex (frT g (asD g n)) && ((ds.all fun d => d.ok (frT g (asD g n))) && tabsB g ps (frT g (asD g n))), ds.map (fnA (frT g (asD g n))))
theorem saysHs_of {n : Nat} {ds : List DefA} {ps : List Defn} {ex : PySem.W.Frag → Bool} {h : Heap} (e : obsHs n ds ps ex h.get? = (true, ds.map DefA.val)) : SaysHs ds ps ex h (frT h.get? (asD h.get? n)) := by
  have e1 : (ex (frT h.get? (asD h.get? n)) && ((ds.all fun d => d.ok (frT h.get? (asD h.get? n))) && tabsB h.get? ps (frT h.get? (asD h.get? n)))) = true := congrArg (·.1) e
  have e2 : ds.map (fnA (frT h.get? (asD h.get? n))) = ds.map DefA.val := congrArg (·.2) e
  obtain ⟨x1, x2⟩ := ba e1
  obtain ⟨x3, x4⟩ := ba x2
  have one : ∀ p ∈ ps, PySem.W.codeHdIn (frT h.get? (asD h.get? n)) (cT (frT h.get? (asD h.get? n)) p).1 (cT (frT h.get? (asD h.get? n)) p).2 = true ∧ ∃ o, h.get? (cT (frT h.get? (asD h.get? n)) p).2 = some o ∧ emptyTab o = true := fun p hp => by
    obtain ⟨y1, y2⟩ := ba (List.all_eq_true.mp x4 p hp)
    refine ⟨y1, ?_⟩
    split at y2
    · rename_i o q
      exact ⟨o, q, y2⟩
    · cases y2
  refine ⟨x1, fun d hd => ?_, fun p hp => (one p hp).1, fun p hp => ?_, fun p hp => ?_⟩
  · obtain ⟨i, hi, ei⟩ := List.mem_iff_getElem.mp hd
    refine DefA.to ?_ (List.all_eq_true.mp x3 d hd)
    have z : (ds.map (fnA (frT h.get? (asD h.get? n))))[i]? = (ds.map DefA.val)[i]? := by rw [e2]
    rw [List.getElem?_map, List.getElem?_map, List.getElem?_eq_getElem hi, ei] at z
    exact Option.some.inj z
  · obtain ⟨_, o, o1, o2⟩ := one p hp
    exact frT_none o1 o2
  · obtain ⟨_, o, o1, o2⟩ := one p hp
    rw [o1, emptyTab_eq o2]
def hookHs (n : Nat) (ds : List DefA) (ps : List Defn) (ex : PySem.W.Frag → Bool) : PySem.W.Hook where
  α := Bool × List FnW
  obs := fun s => obsHs n ds ps ex s.heap.get?
  val := fun _ => (true, ds.map DefA.val)
  says := fun _ h => ∃ K : PySem.W.Frag, K.In h ∧ SaysHs ds ps ex h K
  of := fun _ _ e => ⟨_, frT_in, saysHs_of e⟩
  keeps := fun _ _ _ ⟨K, hK, c⟩ k => ⟨K, PySem.W.Frag.In.keeps hK k, ⟨c.more, c.defs, c.hd, c.out, fun p hp => k _ _ (c.empty p hp)⟩⟩
theorem obsHs_eq {n : Nat} {ds : List DefA} {ps : List Defn} {ex : PySem.W.Frag → Bool} {g : Addr → Option Obj} {s : Shared} (h : ∀ a, g a = s.heap.get? a) : obsHs n ds ps ex g = (hookHs n ds ps ex).obs s := by
  obtain rfl : g = s.heap.get? := funext h
  rfl
end L2
set_option maxRecDepth 100000
namespace L2
open PySem PySem.Spec PyProof.Rows He
/-! the head once more: defs with defaults besides, and the interpreter's own statics -/
def frC (g : Addr → Option Obj) (n : Nat) : PySem.W.Frag := frT g (He5.asA g n)
structure SaysHc (ds : List DefA) (dd : List He5.DefA) (ps : List Defn) (ex : PySem.W.Frag → Bool) (h : Heap) (K : PySem.W.Frag) : Prop where
  more : ex K = true
  defs : ∀ d ∈ ds, ∃ fd, Fun K d.name d.qual d.st (d.at_ K) fd
  defd : ∀ d ∈ dd, ∃ fd, FunD K d.name d.qual d.params d.body d.scope (d.dvs K) (d.kws K) (d.at_ K) fd
  hd : ∀ p ∈ ps, PySem.W.codeHdIn K (cT K p).1 (cT K p).2 = true
  out : ∀ p ∈ ps, K.lookup (cT K p).2 = none
  empty : ∀ p ∈ ps, h.get? (cT K p).2 = some { cls := .none, data := .fields #[] }
def obsHc (n : Nat) (ds : List DefA) (dd : List He5.DefA) (ps : List Defn) (ex : PySem.W.Frag → Bool) (g : Addr → Option Obj) : Bool × List FnW :=
  (ex (frC g n) && ((ds.all fun d => d.ok (frC g n)) && ((dd.all fun d => d.ok (frC g n)) && tabsB g ps (frC g n))), ds.map (fnA (frC g n)) ++ dd.map fun d => He5.fnA (frC g n) (d.at_ (frC g n)))
def valHc (ds : List DefA) (dd : List He5.DefA) : Bool × List FnW := (true, ds.map DefA.val ++ dd.map He5.DefA.val)
theorem saysHc_of {n : Nat} {ds : List DefA} {dd : List He5.DefA} {ps : List Defn} {ex : PySem.W.Frag → Bool} {h : Heap} (e : obsHc n ds dd ps ex h.get? = valHc ds dd) : SaysHc ds dd ps ex h (frC h.get? n) := by
  have e1 : (ex (frC h.get? n) && ((ds.all fun d => d.ok (frC h.get? n)) && ((dd.all fun d => d.ok (frC h.get? n)) && tabsB h.get? ps (frC h.get? n)))) = true := congrArg (·.1) e
  have e2 : ds.map (fnA (frC h.get? n)) ++ (dd.map fun d => He5.fnA (frC h.get? n) (d.at_ (frC h.get? n))) = ds.map DefA.val ++ dd.map He5.DefA.val := congrArg (·.2) e
  obtain ⟨x1, x2⟩ := ba e1
  obtain ⟨x3, x4⟩ := ba x2
  obtain ⟨x5, x6⟩ := ba x4
  obtain ⟨e3, e4⟩ := List.append_inj e2 (by rw [List.length_map, List.length_map])
  have one : ∀ p ∈ ps, PySem.W.codeHdIn (frC h.get? n) (cT (frC h.get? n) p).1 (cT (frC h.get? n) p).2 = true ∧ ∃ o, h.get? (cT (frC h.get? n) p).2 = some o ∧ emptyTab o = true := fun p hp => by
    obtain ⟨y1, y2⟩ := ba (List.all_eq_true.mp x6 p hp)
    refine ⟨y1, ?_⟩
    split at y2
    · rename_i o q
      exact ⟨o, q, y2⟩
    · cases y2
  refine ⟨x1, fun d hd => ?_, fun d hd => ?_, fun p hp => (one p hp).1, fun p hp => ?_, fun p hp => ?_⟩
  · obtain ⟨i, hi, ei⟩ := List.mem_iff_getElem.mp hd
    refine DefA.to ?_ (List.all_eq_true.mp x3 d hd)
    have z : (ds.map (fnA (frC h.get? n)))[i]? = (ds.map DefA.val)[i]? := by rw [e3]
    rw [List.getElem?_map, List.getElem?_map, List.getElem?_eq_getElem hi, ei] at z
    exact Option.some.inj z
  · obtain ⟨i, hi, ei⟩ := List.mem_iff_getElem.mp hd
    refine He5.DefA.funD ?_ (List.all_eq_true.mp x5 d hd)
    have z : (dd.map fun d => He5.fnA (frC h.get? n) (d.at_ (frC h.get? n)))[i]? = (dd.map He5.DefA.val)[i]? := by rw [e4]
    rw [List.getElem?_map, List.getElem?_map, List.getElem?_eq_getElem hi, ei] at z
    exact Option.some.inj z
  · obtain ⟨_, o, o1, o2⟩ := one p hp
    exact frT_none o1 o2
  · obtain ⟨_, o, o1, o2⟩ := one p hp
    rw [o1, emptyTab_eq o2]
def hookHc (n : Nat) (ds : List DefA) (dd : List He5.DefA) (ps : List Defn) (ex : PySem.W.Frag → Bool) : PySem.W.Hook where
  α := Bool × List FnW
  obs := fun s => obsHc n ds dd ps ex s.heap.get?
  val := fun _ => valHc ds dd
  says := fun _ h => ∃ K : PySem.W.Frag, K.In h ∧ SaysHc ds dd ps ex h K
  of := fun _ _ e => ⟨_, frT_in, saysHc_of e⟩
  keeps := fun _ _ _ ⟨K, hK, c⟩ k => ⟨K, PySem.W.Frag.In.keeps hK k, ⟨c.more, c.defs, c.defd, c.hd, c.out, fun p hp => k _ _ (c.empty p hp)⟩⟩
theorem obsHc_eq {n : Nat} {ds : List DefA} {dd : List He5.DefA} {ps : List Defn} {ex : PySem.W.Frag → Bool} {g : Addr → Option Obj} {s : Shared} (h : ∀ a, g a = s.heap.get? a) : obsHc n ds dd ps ex g = (hookHc n ds dd ps ex).obs s := by
  obtain rfl : g = s.heap.get? := funext h
  rfl
/-- a class's attributes are read as a type's are -/
def creadB (K : PySem.W.Frag) (C : Addr) : Bool := PySem.W.readsIn K C (.type "type") && eqO (PySem.W.specialIn K (.ref C) "__getattribute__") (some (some (.builtin "type.__getattribute__")))
theorem cread_of {K : PySem.W.Frag} {C : Addr} (h : creadB K C = true) : ClX.CRead K C (.type "type") := by
  obtain ⟨h1, h2⟩ := ba h
  exact ⟨h1, eqO_ok h2⟩
def cmB (K : PySem.W.Frag) (C : Addr) (m : Str) : Bool := He5.wrapB K C "classmethod" "classmethod.__get__" m && PySem.W.fnIn K (He5.wf K C "classmethod" m)
theorem cm_of {K : PySem.W.Frag} {C : Addr} {m : Str} (h : cmB K C m = true) : ClX.CMet K C (.type "type") m (He.ma K C m) (He5.wf K C "classmethod" m) := by
  obtain ⟨h1, h2⟩ := ba h
  exact He5.cmet_of h1 h2
end L2
set_option maxRecDepth 100000
namespace L2
open PySem PySem.Spec PyProof.Rows He PySem.Calls
/-! the head's run, its looks in parts (each part runs the top anew, so that no part needs the memory of all), over the fragment of the whole heap -/
/-- the fragment: all of the heap's objects at the top's end, the last laid first (no search for what the names reach) -/
def frR (g : Addr → Option Obj) (n : Nat) : PySem.W.Frag := frT g (mainGlobals :: (List.range n).reverse)
def obsHr (n : Nat) (ds : List DefA) (dd : List He5.DefA) (ps : List Defn) (ex : PySem.W.Frag → Bool) (g : Addr → Option Obj) : Bool × List FnW :=
  (ex (frR g n) && ((ds.all fun d => d.ok (frR g n)) && ((dd.all fun d => d.ok (frR g n)) && tabsB g ps (frR g n))), ds.map (fnA (frR g n)) ++ dd.map fun d => He5.fnA (frR g n) (d.at_ (frR g n)))
theorem saysHr_of {n : Nat} {ds : List DefA} {dd : List He5.DefA} {ps : List Defn} {ex : PySem.W.Frag → Bool} {h : Heap} (e : obsHr n ds dd ps ex h.get? = valHc ds dd) : SaysHc ds dd ps ex h (frR h.get? n) := by
  have e1 : (ex (frR h.get? n) && ((ds.all fun d => d.ok (frR h.get? n)) && ((dd.all fun d => d.ok (frR h.get? n)) && tabsB h.get? ps (frR h.get? n)))) = true := congrArg (·.1) e
  have e2 : ds.map (fnA (frR h.get? n)) ++ (dd.map fun d => He5.fnA (frR h.get? n) (d.at_ (frR h.get? n))) = ds.map DefA.val ++ dd.map He5.DefA.val := congrArg (·.2) e
  obtain ⟨x1, x2⟩ := ba e1
  obtain ⟨x3, x4⟩ := ba x2
  obtain ⟨x5, x6⟩ := ba x4
  obtain ⟨e3, e4⟩ := List.append_inj e2 (by rw [List.length_map, List.length_map])
  have one : ∀ p ∈ ps, PySem.W.codeHdIn (frR h.get? n) (cT (frR h.get? n) p).1 (cT (frR h.get? n) p).2 = true ∧ ∃ o, h.get? (cT (frR h.get? n) p).2 = some o ∧ emptyTab o = true := fun p hp => by
    obtain ⟨y1, y2⟩ := ba (List.all_eq_true.mp x6 p hp)
    refine ⟨y1, ?_⟩
    split at y2
    · rename_i o q
      exact ⟨o, q, y2⟩
    · cases y2
  refine ⟨x1, fun d hd => ?_, fun d hd => ?_, fun p hp => (one p hp).1, fun p hp => ?_, fun p hp => ?_⟩
  · obtain ⟨i, hi, ei⟩ := List.mem_iff_getElem.mp hd
    refine DefA.to ?_ (List.all_eq_true.mp x3 d hd)
    have z : (ds.map (fnA (frR h.get? n)))[i]? = (ds.map DefA.val)[i]? := by rw [e3]
    rw [List.getElem?_map, List.getElem?_map, List.getElem?_eq_getElem hi, ei] at z
    exact Option.some.inj z
  · obtain ⟨i, hi, ei⟩ := List.mem_iff_getElem.mp hd
    refine He5.DefA.funD ?_ (List.all_eq_true.mp x5 d hd)
    have z : (dd.map fun d => He5.fnA (frR h.get? n) (d.at_ (frR h.get? n)))[i]? = (dd.map He5.DefA.val)[i]? := by rw [e4]
    rw [List.getElem?_map, List.getElem?_map, List.getElem?_eq_getElem hi, ei] at z
    exact Option.some.inj z
  · obtain ⟨_, o, o1, o2⟩ := one p hp
    exact frT_none o1 o2
  · obtain ⟨_, o, o1, o2⟩ := one p hp
    rw [o1, emptyTab_eq o2]
def hookHr (n : Nat) (ds : List DefA) (dd : List He5.DefA) (ps : List Defn) (ex : PySem.W.Frag → Bool) : PySem.W.Hook where
  α := Bool × List FnW
  obs := fun s => obsHr n ds dd ps ex s.heap.get?
  val := fun _ => valHc ds dd
  says := fun _ h => ∃ K : PySem.W.Frag, K.In h ∧ SaysHc ds dd ps ex h K
  of := fun _ _ e => ⟨_, frT_in, saysHr_of e⟩
  keeps := fun _ _ _ ⟨K, hK, c⟩ k => ⟨K, PySem.W.Frag.In.keeps hK k, ⟨c.more, c.defs, c.defd, c.hd, c.out, fun p hp => k _ _ (c.empty p hp)⟩⟩
theorem obsHr_eq {n : Nat} {ds : List DefA} {dd : List He5.DefA} {ps : List Defn} {ex : PySem.W.Frag → Bool} {g : Addr → Option Obj} {s : Shared} (h : ∀ a, g a = s.heap.get? a) : obsHr n ds dd ps ex g = (hookHr n ds dd ps ex).obs s := by
  obtain rfl : g = s.heap.get? := funext h
  rfl
noncomputable def runQ (M : Nat) (p : Program) (w : World) : Option (Shared × PySem.W.SharedT) := HandSHeadRun.wholeF (fun q => HandSHeadRun.stepQ (HandSHeadRun.denQ HandSHeadRun.tabQ) q w) HandSHeadRun.fenceQ M p
theorem run_parts {r : PySem.W.OpenRow} {q : Program} {n M : Nat} {ds : List DefA} {dd : List He5.DefA} {ps : List Defn} {ex e1 e2 e3 : PySem.W.Frag → Bool} {loose : List Str} {w : World} (he : ∀ K, ex K = (e1 K && (e2 K && e3 K)))
    (h0 : (runQ M r.prog w).map (fun x => (HandSHeadRun.looksF r.prog x.1.heap x.2.abs, HandSHeadRun.seenQ q loose (importedModules r.prog.main.body) (fun s => PySem.W.xlAt q [] s && PySem.W.recOk r.toRowW.records s) x.2.abs)) = some (true, PySem.W.openGood q loose))
    (h1 : (runQ M r.prog w).map (fun x => e1 (frR (HandSHeadRun.getT x.2) n)) = some true) (h2 : (runQ M r.prog w).map (fun x => e2 (frR (HandSHeadRun.getT x.2) n)) = some true) (h3 : (runQ M r.prog w).map (fun x => e3 (frR (HandSHeadRun.getT x.2) n)) = some true)
    (h4 : (runQ M r.prog w).map (fun x => (obsHr n ds dd ps (fun _ => true) (HandSHeadRun.getT x.2))) = some (valHc ds dd)) :
    HandSHeadRun.RunEqI r q (hookHr n ds dd ps ex) (fun s => obsHr n ds dd ps ex (HandSHeadRun.getT s)) M loose w := by
  unfold HandSHeadRun.RunEqI
  unfold runQ at h0 h1 h2 h3 h4
  cases c : HandSHeadRun.wholeF (fun q => HandSHeadRun.stepQ (HandSHeadRun.denQ HandSHeadRun.tabQ) q w) HandSHeadRun.fenceQ M r.prog with
  | none =>
    rw [c] at h1
    cases h1
  | some x =>
    rw [c] at h0 h1 h2 h3 h4
    have g0 := Option.some.inj h0
    have g1 : e1 (frR (HandSHeadRun.getT x.2) n) = true := Option.some.inj h1
    have g2 : e2 (frR (HandSHeadRun.getT x.2) n) = true := Option.some.inj h2
    have g3 : e3 (frR (HandSHeadRun.getT x.2) n) = true := Option.some.inj h3
    have g4 : obsHr n ds dd ps (fun _ => true) (HandSHeadRun.getT x.2) = valHc ds dd := Option.some.inj h4
    have g5 : obsHr n ds dd ps ex (HandSHeadRun.getT x.2) = valHc ds dd := by
      rw [← g4]
      unfold obsHr
      rw [he, g1, g2, g3]
      rfl
    show some (HandSHeadRun.looksF r.prog x.1.heap x.2.abs, HandSHeadRun.seenQ q loose (importedModules r.prog.main.body) (fun s => PySem.W.xlAt q [] s && PySem.W.recOk r.toRowW.records s) x.2.abs, obsHr n ds dd ps ex (HandSHeadRun.getT x.2)) = some (true, PySem.W.openGood q loose, valHc ds dd)
    rw [g5]
    obtain ⟨a, b⟩ := Prod.mk.inj g0
    rw [a, b]
end L2
set_option maxRecDepth 100000
namespace Toy
open PySem L2 LamX
/-! the head: what the top leaves, by one run -/
abbrev R : PySem.W.OpenRow := PySem.W.OpenLaw.row PySem.Challenge.rw_lanebanks_k26_texts_of_rules
def fa1 : List He.Fa := [.glo "is_integer", .glo "is_within", .glo "banks_by", .glo "are_moduli", .glo "are_banks", .glo "shortest_weights", .glo "spaced", .glo "whole_in", .glo "expect", .glo "moduli_from", .glo "weights_from", .glo "read_weights", .glo "_law_pen", .glo "_law_draw", .glo "_law_pick", .glo "_law_plain", .glo "_law_normal", .glo "_law_heard", .glo "_law_text", .glo "_law_number", .glo "_law_moduli", .glo "_law_weights", .glo "_law_wrong", .glo "_law_due", .glo "_law_bent", .glo "_law_right", .glo "law", .glo "BankError", .glo "BadRule", .glo "BadNumber", .glo "TooMany", .glo "BadText", .glo "Rule"]
def fa2 : List He.Fa := [.free "isinstance", .free "int", .free "bool", .free "len", .free "all", .free "list", .free "tuple", .free "range", .free "abs", .free "repr", .free "sum", .free "zip", .free "enumerate", .free "max", .free "str", .int "MOST_MODULI" 5, .int "MOST_BANKS" 32, .int "MOST_PLACES" 24, .cls "Rule", .noat "Rule" "moduli", .noat "Rule" "ahead", .noat "Rule" "turn", .noat "BadRule" "part", .noat "BadNumber" "value", .noat "TooMany" "what", .noat "TooMany" "most", .mkr "Rule", .exm "BadRule" "BankError" true, .exm "BadNumber" "BankError" true, .exm "TooMany" "BankError" true, .str "DIGITS" "0123456789", .noat "BadText" "line", .noat "BadText" "word", .exm "BadText" "BankError" true]
def initB (K : PySem.W.Frag) (x : Str) : Bool := decide (PySem.W.findIn K (.ref (He.ga K x)) "__init__" = some (some (.ref (He.ma K (He.ga K x) "__init__")))) && decide (PySem.W.typeIn K (.ref (He.ma K (He.ga K x) "__init__")) = some (.type "function"))
def kitB' (K : PySem.W.Frag) (x y : Str) (b : Bool) : Bool := decide (PySem.W.kitOne K (.ref (He.ga K x)) (.ref (He.ga K y)) = some b)
def ex1 (K : PySem.W.Frag) : Bool := fa1.all fun f => f.ok K
def ex2 (K : PySem.W.Frag) : Bool := fa2.all fun f => f.ok K
def ex3 (K : PySem.W.Frag) : Bool := xlB K (He.ga K "BadRule") (He.ga K "BankError") && (xlB K (He.ga K "BadNumber") (He.ga K "BankError") && (xlB K (He.ga K "TooMany") (He.ga K "BankError") && (xlB K (He.ga K "BadText") (He.ga K "BankError") && (xcB K (He.ga K "BadRule") && (xcB K (He.ga K "BadNumber") && (xcB K (He.ga K "TooMany") && (xcB K (He.ga K "BadText") && (initB K "BadRule" && (initB K "BadNumber" && (initB K "TooMany" && (initB K "BadText" && (kitB' K "BadRule" "BadRule" true && (kitB' K "BadRule" "BadNumber" false && (kitB' K "BadRule" "TooMany" false && (kitB' K "BadRule" "BadText" false && (kitB' K "BadNumber" "BadRule" false && (kitB' K "BadNumber" "BadNumber" true && (kitB' K "BadNumber" "TooMany" false && (kitB' K "BadNumber" "BadText" false && (kitB' K "TooMany" "BadRule" false && (kitB' K "TooMany" "BadNumber" false && (kitB' K "TooMany" "TooMany" true && (kitB' K "TooMany" "BadText" false && (kitB' K "BadText" "BadRule" false && (kitB' K "BadText" "BadNumber" false && (kitB' K "BadText" "TooMany" false && (kitB' K "BadText" "BadText" true && (propB K (He.ga K "Rule") "classes" && (propB K (He.ga K "Rule") "banks" && (ownB K (He.ga K "Rule") && (rclsB K (He.ga K "Rule") && (strB K (He.ga K "Rule") && (creadB K (He.ga K "Rule") && (cmB K (He.ga K "Rule") "read" && (decide (PySem.W.kitOne K (.ref (He.ga K "Rule")) (.type "str") = some false) && (decide ((He.cT K ("_law_right", none)).2 ≠ (He.cT K ("law", none)).2)))))))))))))))))))))))))))))))))))))
def ex (K : PySem.W.Frag) : Bool := ex1 K && (ex2 K && ex3 K)
def ds : List DefA := [
⟨fun K => He.ga K "is_integer", "is_integer", "is_integer", s_is_integer⟩,
  ⟨fun K => He.ga K "is_within", "is_within", "is_within", s_is_within⟩,
  ⟨fun K => He.ga K "banks_by", "banks_by", "banks_by", s_banks_by⟩,
  ⟨fun K => He.ga K "are_moduli", "are_moduli", "are_moduli", s_are_moduli⟩,
  ⟨fun K => He.ga K "are_banks", "are_banks", "are_banks", s_are_banks⟩,
  ⟨fun K => He.ga K "shortest_weights", "shortest_weights", "shortest_weights", s_shortest_weights⟩,
  ⟨fun K => He.ga K "spaced", "spaced", "spaced", s_spaced⟩,
  ⟨fun K => He.ga K "whole_in", "whole_in", "whole_in", s_whole_in⟩,
  ⟨fun K => He.ga K "expect", "expect", "expect", s_expect⟩,
  ⟨fun K => He.ga K "moduli_from", "moduli_from", "moduli_from", s_moduli_from⟩,
  ⟨fun K => He.ga K "weights_from", "weights_from", "weights_from", s_weights_from⟩,
  ⟨fun K => He.ga K "read_weights", "read_weights", "read_weights", s_read_weights⟩,
  ⟨fun K => He.ga K "_law_pen", "_law_pen", "_law_pen", s__law_pen⟩,
  ⟨fun K => He.ga K "_law_draw", "_law_draw", "_law_draw", s__law_draw⟩,
  ⟨fun K => He.ga K "_law_pick", "_law_pick", "_law_pick", s__law_pick⟩,
  ⟨fun K => He.ga K "_law_plain", "_law_plain", "_law_plain", s__law_plain⟩,
  ⟨fun K => He.ga K "_law_normal", "_law_normal", "_law_normal", s__law_normal⟩,
  ⟨fun K => He.ga K "_law_heard", "_law_heard", "_law_heard", s__law_heard⟩,
  ⟨fun K => He.ga K "_law_text", "_law_text", "_law_text", s__law_text⟩,
  ⟨fun K => He.ga K "_law_number", "_law_number", "_law_number", s__law_number⟩,
  ⟨fun K => He.ga K "_law_moduli", "_law_moduli", "_law_moduli", s__law_moduli⟩,
  ⟨fun K => He.ga K "_law_weights", "_law_weights", "_law_weights", s__law_weights⟩,
  ⟨fun K => He.ga K "_law_wrong", "_law_wrong", "_law_wrong", s__law_wrong⟩,
  ⟨fun K => He.ga K "_law_due", "_law_due", "_law_due", s__law_due⟩,
  ⟨fun K => He.ga K "_law_bent", "_law_bent", "_law_bent", s__law_bent⟩,
  ⟨fun K => He.ga K "_law_right", "_law_right", "_law_right", s__law_right⟩,
  ⟨fun K => He.ga K "law", "law", "law", s_law⟩,
  ⟨fun K => He.ma K (He.ga K "BadRule") "__init__", "__init__", "BadRule.__init__", s_BadRule⟩,
  ⟨fun K => He.ma K (He.ga K "BadNumber") "__init__", "__init__", "BadNumber.__init__", s_BadNumber⟩,
  ⟨fun K => He.ma K (He.ga K "TooMany") "__init__", "__init__", "TooMany.__init__", s_TooMany⟩,
  ⟨fun K => He.ma K (He.ga K "Rule") "__init__", "__init__", "Rule.__init__", s_Rule_init⟩,
  ⟨fun K => He.ma K (He.ga K "BadText") "__init__", "__init__", "BadText.__init__", s_BadText⟩,
  ⟨fun K => He.ma K (He.ga K "Rule") "__str__", "__str__", "Rule.__str__", s_Rule___str__⟩,
  ⟨fun K => He.ma K (He.ga K "Rule") "__eq__", "__eq__", "Rule.__eq__", s_Rule_eq⟩,
  ⟨fun K => getterOf K (He.ma K (He.ga K "Rule") "classes"), "classes", "Rule.classes", s_Rule_classes⟩,
  ⟨fun K => He5.wf K (He.ga K "Rule") "classmethod" "read", "read", "Rule.read", s_Rule_read⟩]
def tabsOf : List He.Defn := [("_law_right", none), ("law", none)]
def dd : List He5.DefA := []
abbrev hk : PySem.W.Hook := hookHr 900 ds dd tabsOf ex
def ob (s : PySem.W.SharedT) : Bool × List He.FnW := obsHr 900 ds dd tabsOf ex (HandSHeadRun.getT s)
theorem ob_eq (s : PySem.W.SharedT) : ob s = hk.obs s.abs := obsHr_eq (HandSHeadRun.getT_eq s)
def names : List Str := ["_wall", "__name__", "is_integer", "is_within", "is_number", "MOST_BANKS", "MOST_MODULI", "banks_by", "are_moduli", "are_banks", "parts_of", "bank_with", "bank_sum", "ones_of", "shortest_weights", "BankError", "BadRule", "BadNumber", "BadText", "TooMany", "DIGITS", "whole_in"]
def names2 : List Str := ["spaced", "expect", "moduli_from", "weights_from", "read_weights", "MOST_PLACES", "Rule", "_law_pen", "_law_draw", "_law_pick", "_law_plain", "_law_normal", "_law_heard", "_law_text", "_law_number", "_law_moduli", "_law_weights", "_law_wrong", "_law_due", "_law_right", "_law_bent"]
abbrev vw : Program := PySem.W.view R.prog [0, 50]
set_option maxHeartbeats 0 in
theorem run0 (w : World) : (runQ 40000 R.prog w).map (fun x => (HandSHeadRun.looksF R.prog x.1.heap x.2.abs, HandSHeadRun.seenQ vw (names ++ names2) (importedModules R.prog.main.body) (fun s => PySem.W.xlAt vw [] s && PySem.W.recOk R.toRowW.records s) x.2.abs)) = some (true, PySem.W.openGood vw (names ++ names2)) := by
  kernel_rfl
set_option maxHeartbeats 0 in
theorem run1 (w : World) : (runQ 40000 R.prog w).map (fun x => ex1 (frR (HandSHeadRun.getT x.2) 900)) = some true := by
  kernel_rfl
set_option maxHeartbeats 0 in
theorem run2 (w : World) : (runQ 40000 R.prog w).map (fun x => ex2 (frR (HandSHeadRun.getT x.2) 900)) = some true := by
  kernel_rfl
set_option maxHeartbeats 0 in
theorem run3 (w : World) : (runQ 40000 R.prog w).map (fun x => ex3 (frR (HandSHeadRun.getT x.2) 900)) = some true := by
  kernel_rfl
set_option maxHeartbeats 0 in
theorem run4 (w : World) : (runQ 40000 R.prog w).map (fun x => obsHr 900 ds dd tabsOf (fun _ => true) (HandSHeadRun.getT x.2)) = some (valHc ds dd) := by
  kernel_rfl
theorem run (w : World) : HandSHeadRun.RunEqI R vw hk ob 40000 (names ++ names2) w := run_parts (fun _ => rfl) (run0 w) (run1 w) (run2 w) (run3 w) (run4 w)
end Toy
set_option maxRecDepth 100000
namespace Toy
open PySem L2 LamX
set_option maxHeartbeats 4000000 in
theorem facts {P : Program} {w : World} {K : PySem.W.Frag} {h : Heap} {mg : Str → Option Value} {f : Addr} (X : K.In h) (G : h.Ns mainGlobals mg) (hfa : mg ("law" : Str) = some (.ref f)) (c : SaysHc ds dd tabsOf ex h K) :
    ∃ fd : FuncData, (∀ (s : Shared) (v : Value), BindsTo s fd ⟨[v], []⟩ [("_law_script", v)]) ∧ ∀ base : Heap, K.In base → base.Ns mainGlobals mg → (∀ p ∈ tabsOf.map (He.cT K), TabB base mg p.1 p.2) →
      FnG P w K mg base CX0 10 f fd ["_law_script"] (spTabs K (tabsOf.map (He.cT K))) := by
  obtain ⟨f01, zz⟩ := He.ba (show (ex1 K && (ex2 K && ex3 K)) = true from c.more)
  obtain ⟨f02, z0⟩ := He.ba zz
  unfold ex1 at f01
  unfold ex2 at f02
  unfold ex3 at z0
  obtain ⟨xBadRule, z1⟩ := He.ba z0
  obtain ⟨xBadNumber, z2⟩ := He.ba z1
  obtain ⟨xTooMany, z3⟩ := He.ba z2
  obtain ⟨xBadText, z4⟩ := He.ba z3
  obtain ⟨yBadRule, z5⟩ := He.ba z4
  obtain ⟨yBadNumber, z6⟩ := He.ba z5
  obtain ⟨yTooMany, z7⟩ := He.ba z6
  obtain ⟨yBadText, z8⟩ := He.ba z7
  obtain ⟨iBadRule, z9⟩ := He.ba z8
  obtain ⟨iBadNumber, z10⟩ := He.ba z9
  obtain ⟨iTooMany, z11⟩ := He.ba z10
  obtain ⟨iBadText, z12⟩ := He.ba z11
  obtain ⟨kBadRuleBadRule, z13⟩ := He.ba z12
  obtain ⟨kBadRuleBadNumber, z14⟩ := He.ba z13
  obtain ⟨kBadRuleTooMany, z15⟩ := He.ba z14
  obtain ⟨kBadRuleBadText, z16⟩ := He.ba z15
  obtain ⟨kBadNumberBadRule, z17⟩ := He.ba z16
  obtain ⟨kBadNumberBadNumber, z18⟩ := He.ba z17
  obtain ⟨kBadNumberTooMany, z19⟩ := He.ba z18
  obtain ⟨kBadNumberBadText, z20⟩ := He.ba z19
  obtain ⟨kTooManyBadRule, z21⟩ := He.ba z20
  obtain ⟨kTooManyBadNumber, z22⟩ := He.ba z21
  obtain ⟨kTooManyTooMany, z23⟩ := He.ba z22
  obtain ⟨kTooManyBadText, z24⟩ := He.ba z23
  obtain ⟨kBadTextBadRule, z25⟩ := He.ba z24
  obtain ⟨kBadTextBadNumber, z26⟩ := He.ba z25
  obtain ⟨kBadTextTooMany, z27⟩ := He.ba z26
  obtain ⟨kBadTextBadText, z28⟩ := He.ba z27
  obtain ⟨p1, z29⟩ := He.ba z28
  obtain ⟨p2, z30⟩ := He.ba z29
  obtain ⟨ow, z31⟩ := He.ba z30
  obtain ⟨rc, z32⟩ := He.ba z31
  obtain ⟨st, z33⟩ := He.ba z32
  obtain ⟨cr, z34⟩ := He.ba z33
  obtain ⟨cm_read, z35⟩ := He.ba z34
  obtain ⟨kcs, z36⟩ := He.ba z35
  have pp01 := z36
  have fi1 : ∀ (i : Nat) (q : He.Fa), fa1[i]? = some q → q.ok K = true := fun i q hq => List.all_eq_true.mp f01 q (List.mem_of_getElem? hq)
  have fi2 : ∀ (i : Nat) (q : He.Fa), fa2[i]? = some q → q.ok K = true := fun i q hq => List.all_eq_true.mp f02 q (List.mem_of_getElem? hq)
  have di : ∀ (i : Nat) (d : DefA), ds[i]? = some d → ∃ fd, Fun K d.name d.qual d.st (d.at_ K) fd := fun i d hd => c.defs d (List.mem_of_getElem? hd)
  obtain ⟨fd_is_integer, F_is_integer'⟩ := di 0 _ rfl
  have F_is_integer : Fun K "is_integer" "is_integer" s_is_integer (He.ga K "is_integer") fd_is_integer := F_is_integer'
  have b_is_integer : Binds K fd_is_integer ["value"] [] := F_is_integer.binds (ps := ["value"]) fun _ _ _ _ _ _ us hl => match us, hl with | [_], _ => rfl
  obtain ⟨fd_is_within, F_is_within'⟩ := di 1 _ rfl
  have F_is_within : Fun K "is_within" "is_within" s_is_within (He.ga K "is_within") fd_is_within := F_is_within'
  have b_is_within : Binds K fd_is_within ["value", "least", "most"] [] := F_is_within.binds (ps := ["value", "least", "most"]) fun _ _ _ _ _ _ us hl => match us, hl with | [_, _, _], _ => rfl
  obtain ⟨fd_banks_by, F_banks_by'⟩ := di 2 _ rfl
  have F_banks_by : Fun K "banks_by" "banks_by" s_banks_by (He.ga K "banks_by") fd_banks_by := F_banks_by'
  have b_banks_by : Binds K fd_banks_by ["moduli"] [] := F_banks_by.binds (ps := ["moduli"]) fun _ _ _ _ _ _ us hl => match us, hl with | [_], _ => rfl
  obtain ⟨fd_are_moduli, F_are_moduli'⟩ := di 3 _ rfl
  have F_are_moduli : Fun K "are_moduli" "are_moduli" s_are_moduli (He.ga K "are_moduli") fd_are_moduli := F_are_moduli'
  have b_are_moduli : Binds K fd_are_moduli ["value"] [] := F_are_moduli.binds (ps := ["value"]) fun _ _ _ _ _ _ us hl => match us, hl with | [_], _ => rfl
  obtain ⟨fd_are_banks, F_are_banks'⟩ := di 4 _ rfl
  have F_are_banks : Fun K "are_banks" "are_banks" s_are_banks (He.ga K "are_banks") fd_are_banks := F_are_banks'
  have b_are_banks : Binds K fd_are_banks ["value", "banks"] [] := F_are_banks.binds (ps := ["value", "banks"]) fun _ _ _ _ _ _ us hl => match us, hl with | [_, _], _ => rfl
  obtain ⟨fd_shortest_weights, F_shortest_weights'⟩ := di 5 _ rfl
  have F_shortest_weights : Fun K "shortest_weights" "shortest_weights" s_shortest_weights (He.ga K "shortest_weights") fd_shortest_weights := F_shortest_weights'
  have b_shortest_weights : Binds K fd_shortest_weights ["ahead", "turn"] [] := F_shortest_weights.binds (ps := ["ahead", "turn"]) fun _ _ _ _ _ _ us hl => match us, hl with | [_, _], _ => rfl
  obtain ⟨fd_spaced, F_spaced'⟩ := di 6 _ rfl
  have F_spaced : Fun K "spaced" "spaced" s_spaced (He.ga K "spaced") fd_spaced := F_spaced'
  have b_spaced : Binds K fd_spaced ["numbers"] [] := F_spaced.binds (ps := ["numbers"]) fun _ _ _ _ _ _ us hl => match us, hl with | [_], _ => rfl
  obtain ⟨fd_whole_in, F_whole_in'⟩ := di 7 _ rfl
  have F_whole_in : Fun K "whole_in" "whole_in" s_whole_in (He.ga K "whole_in") fd_whole_in := F_whole_in'
  have b_whole_in : Binds K fd_whole_in ["word", "most"] [] := F_whole_in.binds (ps := ["word", "most"]) fun _ _ _ _ _ _ us hl => match us, hl with | [_, _], _ => rfl
  obtain ⟨fd_expect, F_expect'⟩ := di 8 _ rfl
  have F_expect : Fun K "expect" "expect" s_expect (He.ga K "expect") fd_expect := F_expect'
  have b_expect : Binds K fd_expect ["words", "at", "wanted"] [] := F_expect.binds (ps := ["words", "at", "wanted"]) fun _ _ _ _ _ _ us hl => match us, hl with | [_, _, _], _ => rfl
  obtain ⟨fd_moduli_from, F_moduli_from'⟩ := di 9 _ rfl
  have F_moduli_from : Fun K "moduli_from" "moduli_from" s_moduli_from (He.ga K "moduli_from") fd_moduli_from := F_moduli_from'
  have b_moduli_from : Binds K fd_moduli_from ["words", "begin"] [] := F_moduli_from.binds (ps := ["words", "begin"]) fun _ _ _ _ _ _ us hl => match us, hl with | [_, _], _ => rfl
  obtain ⟨fd_weights_from, F_weights_from'⟩ := di 10 _ rfl
  have F_weights_from : Fun K "weights_from" "weights_from" s_weights_from (He.ga K "weights_from") fd_weights_from := F_weights_from'
  have b_weights_from : Binds K fd_weights_from ["words", "begin", "banks", "most"] [] := F_weights_from.binds (ps := ["words", "begin", "banks", "most"]) fun _ _ _ _ _ _ us hl => match us, hl with | [_, _, _, _], _ => rfl
  obtain ⟨fd_read_weights, F_read_weights'⟩ := di 11 _ rfl
  have F_read_weights : Fun K "read_weights" "read_weights" s_read_weights (He.ga K "read_weights") fd_read_weights := F_read_weights'
  have b_read_weights : Binds K fd_read_weights ["text", "most"] [] := F_read_weights.binds (ps := ["text", "most"]) fun _ _ _ _ _ _ us hl => match us, hl with | [_, _], _ => rfl
  obtain ⟨fd__law_pen, F__law_pen'⟩ := di 12 _ rfl
  have F__law_pen : Fun K "_law_pen" "_law_pen" s__law_pen (He.ga K "_law_pen") fd__law_pen := F__law_pen'
  have b__law_pen : Binds K fd__law_pen ["_law_script"] [] := F__law_pen.binds (ps := ["_law_script"]) fun _ _ _ _ _ _ us hl => match us, hl with | [_], _ => rfl
  obtain ⟨fd__law_draw, F__law_draw'⟩ := di 13 _ rfl
  have F__law_draw : Fun K "_law_draw" "_law_draw" s__law_draw (He.ga K "_law_draw") fd__law_draw := F__law_draw'
  have b__law_draw : Binds K fd__law_draw ["_law_pen_here", "_law_many"] [] := F__law_draw.binds (ps := ["_law_pen_here", "_law_many"]) fun _ _ _ _ _ _ us hl => match us, hl with | [_, _], _ => rfl
  obtain ⟨fd__law_pick, F__law_pick'⟩ := di 14 _ rfl
  have F__law_pick : Fun K "_law_pick" "_law_pick" s__law_pick (He.ga K "_law_pick") fd__law_pick := F__law_pick'
  have b__law_pick : Binds K fd__law_pick ["_law_pen_here", "_law_some"] [] := F__law_pick.binds (ps := ["_law_pen_here", "_law_some"]) fun _ _ _ _ _ _ us hl => match us, hl with | [_, _], _ => rfl
  obtain ⟨fd__law_plain, F__law_plain'⟩ := di 15 _ rfl
  have F__law_plain : Fun K "_law_plain" "_law_plain" s__law_plain (He.ga K "_law_plain") fd__law_plain := F__law_plain'
  have b__law_plain : Binds K fd__law_plain ["_law_pen_here"] [] := F__law_plain.binds (ps := ["_law_pen_here"]) fun _ _ _ _ _ _ us hl => match us, hl with | [_], _ => rfl
  obtain ⟨fd__law_normal, F__law_normal'⟩ := di 16 _ rfl
  have F__law_normal : Fun K "_law_normal" "_law_normal" s__law_normal (He.ga K "_law_normal") fd__law_normal := F__law_normal'
  have b__law_normal : Binds K fd__law_normal ["_law_plain_here"] [] := F__law_normal.binds (ps := ["_law_plain_here"]) fun _ _ _ _ _ _ us hl => match us, hl with | [_], _ => rfl
  obtain ⟨fd__law_heard, F__law_heard'⟩ := di 17 _ rfl
  have F__law_heard : Fun K "_law_heard" "_law_heard" s__law_heard (He.ga K "_law_heard") fd__law_heard := F__law_heard'
  have b__law_heard : Binds K fd__law_heard ["_law_ask"] [] := F__law_heard.binds (ps := ["_law_ask"]) fun _ _ _ _ _ _ us hl => match us, hl with | [_], _ => rfl
  obtain ⟨fd__law_text, F__law_text'⟩ := di 18 _ rfl
  have F__law_text : Fun K "_law_text" "_law_text" s__law_text (He.ga K "_law_text") fd__law_text := F__law_text'
  have b__law_text : Binds K fd__law_text ["_law_plain_here"] [] := F__law_text.binds (ps := ["_law_plain_here"]) fun _ _ _ _ _ _ us hl => match us, hl with | [_], _ => rfl
  obtain ⟨fd__law_number, F__law_number'⟩ := di 19 _ rfl
  have F__law_number : Fun K "_law_number" "_law_number" s__law_number (He.ga K "_law_number") fd__law_number := F__law_number'
  have b__law_number : Binds K fd__law_number ["_law_word", "_law_least", "_law_most"] [] := F__law_number.binds (ps := ["_law_word", "_law_least", "_law_most"]) fun _ _ _ _ _ _ us hl => match us, hl with | [_, _, _], _ => rfl
  obtain ⟨fd__law_moduli, F__law_moduli'⟩ := di 20 _ rfl
  have F__law_moduli : Fun K "_law_moduli" "_law_moduli" s__law_moduli (He.ga K "_law_moduli") fd__law_moduli := F__law_moduli'
  have b__law_moduli : Binds K fd__law_moduli ["_law_words"] [] := F__law_moduli.binds (ps := ["_law_words"]) fun _ _ _ _ _ _ us hl => match us, hl with | [_], _ => rfl
  obtain ⟨fd__law_weights, F__law_weights'⟩ := di 21 _ rfl
  have F__law_weights : Fun K "_law_weights" "_law_weights" s__law_weights (He.ga K "_law_weights") fd__law_weights := F__law_weights'
  have b__law_weights : Binds K fd__law_weights ["_law_words", "_law_spot", "_law_banks", "_law_most"] [] := F__law_weights.binds (ps := ["_law_words", "_law_spot", "_law_banks", "_law_most"]) fun _ _ _ _ _ _ us hl => match us, hl with | [_, _, _, _], _ => rfl
  obtain ⟨fd__law_wrong, F__law_wrong'⟩ := di 22 _ rfl
  have F__law_wrong : Fun K "_law_wrong" "_law_wrong" s__law_wrong (He.ga K "_law_wrong") fd__law_wrong := F__law_wrong'
  have b__law_wrong : Binds K fd__law_wrong ["_law_line"] [] := F__law_wrong.binds (ps := ["_law_line"]) fun _ _ _ _ _ _ us hl => match us, hl with | [_], _ => rfl
  obtain ⟨fd__law_due, F__law_due'⟩ := di 23 _ rfl
  have F__law_due : Fun K "_law_due" "_law_due" s__law_due (He.ga K "_law_due") fd__law_due := F__law_due'
  have b__law_due : Binds K fd__law_due ["_law_line"] [] := F__law_due.binds (ps := ["_law_line"]) fun _ _ _ _ _ _ us hl => match us, hl with | [_], _ => rfl
  obtain ⟨fd__law_bent, F__law_bent'⟩ := di 24 _ rfl
  have F__law_bent : Fun K "_law_bent" "_law_bent" s__law_bent (He.ga K "_law_bent") fd__law_bent := F__law_bent'
  have b__law_bent : Binds K fd__law_bent ["_law_pen_here", "_law_line"] [] := F__law_bent.binds (ps := ["_law_pen_here", "_law_line"]) fun _ _ _ _ _ _ us hl => match us, hl with | [_, _], _ => rfl
  obtain ⟨fd__law_right, F__law_right'⟩ := di 25 _ rfl
  have F__law_right : Fun K "_law_right" "_law_right" s__law_right (He.ga K "_law_right") fd__law_right := F__law_right'
  have b__law_right : Binds K fd__law_right ["_law_line"] [] := F__law_right.binds (ps := ["_law_line"]) fun _ _ _ _ _ _ us hl => match us, hl with | [_], _ => rfl
  obtain ⟨fd_law, F_law'⟩ := di 26 _ rfl
  have F_law : Fun K "law" "law" s_law (He.ga K "law") fd_law := F_law'
  have b_law : Binds K fd_law ["_law_script"] [] := F_law.binds (ps := ["_law_script"]) fun _ _ _ _ _ _ us hl => match us, hl with | [_], _ => rfl
  obtain ⟨fd_BadRule___init__, F_BadRule___init__'⟩ := di 27 _ rfl
  have F_BadRule___init__ : Fun K "__init__" "BadRule.__init__" s_BadRule (He.ma K (He.ga K "BadRule") "__init__") fd_BadRule___init__ := F_BadRule___init__'
  have b_BadRule___init__ : Binds K fd_BadRule___init__ ["self", "part"] [] := F_BadRule___init__.binds (ps := ["self", "part"]) fun _ _ _ _ _ _ us hl => match us, hl with | [_, _], _ => rfl
  obtain ⟨fd_BadNumber___init__, F_BadNumber___init__'⟩ := di 28 _ rfl
  have F_BadNumber___init__ : Fun K "__init__" "BadNumber.__init__" s_BadNumber (He.ma K (He.ga K "BadNumber") "__init__") fd_BadNumber___init__ := F_BadNumber___init__'
  have b_BadNumber___init__ : Binds K fd_BadNumber___init__ ["self", "value"] [] := F_BadNumber___init__.binds (ps := ["self", "value"]) fun _ _ _ _ _ _ us hl => match us, hl with | [_, _], _ => rfl
  obtain ⟨fd_TooMany___init__, F_TooMany___init__'⟩ := di 29 _ rfl
  have F_TooMany___init__ : Fun K "__init__" "TooMany.__init__" s_TooMany (He.ma K (He.ga K "TooMany") "__init__") fd_TooMany___init__ := F_TooMany___init__'
  have b_TooMany___init__ : Binds K fd_TooMany___init__ ["self", "what", "most"] [] := F_TooMany___init__.binds (ps := ["self", "what", "most"]) fun _ _ _ _ _ _ us hl => match us, hl with | [_, _, _], _ => rfl
  obtain ⟨fd_Rule___init__, F_Rule___init__'⟩ := di 30 _ rfl
  have F_Rule___init__ : Fun K "__init__" "Rule.__init__" s_Rule_init (He.ma K (He.ga K "Rule") "__init__") fd_Rule___init__ := F_Rule___init__'
  have b_Rule___init__ : Binds K fd_Rule___init__ ["self", "moduli", "ahead", "turn"] [] := F_Rule___init__.binds (ps := ["self", "moduli", "ahead", "turn"]) fun _ _ _ _ _ _ us hl => match us, hl with | [_, _, _, _], _ => rfl
  obtain ⟨fd_BadText___init__, F_BadText___init__'⟩ := di 31 _ rfl
  have F_BadText___init__ : Fun K "__init__" "BadText.__init__" s_BadText (He.ma K (He.ga K "BadText") "__init__") fd_BadText___init__ := F_BadText___init__'
  have b_BadText___init__ : Binds K fd_BadText___init__ ["self", "line", "word"] [] := F_BadText___init__.binds (ps := ["self", "line", "word"]) fun _ _ _ _ _ _ us hl => match us, hl with | [_, _, _], _ => rfl
  obtain ⟨fd_Rule___str__, F_Rule___str__'⟩ := di 32 _ rfl
  have F_Rule___str__ : Fun K "__str__" "Rule.__str__" s_Rule___str__ (He.ma K (He.ga K "Rule") "__str__") fd_Rule___str__ := F_Rule___str__'
  have b_Rule___str__ : Binds K fd_Rule___str__ ["self"] [] := F_Rule___str__.binds (ps := ["self"]) fun _ _ _ _ _ _ us hl => match us, hl with | [_], _ => rfl
  obtain ⟨fd_Rule___eq__, F_Rule___eq__'⟩ := di 33 _ rfl
  have F_Rule___eq__ : Fun K "__eq__" "Rule.__eq__" s_Rule_eq (He.ma K (He.ga K "Rule") "__eq__") fd_Rule___eq__ := F_Rule___eq__'
  have b_Rule___eq__ : Binds K fd_Rule___eq__ ["self", "other"] [] := F_Rule___eq__.binds (ps := ["self", "other"]) fun _ _ _ _ _ _ us hl => match us, hl with | [_, _], _ => rfl
  obtain ⟨fd_Rule_classes, F_Rule_classes'⟩ := di 34 _ rfl
  have F_Rule_classes : Fun K "classes" "Rule.classes" s_Rule_classes (getterOf K (He.ma K (He.ga K "Rule") "classes")) fd_Rule_classes := F_Rule_classes'
  have b_Rule_classes : Binds K fd_Rule_classes ["self"] [] := F_Rule_classes.binds (ps := ["self"]) fun _ _ _ _ _ _ us hl => match us, hl with | [_], _ => rfl
  obtain ⟨fd_Rule_read, F_Rule_read'⟩ := di 35 _ rfl
  have F_Rule_read : Fun K "read" "Rule.read" s_Rule_read (He5.wf K (He.ga K "Rule") "classmethod" "read") fd_Rule_read := F_Rule_read'
  have b_Rule_read : Binds K fd_Rule_read ["cls", "text"] [] := F_Rule_read.binds (ps := ["cls", "text"]) fun _ _ _ _ _ _ us hl => match us, hl with | [_, _], _ => rfl
  have ddi : ∀ (i : Nat) (d : He5.DefA), dd[i]? = some d → ∃ fd, FunD K d.name d.qual d.params d.body d.scope (d.dvs K) (d.kws K) (d.at_ K) fd := fun i d hd => c.defd d (List.mem_of_getElem? hd)
  have g_is_integer := He.glo_ok X G (fi1 0 (.glo "is_integer") rfl)
  have g_is_within := He.glo_ok X G (fi1 1 (.glo "is_within") rfl)
  have g_banks_by := He.glo_ok X G (fi1 2 (.glo "banks_by") rfl)
  have g_are_moduli := He.glo_ok X G (fi1 3 (.glo "are_moduli") rfl)
  have g_are_banks := He.glo_ok X G (fi1 4 (.glo "are_banks") rfl)
  have g_shortest_weights := He.glo_ok X G (fi1 5 (.glo "shortest_weights") rfl)
  have g_spaced := He.glo_ok X G (fi1 6 (.glo "spaced") rfl)
  have g_whole_in := He.glo_ok X G (fi1 7 (.glo "whole_in") rfl)
  have g_expect := He.glo_ok X G (fi1 8 (.glo "expect") rfl)
  have g_moduli_from := He.glo_ok X G (fi1 9 (.glo "moduli_from") rfl)
  have g_weights_from := He.glo_ok X G (fi1 10 (.glo "weights_from") rfl)
  have g_read_weights := He.glo_ok X G (fi1 11 (.glo "read_weights") rfl)
  have g__law_pen := He.glo_ok X G (fi1 12 (.glo "_law_pen") rfl)
  have g__law_draw := He.glo_ok X G (fi1 13 (.glo "_law_draw") rfl)
  have g__law_pick := He.glo_ok X G (fi1 14 (.glo "_law_pick") rfl)
  have g__law_plain := He.glo_ok X G (fi1 15 (.glo "_law_plain") rfl)
  have g__law_normal := He.glo_ok X G (fi1 16 (.glo "_law_normal") rfl)
  have g__law_heard := He.glo_ok X G (fi1 17 (.glo "_law_heard") rfl)
  have g__law_text := He.glo_ok X G (fi1 18 (.glo "_law_text") rfl)
  have g__law_number := He.glo_ok X G (fi1 19 (.glo "_law_number") rfl)
  have g__law_moduli := He.glo_ok X G (fi1 20 (.glo "_law_moduli") rfl)
  have g__law_weights := He.glo_ok X G (fi1 21 (.glo "_law_weights") rfl)
  have g__law_wrong := He.glo_ok X G (fi1 22 (.glo "_law_wrong") rfl)
  have g__law_due := He.glo_ok X G (fi1 23 (.glo "_law_due") rfl)
  have g__law_bent := He.glo_ok X G (fi1 24 (.glo "_law_bent") rfl)
  have g__law_right := He.glo_ok X G (fi1 25 (.glo "_law_right") rfl)
  have g_law := He.glo_ok X G (fi1 26 (.glo "law") rfl)
  have g_BankError := He.glo_ok X G (fi1 27 (.glo "BankError") rfl)
  have g_BadRule := He.glo_ok X G (fi1 28 (.glo "BadRule") rfl)
  have g_BadNumber := He.glo_ok X G (fi1 29 (.glo "BadNumber") rfl)
  have g_TooMany := He.glo_ok X G (fi1 30 (.glo "TooMany") rfl)
  have g_BadText := He.glo_ok X G (fi1 31 (.glo "BadText") rfl)
  have g_Rule := He.glo_ok X G (fi1 32 (.glo "Rule") rfl)
  have m_isinstance := He.free_ok X G (fi2 0 (.free "isinstance") rfl)
  have m_int := He.free_ok X G (fi2 1 (.free "int") rfl)
  have m_bool := He.free_ok X G (fi2 2 (.free "bool") rfl)
  have m_len := He.free_ok X G (fi2 3 (.free "len") rfl)
  have m_all := He.free_ok X G (fi2 4 (.free "all") rfl)
  have m_list := He.free_ok X G (fi2 5 (.free "list") rfl)
  have m_tuple := He.free_ok X G (fi2 6 (.free "tuple") rfl)
  have m_range := He.free_ok X G (fi2 7 (.free "range") rfl)
  have m_abs := He.free_ok X G (fi2 8 (.free "abs") rfl)
  have m_repr := He.free_ok X G (fi2 9 (.free "repr") rfl)
  have m_sum := He.free_ok X G (fi2 10 (.free "sum") rfl)
  have m_zip := He.free_ok X G (fi2 11 (.free "zip") rfl)
  have m_enumerate := He.free_ok X G (fi2 12 (.free "enumerate") rfl)
  have m_max := He.free_ok X G (fi2 13 (.free "max") rfl)
  have m_str := He.free_ok X G (fi2 14 (.free "str") rfl)
  have c_MOST_MODULI := He.int_ok X G (fi2 15 (.int "MOST_MODULI" 5) rfl)
  have c_MOST_BANKS := He.int_ok X G (fi2 16 (.int "MOST_BANKS" 32) rfl)
  have c_MOST_PLACES := He.int_ok X G (fi2 17 (.int "MOST_PLACES" 24) rfl)
  have e := hfa.symm.trans g_law
  cases e
  have xl_BadRule := xl_of xBadRule
  have xc_BadRule := xc_of xl_BadRule yBadRule
  obtain ⟨n_BadRule, t_BadRule⟩ := He.ba iBadRule
  have n_BadRule' := of_decide_eq_true n_BadRule
  have t_BadRule' := of_decide_eq_true t_BadRule
  have xl_BadNumber := xl_of xBadNumber
  have xc_BadNumber := xc_of xl_BadNumber yBadNumber
  obtain ⟨n_BadNumber, t_BadNumber⟩ := He.ba iBadNumber
  have n_BadNumber' := of_decide_eq_true n_BadNumber
  have t_BadNumber' := of_decide_eq_true t_BadNumber
  have xl_TooMany := xl_of xTooMany
  have xc_TooMany := xc_of xl_TooMany yTooMany
  obtain ⟨n_TooMany, t_TooMany⟩ := He.ba iTooMany
  have n_TooMany' := of_decide_eq_true n_TooMany
  have t_TooMany' := of_decide_eq_true t_TooMany
  have xl_BadText := xl_of xBadText
  have xc_BadText := xc_of xl_BadText yBadText
  obtain ⟨n_BadText, t_BadText⟩ := He.ba iBadText
  have n_BadText' := of_decide_eq_true n_BadText
  have t_BadText' := of_decide_eq_true t_BadText
  have T : TR mg := ⟨m_isinstance, m_int, m_bool, m_len, m_all, m_list, m_tuple, m_range, m_sum, m_zip, m_enumerate, c_MOST_MODULI, c_MOST_BANKS, c_MOST_PLACES⟩
  have TBo : TB mg := ⟨m_int, m_abs, m_len, m_list⟩
  have TE : TErr K mg (He.ga K "BadRule") (He.ga K "BadNumber") (He.ga K "TooMany") (He.ma K (He.ga K "BadRule") "__init__") (He.ma K (He.ga K "BadNumber") "__init__") (He.ma K (He.ga K "TooMany") "__init__") fd_BadRule___init__ fd_BadNumber___init__ fd_TooMany___init__ := ⟨g_BadRule, ⟨xc_BadRule, n_BadRule', t_BadRule'⟩, F_BadRule___init__, He.noat_ok (fi2 22 (.noat "BadRule" "part") rfl), b_BadRule___init__, g_BadNumber, ⟨xc_BadNumber, n_BadNumber', t_BadNumber'⟩, F_BadNumber___init__, He.noat_ok (fi2 23 (.noat "BadNumber" "value") rfl), b_BadNumber___init__, g_TooMany, ⟨xc_TooMany, n_TooMany', t_TooMany'⟩, F_TooMany___init__, He.noat_ok (fi2 24 (.noat "TooMany" "what") rfl), He.noat_ok (fi2 25 (.noat "TooMany" "most") rfl), b_TooMany___init__⟩
  have TU : TRule K mg (He.ga K "Rule") _ _ _ _ := ⟨He.cls_ok (fi2 18 (.cls "Rule") rfl), He.noat_ok (fi2 19 (.noat "Rule" "moduli") rfl), He.noat_ok (fi2 20 (.noat "Rule" "ahead") rfl), He.noat_ok (fi2 21 (.noat "Rule" "turn") rfl), g_Rule, prop_of p1, prop_of p2⟩
  have MRI := He.mkr_ok (fi2 26 (.mkr "Rule") rfl)
  have TX : TText K mg (He.ga K "BadText") _ fd_BadText___init__ := ⟨g_BadText, ⟨xc_BadText, n_BadText', t_BadText'⟩, F_BadText___init__, He.noat_ok (fi2 31 (.noat "BadText" "line") rfl), He.noat_ok (fi2 32 (.noat "BadText" "word") rfl), b_BadText___init__⟩
  have THd : THeard K mg (He.ga K "BadText") (He.ga K "BankError") := ⟨g_BankError, g_BadText, xc_BadText, TX.nWord, TX.nLine, He.exm_ok (fi2 33 (.exm "BadText" "BankError" true) rfl), of_decide_eq_true kBadTextBadText, m_isinstance, m_str⟩
  have OC := own_of ow
  have RC := rcls_of TU.cl rc
  obtain ⟨nSt, nSt2⟩ := str_of st
  have rcR := cread_of cr
  have cmR := cm_of cm_read
  have kCs := of_decide_eq_true kcs
  obtain ⟨och, odh, kVh, doch, pmh, anh, cdvh, cth, oslh, eh, lkHe, hcHe⟩ := id F__law_heard.ex
  subst eh
  have kRd : KBn K fd_Rule_read ["cls", "text"] 1 ["text"] (fun us ws => us ++ ws) (fun vs zs => vs ++ zs) := F_Rule_read.kbn 1 ["text"] _ _ (fun _ _ _ _ _ _ us ws l1 l2 => match us, ws, l1, l2 with | [_], [_], _, _ => rfl) fun r q => r.append q
  obtain ⟨ocM, odM, kVM, docM, pmM, anM, cdvM, ctM, oslM, eM, lkM, hcM⟩ := id F__law_right.ex
  obtain ⟨ocl, odl, kVl, docl, pml, anl, cdvl, ctl, osll, el, lkL, hcL⟩ := id F_law.ex
  subst eM el
  obtain ⟨c0, rfl⟩ := He.codeIn_ref hcM
  obtain ⟨c1, rfl⟩ := He.codeIn_ref hcL
  have ec0 : He.codeOf K ("_law_right", none) = c0 := He.codeOf_eq lkM rfl
  have ec1 : He.codeOf K ("law", none) = c1 := He.codeOf_eq lkL rfl
  have dis := of_decide_eq_true pp01
  refine ⟨PySem.W.fnOf "law" "law" (defArgs s_law) (defBody s_law) (defScope s_law) .none kVl docl pml anl (.ref c1) ctl, fun s v => .of_eq rfl, fun base _ _ tb => ?_⟩
  have TBR : TabB base mg c0 (He.cT K ("_law_right", none)).2 := by
    rw [← ec0]
    exact tb _ List.mem_cons_self
  have TBl : TabB base mg c1 (He.cT K ("law", none)).2 := by
    rw [← ec1]
    exact tb _ (List.mem_cons_of_mem _ List.mem_cons_self)
  have GD : FnOk P w K mg base CX0 1 _ fd__law_draw ["_law_pen_here", "_law_many"] spDraw := ok__law_draw F__law_draw TBo
  have GPk : FnOk P w K mg base CX0 2 _ fd__law_pick ["_law_pen_here", "_law_some"] (spPick K) := ok__law_pick F__law_pick TBo F__law_draw g__law_draw b__law_draw
  have GPn : FnOk P w K mg base CX0 1 _ fd__law_pen ["_law_script"] (spPen K) := ok__law_pen F__law_pen TBo
  have GPl : FnOk P w K mg base CX0 3 _ fd__law_plain ["_law_pen_here"] spPlain := ok__law_plain F__law_plain T TBo F__law_draw g__law_draw b__law_draw F__law_pick g__law_pick b__law_pick
  have GRI := ok_Rule_init (P := P) (w := w) (base := base) F_Rule___init__ T TE TU F_is_integer g_is_integer b_is_integer F_is_within g_is_within b_is_within F_banks_by g_banks_by b_banks_by F_are_moduli g_are_moduli b_are_moduli F_are_banks g_are_banks b_are_banks F_shortest_weights g_shortest_weights b_shortest_weights F_Rule_classes b_Rule_classes
  have GSp : FnOk P w K mg base CX0 1 _ fd_spaced ["numbers"] spSpaced := ok_spaced F_spaced T m_str
  have GSt := ok_Rule_str (P := P) (w := w) (base := base) F_Rule___str__ TU GSp g_spaced F_spaced.kp b_spaced
  have GEq := ok_Rule_eq (P := P) (w := w) (base := base) F_Rule___eq__ T TU RC
  have GWh : FnOk P w K mg base CX0 1 _ fd_whole_in ["word", "most"] spWhole := ok_whole_in F_whole_in T m_str (He.str_ok X G (fi2 30 (.str "DIGITS" "0123456789") rfl))
  have GM : FnOk P w K mg base CX0 3 _ fd_are_moduli ["value"] (spAreModuli K) := ok_are_moduli F_are_moduli T F_is_integer g_is_integer b_is_integer F_is_within g_is_within b_is_within F_banks_by g_banks_by b_banks_by
  have GB : FnOk P w K mg base CX0 1 _ fd_banks_by ["moduli"] (spBanksBy K) := ok_banks_by F_banks_by
  have GEx := ok_expect (P := P) (w := w) (base := base) F_expect TX
  have GMf := ok_moduli_from (P := P) (w := w) (base := base) F_moduli_from T GWh g_whole_in F_whole_in.kp b_whole_in GM g_are_moduli F_are_moduli.kp b_are_moduli
  have GWf := ok_weights_from (P := P) (w := w) (base := base) F_weights_from T GWh g_whole_in F_whole_in.kp b_whole_in
  have GRw := ok_read_weights (P := P) (w := w) (base := base) F_read_weights T m_str m_max TX GEx g_expect F_expect.kp b_expect GMf g_moduli_from F_moduli_from.kp b_moduli_from GWf g_weights_from F_weights_from.kp b_weights_from GB g_banks_by F_banks_by.kp b_banks_by
  have GRd := ok_Rule_read (P := P) (w := w) (base := base) F_Rule_read T m_str TX TU GRw g_read_weights F_read_weights.kp b_read_weights MRI GRI b_Rule___init__ GSt b_Rule___str__ nSt nSt2
  have GNm : FnOk P w K mg base CX0 1 _ fd__law_normal ["_law_plain_here"] spNormal := ok__law_normal F__law_normal T
  have GTx : FnOk P w K mg base CX0 1 _ fd__law_text ["_law_plain_here"] spLText := ok__law_text F__law_text T m_str
  have GNu : FnOk P w K mg base CX0 1 _ fd__law_number ["_law_word", "_law_least", "_law_most"] spNum := ok__law_number F__law_number T m_str
  have GLm := ok__law_moduli (P := P) (w := w) (base := base) F__law_moduli T GNu g__law_number F__law_number.kp b__law_number
  have GLw := ok__law_weights (P := P) (w := w) (base := base) F__law_weights T GNu g__law_number F__law_number.kp b__law_number
  have GWr := ok__law_wrong (P := P) (w := w) (base := base) F__law_wrong T GLm g__law_moduli F__law_moduli.kp b__law_moduli GLw g__law_weights F__law_weights.kp b__law_weights
  have GDu := ok__law_due (P := P) (w := w) (base := base) F__law_due T GWr g__law_wrong F__law_wrong.kp b__law_wrong GNm g__law_normal F__law_normal.kp b__law_normal GTx g__law_text F__law_text.kp b__law_text
  have GBe := ok__law_bent (P := P) (w := w) (base := base) F__law_bent T GD g__law_draw F__law_draw.kp b__law_draw GPk g__law_pick F__law_pick.kp b__law_pick
  have GRt := ok__law_right (P := P) (w := w) (base := base) lkM hcM TBR dis T TU THd GDu g__law_due F__law_due.kp b__law_due rcR cmR GRd b_Rule_read kRd nSt nSt2 GSt b_Rule___str__ g__law_heard F__law_heard.kp lkHe hcHe b__law_heard
  exact ok_law lkL hcL TBl dis T m_str TU RC kCs THd GPn g__law_pen F__law_pen.kp b__law_pen GPk g__law_pick F__law_pick.kp b__law_pick GPl g__law_plain F__law_plain.kp b__law_plain GNm g__law_normal F__law_normal.kp b__law_normal GTx g__law_text F__law_text.kp b__law_text GBe g__law_bent F__law_bent.kp b__law_bent GRt g__law_right F__law_right.kp b__law_right rcR cmR GRd b_Rule_read nSt nSt2 GSt b_Rule___str__ OC GEq b_Rule___eq__ MRI GRI b_Rule___init__ g__law_heard F__law_heard.kp lkHe hcHe b__law_heard

end Toy
open PySem PySem.W PySem.Calls PyProof.Rows
set_option maxRecDepth 100000 in
set_option maxHeartbeats 0 in
theorem PySem.Challenge.cw_lanebanks_k26_texts_of_rules_holds : PySem.Challenge.rw_lanebanks_k26_texts_of_rules.Holds := by
  w_on; o_law
  refine HandSHeadRun.head_imp (r := OpenLaw.row PySem.Challenge.rw_lanebanks_k26_texts_of_rules) (q := Toy.vw) (H := Toy.hk) (ob := Toy.ob) (M := 40000) (loose := Toy.names ++ Toy.names2) (d := HandSHeadRun.topDef (OpenLaw.row PySem.Challenge.rw_lanebanks_k26_texts_of_rules).prog 50) (kwd := []) Toy.ob_eq
    Toy.run (by kernel_rfl) (by kernel_rfl) (by kernel_rfl) (by rfl) (by first | assumption | decide +kernel) (by decide +kernel) ⟨rfl, rfl, rfl, rfl, rfl, by decide +kernel⟩ ?hw ?hc
  case hw => w_witness2
  case hc =>
    refine L2.walk_tabs (l := PySem.Challenge.rw_lanebanks_k26_texts_of_rules) (n := 63) (k := 10) (x := "_law_script") (sp := fun K ts => Toy.spTabs K ts) rfl (by decide) (by kernel_rfl) ⟨rfl, by decide, by decide⟩ ?F (fun K ts H a ns hl hb hT hS => ⟨a, ns, rfl, hS, hl, hb, hT, fun _ => rfl⟩)
    intro w mg fa h Y G hmg0
    obtain ⟨K, KX, c⟩ := Y
    have hmg : mg ("law" : PySem.Str) = some (.ref fa) := by
      have e : (HandSHeadRun.topDef (OpenLaw.row PySem.Challenge.rw_lanebanks_k26_texts_of_rules).prog 50).name = ("law" : PySem.Str) := by kernel_rfl
      rw [← e]
      exact hmg0
    obtain ⟨fd, hb, hF⟩ := Toy.facts (P := (PySem.Challenge.rw_lanebanks_k26_texts_of_rules).prog) (w := w) KX G hmg c
    refine ⟨K, Toy.tabsOf.map (He.cT K), fd, KX, fun p hp => ?_, fun p hp => ?_, fun p hp => ?_, hb, hF⟩
    all_goals
      obtain ⟨d, hd, rfl⟩ := List.mem_map.mp hp
    · exact c.empty d hd
    · exact c.out d hd
    · exact PySem.W.codeHd_of_K KX (c.hd d hd)
