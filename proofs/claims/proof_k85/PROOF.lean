import PyProof.Rows.All
import Wide.All
import OpenK.AllK
import Wide.FinOn
import HandS.ForMost
import HandS.ForExc
import HandS.ExcInit
import HandS.IsInst
import HandS.Wide
import HandS.EndBits
import HandS.Conv
import HandS.Defaults
import KE.KExcIs
import HandS.MakeKw
import HandS.Codes
import HandS.ExcValue
import HandS.Walk
import HandS.Style
import HandS.TupMul
import HandS.TupAny
import HandS.ExcOwn
import HandS.WordsExc
import HandS.Property
import KE.KAssignIn
import HandS.OwnEq
import HandS.More
import HandS.HeadHook2
import KE.GoesEnum
import KE.KDictZip
import HandS.Zip
import HandS.ListItems
import HandS.Star
import HandS.Words
import PyProof.FString
import PyProof.FString3
import HandS.Small
import PyProof.Rows.StrIntSpec
import HandS.FStr
import HandS.Text
import PyProof.Rows.StrStep
import KE.KOpsOwn
import KE.KMathGC
import HandS.Gcd
import KE.KCallOwn
import HandS.ClsMeth
import HandS.IterVal
import KE.KOwnIter
import OpenK.KOps
import OpenK.KMeth
import HandS.SetFor
import HandS.Strs
import HandS.Exc
import HandS.Comp
import KE.GoesRaise
import HandS.HeadNt
import KE.KTupTruth
import HandS.Lambda
import HandS.EndTab
import PyProof.StrBlock2
import HandS.HeadHook4
import KE.KStateDown
import Lean
import HandS.Head0
import HandS.Head1
import HandS.Head2
import HandS.Head3
import HandS.HeadEnd
import PySem.Challenge.RW_lanebanks_k85_texts_of_logs
set_option Elab.async false
set_option linter.all false
set_option maxRecDepth 100000
namespace L2
open PySem PySem.Spec PyProof.Rows
/-! exceptions of the program's own as values -/
structure XvC (K : PySem.W.Frag) (C : Addr) : Prop where
  oex : OexC K C
  ga : PySem.W.findIn K (.ref C) "__getattribute__" = some (some (.builtin "BaseException.__getattribute__"))
  gg : PySem.W.findIn K (.ref C) "__getattr__" = some none
  dd : PySem.W.hasDictIn K C = true
  ic : (PySem.W.clsIn K C).isSome = true
  ca : PySem.W.findIn K (.ref C) "__class__" = some (some (.builtin "object.__class__"))
  gs : PySem.W.specialIn K (.builtin "object.__class__") "__get__" = some (some (.builtin "getset_descriptor.__get__"))
  tk : PySem.W.takesIn K (.builtin "object.__class__") = some true
  mo : PySem.W.mroIn K C (.type "object") = some true
/-- an exception object with (some) dict -/
def XvD (H : Hp) (d : Option Addr) : Prop := ∀ b, d = some b → ∃ fs, H b = some (exd b fs)
section
variable {X : Cx} {pins : List (Addr × Obj)} {σ : St} {H : Hp} {s : Shared}
theorem xv_inst {a C : Addr} {d : Option Addr} (I : Inv X pins σ H s) (e : H a = some (exo a C d)) (hd : XvD H d) : ∃ oe od, PySem.W.InstAt s.heap a oe C od := by
  obtain ⟨t1, ho⟩ := exo_at I.hok e
  cases d with
  | none => exact ⟨_, none, ho, rfl, rfl, trivial⟩
  | some b =>
    obtain ⟨fs, eb⟩ := hd b rfl
    obtain ⟨mA, hns, hr⟩ := exd_at I.hok eb
    obtain ⟨od, hod, hl⟩ := lookIn_ns hns
    exact ⟨_, some od, ho, rfl, rfl, hod⟩
/-- e.f off such a value -/
def tXat (K : PySem.W.Frag) (te : TE) (f : Str) : TE := fun σ H Q => te σ H fun x H1 => ∃ (a C d : Addr) (fs : List (Str × V)) (v : V), x = .ref a ∧ H1 a = some (exo a C (some d)) ∧ H1 d = some (exd d fs) ∧ XvC K C ∧ PySem.W.findIn K (.ref C) f = some none ∧ fs.lookup f = some v ∧ Q v H1
theorem pe_xat {e : Expr} {te : TE} {f : Str} {pos : Pos} (he : PE X e te) (hb : attributeBase e f X.env (eval e X.env) = eval e X.env := by rfl) : PE X (.Attribute e f pos) (tXat X.K te f) := by
  refine ⟨fun pins s σ H Q I h => ?_⟩
  refine attr_of hb (thn (he.run pins s σ H _ I h) fun u s1 hh => ?_)
  obtain ⟨x, H1, I1, rx, a, C, d, fs, v, ex, ea, ed, T, no, l, q⟩ := hh
  subst ex
  obtain rfl : u = Value.ref a := rx
  obtain ⟨t1, ho⟩ := exo_at I1.hok ea
  obtain ⟨mA, hns, hr⟩ := exd_at I1.hok ed
  obtain ⟨od, hod, hl⟩ := lookIn_ns hns
  obtain ⟨u, hu, ru⟩ := RelO.some_of (v := v) (o := mA f) (by rw [← l]; exact hr f)
  have J : PySem.W.InstAt s1.heap a _ C (some od) := ⟨ho, rfl, rfl, hod⟩
  exact HandSPX.exc_get I1.kIn J T.ga T.gg T.oex.exC (PySem.W.findObj_own T.dd no rfl (by rw [hl, hu])) (handed_of ru) ⟨v, H1, I1.tok _, ru, q⟩
/-- isinstance(e, c) -/
def rIsX (K : PySem.W.Frag) : List V → Hp → VK → Prop := fun xs H Q => ∃ (a C : Addr) (d : Option Addr) (c : V) (cv : Value) (b : Bool), xs = [.ref a, c] ∧ H a = some (exo a C d) ∧ XvD H d ∧ XvC K C ∧ ClsV c cv ∧ PySem.W.kitOne K (.ref C) cv = some b ∧ Q (.bl b) H
theorem call_isx : CallR X (.builtin "isinstance") (rIsX X.K) := by
  intro pins s σ H xs us Q I r h
  obtain ⟨a, C, d, c, cv, b, rfl, ea, hd, T, k, e, q⟩ := h
  obtain ⟨u1, u2, rfl, r1, r2⟩ := vals2 r
  have e2 := k.eq r2
  subst e2
  obtain rfl : u1 = Value.ref a := r1
  obtain ⟨oe, od, J⟩ := xv_inst I ea hd
  exact PySem.W.kia_one (PySem.W.kitx_exc T.ic T.ga T.gg T.oex.exC T.ca T.gs T.tk T.mo) I.kIn J e (fun z => nomatch z) fun tk => ⟨.bl b, H, I.tok tk, rfl, q⟩
end
end L2
set_option maxRecDepth 100000
namespace PySem
namespace XKw
open Builtin Builtin.ObjectAttr PySem.HandSPX
section
variable {M : Model} {A : Around} {E : Value → Shared → Prop} {hh : Heap} {gg : Array GenState} {dr : Drawn} {tt : Nat} {oss : OsState}
variable {nm q : Str} {C N : Addr} {bs bm bmB : List Value} {hdct : Bool} {sn : List Str} {sub : List Value} {ab : Bool} {col : Option Bool} {dd : Option Addr} {k0 k1 k2 k3 k5 : Option Value} {B nid iid : String}
theorem chk_new (FF : ExcBaseFacts B nid iid bmB) (hT : ∀ Y : String, bm.contains (.type Y) = bmB.contains (.type Y)) {us : List Value} {kw : List (Str × Value)} {Q : Unit → Shared → Prop}
    (hC : hh.get? C = some (excClassObj nm q C N bs bm hdct sn sub ab col dd k0 k1 k2 k3 k5 nid))
    (hq : Q () ⟨hh, gg, dr, tt, oss⟩) : wpAny M A (checkBuiltinCall nid ⟨.ref C :: us, kw⟩) Q E ⟨hh, gg, dr, tt, oss⟩ := by
  have hc : (Value.ref C :: bm).contains (.type B) = true := by rw [List.contains_cons, hT, FF.hasB]; exact Bool.or_true _
  have hs := FF.noStar
  simp only [checkBuiltinCall, FF.newKind, FF.newSplit, FF.newRow]
  repeat (first
    | refine wpAny_loadPart_at hC ?_
    | (refine wpAny_isSubtype_exc hC ?_; rw [hc])
    | refine wpAny_staticBase_exc hC ?_
    | refine wpAny_madeBy_exc hC ?_
    | simp only [bne_self_eq_false, Bool.false_eq_true, if_false]
    | wp_step)
  exact hq
end
section
variable {prog : Program} {w : World} {A : Around} {E : Value → Shared → Prop} {R : Result → Shared → Prop} {hh : Heap} {gg : Array GenState} {dr : Drawn} {tt : Nat} {oss : OsState}
variable {nm q : Str} {C N : Addr} {bs bm bmB : List Value} {hdct : Bool} {sn : List Str} {sub : List Value} {ab : Bool} {col : Option Bool} {dd : Option Addr} {k0 k1 k2 k3 k5 : Option Value} {B nid iid : String} {kw : List (Str × Value)}
theorem mk_new (FF : ExcBaseFacts B nid iid bmB) (hT : ∀ Y : String, bm.contains (.type Y) = bmB.contains (.type Y)) {us : List Value}
    (hC : hh.get? C = some (excClassObj nm q C N bs bm hdct sn sub ab col dd k0 k1 k2 k3 k5 nid))
    (hq : R (.ok (.ret (.ref (hh.objs.size + 1)))) ⟨(hh.push (W.kdv_tup us)).push (excO C hh.objs.size), gg, dr, tt, oss⟩) (hu : us.length ≤ sizeLine) :
    codeAny (model prog w) A (.builtin nid ⟨.ref C :: us, kw⟩) R ⟨hh, gg, dr, tt, oss⟩ := by
  have he := FF.ends
  have c1 : (Value.ref C :: bm).contains (.type B) = true := by rw [List.contains_cons, hT, FF.hasB]; exact Bool.or_true _
  have c2 : (Value.ref C :: bm).contains (.type "AttributeError") = false := by rw [List.contains_cons, hT, FF.noAttr]; exact Bool.or_false _
  have c3 : (Value.ref C :: bm).contains (.type "NameError") = false := by rw [List.contains_cons, hT, FF.noName]; exact Bool.or_false _
  refine codeAny_builtinAt FF.entry ?_
  unfold Builtin.«BaseException.__new__»
  refine wpAt_bind ?_
  show wpAt _ _ _ (PySem.stack >>= _) _ _ _
  refine wpAt_bind (wpAt_stack fun _ _ => wpAt_of_wpAny ?_)
  wp_walk
  refine wpAt_of_wpAny ?_
  rw [FF.owner]
  repeat (first
    | with_reducible refine wpAny_madeHere_exc FF.canon hC ?_
    | with_reducible refine wpAny_loadPart_at hC ?_
    | (with_reducible refine wpAny_isSubtype_exc hC ?_; first | rw [c1] | rw [c2] | rw [c3])
    | wp_step)
  show R _ _
  rw [Heap.size_push]
  exact hq
theorem mk_type (FF : ExcBaseFacts B nid iid bmB) (hT : ∀ Y : String, bm.contains (.type Y) = bmB.contains (.type Y)) {us : List Value} {fI : Addr} {Q : Fin → Shared → Prop}
    (hC : hh.get? C = some (excClassObj nm q C N bs bm hdct sn sub ab col dd k0 k1 k2 k3 k5 nid))
    (hi : W.Looks (model prog w) hh (typeLookup (.ref C) "__init__") (some (.ref fI)))
    (hb : ∀ y, W.Looks (model prog w) hh (bindSpecial (.ref fI) y) (.ref fI, [y])) (hu : us.length ≤ sizeLine)
    (hq : codeAny (model prog w) A (.call (.ref fI) ⟨.ref (hh.objs.size + 1) :: us, kw⟩)
      (fun r z => match r with
        | .ok (.ret v) => v = .none ∧ Q (.done (.ret (.ref (hh.objs.size + 1)))) z
        | .ok _ => False
        | .error e => E e z)
      ⟨(hh.push (W.kdv_tup us)).push (excO C hh.objs.size), gg, dr, tt, oss⟩) :
    wpAny (model prog w) A (Builtin.«type.__call__» ⟨.ref C :: us, kw⟩) Q E ⟨hh, gg, dr, tt, oss⟩ := by
  repeat (first
    | with_reducible refine wpAny_loadPart_at hC ?_
    | with_reducible refine wpAny_madeBy_exc hC ?_
    | wp_step)
  refine codeAny_call_builtin_code (Code.quiet_builtin _ FF.quiet) (chk_new FF hT hC ?_)
  refine mk_new FF hT hC ?_ hu
  show wpAny _ _ _ _ _ _
  have k : ∀ b o, hh.get? b = some o → ((hh.push (W.kdv_tup us)).push (excO C hh.objs.size)).get? b = some o :=
    fun _ _ e => Heap.get?_push_of_some _ (Heap.get?_push_of_some _ e)
  have hC1 := k _ _ hC
  have hg : ((hh.push (W.kdv_tup us)).push (excO C hh.objs.size)).get? (hh.objs.size + 1) = some (excO C hh.objs.size) := by
    heap_get
  have cC : (Value.ref C :: bm).contains (.ref C) = true := by simp
  have i1 := hi.keeps k
  have b1 := (hb (.ref (hh.objs.size + 1))).keeps k
  unfold isInstance
  repeat (first
    | with_reducible refine wpAny_loadPart_at hg ?_
    | (with_reducible refine wpAny_isSubtype_exc hC1 ?_; rw [cC])
    | wp_step)
  show wpAny _ _ (typeLookup (.ref C) _) _ _ _
  refine i1.at ?_
  refine wpAny_holding (wpAny_bind (b1.at ?_))
  refine wpAny_bind (wpAny_call (codeAny_mono hq fun r z y => ?_))
  cases r with
  | error e => exact y
  | ok fl =>
    cases fl with
    | ret v =>
      obtain ⟨rfl, y⟩ := y
      first
        | exact wpAny_pure (wpAny_pure y)
        | (wp_walk; done)
        | (wp_walk; exact y)
    | next => exact y.elim
    | brk => exact y.elim
    | cont => exact y.elim
theorem mk_call (FF : ExcBaseFacts B nid iid bmB) (hT : ∀ Y : String, bm.contains (.type Y) = bmB.contains (.type Y)) {us : List Value} {fI : Addr}
    (hC : hh.get? C = some (excClassObj nm q C N bs bm hdct sn sub ab col dd k0 k1 k2 k3 k5 nid))
    (hi : W.Looks (model prog w) hh (typeLookup (.ref C) "__init__") (some (.ref fI)))
    (hb : ∀ y, W.Looks (model prog w) hh (bindSpecial (.ref fI) y) (.ref fI, [y])) (hu : us.length ≤ sizeLine)
    (hq : codeAny (model prog w) (A.under (.builtin "type.__call__" ⟨.ref C :: us, kw⟩)) (.call (.ref fI) ⟨.ref (hh.objs.size + 1) :: us, kw⟩) (W.InitBack (hh.objs.size + 1) R)
      ⟨(hh.push (W.kdv_tup us)).push (excO C hh.objs.size), gg, dr, tt, oss⟩) :
    codeAny (model prog w) A (.call (.ref C) ⟨us, kw⟩) R ⟨hh, gg, dr, tt, oss⟩ := by
  have f1 := tc_lookup
  have f2 := tc_bind (.ref C)
  have hTy : (⟨hh, gg, dr, tt, oss⟩ : Shared).TypeIs (.ref C) "type" := ⟨_, hC, rfl⟩
  refine codeAny_of_tree ?_
  show wpAny _ _ (callAny (.ref C) _) _ _ _
  repeat (any_goals (first
    | assumption
    | with_reducible refine wpAny_loadPart_at hC ?_
    | wp_step))
  refine ⟨rfl, ?_⟩
  refine codeAny_call_builtin_at (Code.quiet_builtin _ (by decide +kernel)) entry_typeCall (wpAny_check_type_call_sub hC (mk_type FF hT hC hi hb hu ?_))
  refine codeAny_mono hq fun r z y => ?_
  rcases r with e | (v | _ | _ | _) <;> exact y
end
end XKw
end PySem
set_option maxRecDepth 100000
namespace L2
open PySem PySem.Spec PyProof.Rows
/-- a def's promise where nothing is being shown around it (repr asks that) -/
structure FnG (P : Program) (w : World) (K : PySem.W.Frag) (mg : Str → Option Value) (base : Heap) (CX : CXT) (k : Nat) (f : Addr) (fd : FuncData) (ps : List Str) (sp : Sp) : Prop where
  len : ∀ vs H Q E, sp vs H Q E → vs.length = ps.length
  run : ∀ (A : Around) (outer : List Env) (s : Shared) (H : Hp) (args : Args) (us : List Value) (vs : List V) (Q : VK) (E : XK), A.guards = some [] → Room k A →
    Env0 P w K mg base A outer s H → BindsTo s fd args (ps.zip us) → Vals vs us → sp vs H Q E →
    codeAny (model P w) A (.call (.ref f) args) (CR CX outer P w H s Q E) s
section
variable {P : Program} {w : World} {K : PySem.W.Frag} {mg : Str → Option Value} {base : Heap} {CX : CXT} {k : Nat} {f : Addr} {fd : FuncData} {ps : List Str} {sp : Sp}
theorem FnOk.g (F : FnOk P w K mg base CX k f fd ps sp) : FnG P w K mg base CX k f fd ps sp :=
  ⟨F.len, fun A o s H a us vs Q E _ => F.run A o s H a us vs Q E⟩
theorem FnG.mono {j : Nat} (F : FnG P w K mg base CX j f fd ps sp) (h : j ≤ k) : FnG P w K mg base CX k f fd ps sp :=
  ⟨F.len, fun A o s H a us vs Q E g r => F.run A o s H a us vs Q E g (r.mono h)⟩
end
/-- a def by its body -/
theorem Fun.okG {P : Program} {w : World} {K : PySem.W.Frag} {mg : Str → Option Value} {base : Heap} {x qual : Str} {st : Stmt} {f : Addr} {fd : FuncData} {N ps : List Str} {k : Nat} {sp : Sp}
    (F : Fun K x qual st f fd) (S : FnScope N ps (defScope st)) (len : ∀ vs H Q E, sp vs H Q E → vs.length = ps.length)
    (body : ∀ (cdv : Value) (A : Around) (outer : List Env) (s : Shared) (H : Hp) (vs : List V) (Q : VK) (E : XK), A.guards = some [] →
      Room k (A.deeper (envOfC qual (defScope st) s.heap.objs.size f cdv)) → sp vs H Q E →
      ∃ t, PSs (cxOf CX0 P w K mg base N qual (defScope st) f cdv A outer s H E).nox (defBody st) t ∧
        t { nx := fun _ H' => Q .non H', rt := Q } (start N vs) H) :
    FnG P w K mg base CX0 (k + 1) f fd ps sp := by
  obtain ⟨oc, od, kV, doc, pm, an, cdv, ct, osl, rfl, lk, hcd⟩ := F.ex
  refine ⟨len, fun A outer s H args us vs Q E hgd hr e0 hb r hsp => ?_⟩
  have hn := len _ _ _ _ hsp
  have bk : ∀ b o, base.get? b = some o → s.heap.get? b = some o := fun b o e => (e0.bs b o e).1
  have kin := e0.mod.kin.keeps bk
  have lim := e0.mod.nolimit.keeps bk
  have kinds : ∀ y ∈ ps.zip us, (defScope st).names.lookup y.1 = some .local ∨
      ((defScope st).names.lookup y.1 = some .cell ∧ ((cellsFrom (s.heap.objs.size + 1) (defScope st).names []).lookup y.1).isSome = true) := by
    rintro ⟨n, v⟩ hy
    cases S.par n (List.of_mem_zip hy).1 with
    | inl q => exact .inl q
    | inr q => exact .inr ⟨q, PySem.W.cellsFrom_some _ _ _ (.inl q)⟩
  refine codeAny_call_function hr.depth (kin _ _ lk) rfl S.co S.gen rfl (PySem.W.codeRec_of kin hcd) (hb _ _ _ _ ?_)
  refine wpAny_newFunctionEnv_cells S.kind kinds fun env he s1 x => ?_
  subst he
  refine ⟨lim.keeps x.toInCall.keep, codeAny_func ?_⟩
  obtain ⟨t, ht, hq⟩ := body cdv A outer s H vs Q E hgd (hr.deeper _) hsp
  have I := inv_start (CX := CX0) (P := P) (w := w) (K := K) (mg := mg) (base := base) (E := E) S hr.hd e0 hn r x
  refine wpAny_mono (ht.nox.run [] s1 (start N vs) H _ I hq) (fun fl s' hs => ?_) fun _ _ hs => hs
  cases fl with
  | brk =>
    obtain ⟨_, _, _, q⟩ := hs
    exact q.elim
  | cont =>
    obtain ⟨_, _, _, q⟩ := hs
    exact q.elim
  | next =>
    obtain ⟨σ', H', J, q⟩ := hs
    exact ⟨V.non, H', J.os, J.bare, J.base, J.hok, rfl, q⟩
  | ret u =>
    obtain ⟨v, σ', H', J, rv, q⟩ := hs
    exact ⟨v, H', J.os, J.bare, J.base, J.hok, rv, q⟩
section
variable {X : Cx} {CX : CXT} {k : Nat} {f : Addr} {fd : FuncData} {ps ks : List Str} {sp : Sp} {dvs : List V} {ds : List Value} {E : XK} {x : Str} {p pos : Pos} {e : Expr} {es : List Expr} {t : TA}
theorem run_g {pins : List (Addr × Obj)} {σ : St} {H : Hp} {s : Shared} {Q : VK} {us : List Value} {vs : List V} (F : FnG X.prog X.w X.K X.mg X.base CX k f fd ps sp) (gd : X.A.guards = some []) (hr : Room k X.A)
    (hb : Binds X.K fd ps ds) (hd : Vals dvs ds) (hx : Passes CX X E) (I : Inv X pins σ H s) (r : Vals vs us) (h : sp (vs ++ dvs) H Q E) :
    wpAny (model X.prog X.w) X.A (call (.ref f) us) (EP X pins σ Q) X.xe s := by
  have rr := Vals.append r hd
  have hl : (us ++ ds).length = ps.length := (rr.length.symm).trans (F.len _ _ _ _ h)
  refine wpAny_call (codeAny_mono (F.run X.A X.stack s H _ _ _ Q E gd hr I.env0 (hb s us I.kIn hl) rr h) fun r s' hq => ?_)
  cases r with
  | error er => exact hx pins σ H s er s' I hq
  | ok fl =>
    cases fl with
    | ret u => exact I.after hq
    | next => exact hq.elim
    | brk => exact hq.elim
    | cont => exact hq.elim
theorem pe_callG (F : FnG X.prog X.w X.K X.mg X.base CX k f fd ps sp) (gd : X.A.guards = some []) (hr : Room k X.A) (hg : Gl X x) (hm : X.mg x = some (.ref f)) (hk : PySem.W.keepIn X.K (.ref f) = true)
    (hb : Binds X.K fd ps ds) (hd : Vals dvs ds) (hx : Passes CX X E) (ha : PA X (e :: es) t) (hdb : (x == ("__debug__" : Str)) = false := by decide)
    (he : starEach (e :: es) X.env = (false, eval e X.env) :: starEach es X.env := by rfl) (hpl : (backTo pos (starEach es X.env)).any (·.1) = false := by rfl) :
    PE X (.Call (.Name x p) (e :: es) [] pos) (tCall sp dvs E t) := by
  refine ⟨fun pins s σ H Q I h => wpAny_Call_Name_kw (ld_glob I hg hm ?_ hdb)⟩
  refine PySem.W.callWith_K (h₀ := X.base) I.ok.mod.kin hk (thn (ha.run pos pins s σ H _ I h) fun us s1 hh => ?_) he hpl
  obtain ⟨vs, H1, I1, r, q⟩ := hh
  exact ⟨I1.kIn, run_g F gd hr hb hd hx I1 r q⟩
/-! repr -/
/-- x reads as d, in every state over H -/
def RdV (X : Cx) (H : Hp) (x : V) (d : PyData) : Prop := ∀ (pins : List (Addr × Obj)) (σ : St) (s : Shared) (u : Value), Inv X pins σ H s → RelV x u → ∃ as, Reads s.heap u d as ∧ (d.hasDict = true → sysModules ∉ as)
def rRepr (X : Cx) : List V → Hp → VK → Prop := fun xs H Q => ∃ (x : V) (d : PyData), xs = [x] ∧ RdV X H x d ∧ d.showable = true ∧ d.depth ≤ 20 ∧ d.shown.length ≤ sizeLine ∧ Q (.str d.shown) H
theorem call_reprG (gd : X.A.guards = some []) (hu : X.A.units + 64 < cLine) : CallR X (.builtin "repr") (rRepr X) := by
  intro pins s σ H xs us Q I r h
  obtain ⟨x, d, rfl, rd, sh, dp, sz, q⟩ := h
  obtain ⟨u, rfl, ru⟩ : ∃ u, us = [u] ∧ RelV x u := by
    cases r with
    | cons a b =>
      cases b
      exact ⟨_, rfl, a⟩
  obtain ⟨as, rr, hsm⟩ := rd pins σ s u I ru
  have fin : ∀ (h' : Heap) (t : Tok) (tk : Nat), (∀ b o, s.heap.get? b = some o → h'.get? b = some o) → EP X pins σ Q (.str d.shown t) { s with heap := h', toks := tk } :=
    fun h' t tk k => ⟨.str d.shown, H, I.kept (t' := tk) k, ⟨t, rfl⟩, q⟩
  cases rr with
  | none => exact PySem.P.repr_of_none (fin s.heap s.toks _ fun _ _ z => z)
  | bool b => exact PySem.P.repr_of_bool (fin s.heap s.toks _ fun _ _ z => z)
  | int i t =>
    have hb : i.natAbs.log2 < 1920 := by simpa [PyData.showable] using sh
    exact PySem.P.repr_of_int hb (fin s.heap s.toks _ fun _ _ z => z)
  | str y t => exact PySem.P.repr_of_str (fin s.heap s.toks _ fun _ _ z => z) sz
  | list h1 h2 h3 h4 => exact repr_of_reads' (.list h1 h2 h3 h4) sh hsm gd (by omega) (fun _ _ z => z) (fun h' u tk k => fin h' u tk k) sz
  | tuple h1 h2 h3 h4 => exact repr_of_reads' (.tuple h1 h2 h3 h4) sh hsm gd (by omega) (fun _ _ z => z) (fun h' u tk k => fin h' u tk k) sz
  | dict h1 h2 h3 h4 h5 => exact repr_of_reads' (.dict h1 h2 h3 h4 h5) sh hsm gd (by omega) (fun _ _ z => z) (fun h' u tk k => fin h' u tk k) sz
end
end L2
set_option maxRecDepth 100000
namespace L2
open PySem PySem.Spec PyProof.Rows
/-- the law's call, by a promise that holds where nothing is being shown -/
theorem end_core {P : Program} {w : World} {K : PySem.W.Frag} {mg mb : Str → Option Value} {k : Nat} {fa a : Addr} {fd : FuncData} {x : Str} {sp : Sp} {s₁ : Shared} {vs : List Value} {H : Hp}
    (KX : K.In s₁.heap) (hns : s₁.heap.Ns mainGlobals mg) (hb : s₁.heap.Ns builtinsNs mb) (hbb : ∀ y : Str, y ≠ "__name__" → mb y = bootBuiltins y)
    (lim : s₁.heap.NoLimit) (hg : s₁.gens = #[]) (ha : s₁.heap.get? a = some { cls := .type "list", data := .seq vs.toArray }) (hr : Room k callerA)
    (F : ∀ base : Heap, K.In base → base.Ns mainGlobals mg → FnG P w K mg base CX0 k fa fd [x] sp) (bind : ∀ (s : Shared) (u : Value), BindsTo s fd ⟨[u], []⟩ [(x, u)])
    (hO : Only H) (hok : HOk P w H s₁.heap) (hA : ∀ b, H b ≠ none → b = a) (hK : H a ≠ none → K.lookup a = none)
    (hsp : sp [.ref a] H (fun v _ => v = .bl true) fun _ _ _ => False) :
    codeAny (model P w) callerA (.call (.ref fa) ⟨[.ref a], []⟩) (fun r s' => r = .ok (.ret (.bool true)) ∧ OldK s₁.heap s'.heap ∧ s'.os = s₁.os ∧ AllBare s'.gens) s₁ := by
  have free : ∀ {b : Addr} {o : Obj} {es : Array DictEntry} {ep : Nat}, s₁.heap.get? b = some o → o.data = .dict es ep → H b = none := by
    intro b o es ep e d
    refine Classical.byContradiction fun n => ?_
    have eb := hA b n
    subst eb
    have eo := Option.some.inj (e.symm.trans ha)
    subst eo
    cases d
  have ns' : ∀ {b : Addr} {m : Str → Option Value}, s₁.heap.Ns b m → (hidT s₁.heap H).Ns b m := by
    rintro b m ⟨o, es, ep, e, d, r⟩
    exact ⟨o, es, ep, hidT_get e (free e d), d, r⟩
  have kb : K.In (hidT s₁.heap H) := by
    intro b o e
    refine hidT_get (KX b o e) (Classical.byContradiction fun n => ?_)
    have eb := hA b n
    subst eb
    rw [hK n] at e
    cases e
  have md : Mod K mg (hidT s₁.heap H) := by
    obtain ⟨mc, h1, h2⟩ := lim
    exact ⟨kb, ns' hns, ⟨mb, ns' hb, hbb⟩, ⟨mc, ns' h1, h2⟩⟩
  have ev : Env0 P w K mg (hidT s₁.heap H) callerA [] s₁ H :=
    ⟨rfl, md, fun b o e => of_hidT e, Nat.le_of_eq (hidT_size _ _), trivial, fun b hb => (nomatch hb), hok, .of_eq hg⟩
  refine codeAny_mono ((F _ kb (ns' hns)).run callerA [] s₁ H _ [.ref a] [.ref a] _ _ rfl hr ev (bind s₁ (.ref a)) (.cons rfl .nil) hsp) fun r s' h => ?_
  cases r with
  | error e => exact (h : False).elim
  | ok fl =>
    cases fl with
    | next => exact (h : False).elim
    | brk => exact (h : False).elim
    | cont => exact (h : False).elim
    | ret u =>
      obtain ⟨v, H', os, bare, un, hok', r', q⟩ := h
      have q' : v = .bl true := q
      subst q'
      obtain rfl : u = Value.bool true := r'
      refine ⟨rfl, OldK.of_keep fun b o e => ?_, os, bare⟩
      rcases hO b with z | ⟨ob, xs, z⟩
      · exact un.keep b o e z (fun m => nomatch m) (fun m => nomatch m)
      · have e1 := (hok b _ z).1
        have e2 := (hok' b _ (un.frzs b ob _ z)).1
        exact (Option.some.inj (e.symm.trans e1)) ▸ e2
theorem end_call {P : Program} {w : World} {K : PySem.W.Frag} {mg mb : Str → Option Value} {k : Nat} {fa a : Addr} {fd : FuncData} {x : Str} {sp : Sp} {s₁ : Shared} {vs : List Value} {ns : List Int}
    (KX : K.In s₁.heap) (hns : s₁.heap.Ns mainGlobals mg) (hb : s₁.heap.Ns builtinsNs mb) (hbb : ∀ y : Str, y ≠ "__name__" → mb y = bootBuiltins y)
    (lim : s₁.heap.NoLimit) (hg : s₁.gens = #[]) (ha : s₁.heap.get? a = some { cls := .type "list", data := .seq vs.toArray }) (hi : IntsAre vs ns) (hl : ns.length ≤ sizeLine) (hr : Room k callerA)
    (F : ∀ base : Heap, K.In base → base.Ns mainGlobals mg → FnG P w K mg base CX0 k fa fd [x] sp) (bind : ∀ (s : Shared) (u : Value), BindsTo s fd ⟨[u], []⟩ [(x, u)])
    (hsp : ∀ H : Hp, Only H → SqL K H a (ns.map V.int) → sp [.ref a] H (fun v _ => v = .bl true) fun _ _ _ => False) :
    codeAny (model P w) callerA (.call (.ref fa) ⟨[.ref a], []⟩) (fun r s' => r = .ok (.ret (.bool true)) ∧ OldK s₁.heap s'.heap ∧ s'.os = s₁.os ∧ AllBare s'.gens) s₁ := by
  have rv := vals_ints hi
  cases hk : K.lookup a with
  | some o =>
    have eo := Option.some.inj ((KX a o hk).symm.trans ha)
    subst eo
    refine end_core (H := fun _ => none) KX hns hb hbb lim hg ha hr F bind (fun _ => .inl rfl) (fun _ _ z => nomatch z) (fun _ z => (z rfl).elim) (fun z => (z rfl).elim) (hsp _ (fun _ => .inl rfl) ?_)
    exact .inr ⟨_, vs.toArray, _, hk, rfl, rfl, rfl, by rw [List.size_toArray, hi.length]; exact hl, by simpa using rv⟩
  | none =>
    have at_ : ∀ b, (if b = a then some (HO.frz { cls := .type "list", data := .seq vs.toArray } (.lst (ns.map V.int))) else none) ≠ none → b = a := by
      intro b n
      refine Classical.byContradiction fun z => n (if_neg z)
    have on : Only (fun b => if b = a then some (HO.frz { cls := .type "list", data := .seq vs.toArray } (.lst (ns.map V.int))) else none) := by
      intro b
      by_cases eb : b = a
      · exact .inr ⟨_, _, if_pos eb⟩
      · exact .inl (if_neg eb)
    refine end_core KX hns hb hbb lim hg ha hr F bind on (fun b u z => ?_) at_ (fun _ => hk) (hsp _ on (.inl (.inr ⟨_, if_pos rfl⟩)))
    have eb := at_ b (fun n => nomatch z.symm.trans n)
    subst eb
    have eu := Option.some.inj ((if_pos rfl).symm.trans z)
    subst eu
    exact ⟨ha, by rw [List.length_map]; exact hl, vs, _, rv, ha⟩
theorem walk_ofG {l : PySem.W.OpenLaw} {n k : Nat} {q : Program} {loose : List Str} {XP : (Str → Option Value) → Heap → Prop} {YP : World → Heap → Prop} {d : DefRec} {K : Params → PySem.W.Frag} {sp : World → Sp} {x : Str}
    (hn : l.most = some n) (hn2 : n ≤ sizeLine) (hdf : d.params.defaults = []) (hr : Room k callerA)
    (hY : ∀ (w : World) (h : Heap), YP w h → (K w.params).In h)
    (F : ∀ (w : World) (mg : Str → Option Value) (fa : Addr) (h : Heap), (K w.params).In h → h.Ns mainGlobals mg → mg d.name = some (.ref fa) →
      ∃ fd : FuncData, (∀ (s : Shared) (u : Value), BindsTo s fd ⟨[u], []⟩ [(x, u)]) ∧
        ∀ base : Heap, (K w.params).In base → base.Ns mainGlobals mg → FnG l.prog w (K w.params) mg base CX0 k fa fd [x] (sp w))
    (hsp : ∀ (w : World) (H : Hp) (a : Addr) (ns : List Int), ns.length ≤ n → (∀ z ∈ ns, Builtin.Int.intBits z ≤ 1048576) → Only H → SqL (K w.params) H a (ns.map V.int) →
      sp w [.ref a] H (fun v _ => v = .bl true) fun _ _ _ => False) :
    PySem.W.WalkO q loose XP YP l.row.toRowW d [] (fun f vs => PySem.call f vs) := by
  refine Att.attach_callB hn hdf fun w s₀ s₁ mg mb fa o pm cd doc a vs ns G Y ho hd hcd hmg hobj hints hlen hbits hg => ?_
  obtain ⟨fd, b, f⟩ := F w mg fa _ (hY w _ Y) G.T.g hmg
  exact end_call (hY w _ Y) G.T.g G.T.b G.T.builtins G.T.nolimit hg hobj hints (Nat.le_trans hlen hn2) hr f b fun H hO hS => hsp w H a ns hlen hbits hO hS
end L2
set_option maxRecDepth 100000
namespace L2
open PySem PySem.Spec PyProof.Rows
/-- an own exception class with an own __init__ -/
structure XvI (K : PySem.W.Frag) (C fI : Addr) : Prop where
  cls : XvC K C
  ini : PySem.W.findIn K (.ref C) "__init__" = some (some (.ref fI))
  ty : PySem.W.typeIn K (.ref fI) = some (.type "function")
theorem Vals.rev : ∀ {xs : List V} {us : List Value}, Vals xs us → Vals xs.reverse us.reverse
  | _, _, .nil => .nil
  | _, _, .cons r t => by
    rw [List.reverse_cons, List.reverse_cons]
    exact Vals.append (Vals.rev t) (.cons r .nil)
theorem Fun.kbn {K : PySem.W.Frag} {x qual : Str} {st : Stmt} {f : Addr} {fd : FuncData} {ps : List Str} (F : Fun K x qual st f fd) (n : Nat) (ks : List Str) (g : List Value → List Value → List Value) (gV : List V → List V → List V)
    (h : ∀ (kV doc pm : Value) (an : Option Addr) (cdv ct : Value) (us ws : List Value), us.length = n → ws.length = ks.length →
      bindArgs (PySem.W.fnOf x qual (defArgs st) (defBody st) (defScope st) .none kV doc pm an cdv ct) ⟨us, ks.zip ws⟩ = pure (ps.zip (g us ws)))
    (rel : ∀ {vs : List V} {us : List Value} {zs : List V} {ws : List Value}, Vals vs us → Vals zs ws → Vals (gV vs zs) (g us ws)) : KBn K fd ps n ks g gV := by
  obtain ⟨oc, od, kV, doc, pm, an, cdv, ct, osl, rfl, lk, hcd⟩ := F.ex
  exact ⟨fun s us ws _ l1 l2 => BindsTo.of_eq (h kV doc pm an cdv ct us ws l1 l2), rel⟩
section
variable {X : Cx} {k n : Nat} {fI C : Addr} {fd : FuncData} {ps ks : List Str} {sp : Sp} {x : Str} {p pos : Pos} {e : Expr} {es : List Expr} {kws : List Keyword} {t tk : TA} {g : List Value → List Value → List Value} {gV : List V → List V → List V}
theorem run_mkx {pins : List (Addr × Obj)} {σ : St} {H : Hp} {s : Shared} {Q : VK} {us ws : List Value} {vs zs : List V} (T : XvI X.K C fI) (F : FnOk X.prog X.w X.K X.mg X.base CX0 k fI fd ps sp) (hr : Room (k + 1) X.A)
    (hb : KBn X.K fd ps (n + 1) ks g gV) (hn : n ≤ 1000) (I : Inv X pins σ H s) (r : Vals vs us) (rz : Vals zs ws) (l1 : vs.length = n) (l2 : zs.length = ks.length)
    (h : ∀ a, H a = none → sp (gV (.ref a :: vs) zs) (upd H a (exo a C none)) (fun v H2 => v = .non ∧ Q (.ref a) H2) E0) :
    wpAny (model X.prog X.w) X.A (call (.ref C) us (ks.zip ws)) (EP X pins σ Q) X.xe s := by
  obtain ⟨nm, q, N, bs, bm, sn, sub, ab, col, dd, k0, k1, k2, k3, k5, hC, hbm⟩ := T.cls.oex.cls
  obtain ⟨hp, gn, dr, tt, oss⟩ := s
  have sz : hp.objs.size ≤ hp.objs.size + 1 := Nat.le_succ _
  have keep : ∀ b o, hp.get? b = some o → ((hp.push (PySem.W.kdv_tup us)).push (PySem.HandSPX.excO C hp.objs.size)).get? b = some o :=
    fun _ _ e => Heap.get?_push_of_some _ (Heap.get?_push_of_some _ e)
  have at_ : ((hp.push (PySem.W.kdv_tup us)).push (PySem.HandSPX.excO C hp.objs.size)).get? (hp.objs.size + 1) = some (PySem.HandSPX.excO C hp.objs.size) := by
    heap_get
  have I2 := I.laid (t' := tt) (a := hp.objs.size + 1) (o := exo (hp.objs.size + 1) C none) keep sz (exo_ok at_)
  have hq := h (hp.objs.size + 1) (I.hok.fresh sz)
  have rs : Vals (V.ref (hp.objs.size + 1) :: vs) (Value.ref (hp.objs.size + 1) :: us) := .cons rfl r
  have ln : (Value.ref (hp.objs.size + 1) :: us).length = n + 1 := by rw [List.length_cons, ← r.length, l1]
  have hus : us.length ≤ sizeLine := by
    rw [← r.length, l1, sizeLine_eq]
    omega
  refine wpAny_call (PySem.XKw.mk_call PySem.F.excBase_ValueError (fun Y => PySem.HandSPX.refsVE_contains Y bm hbm) (I.kIn _ _ hC) (PySem.W.looks_findIn I.kIn T.ini)
    (fun y => PySem.W.bind_fn I.kIn y T.ty) hus ?_)
  refine codeAny_mono (F.run _ X.stack _ _ _ _ _ _ _ (hr.make C us (ks.zip ws)) (I2.env0.make C us (ks.zip ws)) (hb.to _ _ ws I2.kIn ln (rz.length.symm.trans l2)) (hb.rel rs rz) hq) fun r s' hq' => ?_
  cases r with
  | error er => exact (hq' : False).elim
  | ok fl =>
    cases fl with
    | ret u =>
      obtain ⟨v, H3, I3, rv, ev, q3⟩ := I2.after hq'
      subst ev
      exact ⟨rv, V.ref (hp.objs.size + 1), H3, I3, rfl, q3⟩
    | next => exact (hq' : False).elim
    | brk => exact (hq' : False).elim
    | cont => exact (hq' : False).elim
/-- C(e, ..) -/
def tMkX (C : Addr) (n : Nat) (sp : Sp) (gV : List V → List V → List V) (t : TA) : TE := fun σ H Q => t σ H fun vs H1 => vs.length = n ∧ ∀ a, H1 a = none → sp (gV (.ref a :: vs) []) (upd H1 a (exo a C none)) (fun v H2 => v = .non ∧ Q (.ref a) H2) E0
theorem pe_mkx (T : XvI X.K C fI) (F : FnOk X.prog X.w X.K X.mg X.base CX0 k fI fd ps sp) (hr : Room (k + 1) X.A) (hb : KBn X.K fd ps (n + 1) [] g gV) (hg : Gl X x) (hm : X.mg x = some (.ref C)) (ha : PA X (e :: es) t)
    (hn : n ≤ 1000 := by decide) (hdb : (x == ("__debug__" : Str)) = false := by decide)
    (he : starEach (e :: es) X.env = (false, eval e X.env) :: starEach es X.env := by rfl) (hpl : (backTo pos (starEach es X.env)).any (·.1) = false := by rfl) :
    PE X (.Call (.Name x p) (e :: es) [] pos) (tMkX C n sp gV t) := by
  refine ⟨fun pins s σ H Q I h => wpAny_Call_Name_kw (ld_glob I hg hm ?_ hdb)⟩
  refine PySem.W.callWith_K (h₀ := X.base) I.ok.mod.kin T.cls.oex.kC (thn (ha.run pos pins s σ H _ I h) fun us s1 hh => ?_) he hpl
  obtain ⟨vs, H1, I1, r, l1, q⟩ := hh
  exact ⟨I1.kIn, run_mkx (ws := []) (zs := []) T F hr hb hn I1 r .nil l1 rfl q⟩
/-- C(k = v, ..) -/
def tMkXK (C : Addr) (m : Nat) (sp : Sp) (gV : List V → List V → List V) (tk : TA) : TE := fun σ H Q => tk σ H fun zs H1 => zs.length = m ∧ ∀ a, H1 a = none → sp (gV [.ref a] zs) (upd H1 a (exo a C none)) (fun v H2 => v = .non ∧ Q (.ref a) H2) E0
theorem pe_mkxK (T : XvI X.K C fI) (F : FnOk X.prog X.w X.K X.mg X.base CX0 k fI fd ps sp) (hr : Room (k + 1) X.A) (hb : KBn X.K fd ps 1 ks g gV) (hg : Gl X x) (hm : X.mg x = some (.ref C)) (hkw : PK X kws tk)
    (hall : (backToKw pos (keywordEach kws X.env)).all (·.1.isSome) = true := by rfl) (hks : (backToKw pos (keywordEach kws X.env)).filterMap (·.1) = ks := by rfl) (hdb : (x == ("__debug__" : Str)) = false := by decide)
    (hpl : ((backTo pos (starEach [] X.env)).any (·.1) || (backToKw pos (keywordEach kws X.env)).any (·.1.isNone)) = false := by rfl) :
    PE X (.Call (.Name x p) [] kws pos) (tMkXK C ks.length sp gV tk) := by
  refine ⟨fun pins s σ H Q I h => wpAny_Call_Name_kw (ld_glob I hg hm ?_ hdb)⟩
  refine PySem.W.callWith_KW0 (h₀ := X.base) I.ok.mod.kin T.cls.oex.kC hall ?_ hpl
  refine thn (hkw.run pos pins s σ H _ I h) fun ws s2 hh => ?_
  obtain ⟨zs, H2, I2, rz, l2, q2⟩ := hh
  refine ⟨I2.kIn, ?_⟩
  rw [hks]
  exact run_mkx (n := 0) (us := []) (vs := []) T F hr hb (Nat.zero_le _) I2 .nil rz rfl l2 q2
/-- C(), no __init__ of its own -/
theorem pe_mkx0 {bmB : List Value} {B newId initId : String} (FF : ExcBaseFacts B newId initId bmB) (q : PySem.W.excIn X.K C bmB newId = true) (kC : PySem.W.keepIn X.K (.ref C) = true) (hg : Gl X x) (hm : X.mg x = some (.ref C))
    (hdb : (x == ("__debug__" : Str)) = false := by decide) : PE X (.Call (.Name x p) [] [] pos) (fun _ H Q => ∀ a, H a = none → Q (.ref a) (upd H a (exo a C none))) := by
  refine ⟨fun pins s σ H Q I h => wpAny_Call_Name_kw (ld_glob I hg hm ?_ hdb)⟩
  refine PySem.W.callWith_K0 I.kIn kC ?_
  obtain ⟨bm, N, nm, qn, bs, hdct, sn, sub, ab, col, dd, k0, k1, k2, k3, k5, mN, hC, hN, hni, T⟩ := exc_obj I.kIn q
  refine wpAny_call_exc_subT FF T hC hN hni (fun h' a hm => ?_) (Nat.zero_le _)
  have hn : H a = none := I.hok.gone hm.new
  obtain ⟨t, ht, _⟩ := hm.there
  exact ⟨V.ref a, upd H a (exo a C none), I.laidN hm.keeps hm.new hn (exo_ok ht), rfl, h a hn⟩
end
end L2
set_option maxRecDepth 100000
namespace Toy
open PySem L2
def top (i : Nat) : Stmt := PySem.Challenge.pw_lanebanks_k85_texts_of_logs.main.body.getD i (.Pass ⟨0, 0, 0, 0⟩)
abbrev s__law_pen : Stmt := top 34
abbrev s__law_draw : Stmt := top 35
abbrev s__law_pick : Stmt := top 36
/-- the built-ins' names stand for themselves -/
structure TB (mg : Str → Option Value) : Prop where
  m_int : mg "int" = none
  m_abs : mg "abs" = none
  m_len : mg "len" = none
  m_list : mg "list" = none
/-- the pen at p: the cells ns at l, how many were drawn, what is left of a great one -/
structure PenAt (H : Hp) (p l : Addr) (ns : List Int) (at_ left : Int) : Prop where
  pen : H p = some (.lst [.ref l, .int at_, .int left])
  cells : H l = some (.lst (ns.map V.int))
  few : ns.length ≤ 63
  bits : ∀ z ∈ ns, Builtin.Int.intBits z ≤ 1048576
  low : 0 ≤ at_
theorem PenAt.ne {H : Hp} {p l : Addr} {ns : List Int} {a b : Int} (P : PenAt H p l ns a b) : l ≠ p := fun e => by
  have h1 := P.cells
  rw [e, P.pen] at h1
  cases ns with
  | nil => cases h1
  | cons z r => cases r with
    | nil => cases h1
    | cons y r => cases h1
theorem PenAt.put {H : Hp} {p l : Addr} {ns : List Int} {a b : Int} (P : PenAt H p l ns a b) (c d : Int) (h : 0 ≤ c) : PenAt (upd H p (.lst [.ref l, .int c, .int d])) p l ns c d :=
  ⟨upd_same, by rw [upd_ne P.ne]; exact P.cells, P.few, P.bits, h⟩
/-- all that was tracked but p is as it was -/
def But (p : Addr) (H H' : Hp) : Prop := ∀ b o, b ≠ p → H b = some o → H' b = some o
theorem But.refl (p : Addr) (H : Hp) : But p H H := fun _ _ _ h => h
theorem But.of {p : Addr} {H H' : Hp} (h : Same H H') : But p H H' := fun b o _ e => h b o e
theorem But.trans {p : Addr} {H H1 H2 : Hp} (a : But p H H1) (b : But p H1 H2) : But p H H2 := fun c o n h => b c o n (a c o n h)
theorem But.put {p : Addr} {H H1 : Hp} {o : HO} (a : But p H H1) : But p H (upd H1 p o) := fun c u n h => by
  rw [upd_ne n]
  exact a c u n h
theorem But.new {p q : Addr} {H H1 : Hp} {o : HO} (a : But p H H1) (hq : H1 q = none) : But p H (upd H1 q o) := fun c u n h => by
  rw [upd_ne (ne_of_none (a c u n h) hq)]
  exact a c u n h
theorem But.free {p q : Addr} {H H1 : Hp} (a : But p H H1) (hq : H1 q = none) (n : q ≠ p) : H q = none := by
  cases e : H q with
  | none => rfl
  | some o =>
    rw [a q o n e] at hq
    cases hq
theorem PenAt.new {H : Hp} {p l q : Addr} {ns : List Int} {a b : Int} {o : HO} (P : PenAt H p l ns a b) (hq : H q = none) : PenAt (upd H q o) p l ns a b :=
  ⟨by rw [upd_ne (ne_of_none P.pen hq)]; exact P.pen, by rw [upd_ne (ne_of_none P.cells hq)]; exact P.cells, P.few, P.bits, P.low⟩
theorem atI_of {α : Type} {xs : List α} {i : Int} {v : α} (h0 : 0 ≤ i) (h : xs[i.toNat]? = some v) : atI xs i = some v := by
  have e : i = ((i.toNat : Nat) : Int) := (Int.toNat_of_nonneg h0).symm
  rw [e]
  exact atI_nat h
theorem dp_ints {K : PySem.W.Frag} {H : Hp} : ∀ ns : List Int, DpAll K H (ns.map V.int) (ns.map PyData.int)
  | [] => .nil
  | z :: r => .cons (.int z) (dp_ints r)
theorem shaped_ints (ns : List Int) : SeqAt.shaped (.list (ns.map PyData.int)) = true := by
  have h : ∀ ns : List Int, PyData.canLayAll0 (ns.map PyData.int) = true ∧ PyData.depthAll (ns.map PyData.int) = 0 := by
    intro ns
    induction ns with
    | nil => exact ⟨rfl, rfl⟩
    | cons z r ih => exact ⟨by simp [PyData.canLayAll0, PyData.canLay0, ih.1], by simp [PyData.depthAll, PyData.depth, ih.2]⟩
  simp [SeqAt.shaped, PyData.canLay0, PyData.depth, h ns]
/-- _law_pen(script) -/
def spPen (K : PySem.W.Frag) : Sp := fun vs H Q _ => ∃ (a : Addr) (ns : List Int), vs = [.ref a] ∧ SqL K H a (ns.map V.int) ∧ ns.length ≤ 63 ∧ (∀ z ∈ ns, Builtin.Int.intBits z ≤ 1048576) ∧
  ∀ (H' : Hp) (p l : Addr), Same H H' → H p = none → PenAt H' p l ns 0 0 → Q (.ref p) H'
/-- _law_draw(pen, many): some digit below many; the pen goes on -/
def spDraw : Sp := fun vs H Q _ => ∃ (p l : Addr) (ns : List Int) (a b many : Int), vs = [.ref p, .int many] ∧ PenAt H p l ns a b ∧ a ≤ 1000000 ∧ 0 < many ∧ many.natAbs.log2 < 9000 ∧
  ∀ (H' : Hp) (d a' b' : Int), 0 ≤ d → d < many → a ≤ a' → a' ≤ a + 1 → But p H H' → PenAt H' p l ns a' b' → Q (.int d) H'
/-- _law_pick(pen, some): one of a list's items -/
def spPick (K : PySem.W.Frag) : Sp := fun vs H Q _ => ∃ (p l q : Addr) (ns : List Int) (a b : Int) (xs : List V), vs = [.ref p, .ref q] ∧ PenAt H p l ns a b ∧ a ≤ 1000000 ∧ SqL K H q xs ∧ q ≠ p ∧ 0 < xs.length ∧ xs.length ≤ 1000 ∧
  ∀ (H' : Hp) (i : Nat) (v : V) (a' b' : Int), xs[i]? = some v → a ≤ a' → a' ≤ a + 1 → But p H H' → PenAt H' p l ns a' b' → Q v H'
theorem sq_lt {a : Int} (h0 : 0 ≤ a) (h : a ≤ 1000000) : 0 ≤ a * a ∧ a * a ≤ 1000000000000 := by
  refine ⟨Int.mul_nonneg h0 h0, ?_⟩
  have := Int.mul_le_mul h h h0 (by decide)
  omega
theorem mul_lt_of {x y m n : Int} (h0 : 0 ≤ x) (h1 : x ≤ m) (h2 : 0 ≤ y) (h3 : y ≤ n) : 0 ≤ x * y ∧ x * y ≤ m * n :=
  ⟨Int.mul_nonneg h0 h2, Int.mul_le_mul h1 h3 h2 (Int.le_trans h0 h1)⟩
theorem mix_ok {x a c d : Int} (h0 : 0 ≤ x) (h1 : x < 2147483489) (a0 : 0 ≤ a) (a1 : a ≤ 1000000) (c0 : 0 ≤ c) (c1 : c ≤ 1000000) (d0 : 0 ≤ d) (d1 : d ≤ 1000000) :
    0 ≤ x * (2 * a + c) + d * a * a + 257 ∧ x * (2 * a + c) + d * a * a + 257 < 18446744073709551616 := by
  have h2 := mul_lt_of (m := 2147483489) (n := 3000000) h0 (by omega) (show 0 ≤ 2 * a + c by omega) (by omega)
  have h3 := mul_lt_of (m := 1000000) (n := 1000000000000) d0 d1 (sq_lt a0 a1).1 (sq_lt a0 a1).2
  rw [Int.mul_assoc d a a]
  omega
theorem natAbs_lt_of {x : Int} (h0 : 0 ≤ x) (h : x < 18446744073709551616) : x.natAbs < 2 ^ 64 := by
  have e : (2 : Nat) ^ 64 = 18446744073709551616 := by decide
  rw [e]
  omega
section
variable {P : Program} {w : World} {K : PySem.W.Frag} {mg : Str → Option Value} {base : Heap}
abbrev N__law_pen : List Str := ["_law_script"]
theorem sc__law_pen : FnScope N__law_pen ["_law_script"] (defScope s__law_pen) := ⟨rfl, rfl, rfl, by decide +kernel, rfl, by decide +kernel, by decide +kernel⟩
theorem ok__law_pen {f : Addr} {fd : FuncData} (F : Fun K "_law_pen" "_law_pen" s__law_pen f fd) (T : TB mg) : FnOk P w K mg base CX0 1 f fd ["_law_script"] (spPen K) := by
  refine F.ok sc__law_pen (fun vs H Q E h => ?_) (fun cdv A outer s H vs Q E hr h => ?_)
  · obtain ⟨a, ns, rfl, _⟩ := h
    rfl
  · obtain ⟨a, ns, rfl, hS, hl, hb, k⟩ := h
    refine ⟨_, (pss_one (ps_ret (pe_lst (pa_cons (pe_callTy call_list_of (by rfl) T.m_list (by decide +kernel) (pa_cons (pe_slice sl_list (pv 0) po_none (po_some pe_int)) pa_nil)) (pa_cons pe_int (pa_cons pe_int pa_nil)))))), ?_⟩
    refine ⟨_, rfl, _, rfl, _, _, rfl, hS, fun q hq => ?_⟩
    have e : cutV (ns.map V.int) none (some 63) = ns.map V.int := by
      show ((ns.map V.int).drop 0).take (HT.sIx _ _ _ - 0) = _
      have h2 : (ns.map V.int).length ≤ HT.sIx (ns.map V.int).length (ns.map V.int).length (some 63) - 0 := by
        rw [List.length_map]
        simp [HT.sIx]
        omega
      rw [List.drop_zero, List.take_of_length_le h2]
    refine ⟨q, _, rfl, .inl (SqL.of upd_same), fun l hl2 => ?_⟩
    have nlq : l ≠ q := fun e => by
      rw [e, upd_same] at hl2
      cases hl2
    refine ⟨(by show 3 ≤ sizeLine; decide), fun p hp => ?_⟩
    have npl : p ≠ l := fun e => by
      rw [e, upd_same] at hp
      cases hp
    rw [upd_ne npl] at hp
    have npq : p ≠ q := fun e => by
      rw [e, upd_same] at hp
      cases hp
    rw [upd_ne npq] at hp
    refine k _ p l (fun b o e2 => ?_) hp ⟨upd_same, ?_, hl, hb, Int.le_refl 0⟩
    · rw [upd_ne (ne_of_none e2 hp)]
      have hl3 := hl2
      rw [upd_ne nlq] at hl3
      rw [upd_ne (ne_of_none e2 hl3), upd_ne (ne_of_none e2 hq)]
      exact e2
    · rw [upd_ne npl.symm, upd_same, e]
abbrev N__law_draw : List Str := ["_law_pen_here", "_law_many", "_law_digit", "_law_turn", "_law_cell", "_law_great", "_law_mixed"]
theorem sc__law_draw : FnScope N__law_draw ["_law_pen_here", "_law_many"] (defScope s__law_draw) := ⟨rfl, rfl, rfl, by decide +kernel, rfl, by decide +kernel, by decide +kernel⟩
set_option maxHeartbeats 4000000 in
theorem ok__law_draw {f : Addr} {fd : FuncData} (F : Fun K "_law_draw" "_law_draw" s__law_draw f fd) (T : TB mg) : FnOk P w K mg base CX0 1 f fd ["_law_pen_here", "_law_many"] spDraw := by
  refine F.ok sc__law_draw (fun vs H Q E h => ?_) (fun cdv A outer s H vs Q E hr h => ?_)
  · obtain ⟨p, l, ns, a, b, m, rfl, _⟩ := h
    rfl
  · obtain ⟨p, l, ns, a, b, m, rfl, hP, ha, hm, hml, k⟩ := h
    have hp := hP.pen
    have hc := hP.cells
    have h0 := hP.low
    refine ⟨_, (pss_cons (ps_if (pt_cmpR op_gt (pe_ix ix_list (pv 0) pe_int (fun _ _ => rfl)) pe_int (nomark _)) (pss_cons (ps_set (i := 2) sc__law_draw.nd rfl (Or.inl rfl) (pe_op op_mod (pe_callTy call_int1 (by rfl) T.m_int (by decide +kernel) (pa_cons (pe_ix ix_list (pv 0) pe_int (fun _ _ => rfl)) pa_nil)) (pv 1)))
 (pss_cons (ps_asg (pe_op op_fdivW (pe_callTy call_int1 (by rfl) T.m_int (by decide +kernel) (pa_cons (pe_ix ix_list (pv 0) pe_int (fun _ _ => rfl)) pa_nil)) (pv 1)) (pg_sub (pv 0) pe_int set_list))
 (pss_one (ps_ret (pv 2))))) pss_nil)
 (pss_cons (ps_set (i := 3) sc__law_draw.nd rfl (Or.inl rfl) (pe_ix ix_list (pv 0) pe_int (fun _ _ => rfl)))
 (pss_cons (ps_asg (pe_op op_add (pv 3) pe_int) (pg_sub (pv 0) pe_int set_list))
 (pss_cons (ps_set (i := 4) sc__law_draw.nd rfl (Or.inl rfl) (pe_op op_add (pe_op op_mul pe_int (pv 3)) pe_int))
 (C8.pss_cut (ps_if (pt_cmpR (op_neD hr.units) (pe_ix ix_list (pv 0) pe_int (fun _ _ => rfl)) (pe_lst pa_nil) (nomark _)) (pss_one (ps_set (i := 4) sc__law_draw.nd rfl (Or.inl rfl) (pe_ix ix_list (pe_ix ix_list (pv 0) pe_int (fun _ _ => rfl)) (pe_op op_mod (pe_callTy call_int1 (by rfl) T.m_int (by decide +kernel) (pa_cons (pv 3) pa_nil)) (pe_callB call_len_seq (by rfl) T.m_len (by decide +kernel) (pa_cons (pe_ix ix_list (pv 0) pe_int (fun _ _ => rfl)) pa_nil))) (fun _ _ => rfl)))) pss_nil)
 (C8.pss_cut (ps_if (PW.pt (pw_and (pt_cmpR op_lt (pv 3) (pe_callB call_len_seq (by rfl) T.m_len (by decide +kernel) (pa_cons (pe_ix ix_list (pv 0) pe_int (fun _ _ => rfl)) pa_nil)) (nomark _)) (pw_and1 (pt_cmpR op_ge (pe_callB call_abs (by rfl) T.m_abs (by decide +kernel) (pa_cons (pv 4) pa_nil)) (pe_op op_pow pe_int pe_int) (nomark _))))) (pss_cons (ps_set (i := 5) sc__law_draw.nd rfl (Or.inl rfl) (pe_op op_add (pe_op op_mul pe_int (pe_op op_sub (pe_callB call_abs (by rfl) T.m_abs (by decide +kernel) (pa_cons (pv 4) pa_nil)) (pe_op op_pow pe_int pe_int))) (pe_callTy call_int1 (by rfl) T.m_int (by decide +kernel) (pa_cons (pe_cmpR op_lt (pv 4) pe_int (nomark _)) pa_nil))))
 (pss_cons (ps_asg (pe_op op_fdivW (pe_callTy call_int1 (by rfl) T.m_int (by decide +kernel) (pa_cons (pv 5) pa_nil)) (pv 1)) (pg_sub (pv 0) pe_int set_list))
 (pss_one (ps_ret (pe_op op_mod (pe_callTy call_int1 (by rfl) T.m_int (by decide +kernel) (pa_cons (pv 5) pa_nil)) (pv 1)))))) pss_nil)
 (pss_cons (ps_set (i := 6) sc__law_draw.nd rfl (Or.inl rfl) (pe_op op_mod (pe_callTy call_int1 (by rfl) T.m_int (by decide +kernel) (pa_cons (pe_op op_pow (pe_op op_add (pe_op op_add (pe_op op_mod (pe_callTy call_int1 (by rfl) T.m_int (by decide +kernel) (pa_cons (pv 4) pa_nil)) pe_int) (pe_op op_mul pe_int (pv 3))) pe_int) pe_int) pa_nil)) pe_int))
 (pss_cons (ps_set (i := 6) sc__law_draw.nd rfl (Or.inl rfl) (pe_op op_mod (pe_callTy call_int1 (by rfl) T.m_int (by decide +kernel) (pa_cons (pe_op op_pow (pe_op op_add (pe_op op_add (pe_op op_mul (pv 6) (pe_op op_add (pe_op op_mul pe_int (pv 3)) pe_int)) (pe_op op_mul (pe_op op_mul pe_int (pv 3)) (pv 3))) pe_int) pe_int) pa_nil)) pe_int))
 (pss_one (ps_ret (pe_op op_mod (pe_callTy call_int1 (by rfl) T.m_int (by decide +kernel) (pa_cons (pe_op op_fdivW (pv 6) pe_int) pa_nil)) (pv 1)))))))))))), ?_⟩
    refine ⟨_, rfl, p, _, _, _, rfl, rfl, SqL.of hp, rfl, _, _, rfl, rfl, _, rfl, ?_⟩
    refine ite2 (fun c1 => ?_) (fun c1 => ?_)
    · -- a digit of what is left
      refine ⟨_, rfl, p, _, _, _, rfl, rfl, SqL.of hp, rfl, .inl ⟨_, rfl, _, rfl, _, _, rfl, rfl, hm, ?_⟩⟩
      refine ⟨_, rfl, p, _, _, _, rfl, rfl, SqL.of hp, rfl, .inl ⟨_, rfl, _, rfl, _, _, rfl, rfl, ⟨hm, hml⟩, ?_⟩⟩
      refine ⟨_, rfl, p, _, _, _, rfl, rfl, hp, rfl, ?_⟩
      refine ⟨_, rfl, ?_⟩
      exact k _ _ _ _ (Int.emod_nonneg _ (Int.ne_of_gt hm)) (Int.emod_lt_of_pos _ hm) (Int.le_refl _) (by omega) (But.refl _ _).put (hP.put _ _ h0)
    · refine ⟨_, rfl, p, _, _, _, rfl, rfl, SqL.of hp, rfl, ?_⟩
      refine ⟨_, rfl, _, _, rfl, rfl, _, rfl, p, _, _, _, rfl, rfl, hp, rfl, ?_⟩
      have hP1 : PenAt (upd H p (.lst [.ref l, .int (a + 1), .int b])) p l ns (a + 1) b := hP.put _ _ (by omega)
      have hB1 : But p H (upd H p (.lst [.ref l, .int (a + 1), .int b])) := (But.refl _ _).put
      refine ⟨_, rfl, _, _, rfl, rfl, .inl ⟨by omega, by omega⟩, _, _, rfl, rfl, ?_⟩
      refine ⟨fun σ H' => ∃ cell : Int, σ = [some (.ref p), some (.int m), none, some (.int a), some (.int cell), none, none] ∧ PenAt H' p l ns (a + 1) b ∧ But p H H', ?_, ?_⟩
      · refine ⟨_, rfl, p, _, _, _, rfl, rfl, SqL.of hP1.pen, rfl, Nat.zero_le _, fun q hq => ?_⟩
        have hP2 := hP1.new (o := .lst []) hq
        have hB2 := hB1.new (o := .lst []) hq
        refine ⟨.list (ns.map .int), .list [], .lst (SqL.of hP2.cells) (dp_ints ns), .lst (SqL.of upd_same) .nil, shaped_ints ns, rfl, _, rfl, ?_⟩
        refine ite2 (fun c2 => ?_) (fun c2 => ?_)
        · have hne : ns ≠ [] := by
            rintro rfl
            exact absurd c2 (by decide +kernel)
          have hpos : 0 < ns.length := List.length_pos_iff.mpr hne
          have hm1 := Int.emod_nonneg a (b := (ns.length : Int)) (by omega)
          have hm2 := Int.emod_lt_of_pos a (b := (ns.length : Int)) (by omega)
          have hi : (a % (ns.length : Int)).toNat < ns.length := by omega
          have hat : atI (ns.map V.int) (a % (ns.length : Int)) = some (.int ns[(a % (ns.length : Int)).toNat]) := atI_of hm1 (by
            rw [List.getElem?_map, List.getElem?_eq_getElem hi]
            rfl)
          refine ⟨_, rfl, p, _, _, _, rfl, rfl, SqL.of hP2.pen, rfl, ?_⟩
          refine ⟨_, rfl, .inl ⟨_, rfl, _, rfl, p, _, _, _, rfl, rfl, SqL.of hP2.pen, rfl, l, _, rfl, .inl (SqL.of hP2.cells), _, _, rfl, rfl, by rw [List.length_map]; omega, ?_⟩⟩
          refine ⟨l, _, _, _, rfl, rfl, SqL.of hP2.cells, by rw [List.length_map]; exact hat, ?_⟩
          exact ⟨_, rfl, hP2, hB2⟩
        · exact ⟨_, rfl, hP2, hB2⟩
      · rintro σ H' ⟨cell, rfl, hQ, hB⟩
        have hpw : CPow 10 18 := ⟨by decide, by decide, by decide⟩
        refine ⟨fun σ H3 => σ = [some (.ref p), some (.int m), none, some (.int a), some (.int cell), none, none] ∧ PenAt H3 p l ns (a + 1) b ∧ But p H H3, ?_, ?_⟩
        rotate_left
        · rintro σ H3 ⟨rfl, hR, hC⟩
          have b1 := Int.emod_nonneg cell (b := 2147483549) (by decide)
          have b2 := Int.emod_lt_of_pos cell (b := 2147483549) (by decide)
          refine ⟨_, rfl, .inl ⟨_, rfl, _, _, rfl, rfl, (by show (0 : Int) < 2147483549; decide), _, rfl, _, _, rfl, rfl, .inl ⟨by decide, by decide⟩, _, _, rfl, rfl, _, _, rfl, rfl, _, _, rfl, rfl, ⟨by decide, by decide, natAbs_lt_of (by omega) (by omega)⟩, ?_⟩⟩
          refine .inl ⟨_, rfl, _, _, rfl, rfl, (by show (0 : Int) < 2147483489; decide), ?_⟩
          have x1 := Int.emod_nonneg ((cell % 2147483549 + 89025 * a + 487) ^ 5) (b := 2147483489) (by decide)
          have x2 := Int.emod_lt_of_pos ((cell % 2147483549 + 89025 * a + 487) ^ 5) (b := 2147483489) (by decide)
          have mx := mix_ok (c := 637) (d := 45135) x1 x2 h0 ha (by decide) (by decide) (by decide) (by decide)
          refine ⟨_, rfl, _, rfl, _, _, rfl, rfl, .inl ⟨by decide, by decide⟩, _, _, rfl, rfl, _, _, rfl, rfl, .inl ⟨Int.lt_of_lt_of_le (by decide) x1, Int.lt_trans x2 (by decide)⟩, ?_⟩
          refine ⟨_, rfl, _, _, rfl, rfl, .inl ⟨by decide, by decide⟩, _, rfl, _, _, rfl, rfl, .inl ⟨by omega, by omega⟩, _, _, rfl, rfl, _, _, rfl, rfl, _, _, rfl, rfl, ⟨by decide, by decide, natAbs_lt_of mx.1 mx.2⟩, ?_⟩
          refine .inl ⟨_, rfl, _, _, rfl, rfl, (by show (0 : Int) < 2147483423; decide), ?_⟩
          refine ⟨_, rfl, _, _, rfl, rfl, ⟨by decide, by decide⟩, .inl ⟨_, rfl, _, rfl, _, _, rfl, rfl, hm, ?_⟩⟩
          exact k _ _ _ _ (Int.emod_nonneg _ (Int.ne_of_gt hm)) (Int.emod_lt_of_pos _ hm) (by omega) (Int.le_refl _) hC hR
        refine ⟨_, rfl, _, rfl, p, _, _, _, rfl, rfl, SqL.of hQ.pen, rfl, l, _, rfl, .inl (SqL.of hQ.cells), _, _, rfl, rfl, _, rfl, ?_⟩
        refine ite2 (fun c2 => ?_) (fun c2 => ?_)
        · refine ⟨_, rfl, _, rfl, _, _, rfl, rfl, hpw, _, _, rfl, rfl, _, rfl, ?_⟩
          refine ite2 (fun c3 => ?_) (fun c3 => ?_)
          · refine ⟨_, rfl, _, rfl, _, _, rfl, rfl, hpw, _, _, rfl, rfl, _, _, rfl, rfl, .inl ⟨by decide, by decide⟩, _, rfl, _, _, rfl, rfl, .inr ⟨_, rfl, _, _, rfl, rfl, ?_⟩⟩
            refine ⟨_, rfl, .inl ⟨_, rfl, _, rfl, _, _, rfl, rfl, ⟨hm, hml⟩, _, rfl, p, _, _, _, rfl, rfl, hQ.pen, rfl, ?_⟩⟩
            refine ⟨_, rfl, .inl ⟨_, rfl, _, rfl, _, _, rfl, rfl, hm, ?_⟩⟩
            exact k _ _ _ _ (Int.emod_nonneg _ (Int.ne_of_gt hm)) (Int.emod_lt_of_pos _ hm) (by omega) (Int.le_refl _) hB.put (hQ.put _ _ (by omega))
          · exact ⟨rfl, hQ, hB⟩
        · exact ⟨rfl, hQ, hB⟩
abbrev N__law_pick : List Str := ["_law_pen_here", "_law_some"]
theorem sc__law_pick : FnScope N__law_pick ["_law_pen_here", "_law_some"] (defScope s__law_pick) := ⟨rfl, rfl, rfl, by decide +kernel, rfl, by decide +kernel, by decide +kernel⟩
theorem ok__law_pick {f fD : Addr} {fd fdD : FuncData} (F : Fun K "_law_pick" "_law_pick" s__law_pick f fd) (T : TB mg) (FD : Fun K "_law_draw" "_law_draw" s__law_draw fD fdD) (gD : mg "_law_draw" = some (.ref fD)) (bD : Binds K fdD ["_law_pen_here", "_law_many"] []) :
    FnOk P w K mg base CX0 2 f fd ["_law_pen_here", "_law_some"] (spPick K) := by
  have GD : FnOk P w K mg base CX0 1 fD fdD ["_law_pen_here", "_law_many"] spDraw := ok__law_draw FD T
  have kD := FD.kp
  refine F.ok sc__law_pick (fun vs H Q E h => ?_) (fun cdv A outer s H vs Q E hr h => ?_)
  · obtain ⟨p, l, q, ns, a, b, xs, rfl, _⟩ := h
    rfl
  · obtain ⟨p, l, q, ns, a, b, xs, rfl, hP, ha, hq, nq, x0, x1, k⟩ := h
    refine ⟨_, (pss_one (ps_ret (pe_ix ix_list (pv 1) (pe_call GD hr rfl gD kD bD .nil pass0 (pa_cons (pv 0) (pa_cons (pe_callB call_len_seq (by rfl) T.m_len (by decide +kernel) (pa_cons (pv 1) pa_nil)) pa_nil))) (fun _ _ => rfl)))), ?_⟩
    refine ⟨_, rfl, _, rfl, _, rfl, q, _, rfl, .inl hq, p, l, ns, a, b, _, rfl, hP, ha, by omega, ?_, fun H' d a' b' d0 d1 e1 e2 hB hR => ?_⟩
    · have h2 : (xs.length : Int).natAbs < 2 ^ 10 := by
        have e : (2 : Nat) ^ 10 = 1024 := by decide
        rw [e]
        omega
      exact Nat.lt_of_lt_of_le (PySem.Flt.log2_lt_of (by decide) h2) (by decide)
    · have hi : d.toNat < xs.length := by omega
      refine ⟨q, xs, d, xs[d.toNat], rfl, rfl, ?_, atI_of d0 (List.getElem?_eq_getElem hi), k H' d.toNat _ a' b' (List.getElem?_eq_getElem hi) e1 e2 hB hR⟩
      rcases hq with (h | ⟨o, h⟩) | h
      · exact .inl (.inl (hB _ _ nq h))
      · exact .inl (.inr ⟨o, hB _ _ nq h⟩)
      · exact .inr h
end
end Toy
set_option maxRecDepth 100000
namespace L2
open PySem PySem.Spec PyProof.Rows
section
variable {X : Cx} {CX : CXT} {k n : Nat} {f : Addr} {fd : FuncData} {ps ks : List Str} {sp : Sp} {E : XK} {x : Str} {p pos : Pos} {kws : List Keyword} {tk : TA} {g : List Value → List Value → List Value} {gV : List V → List V → List V}
/-- f(k = v, ..) -/
def tCallK0 (m : Nat) (sp : Sp) (gV : List V → List V → List V) (E : XK) (tk : TA) : TE := fun σ H Q => tk σ H fun zs H1 => zs.length = m ∧ sp (gV [] zs) H1 Q E
theorem pe_callK0 (F : FnOk X.prog X.w X.K X.mg X.base CX k f fd ps sp) (hr : Room k X.A) (hg : Gl X x) (hm : X.mg x = some (.ref f)) (hk : PySem.W.keepIn X.K (.ref f) = true) (hb : KBn X.K fd ps 0 ks g gV) (hx : Passes CX X E) (hkw : PK X kws tk)
    (hall : (backToKw pos (keywordEach kws X.env)).all (·.1.isSome) = true := by rfl) (hks : (backToKw pos (keywordEach kws X.env)).filterMap (·.1) = ks := by rfl) (hdb : (x == ("__debug__" : Str)) = false := by decide)
    (hpl : ((backTo pos (starEach [] X.env)).any (·.1) || (backToKw pos (keywordEach kws X.env)).any (·.1.isNone)) = false := by rfl) :
    PE X (.Call (.Name x p) [] kws pos) (tCallK0 ks.length sp gV E tk) := by
  refine ⟨fun pins s σ H Q I h => wpAny_Call_Name_kw (ld_glob I hg hm ?_ hdb)⟩
  refine PySem.W.callWith_KW0 (h₀ := X.base) I.ok.mod.kin hk hall ?_ hpl
  refine thn (hkw.run pos pins s σ H _ I h) fun ws s2 hh => ?_
  obtain ⟨zs, H2, I2, rz, l2, q2⟩ := hh
  refine ⟨I2.kIn, ?_⟩
  rw [hks]
  exact run_fnN (n := 0) (us := []) (vs := []) F hr hb hx I2 .nil rz rfl l2 q2
end
/-- kinds of plain values -/
inductive Plain (K : PySem.W.Frag) (H : Hp) : V → String → Prop where
  | non : Plain K H .non "NoneType"
  | bl (b : Bool) : Plain K H (.bl b) "bool"
  | int (i : Int) : Plain K H (.int i) "int"
  | str (z : Str) : Plain K H (.str z) "str"
  | lst {a : Addr} {xs : List V} (e : H a = some (.lst xs)) : Plain K H (.ref a) "list"
  | tup {a : Addr} {xs : List V} (e : H a = some (.tup xs)) : Plain K H (.ref a) "tuple"
  | dK {a : Addr} {kvs : List (Key × V)} (e : H a = some (.dK kvs)) : Plain K H (.ref a) "dict"
theorem Plain.ty {K : PySem.W.Frag} {H : Hp} {x : V} {T : String} (h : Plain K H x T) : TyX K H x (.type T) := by
  cases h with
  | non => exact .base .non
  | bl b => exact .base (.bl b)
  | int i => exact .base (.int i)
  | str z => exact .base (.str z)
  | lst e => exact .base (.lst e)
  | tup e => exact .base (.tup e)
  | dK e => exact .base (.dK e)
def isI : V → Bool
  | .int _ => true
  | _ => false
def isB : V → Bool
  | .bl _ => true
  | _ => false
def isS : V → Bool
  | .str _ => true
  | _ => false
theorem Plain.kInt {K : PySem.W.Frag} {H : Hp} {x : V} {T : String} (h : Plain K H x T) : PySem.W.kitOne K (.type T) (.type "int") = some (isI x || isB x) := by
  cases h <;> first
    | exact kit_ty (show kitB _ _ = some true by decide +kernel)
    | exact kit_ty (show kitB _ _ = some false by decide +kernel)
theorem Plain.kBool {K : PySem.W.Frag} {H : Hp} {x : V} {T : String} (h : Plain K H x T) : PySem.W.kitOne K (.type T) (.type "bool") = some (isB x) := by
  cases h <;> first
    | exact kit_ty (show kitB _ _ = some true by decide +kernel)
    | exact kit_ty (show kitB _ _ = some false by decide +kernel)
theorem Plain.kStr {K : PySem.W.Frag} {H : Hp} {x : V} {T : String} (h : Plain K H x T) : PySem.W.kitOne K (.type T) (.type "str") = some (isS x) := by
  cases h <;> first
    | exact kit_ty (show kitB _ _ = some true by decide +kernel)
    | exact kit_ty (show kitB _ _ = some false by decide +kernel)
end L2
set_option maxRecDepth 100000
namespace L2
open PySem PySem.Spec PyProof.Rows
theorem PE.imp {X : Cx} {e : Expr} {t t' : TE} (h : PE X e t) (i : ∀ σ H Q, t' σ H Q → t σ H Q) : PE X e t' :=
  ⟨fun pins s σ H Q I q => h.run pins s σ H Q I (i σ H Q q)⟩
/-- an own exception's __init__ of n arguments that stores fields -/
def spX (C : Addr) (n : Nat) (fs : List V → List (Str × V)) : Sp := fun vs H Q _ => ∃ (a : Addr) (ys : List V), vs = .ref a :: ys ∧ ys.length = n ∧ H a = some (exo a C none) ∧
  ∀ (dx : Addr) (H' : Hp), H dx = none → dx ≠ a → H' a = some (exo a C (some dx)) → H' dx = some (exd dx (fs ys)) → (∀ b, b ≠ a → b ≠ dx → H' b = H b) → Q .non H'
/-- an exception of the class at C with these fields -/
def ErrAt (H : Hp) (a C : Addr) (fs : List (Str × V)) : Prop := ∃ d, H a = some (exo a C (some d)) ∧ H d = some (exd d fs)
theorem ErrAt.same {H H' : Hp} {a C : Addr} {fs : List (Str × V)} (s : Same H H') (h : ErrAt H a C fs) : ErrAt H' a C fs :=
  let ⟨d, h1, h2⟩ := h
  ⟨d, s _ _ h1, s _ _ h2⟩
theorem Same.new {H H' : Hp} {q : Addr} {o : HO} (s : Same H H') (hq : H' q = none) : Same H (upd H' q o) := fun b u e => by
  rw [upd_ne (ne_of_none (s b u e) hq)]
  exact s b u e
theorem spX_new {C : Addr} {n : Nat} {fs : List V → List (Str × V)} {H : Hp} {Q : VK} {a : Addr} {ys : List V} (ha : H a = none) (hn : ys.length = n)
    (h : ∀ H', Same H H' → ErrAt H' a C (fs ys) → Q (.ref a) H') : spX C n fs (.ref a :: ys) (upd H a (exo a C none)) (fun v H2 => v = .non ∧ Q (.ref a) H2) E0 := by
  refine ⟨a, ys, rfl, hn, upd_same, fun dx H' hd nd h1 h2 h3 => ⟨rfl, h H' (fun b o e => ?_) ⟨dx, h1, h2⟩⟩⟩
  have hd' : H dx = none := by
    rw [upd_ne nd] at hd
    exact hd
  rw [h3 b (ne_of_none e ha) (ne_of_none e hd'), upd_ne (ne_of_none e ha)]
  exact e
section
variable {X : Cx} {k n : Nat} {fI C : Addr} {fd : FuncData} {ps ks : List Str} {fs : List V → List (Str × V)} {x : Str} {p pos : Pos} {e : Expr} {es : List Expr} {kws : List Keyword} {t tk : TA} {g : List Value → List Value → List Value} {gV : List V → List V → List V}
/-- C(e, ..) where __init__ stores fields -/
def tNewX (C : Addr) (n : Nat) (fs : List V → List (Str × V)) (t : TA) : TE := fun σ H Q => t σ H fun vs H1 => vs.length = n ∧ ∀ a H', H1 a = none → Same H1 H' → ErrAt H' a C (fs vs) → Q (.ref a) H'
end
/-- the readings of argument lists go on with what follows -/
def Mono (t : TA) : Prop := ∀ σ H (Q Q' : List V → Hp → Prop), (∀ vs H', Q vs H' → Q' vs H') → t σ H Q → t σ H Q'
theorem mono_nil : Mono tNil := fun _ _ _ _ h q => h _ _ q
theorem mono_var {i : Nat} {t : TA} (h : Mono t) : Mono (tCons (tVar i) t) := fun σ H Q Q' i q => by
  obtain ⟨v, e, q⟩ := q
  exact ⟨v, e, h _ _ _ _ (fun vs H' z => i _ _ z) q⟩
section
variable {X : Cx} {k n : Nat} {fI C : Addr} {fd : FuncData} {ps ks : List Str} {fs : List V → List (Str × V)} {x : Str} {p pos : Pos} {e : Expr} {es : List Expr} {kws : List Keyword} {t tk : TA} {g : List Value → List Value → List Value} {gV : List V → List V → List V}
theorem pe_newX (T : XvI X.K C fI) (F : FnOk X.prog X.w X.K X.mg X.base CX0 k fI fd ps (spX C n fs)) (hr : Room (k + 1) X.A) (hb : KBn X.K fd ps (n + 1) [] g fun vs zs => vs ++ zs) (hg : Gl X x) (hm : X.mg x = some (.ref C)) (mo : Mono t) (ha : PA X (e :: es) t)
    (hn : n ≤ 1000 := by decide) (hdb : (x == ("__debug__" : Str)) = false := by decide)
    (he : starEach (e :: es) X.env = (false, eval e X.env) :: starEach es X.env := by rfl) (hpl : (backTo pos (starEach es X.env)).any (·.1) = false := by rfl) :
    PE X (.Call (.Name x p) (e :: es) [] pos) (tNewX C n fs t) := by
  refine (pe_mkx T F hr hb hg hm ha hn hdb he hpl).imp fun σ H Q q => mo _ _ _ _ (fun vs H1 z => ⟨z.1, fun a ha => ?_⟩) q
  show spX C n fs ((V.ref a :: vs) ++ []) _ _ _
  rw [List.append_nil]
  exact spX_new ha z.1 (z.2 a · ha)
/-- C(k = v, ..): the fields by all the values, in the parameters' order -/
def tNewXK (C : Addr) (m : Nat) (fs : List V → List (Str × V)) (tk : TA) : TE := fun σ H Q => tk σ H fun zs H1 => zs.length = m ∧ ∀ a H', H1 a = none → Same H1 H' → ErrAt H' a C (fs zs) → Q (.ref a) H'
theorem pe_newXK (T : XvI X.K C fI) (F : FnOk X.prog X.w X.K X.mg X.base CX0 k fI fd ps (spX C n fs)) (hr : Room (k + 1) X.A) (ord : List V → List V) (hb : KBn X.K fd ps 1 ks g fun vs zs => vs ++ ord zs) (ho : ∀ zs, (ord zs).length = zs.length) (hl : ks.length = n) (hg : Gl X x) (hm : X.mg x = some (.ref C)) (mo : Mono tk) (hkw : PK X kws tk)
    (hall : (backToKw pos (keywordEach kws X.env)).all (·.1.isSome) = true := by rfl) (hks : (backToKw pos (keywordEach kws X.env)).filterMap (·.1) = ks := by rfl) (hdb : (x == ("__debug__" : Str)) = false := by decide)
    (hpl : ((backTo pos (starEach [] X.env)).any (·.1) || (backToKw pos (keywordEach kws X.env)).any (·.1.isNone)) = false := by rfl) :
    PE X (.Call (.Name x p) [] kws pos) (tNewXK C ks.length (fun zs => fs (ord zs)) tk) := by
  refine (pe_mkxK T F hr hb hg hm hkw hall hks hdb hpl).imp fun σ H Q q => mo _ _ _ _ (fun zs H1 z => ⟨z.1, fun a ha => ?_⟩) q
  show spX C n fs (V.ref a :: ord zs) _ _ _
  exact spX_new ha ((ho zs).trans (z.1.trans hl)) (z.2 a · ha)
/-- e.f off an error -/
theorem xat_err {K : PySem.W.Frag} {f : Str} {H : Hp} {a C : Addr} {fs : List (Str × V)} {v : V} {Q : VK} (h : ErrAt H a C fs) (T : XvC K C) (no : PySem.W.findIn K (.ref C) f = some none) (l : fs.lookup f = some v) (q : Q v H) :
    ∃ (a' C' d : Addr) (fs' : List (Str × V)) (v' : V), V.ref a = .ref a' ∧ H a' = some (exo a' C' (some d)) ∧ H d = some (exd d fs') ∧ XvC K C' ∧ PySem.W.findIn K (.ref C') f = some none ∧ fs'.lookup f = some v' ∧ Q v' H :=
  let ⟨d, h1, h2⟩ := h
  ⟨a, C, d, fs, v, rfl, h1, h2, T, no, l, q⟩
/-- (C(e, ..), C(k = v, ..).f): the pair -/
def tRow (K : PySem.W.Frag) (C : Addr) (n m : Nat) (fs fs' : List V → List (Str × V)) (f : Str) (t tk : TA) : TE := fun σ H Q => ∃ (vs zs : List V) (v : V), (∀ H Q, Q vs H → t σ H Q) ∧ (∀ H Q, Q zs H → tk σ H Q) ∧ vs.length = n ∧ zs.length = m ∧
  XvC K C ∧ PySem.W.findIn K (.ref C) f = some none ∧ (fs' zs).lookup f = some v ∧ ∀ (p a : Addr) (H' : Hp), Same H H' → H p = none → H' p = some (.tup [.ref a, v]) → ErrAt H' a C (fs vs) → Q (.ref p) H'
theorem pe_row {m : Nat} {fs' : List V → List (Str × V)} {e1 e2 : Expr} {f : Str} {b : Nat} {p1 p2 : Pos} (h1 : PE X e1 (tNewX C n fs t)) (h2 : PE X e2 (tNewXK C m fs' tk)) (hb : attributeBase e2 f X.env (eval e2 X.env) = eval e2 X.env := by rfl)
    (hs : starEach [e1, .Attribute e2 f p1] X.env = (false, eval e1 X.env) :: starEach [.Attribute e2 f p1] X.env := by rfl) :
    PE X (.Tuple [e1, .Attribute e2 f p1] b p2) (tRow X.K C n m fs fs' f t tk) := by
  refine (pe_tup (pa_cons h1 (hs := hs) (pa_cons (pe_xat h2 hb) pa_nil))).imp fun σ H Q q => ?_
  obtain ⟨vs, zs, v, a1, a2, l1, l2, T, no, lk, q⟩ := q
  refine a1 _ _ ⟨l1, fun a Ha na sa ea => a2 _ _ ⟨l2, fun c Hc nc sc ec => ?_⟩⟩
  refine xat_err ec T no lk ⟨(by show 2 ≤ sizeLine; decide), fun p hp => ?_⟩
  have s2 : Same H Hc := sa.trans sc
  refine q p a _ (s2.new hp) (s2.free hp) upd_same ((ea.same sc).same ((Same.refl _).new hp))
end
end L2
set_option maxRecDepth 100000
namespace L2
open PySem PySem.Spec PyProof.Rows
/-! try: .. except X as n: suite, where the error outlives the suite by another name: it is tracked from then on -/
/-- at a: an error of the class cls that has been caught, its dict at d -/
def exz (a : Addr) (cls : Value) (d : Option Addr) : HO := .ext fun h => ∃ (oe : Obj) (vs : Array Value), h.get? a = some oe ∧ Zc cls d oe ∧ oe.data = .fields vs
theorem exz_ok {P : Program} {w : World} {H : Hp} {h : Heap} {a : Addr} {cls : Value} {d : Option Addr} {oe : Obj} {vs : Array Value} (e : h.get? a = some oe) (z : Zc cls d oe) (f : oe.data = .fields vs) : ObjOk P w H h a (exz a cls d) :=
  ⟨⟨oe, vs, e, z, f⟩, ⟨oe, e⟩, fun _ _ ⟨o, ws, e1, z1, f1⟩ k => ⟨o, ws, k _ e1, z1, f1⟩⟩
theorem exz_at {P : Program} {w : World} {H : Hp} {h : Heap} {a : Addr} {cls : Value} {d : Option Addr} (hok : HOk P w H h) (e : H a = some (exz a cls d)) : ∃ (oe : Obj) (vs : Array Value), h.get? a = some oe ∧ Zc cls d oe ∧ oe.data = .fields vs := by
  have x : ObjOk P w H h a (.ext fun h => ∃ (oe : Obj) (vs : Array Value), h.get? a = some oe ∧ Zc cls d oe ∧ oe.data = .fields vs) := hok a _ e
  exact x.1
theorem exz_ne_own {a x : Addr} {cls : Value} {d : Option Addr} : exz a cls d ≠ .own x := fun z => by
  have z2 : HO.ext _ = HO.own x := z
  cases z2
section
variable {X : Cx} {pins : List (Addr × Obj)} {σ : St} {H : Hp} {s : Shared}
/-- what was not tracked, is not of the entry and no cell, is tracked from now on -/
theorem Inv.track {a : Addr} {o : HO} (I : Inv X pins σ H s) (na : H a = none) (n0 : X.s_0.heap.get? a = none) (nl : a ≠ X.env.locals) (nc : ∀ x c, X.env.cells.lookup x = some c → c ≠ a) (np : ∀ p ∈ X.pn ++ pins, p.1 ≠ a)
    (new : ObjOk X.prog X.w (upd H a o) s.heap a o) : Inv X pins σ (upd H a o) s := by
  have old : ∀ {b : Addr} {u : Obj}, X.s_0.heap.get? b = some u → b ≠ a := fun {b u} e z => by
    rw [z, n0] at e
    cases e
  have tr : ∀ {b : Addr} {u : HO}, H b = some u → b ≠ a := fun e => ne_of_none e na
  refine ⟨I.ok, I.os, I.bare, ⟨I.base.keep, I.base.slot, fun b u e n x => ?_, I.base.there, fun b xs e => ?_, fun b u v e => ?_, fun b ps e => ?_⟩, I.loc, I.cell, ?_, fun x c e => ?_, fun p hp => ?_, fun b u e => ?_, I.len⟩
  · rw [upd_ne (old e)]
    exact I.base.free b u e n x
  · have q := I.base.tups b xs e
    rw [upd_ne (tr q)]
    exact q
  · have q := I.base.frzs b u v e
    rw [upd_ne (tr q)]
    exact q
  · obtain ⟨more, q⟩ := I.base.tbls b ps e
    exact ⟨more, by rw [upd_ne (tr q)]; exact q⟩
  · rw [upd_ne nl.symm]
    exact I.free
  · rw [upd_ne (nc x c e)]
    exact I.freeC x c e
  · obtain ⟨h1, h2, h3⟩ := I.pin p hp
    exact ⟨h1, by rw [upd_ne (np p hp)]; exact h2, h3⟩
  · by_cases hb : b = a
    · subst hb
      rw [upd_same] at e
      cases e
      exact new
    · rw [upd_ne hb] at e
      exact (I.hok b u e).stay (fun _ _ _ z => z) (fun _ z => by rw [upd_ne (tr z)]; exact z) fun _ _ z => by rw [upd_ne (tr z)]; exact z
/-- fewer pins -/
theorem Inv.unpin {q : Addr × Obj} (I : Inv X (q :: pins) σ H s) : Inv X pins σ H s :=
  ⟨I.ok, I.os, I.bare, I.base, I.loc, I.cell, I.free, I.freeC, fun p hp => I.pin p ((List.mem_append.mp hp).elim (fun z => List.mem_append_left _ z) fun z => List.mem_append_right _ (List.mem_cons_of_mem _ z)), I.hok, I.len⟩
/-- out of a suite, the error's object still pinned -/
theorem Inv.offSuite {a : Addr} {q : Addr × Obj} (I : Inv (X.suite a (q :: (X.pn ++ pins))) [] σ H s) (ok : X.Ok) : Inv X (q :: pins) σ H s := by
  refine ⟨ok, I.os, I.bare, I.base, I.loc, I.cell, I.free, I.freeC, fun p hp => I.pin p (List.mem_append_left _ ?_), I.hok, I.len⟩
  rcases List.mem_append.mp hp with z | z
  · exact List.mem_cons_of_mem _ (List.mem_append_left _ z)
  · rcases List.mem_cons.mp z with z | z
    · rw [z]
      exact List.mem_cons_self ..
    · exact List.mem_cons_of_mem _ (List.mem_append_right _ z)
end
/-- what the clause wishes: at the suite's end the error is tracked -/
def wKeep (K : PySem.W.Frag) (c : Value) (i m : Nat) (ts : Addr → Value → Option Addr → TS) (Wout : WX) (D : Ends) : WX := fun cls d σ H => ∃ b, PySem.W.exmOne K cls c = some b ∧
  (b = true → σ.length = m → ∀ a, H a = none → ts a cls d { nx := fun τ G => D.nx (τ.set i none) (upd G a (exz a cls d)), rt := fun _ _ => False, bk := fun _ _ => False, ct := fun _ _ => False } (σ.set i (some (.ref a))) H) ∧ (b = false → Wout cls d σ H)
section
variable {X : Cx} {x n : Str} {c : Value} {i : Nat} {body rest : List Stmt} {first : Stmt} {p1 p2 p3 : Pos} {tb : WX → TS} {ts : Addr → Value → Option Addr → TS} {Wout : WX}
theorem ps_try_keep (st : X.stack = X.env :: X.outer) (fr : X.env.frame = some X.env.locals) (nd : X.N.Nodup) (hi : X.N[i]? = some n) (kd : X.env.kindOf n = some .local) (nm : Names X x c) (tk : Takes X Wout) (nx : X.ex = [])
    (hb : ∀ (W : WX) (pn : List (Addr × Obj)) (xe : Value → Shared → Prop), Takes (X.tr pn xe) W → PassesOwn (model X.prog X.w) X.A X.env xe → PSs (X.tr pn xe) body (tb W))
    (hsu : ∀ (a : Addr) (oe : Obj) (cls : Value) (d : Option Addr) (pn : List (Addr × Obj)), Zc cls d oe → (∃ vs, oe.data = .fields vs) → PSs (X.suite a ((a, oe) :: pn)) (first :: rest) (ts a cls d)) :
    PS X (.Try body [.ExceptHandler (some (.Name x p1)) (some n) (first :: rest) p2] [] [] p3) (fun D σ H => tb (wKeep X.K c i X.N.length ts Wout D) D σ H) := by
  refine ⟨fun pins s σ H D I h => wpAny_Try_except ?_⟩
  have ok := I.ok
  have afr : X.A.frames = some (X.env :: X.outer) := by
    rw [ok.frames, st]
  let nxt : Value → Shared → Prop := fun e s₁ => wpAny (model X.prog X.w) X.A (noteFrame e X.env) (fun _ s₂ => wpAny (model X.prog X.w) X.A (setFlight e none)
    (fun _ s₃ => wpAny (model X.prog X.w) X.A (handleBy e X.env [.ExceptHandler (some (.Name x p1)) (some n) (first :: rest) p2]) (SP X pins D) X.xe s₃) X.xe s₂) X.xe s₁
  have caught : ∀ u s', XE (X.tr (X.pn ++ pins) nxt) (wKeep X.K c i X.N.length ts Wout D) u s' → nxt u s' := by
    rintro u s' ⟨a, B, sI, pinsI, σ1, H1, cls, d, rfl, J0, gb, us, sky, na, eo, ab, b, hm, yes, no⟩
    have J : Inv X pins σ1 H1 sI := J0.ofTry ok
    rw [show (X.tr (X.pn ++ pins) nxt).stack = X.env :: X.outer from st] at sky
    refine Sky.land Zc.steady afr fr sky fun hA flA uA => ?_
    have JA : Inv X pins σ1 H1 { s' with heap := hA } := J.landed gb flA.1 (us.trans uA) eo ab
    have off : ∀ {g : Heap} {o : Obj} {ws : Array Value}, g.FunFrames B (X.env :: X.outer) → g.get? a = some o → o.data = .fields ws → a ∉ frs (X.env :: X.outer) := by
      intro g o ws ff e dd z
      obtain ⟨_, o2, e2, k⟩ := ff.mem z
      rw [e] at e2
      cases e2
      exact k _ dd
    obtain ⟨o3, w3, a3, z3, d3⟩ := flA.there
    have nfr := off flA.2.2.1 a3 d3
    have nL : a ≠ X.env.locals := fun z => nfr (List.mem_filterMap.mpr ⟨X.env, List.mem_cons_self, by rw [fr, z]⟩)
    have nF : a ∉ X.fs := fun z => by
      obtain ⟨e, he, q⟩ := List.mem_filterMap.mp z
      exact nfr (List.mem_filterMap.mpr ⟨e, List.mem_cons_of_mem _ he, q⟩)
    have new : sI.heap.get? a = none := by
      cases q : sI.heap.get? a with
      | none => rfl
      | some o =>
        have z := gb a o q (by rw [show (X.tr (X.pn ++ pins) nxt).stack = X.env :: X.outer from st]; exact nfr)
        rw [flA.2.1] at z
        cases z
    have n0 : X.s_0.heap.get? a = none := by
      cases q : X.s_0.heap.get? a with
      | none => rfl
      | some o =>
        obtain ⟨o2, z⟩ := J.base.there a o q (by rw [nx]; simp)
        rw [new] at z
        cases z
    have np : ∀ p ∈ X.pn ++ pins, p.1 ≠ a := fun p hp z => by
      have q := (J.pin p hp).1
      rw [z, new] at q
      cases q
    have SA := JA.suite a3 d3 na nL nF
    have look : PySem.W.Looks (model X.prog X.w) hA (typeOf (.ref a)) cls := fun A Q E s k q => wpAny_typeOf_ref (k _ _ a3) (by rw [z3.1]; exact q)
    have which := PySem.W.exm_one (M := model X.prog X.w) JA.kIn look hm
    have name : ∀ {Q E : Value → Shared → Prop}, Q c { s' with heap := hA } → wpAny (model X.prog X.w) (X.A.mark (some (.ref a))) (eval (.Name x p1) X.env) Q E { s' with heap := hA } := by
      intro Q E q
      obtain ⟨g, db, g2⟩ := nm
      rcases g2 with g2 | ⟨g2, bv, nn⟩
      · exact ld_glob (X := X.suite a ((a, o3) :: (X.pn ++ pins))) SA g g2 q db
      · exact ld_blt (X := X.suite a ((a, o3) :: (X.pn ++ pins))) SA g g2 bv q nn db
    refine wpAny_handleBy_cons (codeAny_handlers_test (name (which.here ?_))) (by intro q; cases q)
    cases b with
    | true =>
      refine codeAny_handlers_suite_as (HandSPX.lands_againZ flA fun hB flB uB => ?_)
      have JB : Inv X pins σ1 H1 { s' with heap := hB } := J.landed gb flB.1 ((us.trans uA).trans uB) eo ab
      obtain ⟨o4, w4, a4, z4, d4⟩ := flB.there
      have SB := JB.suite a4 d4 na nL nF
      refine store_ok (X := X.suite a ((a, o4) :: (X.pn ++ pins))) (v := .ref a) SB nd hi (.inl kd) rfl (fun s5 S5 => ?_) (.inr kd)
      refine wpAny_mono ((hsu a o4 cls d (X.pn ++ pins) z4 ⟨_, d4⟩).run [] s5 _ H1 _ S5 (yes rfl J.len a na)) (fun f s6 sp => ?_) fun _ _ z => z.elim
      cases f with
      | next =>
        obtain ⟨σ6, H6, S6, q6⟩ := sp
        refine gone_ok (S6.offSuite ok) nd hi kd fun s7 J7 => ?_
        obtain ⟨at7, n7, _⟩ := J7.pin (a, o4) (List.mem_append_right _ (List.mem_cons_self ..))
        have cells : ∀ y c', X.env.cells.lookup y = some c' → c' ≠ a := fun y c' e z => by
          obtain ⟨v, o, ho, hd⟩ := J7.cell y c' e
          rw [z, at7] at ho
          cases ho
          rw [d4] at hd
          cases hd
        exact ⟨_, _, J7.unpin.track n7 n0 nL cells np (exz_ok at7 z4 d4), q6⟩
      | brk =>
        obtain ⟨_, _, _, q6⟩ := sp
        exact q6.elim
      | cont =>
        obtain ⟨_, _, _, q6⟩ := sp
        exact q6.elim
      | ret u =>
        obtain ⟨_, _, _, _, _, q6⟩ := sp
        exact q6.elim
    | false =>
      refine wpAny_handleBy_nil ?_
      obtain ⟨f1, f2, f3, oe, vs, T, oT, tr, e1, e2, e3, e4, e5⟩ := id flA
      have out : wpAny (model X.prog X.w) X.A (setFlight (.ref a) X.env.frame) (fun _ s4 => wpAny (model X.prog X.w) X.A (throw (.ref a) : Sem Flow) (SP X pins D) X.xe s4) X.xe { s' with heap := hA } := by
        rw [fr]
        refine HandSPX.setFlight_upZ flA fun hB up uB => wpAny_throw (tk _ _ ⟨a, B, sI, pins, σ1, H1, cls, d, rfl, J, gb, (us.trans uA).trans uB, .inr (.inr (by rw [st]; exact up)), na, eo, ab, no rfl⟩)
      unfold PySem.passOn
      refine wpAny_bind (wpAny_field e1 e3 e4 ?_)
      rw [if_neg (show ¬ (Value.ref T == Value.none) = true by simp)]
      first
        | exact wpAny_bind (wpAny_pure (wpAny_bind out))
        | exact wpAny_bind out
  refine wpAny_mono ((hb _ (X.pn ++ pins) nxt caught PassesOwn.looking).run [] s σ H D (I.toTry _) h) (fun f s1 sp => ?_) fun _ _ z => z
  cases f with
  | next =>
    obtain ⟨σ2, H2, J, q⟩ := sp
    exact wpAny_execs_nil ⟨σ2, H2, J.ofTry ok, q⟩
  | brk =>
    obtain ⟨σ2, H2, J, q⟩ := sp
    exact ⟨σ2, H2, J.ofTry ok, q⟩
  | cont =>
    obtain ⟨σ2, H2, J, q⟩ := sp
    exact ⟨σ2, H2, J.ofTry ok, q⟩
  | ret u =>
    obtain ⟨v, σ2, H2, J, r, q⟩ := sp
    exact ⟨v, σ2, H2, J.ofTry ok, r, q⟩
end
end L2
set_option maxRecDepth 100000
namespace L2
open PySem PySem.Spec PyProof.Rows
/-! a caught error by another name: its class asked, its fields read -/
/-- at a: a caught error of the class at C, with these fields -/
def Caught (H : Hp) (a C : Addr) (fs : List (Str × V)) : Prop := ∃ d, H a = some (exz a (.ref C) (some d)) ∧ H d = some (.xd fs)
theorem xd_at {P : Program} {w : World} {H : Hp} {h : Heap} {d : Addr} {fs : List (Str × V)} (hok : HOk P w H h) (e : H d = some (.xd fs)) : ∃ mA, h.Ns1 d mA ∧ ∀ f, RelO (fs.lookup f) (mA f) := by
  have x : ObjOk P w H h d (.xd fs) := hok d _ e
  exact x
theorem Caught.same {H H' : Hp} {a C : Addr} {fs : List (Str × V)} (s : Same H H') (h : Caught H a C fs) : Caught H' a C fs :=
  let ⟨d, h1, h2⟩ := h
  ⟨d, s _ _ h1, s _ _ h2⟩
section
variable {X : Cx} {pins : List (Addr × Obj)} {σ : St} {H : Hp} {s : Shared}
theorem caught_inst {a C : Addr} {fs : List (Str × V)} (I : Inv X pins σ H s) (h : Caught H a C fs) : ∃ (oe od : Obj) (mA : Str → Option Value), PySem.W.InstAt s.heap a oe C (some od) ∧ (∀ f, PySem.W.lookIn f od = some (mA f)) ∧ ∀ f, RelO (fs.lookup f) (mA f) := by
  obtain ⟨d, ea, ed⟩ := h
  obtain ⟨oe, vs, e1, z, e2⟩ := exz_at I.hok ea
  obtain ⟨mA, hns, hr⟩ := xd_at I.hok ed
  obtain ⟨od, hod, hl⟩ := lookIn_ns hns
  refine ⟨oe, od, mA, ⟨e1, z.1, ?_, ?_⟩, hl, hr⟩
  · unfold PySem.W.notCls
    rw [e2]
  · rw [z.2]
    exact hod
/-- isinstance(e, c) -/
def rIsZ (K : PySem.W.Frag) : List V → Hp → VK → Prop := fun xs H Q => ∃ (a C : Addr) (fs : List (Str × V)) (c : V) (cv : Value) (b : Bool), xs = [.ref a, c] ∧ Caught H a C fs ∧ XvC K C ∧ ClsV c cv ∧ PySem.W.kitOne K (.ref C) cv = some b ∧ Q (.bl b) H
theorem call_isz : CallR X (.builtin "isinstance") (rIsZ X.K) := by
  intro pins s σ H xs us Q I r h
  obtain ⟨a, C, fs, c, cv, b, rfl, ea, T, k, e, q⟩ := h
  obtain ⟨u1, u2, rfl, r1, r2⟩ := vals2 r
  have e2 := k.eq r2
  subst e2
  obtain rfl : u1 = Value.ref a := r1
  obtain ⟨oe, od, mA, J, _⟩ := caught_inst I ea
  exact PySem.W.kia_one (PySem.W.kitx_exc T.ic T.ga T.gg T.oex.exC T.ca T.gs T.tk T.mo) I.kIn J e (fun z => nomatch z) fun tk => ⟨.bl b, H, I.tok tk, rfl, q⟩
/-- e.f -/
def tZat (K : PySem.W.Frag) (te : TE) (f : Str) : TE := fun σ H Q => te σ H fun x H1 => ∃ (a C : Addr) (fs : List (Str × V)) (v : V), x = .ref a ∧ Caught H1 a C fs ∧ XvC K C ∧ PySem.W.findIn K (.ref C) f = some none ∧ fs.lookup f = some v ∧ Q v H1
theorem pe_zat {e : Expr} {te : TE} {f : Str} {pos : Pos} (he : PE X e te) (hb : attributeBase e f X.env (eval e X.env) = eval e X.env := by rfl) : PE X (.Attribute e f pos) (tZat X.K te f) := by
  refine ⟨fun pins s σ H Q I h => attr_of hb (thn (he.run pins s σ H _ I h) fun u s1 hh => ?_)⟩
  obtain ⟨x, H1, I1, rx, a, C, fs, v, ex, ea, T, no, l, q⟩ := hh
  subst ex
  obtain rfl : u = Value.ref a := rx
  obtain ⟨oe, od, mA, J, hl, hr⟩ := caught_inst I1 ea
  obtain ⟨u, hu, ru⟩ : ∃ u, mA f = some u ∧ RelV v u := RelO.some_of (v := v) (o := mA f) (by rw [← l]; exact hr f)
  exact HandSPX.exc_get I1.kIn J T.ga T.gg T.oex.exC (PySem.W.findObj_own T.dd no rfl (by rw [hl, hu])) (handed_of ru) ⟨v, H1, I1.tok _, ru, q⟩
end
end L2
set_option maxRecDepth 100000
set_option maxHeartbeats 4000000
namespace L2
open PySem PySem.Spec PyProof.Rows
/-! a tuple taken once: t * 1 is t itself -/
theorem tuple_mul_one (l : Addr) (its : Array Value) (n : Nat) (dd : Option Addr) (sl : Array (Option Value)) (u : Tok) :
    Meets (Builtin.«tuple.__mul__» ⟨[.ref l, .int 1 u], []⟩) (fun _ R s => s.heap.get? l = some { cls := .type "tuple", dict := dd, data := .seq its n, slots := sl } ∧ R (.ok (.ret (.ref l))) s) :=
  .of_wp fun prog w A R s h => by
    obtain ⟨hp, g, d, tk, os⟩ := s
    obtain ⟨hl, h⟩ := h
    have f1 := AutoSeq1.idx_int
    have c1 : (its.isEmpty || (1 : Int) == 1) = true := by simp
    wp_walk using wpAny_loadPart' hl
    repeat (first
      | (refine wpAny_ite_true (decide_eq_true c1) ?_; wp_walk using wpAny_loadPart' hl)
      | (refine wpAny_ite_false (decide_eq_false (by decide)) ?_; wp_walk using wpAny_loadPart' hl))
    exact ⟨_, rfl, h⟩
def rRep1 (K : PySem.W.Frag) : R2 := fun x y H Q => ∃ l xs, x = .ref l ∧ y = .int 1 ∧ SqT K H l xs ∧ Q (.ref l) H
theorem op_rep1 {X : Cx} : OpR X (binaryOp .Mult) (rRep1 X.K) := by
  intro pins s σ H x y v u Q I rx ry h
  obtain ⟨l, xs, rfl, rfl, hT, q⟩ := h
  cases rx
  obtain ⟨t, rfl⟩ := ry
  obtain ⟨its, r, ⟨⟨cls, dd, data, sl⟩, ho, hc, n, hd⟩, hs⟩ := I.tuple hT
  simp only at hc hd
  subst hc hd
  exact wpAny_binaryOp_repeat_ref (T := "tuple") (U := "int") (by decide) ⟨_, ho, rfl⟩ (fun s' => typeIs_int s' 1 t) noFill_tuple_mul F.fills_int_mul F.slot_int_rmul repeat_tuple F.slot_int_index.lookup
    (call_meets F.slot_int_rmul (typeIs_int s 1 t) F.entry_int_rmul (F.args_int_rmul_2 _ _) (int_rmul_tuple 1 t l its.toArray n dd sl)
      ⟨ho, rfl, ⟨_, ho, rfl⟩, call_meets F.slot_tuple_mul ⟨_, ho, rfl⟩ F.entry_tuple_mul (F.args_tuple_mul_2 _ _) (tuple_mul_one l its.toArray n dd sl t) ⟨ho, ⟨.ref l, H, I, rfl, q⟩⟩⟩)
/-- t * k -/
theorem op_repA {X : Cx} : OpR X (binaryOp .Mult) (fun x y H Q => rRep1 X.K x y H Q ∨ rRepT X.K x y H Q) := by
  intro pins s σ H x y v u Q I rx ry h
  rcases h with h | h
  · exact op_rep1 pins s σ H x y v u Q I rx ry h
  · exact op_repT pins s σ H x y v u Q I rx ry h
end L2
set_option maxRecDepth 100000
namespace L2
open PySem PySem.Spec PyProof.Rows
/-! a list or a tuple, walked -/
def Seq (K : PySem.W.Frag) (H : Hp) (a : Addr) (xs : List V) : Prop := SqL K H a xs ∨ SqT K H a xs
def iSeq (K : PySem.W.Frag) (tl : TE) : TI := fun σ H R => tl σ H fun x H1 => ∃ (a : Addr) (xs : List V), x = .ref a ∧ ((SqL K H1 a xs ∧ R (Itl K a) H1) ∨ (SqT K H1 a xs ∧ R (Itt K a) H1))
theorem pi_seq {X : Cx} {tg l : Expr} {tl : TE} (hl : PE X l tl) : PI X tg l (iSeq X.K tl) := by
  constructor
  intro pins s σ H R I h
  refine thn (hl.run pins s σ H _ I h) ?_
  rintro v s1 ⟨x, G, J, r, a, xs, rfl, q⟩
  obtain rfl : v = Value.ref a := r
  have fresh : ∀ b ∈ [s1.heap.objs.size], b = s1.heap.objs.size := fun b hb => List.mem_singleton.mp hb
  have nw := J.hok.fresh (Nat.le_refl s1.heap.objs.size)
  rcases q with ⟨hq, q⟩ | ⟨hq, q⟩
  · obtain ⟨_, _, p, _⟩ := J.list hq
    exact wpAny_pyIter_list p.isList ⟨_, [s1.heap.objs.size], _, _, G, rfl, J.kept (t' := s1.toks) (fun _ _ z => Heap.get?_push_of_some _ z), turn_list a _, ⟨_, Heap.get?_push_size _ rfl, rfl, rfl⟩, fun b hb => by rw [fresh b hb]; exact J.fpOk (Nat.le_refl _) nw, q⟩
  · obtain ⟨_, _, p, _⟩ := J.tuple hq
    exact wpAny_pyIter_tuple (show Heap.IsTuple s1.heap a _ from p) ⟨_, [s1.heap.objs.size], _, _, G, rfl, J.kept (t' := s1.toks) (fun _ _ z => Heap.get?_push_of_some _ z), turn_tuple a _, ⟨_, Heap.get?_push_size _ rfl, rfl, rfl⟩, fun b hb => by rw [fresh b hb]; exact J.fpOk (Nat.le_refl _) nw, q⟩
theorem Same.seqT {K : PySem.W.Frag} {H H' : Hp} {a : Addr} {xs : List V} (e : Same H H') (h : SqT K H a xs) : SqT K H' a xs := by
  rcases h with (z | ⟨o, z⟩) | z
  · exact .inl (.inl (e a _ z))
  · exact .inl (.inr ⟨o, e a _ z⟩)
  · exact .inr z
theorem Seq.same {K : PySem.W.Frag} {H H' : Hp} {a : Addr} {xs : List V} (s : Same H H') (h : Seq K H a xs) : Seq K H' a xs := h.elim (fun z => .inl (s.seq z)) fun z => .inr (s.seqT z)
end L2
set_option maxRecDepth 100000
namespace L2
open PySem PySem.Spec PyProof.Rows
/-! operations of tuples, whether the result is a new tuple or an old one -/
section
variable {X : Cx}
theorem OpR.imp {f : Value → Value → Sem Value} {r r' : R2} (h : OpR X f r) (i : ∀ x y H Q, r' x y H Q → r x y H Q) : OpR X f r' := fun pins s σ H x y v u Q I rx ry q => h pins s σ H x y v u Q I rx ry (i x y H Q q)
theorem SlR.imp {r r' : V → Option Int → Option Int → Hp → VK → Prop} (h : SlR X r) (i : ∀ x lo hi H Q, r' x lo hi H Q → r x lo hi H Q) : SlR X r' := fun pins s σ H x v vl vu lo hi sl Q I rx hs pl pu q => h pins s σ H x v vl vu lo hi sl Q I rx hs pl pu (i x lo hi H Q q)
theorem Same.lay {H : Hp} {p : Addr} {o : HO} (h : H p = none) : Same H (upd H p o) := (Same.refl H).new h
theorem cutV_all {xs : List V} {lo hi : Option Int} (h : HT.sIx xs.length 0 lo = 0 ∧ HT.sIx xs.length xs.length hi = xs.length) : cutV xs lo hi = xs := by
  unfold cutV
  rw [h.1, h.2]
  simp
/-- t[i:j] -/
def rSlP : V → Option Int → Option Int → Hp → VK → Prop := fun x lo hi H Q => ∃ (a : Addr) (xs : List V), x = .ref a ∧ H a = some (.tup xs) ∧ ∀ p H', Same H H' → H' p = some (.tup (cutV xs lo hi)) → Q (.ref p) H'
theorem sl_tupP : SlR X rSlP := sl_tupA.imp fun x lo hi H Q ⟨a, xs, e, h, q⟩ => ⟨a, xs, e, SqT.of h, fun z => q a H (Same.refl H) (by rw [cutV_all z]; exact h), fun _ p hp => q p _ (Same.lay hp) upd_same⟩
/-- t * k -/
def rRepP : R2 := fun x y H Q => ∃ (a : Addr) (k : Int) (xs : List V), x = .ref a ∧ y = .int k ∧ H a = some (.tup xs) ∧ xs ≠ [] ∧ 1 ≤ k ∧ k ≤ 1000 ∧ xs.length ≤ 1000 ∧ ∀ p H', Same H H' → H' p = some (.tup (List.replicate k.toNat xs).flatten) → Q (.ref p) H'
theorem op_repP : OpR X (binaryOp .Mult) rRepP := op_repA.imp fun x y H Q ⟨a, k, xs, e1, e2, h, ne, h1, h2, h3, q⟩ => by
  by_cases hk : k = 1
  · subst hk
    exact .inl ⟨a, xs, e1, e2, SqT.of h, q a H (Same.refl H) (by simpa using h)⟩
  · exact .inr ⟨a, k, xs, e1, e2, SqT.of h, ne, by omega, h2, h3, fun p hp => q p _ (Same.lay hp) upd_same⟩
/-- t + u -/
def rCatP : R2 := fun x y H Q => ∃ (a b : Addr) (xs ys : List V), x = .ref a ∧ y = .ref b ∧ H a = some (.tup xs) ∧ H b = some (.tup ys) ∧ xs.length + ys.length ≤ 1000 ∧ ∀ p H', Same H H' → H' p = some (.tup (xs ++ ys)) → Q (.ref p) H'
theorem op_catP : OpR X (binaryOp .Add) rCatP := op_catA.imp fun x y H Q ⟨a, b, xs, ys, e1, e2, h1, h2, l, q⟩ =>
  ⟨a, b, xs, ys, e1, e2, SqT.of h1, SqT.of h2, Nat.le_of_lt (small1000 (by omega)), fun z => q b H (Same.refl H) (by rw [z]; exact h2), fun _ z => q a H (Same.refl H) (by rw [z, List.append_nil]; exact h1), fun _ _ p hp => q p _ (Same.lay hp) upd_same⟩
end
/-! whole numbers in tuples, compared -/
theorem eqvAll_ints : ∀ a b : List Int, PyData.eqvAll (a.map .int) (b.map .int) = decide (a = b)
  | [], [] => rfl
  | [], _ :: _ => rfl
  | _ :: _, [] => rfl
  | x :: xs, y :: ys => by
    have ih := eqvAll_ints xs ys
    show (PyData.eqv (.int x) (.int y) && PyData.eqvAll (xs.map .int) (ys.map .int)) = _
    rw [ih]
    show ((x == y) && decide (xs = ys)) = decide (x :: xs = y :: ys)
    by_cases h : x = y
    · subst h
      simp
    · have h2 : (x == y) = false := by simpa using h
      rw [h2]
      simp [h]
theorem eqv_tups (a b : List Int) : PyData.eqv (.tuple (a.map .int)) (.tuple (b.map .int)) = decide (a = b) := by
  rw [← eqvAll_ints a b]
  rfl
theorem dp_ints' {K : PySem.W.Frag} {H : Hp} : ∀ ns : List Int, DpAll K H (ns.map V.int) (ns.map PyData.int)
  | [] => .nil
  | z :: r => .cons (.int z) (dp_ints' r)
theorem shaped_tup (ns : List Int) : PySem.SeqAt.shaped (.tuple (ns.map PyData.int)) = true := by
  have h : ∀ ns : List Int, PyData.canLayAll0 (ns.map PyData.int) = true ∧ PyData.depthAll (ns.map PyData.int) = 0 := by
    intro ns
    induction ns with
    | nil => exact ⟨rfl, rfl⟩
    | cons z r ih => exact ⟨by simp [PyData.canLayAll0, PyData.canLay0, ih.1], by simp [PyData.depthAll, PyData.depth, ih.2]⟩
  simp [PySem.SeqAt.shaped, PyData.canLay0, PyData.depth, h ns]
/-- t == u of whole numbers -/
def rEqP : R2 := fun x y H Q => ∃ (a b : Addr) (ns ms : List Int), x = .ref a ∧ y = .ref b ∧ H a = some (.tup (ns.map V.int)) ∧ H b = some (.tup (ms.map V.int)) ∧ Q (.bl (decide (ns = ms))) H
theorem op_eqP {X : Cx} (hu : X.A.units + 64 < cLine) : OpR X (compareOp .Eq) rEqP := (op_eqD hu).imp fun x y H Q ⟨a, b, ns, ms, e1, e2, h1, h2, q⟩ =>
  ⟨.tuple (ns.map .int), .tuple (ms.map .int), by rw [e1]; exact .tup (SqT.of h1) (dp_ints' ns), by rw [e2]; exact .tup (SqT.of h2) (dp_ints' ms), shaped_tup ns, shaped_tup ms, by rw [eqv_tups]; exact q⟩
theorem op_neP {X : Cx} (hu : X.A.units + 64 < cLine) : OpR X (compareOp .NotEq) (fun x y H Q => ∃ (a b : Addr) (ns ms : List Int), x = .ref a ∧ y = .ref b ∧ H a = some (.tup (ns.map V.int)) ∧ H b = some (.tup (ms.map V.int)) ∧ Q (.bl (decide (ns ≠ ms))) H) := (op_neD hu).imp fun x y H Q ⟨a, b, ns, ms, e1, e2, h1, h2, q⟩ =>
  ⟨.tuple (ns.map .int), .tuple (ms.map .int), by rw [e1]; exact .tup (SqT.of h1) (dp_ints' ns), by rw [e2]; exact .tup (SqT.of h2) (dp_ints' ms), shaped_tup ns, shaped_tup ms, by rw [eqv_tups, ← decide_not]; exact q⟩
/-- len, its reading by name -/
def rLenS (K : PySem.W.Frag) : List V → Hp → VK → Prop := fun xs H Q => ∃ p ys, xs = [V.ref p] ∧ (SqL K H p ys ∨ SqT K H p ys) ∧ Q (V.int (ys.length : Int)) H
theorem call_lenS {X : Cx} : CallR X (.builtin "len") (rLenS X.K) := call_len_seq
end L2
set_option maxRecDepth 100000
namespace L2
open PySem PySem.Spec PyProof.Rows
/-- a target o.f among several -/
def gFld (K : PySem.W.Frag) (to : TE) (f : Str) : TG := fun v σ H Q => to σ H fun x H1 => ∃ a C dx fs, x = .ref a ∧ H1 a = some (.ins C dx fs) ∧ Cls K C ∧ NoAttr K C f ∧ fs.length < 1000 ∧ Q σ (upd H1 a (.ins C dx (putF f v fs)))
theorem pg_fld {X : Cx} {o : Expr} {f : Str} {p : Pos} {to : TE} (ho : PE X o to) : PG X (.Attribute o f p) (gFld X.K to f) := by
  constructor
  intro pins s σ H v u Q I r h
  refine PySem.W.kas_attr (thn (ho.run pins s σ H _ I h) ?_)
  rintro ov s1 ⟨x, H1, J, rx, a, C, dx, fs, rfl, ea, c, n, l, q⟩
  obtain rfl : ov = Value.ref a := rx
  exact setattr_ok J ea c n l r fun s2 J2 => ⟨σ, _, J2, q⟩
/-- raise C(e, ..), where C's __init__ stores fields -/
def tRaiseX (C : Addr) (n : Nat) (fs : List V → List (Str × V)) (t : TA) : St → Hp → XK → Prop := fun σ H Q => t σ H fun vs H1 => vs.length = n ∧ ∀ d H', H1 d = none → Same H1 H' → H' d = some (.xd (fs vs)) → Q (.ref C) (some d) H'
theorem pmk_x {X : Cx} {k n : Nat} {fI C : Addr} {fd : FuncData} {ps : List Str} {fs : List V → List (Str × V)} {x : Str} {p pos : Pos} {e : Expr} {es : List Expr} {t : TA} (T : XvI X.K C fI) (F : FnOk X.prog X.w X.K X.mg X.base CX0 k fI fd ps (spX C n fs)) (hr : Room (k + 1) X.A) (hb : Binds X.K fd ps []) (hn : n ≤ 1000)
    (hg : Gl X x) (hm : X.mg x = some (.ref C)) (mo : Mono t) (ha : PA X (e :: es) t) (hdb : (x == ("__debug__" : Str)) = false := by decide)
    (he : starEach (e :: es) X.env = (false, eval e X.env) :: starEach es X.env := by rfl) (hpl : (backTo pos (starEach es X.env)).any (·.1) = false := by rfl) : PMk X (.Call (.Name x p) (e :: es) [] pos) (tRaiseX C n fs t) := by
  intro pins s σ H Q I h
  refine pmk_oex T.cls.oex T.ini T.ty F hr hb .nil pass0 hg hm ha hdb he hpl pins s σ H Q I (mo _ _ _ _ (fun vs H1 z => ⟨by rw [z.1]; exact hn, fun a ha => ?_⟩) h)
  refine ⟨a, vs, by rw [List.append_nil], z.1, upd_same, fun dx H' hd nd h1 h2 h3 => ⟨rfl, dx, _, h1, h2, ?_, z.2 dx _ ?_ ?_ upd_same⟩⟩
  · rw [upd_ne nd] at hd
    exact hd
  · rw [upd_ne nd] at hd
    exact hd
  · intro b o eb
    have hd' : H1 dx = none := by
      rw [upd_ne nd] at hd
      exact hd
    have n1 := ne_of_none eb ha
    have n2 := ne_of_none eb hd'
    rw [upd_ne n2, del_ne n1, h3 b n1 n2, upd_ne n1]
    exact eb
end L2
set_option maxRecDepth 100000
namespace L2
open PySem PySem.Spec PyProof.Rows
section
variable {X : Cx} {CX : CXT} {k : Nat} {f C : Addr} {fd : FuncData} {ps ks : List Str} {sp : Sp} {E : XK} {m : Str} {apos pos : Pos} {o : Expr} {kws : List Keyword} {ta : TE} {tk : TA} {g : List Value → List Value → List Value} {gV : List V → List V → List V}
/-- o.m(k = v, ..) -/
def tMethK0 (C : Addr) (m : Str) (n : Nat) (sp : Sp) (gV : List V → List V → List V) (E : XK) (ta : TE) (tk : TA) : TE := fun σ H Q => ta σ H fun x H1 => ∃ a dx fs, x = .ref a ∧ H1 a = some (.ins C dx fs) ∧ fs.lookup m = none ∧ tk σ H1 fun zs H2 => zs.length = n ∧ sp (gV [x] zs) H2 Q E
theorem pe_methK0 {pl : Sem Bool} (he : PE X o ta) (c : Cls X.K C) (hm : Meth X.K C m f) (F : FnOk X.prog X.w X.K X.mg X.base CX k f fd ps sp) (hr : Room k X.A) (hb : KBn X.K fd ps 1 ks g gV) (hx : Passes CX X E) (hkw : PK X kws tk)
    (hall : (backToKw pos (keywordEach kws X.env)).all (·.1.isSome) = true := by rfl) (hks : (backToKw pos (keywordEach kws X.env)).filterMap (·.1) = ks := by rfl)
    (hpl : ((backTo pos (starEach [] X.env)).any (·.1) || (backToKw pos (keywordEach kws X.env)).any (·.1.isNone)) = false := by rfl)
    (ht : eval (.Call (.Attribute o m apos) [] kws pos) X.env = (do
      let ov ← eval o X.env
      standAt apos.atName
      let (f, first) ← holding [ov] (getMethod ov m pl)
      callWith pos f first (backTo pos (starEach [] X.env)) (backToKw pos (keywordEach kws X.env))) := by rfl) :
    PE X (.Call (.Attribute o m apos) [] kws pos) (tMethK0 C m ks.length sp gV E ta tk) := by
  constructor
  intro pins s σ H Q I h
  refine PySem.W.methodCall_KW (pl := pl) (thn (he.run pins s σ H _ I h) ?_) ht
  rintro u s1 ⟨x, H1, J, rx, a, dx, fs, rfl, ea, l, q⟩
  obtain rfl : u = Value.ref a := rx
  refine getmeth_ok J ea c hm l (PySem.W.callWith_KW0 (first := [.ref a]) (h₀ := X.base) J.ok.mod.kin hm.kp hall (thn (hkw.run pos pins s1 σ H1 _ J q) ?_) hpl)
  rintro ws s2 ⟨zs, H2, J2, rz, l2, q2⟩
  rw [hks]
  exact ⟨J2.kIn, run_fnN (n := 1) (us := [.ref a]) (vs := [.ref a]) F hr hb hx J2 (.cons rfl .nil) rz rfl l2 q2⟩
end
end L2
set_option maxRecDepth 100000
namespace L2
open PySem PySem.Spec PyProof.Rows
/-! == and != of instances with the text's own __eq__ -/
section
variable {M : Model} {prog : Program} {w : World} {A : Around} {E : Value → Shared → Prop} {s : Shared} {K : PySem.W.Frag} {x C f : Addr} {ox : Obj} {od : Option Obj}
theorem ifBound_objNe {args : List Value} {Q : Option Value → Shared → Prop} (X : K.In s.heap) (I : PySem.W.InstAt s.heap x ox C od) (hs : PySem.W.findIn K (.ref C) "__ne__" = some (some (.builtin "object.__ne__")))
    (h : wpAny M A (call (.builtin "object.__ne__") (.ref x :: args)) (fun v => Q (some v)) E s) : wpAny M A (callSpecialIfBound? (.ref x) "__ne__" args) Q E s := by
  simp only [callSpecialIfBound?, bindSpecialIfBound?]
  refine wpAny_holding (wpAny_bind (wpAny_bind (wpAny_bind (I.type.here ((PySem.W.looks_findIn X hs).here ?_)))))
  refine wpAny_bind (wpAny_askSetting (wpAny_ite ?_))
  have fin : wpAny M A (call (.builtin "object.__ne__") ([.ref x] ++ args) >>= fun v => pure (some v)) Q E s := wpAny_bind (wpAny_mono h (fun v s' h' => wpAny_pure h') fun _ _ h' => h')
  split
  · exact wpAny_bind (wpAny_of_eq (PySem.F.cmp_object.ne.bind _) (wpAny_pure (by exact fin)))
  · exact wpAny_tryCatch (wpAny_bind (wpAny_of_eq (PySem.F.cmp_object.ne.bind _) (wpAny_pure (by exact fin))))
/-- how a call ends that hands back a bool -/
def BoolOut (Q : Bool → Shared → Prop) (E : Value → Shared → Prop) : Result → Shared → Prop := fun r s' => match r with
  | .ok (.ret v) => ∃ z : Bool, v = .bool z ∧ Q z s'
  | .ok _ => False
  | .error e => E e s'
theorem entry_ne {b : Value} {Q : Fin → Shared → Prop} (hu : A.units < cLine) (X : K.In s.heap) (I : PySem.W.InstAt s.heap x ox C od) (hs : PySem.W.findIn K (.ref C) "__eq__" = some (some (.ref f))) (hf : PySem.W.isFn K (.ref f) = true)
    (h : codeAny M A (.call (.ref f) ⟨[.ref x, b], []⟩) (BoolOut (fun r s' => Q (.done (.ret (.bool (!r)))) s') E) s) : wpAny M A (Builtin.«object.__ne__» ⟨[.ref x, b], []⟩) Q E s := by
  unfold Builtin.«object.__ne__»
  repeat (first | with_reducible refine wpAny_cRoomFor hu ?_ | with_reducible refine PySem.W.ifBound_K X I hs hf ?_ | wp_step)
  refine codeAny_mono h fun r s' hr => ?_
  cases r with
  | error e => exact hr
  | ok fl =>
    cases fl with
    | ret v =>
      obtain ⟨z, rfl, q⟩ := hr
      show wpAny M A (do let r ← truthy (.bool z); ret (.bool (!r))) Q E s'
      repeat (first | with_reducible refine wpAny_truthy_bool ?_ | wp_step)
      exact q
    | next => exact hr.elim
    | brk => exact hr.elim
    | cont => exact hr.elim
theorem call_ne {b : Value} {Q : Value → Shared → Prop} (hu : A.in1.units < cLine) (X : K.In s.heap) (I : PySem.W.InstAt s.heap x ox C od) (hm : PySem.W.mroIn K C (.type "object") = some true) (hs : PySem.W.findIn K (.ref C) "__eq__" = some (some (.ref f))) (hf : PySem.W.isFn K (.ref f) = true)
    (h : codeAny (model prog w) A.in1 (.call (.ref f) ⟨[.ref x, b], []⟩) (BoolOut (fun r s' => Q (.bool (!r)) s') E) s) : wpAny (model prog w) A (call (.builtin "object.__ne__") [.ref x, b]) Q E s :=
  wpAny_call (codeAny_call_builtin PySem.F.cmp_object.ne.plain PySem.F.cmpEntry_ne (PySem.W.check_slot PySem.F.cmpKind_ne PySem.F.cmpSplit_ne (I.type.andThen (PySem.W.looks_mroIn X hm)) (PySem.F.cmpArgs_ne _ _) (entry_ne hu X I hs hf h)))
theorem ne_K {b tb : Value} {Q : Value → Shared → Prop} (hu : A.units + 1 < cLine) (X : K.In s.heap) (I : PySem.W.InstAt s.heap x ox C od) (hb : PySem.W.Looks (model prog w) s.heap (typeOf b) tb) (hn : PySem.W.notFirst K C tb = true)
    (hm : PySem.W.mroIn K C (.type "object") = some true) (hne : PySem.W.findIn K (.ref C) "__ne__" = some (some (.builtin "object.__ne__"))) (hs : PySem.W.findIn K (.ref C) "__eq__" = some (some (.ref f))) (hf : PySem.W.isFn K (.ref f) = true)
    (h : codeAny (model prog w) A.in1 (.call (.ref f) ⟨[.ref x, b], []⟩) (BoolOut (fun r s' => Q (.bool (!r)) s') E) s) : wpAny (model prog w) A (richCompare .NotEq (.ref x) b) Q E s := by
  have one : wpAny (model prog w) A (tryCompare (.ref x) (cmpInfo .NotEq).2.1 b) (fun r s' => ∃ v : Bool, r = some (.bool v) ∧ Q (.bool v) s') E s := by
    unfold tryCompare
    refine wpAny_bind (ifBound_objNe X I hne (call_ne (by show A.units + 1 < cLine; exact hu) X I hm hs hf (codeAny_mono h fun r s' hr => ?_)))
    cases r with
    | error e => exact hr
    | ok fl =>
      cases fl with
      | ret v =>
        obtain ⟨z, rfl, q⟩ := hr
        exact ⟨z, rfl, wpAny_pure ⟨_, rfl, q⟩⟩
      | next => exact hr.elim
      | brk => exact hr.elim
      | cont => exact hr.elim
  unfold richCompare
  simp only [oneThing_ref]
  refine wpAny_holding (wpAny_bind (wpAny_cRoomFor (Nat.lt_of_succ_lt hu) ?_))
  refine wpAny_bind (I.type.here (wpAny_bind (hb.here ?_)))
  split
  · rename_i q
    have e : PySem.W.subIn K tb (.ref C) = some false := by
      rcases Bool.or_eq_true_iff.mp hn with e | e
      · rw [beq_iff_eq.mp e] at q; simp at q
      · exact beq_iff_eq.mp e
    refine wpAny_bind ((PySem.W.looks_subIn X e).here ?_)
    simp only [Bool.false_eq_true, if_false]
    refine wpAny_bind (wpAny_mono one (fun r s' z => ?_) fun _ _ e => e)
    obtain ⟨v, rfl, hq⟩ := z
    exact wpAny_pure hq
  · refine wpAny_bind (wpAny_pure ?_)
    simp only [Bool.false_eq_true, if_false]
    refine wpAny_bind (wpAny_mono one (fun r s' z => ?_) fun _ _ e => e)
    obtain ⟨v, rfl, hq⟩ := z
    exact wpAny_pure hq
end
/-- the class has its own == and object's != -/
structure OwnCmp (K : PySem.W.Frag) (C f : Addr) : Prop where
  eq : PySem.W.findIn K (.ref C) "__eq__" = some (some (.ref f))
  fn : PySem.W.isFn K (.ref f) = true
  ne : PySem.W.findIn K (.ref C) "__ne__" = some (some (.builtin "object.__ne__"))
  ob : PySem.W.mroIn K C (.type "object") = some true
/-- what the second thing may be: an instance of C, a tuple -/
inductive Snd (C : Addr) (H : Hp) : V → Prop where
  | ins {b dx : Addr} {fs : List (Str × V)} (h : H b = some (.ins C dx fs)) : Snd C H (.ref b)
  | tup {b : Addr} {xs : List V} (h : H b = some (.tup xs)) : Snd C H (.ref b)
def rOwn (C : Addr) (sp : Sp) (E : XK) (neg : Bool) : R2 := fun x y H Q => ∃ (a dx : Addr) (fs : List (Str × V)), x = .ref a ∧ H a = some (.ins C dx fs) ∧ Snd C H y ∧ sp [x, y] H (fun v H' => ∃ b : Bool, v = .bl b ∧ Q (.bl (if neg then !b else b)) H') E
section
variable {X : Cx} {CX : CXT} {n : Nat} {C f : Addr} {fd : FuncData} {ps : List Str} {sp : Sp} {E : XK}
theorem snd_looks {pins : List (Addr × Obj)} {σ : St} {H : Hp} {s : Shared} {y : V} {u : Value} (I : Inv X pins σ H s) (r : RelV y u) (h : Snd C H y) : ∃ t, (∀ M : Model, PySem.W.Looks M s.heap (typeOf u) t) ∧ PySem.W.notFirst X.K C t = true := by
  cases h with
  | ins h =>
    cases r
    obtain ⟨mA, J, _⟩ := ins_get I.hok h
    obtain ⟨od, J, _⟩ := J.look
    exact ⟨_, fun M => J.type, by simp [PySem.W.notFirst]⟩
  | @tup b xs h =>
    cases r
    obtain ⟨its, rr, e, z⟩ := I.tuple (SqT.of h)
    obtain ⟨o, e2, ec, _⟩ := e
    refine ⟨.type "tuple", fun M => by rw [← ec]; exact (PySem.W.Looks.ld e2).andThen .now, ?_⟩
    have q : fastBuiltinMro "tuple" = some [.type "tuple", .type "object"] := by decide +kernel
    have q2 : PySem.W.subIn X.K (.type "tuple") (.ref C) = some false := by
      show (fastBuiltinMro "tuple").map (·.contains (.ref C)) = some false
      rw [q]
      first | rfl | simp
    unfold PySem.W.notFirst
    rw [q2]
    simp
theorem own_code {A : Around} {pins : List (Addr × Obj)} {σ : St} {H : Hp} {s : Shared} {a : Addr} {y : V} {u : Value} {Q : VK} (F : FnOk X.prog X.w X.K X.mg X.base CX n f fd ps sp) (hb : Binds X.K fd ps []) (hr : Room n A) (fr : A.frames = X.A.frames) (hx : Passes CX X E) (I : Inv X pins σ H s) (r : RelV y u)
    (h : sp [.ref a, y] H Q E) : codeAny (model X.prog X.w) A (.call (.ref f) ⟨[.ref a, u], []⟩) (fun r s' => match r with
      | .ok (.ret v) => EP X pins σ Q v s'
      | .ok _ => False
      | .error e => X.xe e s') s := by
  have e0 : Env0 X.prog X.w X.K X.mg X.base A X.stack s H := by
    have e := I.env0
    exact ⟨by rw [fr]; exact e.frames, e.mod, e.bs, e.bsz, e.funs, e.frf, e.hok, e.bare⟩
  have hl := F.len _ _ _ _ h
  have r2 : Vals [V.ref a, y] [Value.ref a, u] := .cons rfl (.cons r .nil)
  refine codeAny_mono (F.run A X.stack s H ⟨[.ref a, u], []⟩ [.ref a, u] [.ref a, y] _ E hr e0 (by
    have := hb s [.ref a, u] I.kIn (by simpa using hl)
    simpa using this) r2 h) fun r s' hq => ?_
  cases r with
  | error e => exact hx pins σ H s e s' I hq
  | ok fl =>
    cases fl with
    | ret w => exact I.after hq
    | next => exact False.elim hq
    | brk => exact False.elim hq
    | cont => exact False.elim hq
theorem op_eqOwn (F : FnOk X.prog X.w X.K X.mg X.base CX n f fd ps sp) (k : OwnCmp X.K C f) (hb : Binds X.K fd ps []) (hr : Room n X.A) (hx : Passes CX X E) : OpR X (compareOp .Eq) (rOwn C sp E false) := by
  intro pins s σ H x y v u Q I rx ry hq
  obtain ⟨a, dx, fs, rfl, ha, hy, hsp⟩ := hq
  cases rx
  obtain ⟨mA, J, _⟩ := ins_get I.hok ha
  obtain ⟨od, J, _⟩ := J.look
  obtain ⟨t, ht, hn⟩ := snd_looks I ry hy
  obtain ⟨m, hF⟩ := I.fr
  show wpAny (model X.prog X.w) X.A (richCompare .Eq (.ref a) u) (EP X pins σ Q) X.xe s
  refine PySem.W.cmp_K (op := .Eq) (tb := t) hr.units0 hF I.ok.mod.kin J (ht _) hn k.eq k.fn ?_
  refine wpAny_call (codeAny_mono (own_code F hb hr rfl hx I ry hsp) fun r s' z => ?_)
  cases r with
  | error e => exact z
  | ok fl =>
    cases fl with
    | ret w =>
      obtain ⟨v, H', I', rz, b, rfl, q⟩ := z
      obtain rfl : w = Value.bool b := rz
      exact ⟨.bl b, H', I', rfl, q⟩
    | next => exact z.elim
    | brk => exact z.elim
    | cont => exact z.elim
theorem op_neOwn (F : FnOk X.prog X.w X.K X.mg X.base CX n f fd ps sp) (k : OwnCmp X.K C f) (hb : Binds X.K fd ps []) (hr : Room (n + 1) X.A) (hx : Passes CX X E) : OpR X (compareOp .NotEq) (rOwn C sp E true) := by
  intro pins s σ H x y v u Q I rx ry hq
  obtain ⟨a, dx, fs, rfl, ha, hy, hsp⟩ := hq
  cases rx
  obtain ⟨mA, J, _⟩ := ins_get I.hok ha
  obtain ⟨od, J, _⟩ := J.look
  obtain ⟨t, ht, hn⟩ := snd_looks I ry hy
  show wpAny (model X.prog X.w) X.A (richCompare .NotEq (.ref a) u) (EP X pins σ Q) X.xe s
  have hu := hr.units
  refine ne_K (tb := t) (by omega) I.kIn J (ht _) hn k.ob k.ne k.eq k.fn ?_
  refine codeAny_mono (own_code F hb hr.in1 rfl hx I ry hsp) fun r s' z => ?_
  cases r with
  | error e => exact z
  | ok fl =>
    cases fl with
    | ret w =>
      obtain ⟨v, H', I', rz, b, rfl, q⟩ := z
      obtain rfl : w = Value.bool b := rz
      exact ⟨b, rfl, .bl (!b), H', I', rfl, q⟩
    | next => exact z.elim
    | brk => exact z.elim
    | cont => exact z.elim
end
/-- .. as a Bool -/
def ownB (K : PySem.W.Frag) (C : Addr) : Bool := He.eqO (PySem.W.findIn K (.ref C) "__eq__") (some (some (.ref (He.ma K C "__eq__")))) && (PySem.W.isFn K (.ref (He.ma K C "__eq__")) && (He.eqO (PySem.W.findIn K (.ref C) "__ne__") (some (some (.builtin "object.__ne__"))) && decide (PySem.W.mroIn K C (.type "object") = some true)))
theorem own_of {K : PySem.W.Frag} {C : Addr} (h : ownB K C = true) : OwnCmp K C (He.ma K C "__eq__") := by
  obtain ⟨h1, h⟩ := He.ba h
  obtain ⟨h2, h⟩ := He.ba h
  obtain ⟨h3, h4⟩ := He.ba h
  exact ⟨He.eqO_ok h1, h2, He.eqO_ok h3, of_decide_eq_true h4⟩
end L2
set_option maxRecDepth 100000
set_option maxHeartbeats 1000000
/-! list(zip(a, b)): zip's next while its pair is held, the list's loop. -/
namespace Lz
open PySem
section
variable {prog : Program} {w : World} {A : Around} {E : Value → Shared → Prop} {s : Shared} {z TI TO i1 i2 : Addr} {fp1 fp2 : List Addr} {n1 n2 i : Nat} {P1 P2 : Nat → Value → Prop} {St1 St2 : Nat → Heap → Prop} {a1 a2 : Value}

theorem held_item {T : Addr} {f : Bool} {oT : Obj} {Q : Value → Shared → Prop} (S : ZipSep2 z TI TO i1 i2 fp1 fp2) (D1 : Draws prog w A i1 fp1 n1 P1 St1) (D2 : Draws prog w A i2 fp2 n2 P2 St2)
    (hz : IsZipHeld s.heap z TI TO T f) (hT : s.heap.get? T = some oT) (hTI : IsTupOf2 s.heap TI (.ref i1) (.ref i2)) (st1 : St1 i s.heap) (st2 : St2 i s.heap) (hlt1 : i < n1) (hlt2 : i < n2)
    (hQ : ∀ x1 x2 h' tk, P1 i x1 → P2 i x2 → IsZipHeld h' z TI TO T true → St1 (i + 1) h' → St2 (i + 1) h' → IsTupOf2 h' s.heap.objs.size x1 x2 → h'.objs.size = s.heap.objs.size + 1 →
      (∀ c o, c ≠ z → c ≠ TO → c ≠ i1 → c ≠ i2 → s.heap.get? c = some o → h'.get? c = some o) → (∀ o, s.heap.get? TO = some o → h'.get? TO = some o) → Q (.ref s.heap.objs.size) { s with heap := h', toks := tk }) :
    wpAny (model prog w) A (Builtin.«zip.__next__» ⟨[.ref z], []⟩) (fun fin s' => ∃ v, fin = .done (.ret v) ∧ Q v s') E s := by
  obtain ⟨hp, g, d, tk0, os⟩ := s
  show wpAny _ _ (field (.ref z) 2 >>= _) _ _ _
  refine wpAny_bind (wpAny_field hz rfl (x := .bool false) rfl ?_)
  show wpAny _ _ (field (.ref z) 3 >>= _) _ _ _
  refine wpAny_bind (wpAny_field hz rfl (x := .ref TI) rfl ?_)
  refine wpAny_bind (wpAny_seqItems hTI rfl ?_)
  show wpAny _ _ (Builtin.SmallTypes.ownedTupleIsFree (.ref z) >>= _) _ _ _
  refine wpAny_bind (wpAny_tupleHeld_zip hz hT fun g0 hz0 hs0 => ?_)
  simp only [Bool.false_eq_true, if_false]
  replace hs0 : Heap.SameBut z hp g0 := hs0
  refine wpAny_bind ?_
  rw [← Array.forIn_toList]
  simp only [List.forIn_cons, List.forIn_nil]
  refine wpAny_bind (wpAny_bind (wpAny_holding ?_))
  show wpAny _ _ (Builtin.SmallTypes.nextOf (.ref i1) >>= _) _ _ ⟨g0, g, d, tk0, os⟩
  refine wpAny_bind (D1.item i _ _ _ hlt1 (D1.over st1 hs0 S.zf1) fun x1 p1 tk1 hx1 sn1 hp1 => wpAny_pure ?_)
  replace hp1 : Heap.SameBut i1 g0 p1 := hp1
  refine wpAny_pure ?_
  refine wpAny_bind (wpAny_bind (wpAny_holding ?_))
  show wpAny _ _ (Builtin.SmallTypes.nextOf (.ref i2) >>= _) _ _ ⟨p1, g, d, tk1, os⟩
  refine wpAny_bind (D2.item i _ _ _ hlt2 (D2.over (D2.over st2 hs0 S.zf2) hp1 S.sep1_2) fun x2 p2 tk2 hx2 sn2 hp2 => wpAny_pure ?_)
  replace hp2 : Heap.SameBut i2 p1 p2 := hp2
  refine wpAny_pure (wpAny_pure ?_)
  show wpAny _ _ (newTuple [x1, x2] >>= _) _ _ ⟨p2, g, d, tk2, os⟩
  refine wpAny_bind (wpAny_newTuple ?_)
  have hsz : p2.objs.size = hp.objs.size := by rw [hp2.1, hp1.1, hs0.1]
  have hz2 : IsZipHeld p2 z TI TO T true := hp2.extBut _ _ S.zi2 (hp1.extBut _ _ S.zi1 hz0)
  have hk : ∀ c o, c ≠ z → c ≠ i1 → c ≠ i2 → hp.get? c = some o → p2.get? c = some o := fun c o c1 c2 c3 e => hp2.extBut _ _ c3 (hp1.extBut _ _ c2 (hs0.extBut _ _ c1 e))
  refine wpAny_pure ⟨_, rfl, ?_⟩
  show Q (.ref p2.objs.size) ⟨p2.push { cls := .type "tuple", data := .seq #[x1, x2] }, g, d, tk2, os⟩
  have hT' : IsTupOf2 (p2.push { cls := .type "tuple", data := .seq #[x1, x2] }) p2.objs.size x1 x2 := Heap.get?_push_size _ rfl
  have hz4 : (p2.push { cls := .type "tuple", data := .seq #[x1, x2] }).objs.size = p2.objs.size + 1 := Heap.size_push ..
  have up : ∀ c o, p2.get? c = some o → (p2.push { cls := .type "tuple", data := .seq #[x1, x2] }).get? c = some o := fun c o e => Heap.get?_push_of_some _ e
  generalize p2.push { cls := .type "tuple", data := .seq #[x1, x2] } = q2 at hT' hz4 up ⊢
  rw [hsz] at hT' hz4 ⊢
  exact hQ x1 x2 q2 tk2 hx1 hx2 (up _ _ hz2) (D1.frame _ _ _ (D1.over sn1 hp2 S.sep2_1) fun b _ o e => up b o e) (D2.frame _ _ _ sn2 fun b _ o e => up b o e) hT' hz4
    (fun c o c1 _ c3 c4 e => up c o (hk c o c1 c3 c4 e)) fun o e => up _ o (hk _ o S.TOz S.Ti1 S.Ti2 e)

theorem held_end {T : Addr} {f : Bool} {oT : Obj} {Q : Fin → Shared → Prop} (S : ZipSep2 z TI TO i1 i2 fp1 fp2) (D1 : Draws prog w A i1 fp1 n1 P1 St1) (D2 : Draws prog w A i2 fp2 n2 P2 St2)
    (hz : IsZipHeld s.heap z TI TO T f) (hT : s.heap.get? T = some oT) (hTI : IsTupOf2 s.heap TI (.ref i1) (.ref i2)) (st1 : St1 i s.heap) (st2 : St2 i s.heap) (hle1 : i ≤ n1) (hle2 : i ≤ n2) (hend : i = n1 ∨ i = n2)
    (hE : ∀ h' tk e, (∀ c o, c ≠ z → c ≠ TO → c ≠ i1 → c ≠ i2 → s.heap.get? c = some o → h'.get? c = some o) → (∃ o, h'.get? e = some o ∧ o.cls = .type "StopIteration") → E (.ref e) { s with heap := h', toks := tk }) :
    wpAny (model prog w) A (Builtin.«zip.__next__» ⟨[.ref z], []⟩) Q E s := by
  obtain ⟨hp, g, d, tk0, os⟩ := s
  show wpAny _ _ (field (.ref z) 2 >>= _) _ _ _
  refine wpAny_bind (wpAny_field hz rfl (x := .bool false) rfl ?_)
  show wpAny _ _ (field (.ref z) 3 >>= _) _ _ _
  refine wpAny_bind (wpAny_field hz rfl (x := .ref TI) rfl ?_)
  refine wpAny_bind (wpAny_seqItems hTI rfl ?_)
  show wpAny _ _ (Builtin.SmallTypes.ownedTupleIsFree (.ref z) >>= _) _ _ _
  refine wpAny_bind (wpAny_tupleHeld_zip hz hT fun g0 hz0 hs0 => ?_)
  simp only [Bool.false_eq_true, if_false]
  replace hs0 : Heap.SameBut z hp g0 := hs0
  refine wpAny_bind ?_
  rw [← Array.forIn_toList]
  simp only [List.forIn_cons, List.forIn_nil]
  refine wpAny_bind (wpAny_bind (wpAny_holding ?_))
  show wpAny _ _ (Builtin.SmallTypes.nextOf (.ref i1) >>= _) _ _ ⟨g0, g, d, tk0, os⟩
  by_cases hlt1 : i < n1
  · refine wpAny_bind (D1.item i _ _ _ hlt1 (D1.over st1 hs0 S.zf1) fun x1 p1 tk1 hx1 sn1 hp1 => wpAny_pure ?_)
    replace hp1 : Heap.SameBut i1 g0 p1 := hp1
    have hi2 : i = n2 := by omega
    refine wpAny_pure ?_
    refine wpAny_bind (wpAny_bind (wpAny_holding ?_))
    show wpAny _ _ (Builtin.SmallTypes.nextOf (.ref i2) >>= _) _ _ ⟨p1, g, d, tk1, os⟩
    refine wpAny_bind (D2.done ⟨p1, g, d, tk1, os⟩ _ _ (by rw [← hi2]; exact (D2.over (D2.over st2 hs0 S.zf2) hp1 S.sep1_2)) fun q e hq he => ?_)
    replace hq : Heap.ExtBut i2 p1 q := hq
    exact hE q tk1 e (fun c o cz _ c1 c2 x => hq _ _ c2 (hp1.extBut _ _ c1 (hs0.extBut _ _ cz x))) he
  · have hi1 : i = n1 := by omega
    refine wpAny_bind (D1.done ⟨g0, g, d, tk0, os⟩ _ _ (by rw [← hi1]; exact (D1.over st1 hs0 S.zf1)) fun q e hq he => ?_)
    replace hq : Heap.ExtBut i1 g0 q := hq
    exact hE q tk0 e (fun c o cz _ c1 _ x => hq _ _ c1 (hs0.extBut _ _ cz x)) he

/-- a zip on its way, its pair out or not -/
def ZlSt (z TI TO i1 i2 S : Addr) (St1 St2 : Nat → Heap → Prop) (i : Nat) (h : Heap) : Prop :=
  IsTupOf2 h TI (.ref i1) (.ref i2) ∧ (∃ a1 a2, IsTupOf2 h TO a1 a2) ∧ St1 i h ∧ St2 i h ∧
    (IsZip h z TI TO .none ∨ ∃ T f oT, IsZipHeld h z TI TO T f ∧ h.get? T = some oT ∧ T ≠ z ∧ T ≠ TO ∧ T ≠ i1 ∧ T ≠ i2 ∧ T ≠ S)
theorem zl_item {LS : Addr} {Q : Option Value → Shared → Prop} (S : ZipSep2 z TI TO i1 i2 fp1 fp2) (D1 : Draws prog w A.in1 i1 fp1 n1 P1 St1) (D2 : Draws prog w A.in1 i2 fp2 n2 P2 St2)
    (st : ZlSt z TI TO i1 i2 LS St1 St2 i s.heap) (hLS : LS < s.heap.objs.size) (hlt1 : i < n1) (hlt2 : i < n2)
    (hQ : ∀ x1 x2 h' tk, P1 i x1 → P2 i x2 → ZlSt z TI TO i1 i2 LS St1 St2 (i + 1) h' → IsTupOf2 h' s.heap.objs.size x1 x2 → h'.objs.size = s.heap.objs.size + 1 →
      (∀ c o, c ≠ z → c ≠ TO → c ≠ i1 → c ≠ i2 → s.heap.get? c = some o → h'.get? c = some o) → Q (some (.ref s.heap.objs.size)) { s with heap := h', toks := tk }) :
    wpAny (model prog w) A (pyNext (.ref z)) Q E s := by
  obtain ⟨hTI, ⟨a1, a2, hTO⟩, st1, st2, hz⟩ := st
  have ne1 : ∃ o, s.heap.get? i1 = some o := D1.live _ _ st1
  have ne2 : ∃ o, s.heap.get? i2 = some o := D2.live _ _ st2
  have gt : ∀ {c : Addr} {o : Obj}, s.heap.get? c = some o → s.heap.objs.size ≠ c := fun e => Nat.ne_of_gt (Heap.lt_size e)
  rcases hz with hz | ⟨T, f, oT, hz, hT, t1, t2, t3, t4, t5⟩
  · refine wpAny_pyNext_zipD2_item S D1 D2 hz hTI hTO st1 st2 hlt1 hlt2 fun x1 x2 h' tk y1 y2 b1 b2 d1 d2 b5 b6 hk => ?_
    obtain ⟨o1, e1⟩ := ne1
    obtain ⟨o2, e2⟩ := ne2
    exact hQ x1 x2 h' tk y1 y2 ⟨hk _ _ S.TIz S.TITO S.TIi1 S.TIi2 hTI, ⟨_, _, b2⟩, d1, d2, .inr ⟨s.heap.objs.size, false, _, b1, b5, gt hz, gt hTO, gt e1, gt e2, Nat.ne_of_gt hLS⟩⟩ b5 b6 hk
  · have hTy : s.TypeIs (.ref z) "zip" := ⟨_, hz, rfl⟩
    unfold pyNext
    refine wpAny_bind (wpAny_attempt (wpAny_callSpecial?_slot (name := Str.ofString "__next__") hTy F.slot_zip_next
      (wpAny_call_entry F.slot_zip_next hTy F.entry_zip_next (held_item S D1 D2 hz hT hTI st1 st2 hlt1 hlt2 fun x1 x2 h' tk y1 y2 b1 d1 d2 b5 b6 hk hO => wpAny_pure ?_) (F.args_zip_next_1 _))))
    exact hQ x1 x2 h' tk y1 y2 ⟨hk _ _ S.TIz S.TITO S.TIi1 S.TIi2 hTI, ⟨_, _, hO _ hTO⟩, d1, d2, .inr ⟨T, true, oT, b1, hk T oT t1 t2 t3 t4 hT, t1, t2, t3, t4, t5⟩⟩ b5 b6 hk
theorem zl_done {LS : Addr} {Q : Option Value → Shared → Prop} (S : ZipSep2 z TI TO i1 i2 fp1 fp2) (D1 : Draws prog w A.in1 i1 fp1 n1 P1 St1) (D2 : Draws prog w A.in1 i2 fp2 n2 P2 St2)
    (st : ZlSt z TI TO i1 i2 LS St1 St2 i s.heap) (hle1 : i ≤ n1) (hle2 : i ≤ n2) (hend : i = n1 ∨ i = n2)
    (hQ : ∀ h' tk, (∀ c o, c ≠ z → c ≠ TO → c ≠ i1 → c ≠ i2 → s.heap.get? c = some o → h'.get? c = some o) → Q none { s with heap := h', toks := tk }) : wpAny (model prog w) A (pyNext (.ref z)) Q E s := by
  obtain ⟨hTI, ⟨a1, a2, hTO⟩, st1, st2, hz⟩ := st
  rcases hz with hz | ⟨T, f, oT, hz, hT, t1, t2, t3, t4, t5⟩
  · exact wpAny_pyNext_zipD2_end S D1 D2 hz hTI hTO st1 st2 hle1 hle2 hend hQ
  · have hTy : s.TypeIs (.ref z) "zip" := ⟨_, hz, rfl⟩
    unfold pyNext
    refine wpAny_bind (wpAny_attempt (wpAny_callSpecial?_slot (name := Str.ofString "__next__") hTy F.slot_zip_next
      (wpAny_call_entry F.slot_zip_next hTy F.entry_zip_next (held_end S D1 D2 hz hT hTI st1 st2 hle1 hle2 hend fun h' tk e hk he => ?_) (F.args_zip_next_1 _))))
    obtain ⟨o, ho, hc⟩ := he
    refine wpAny_bind (wpAny_isInstance (T := "StopIteration") (b := true) ⟨o, ho, hc⟩ isSubtype_stop ?_)
    exact wpAny_pure (hQ _ _ hk)

/-- the pairs made so far, at rising addresses -/
structure ZlG (P1 P2 : Nat → Value → Prop) (lo : Addr) (h : Heap) (as : List Addr) : Prop where
  rise : as.Pairwise (· < ·)
  above : ∀ a ∈ as, lo < a
  pairs : ∀ (j : Nat) (a : Addr), as[j]? = some a → ∃ x1 x2, P1 j x1 ∧ P2 j x2 ∧ IsTupOf2 h a x1 x2
theorem ZlG.there {lo : Addr} {h : Heap} {as : List Addr} (g : ZlG P1 P2 lo h as) {a : Addr} (ha : a ∈ as) : a < h.objs.size := by
  obtain ⟨j, hj⟩ := List.mem_iff_getElem?.mp ha
  obtain ⟨_, _, _, _, e⟩ := g.pairs j a hj
  exact Heap.lt_size e
end
section
variable {prog : Program} {w : World} {A : Around} {s : Shared} {R : Result → Shared → Prop} {z TI TO i1 i2 : Addr} {fp1 fp2 : List Addr} {n1 n2 : Nat} {P1 P2 : Nat → Value → Prop} {St1 St2 : Nat → Heap → Prop}
theorem ZlSt.keep {h h' : Heap} {LS : Addr} {i : Nat} (D1 : Draws prog w A i1 fp1 n1 P1 St1) (D2 : Draws prog w A i2 fp2 n2 P2 St2) (st : ZlSt z TI TO i1 i2 LS St1 St2 i h) (k : ∀ b o, b ≠ LS → h.get? b = some o → h'.get? b = some o)
    (e1 : z ≠ LS) (e2 : TI ≠ LS) (e3 : TO ≠ LS) (f1 : LS ∉ fp1) (f2 : LS ∉ fp2) : ZlSt z TI TO i1 i2 LS St1 St2 i h' := by
  obtain ⟨hTI, ⟨a1, a2, hTO⟩, st1, st2, hz⟩ := st
  refine ⟨k _ _ e2 hTI, ⟨a1, a2, k _ _ e3 hTO⟩, D1.frame _ _ _ st1 fun b hb o e => k b o (fun q => f1 (q ▸ hb)) e, D2.frame _ _ _ st2 fun b hb o e => k b o (fun q => f2 (q ▸ hb)) e, ?_⟩
  rcases hz with hz | ⟨T, f, oT, hz, hT, t1, t2, t3, t4, t5⟩
  · exact .inl (k _ _ e1 hz)
  · exact .inr ⟨T, f, oT, k _ _ e1 hz, k _ _ t5 hT, t1, t2, t3, t4, t5⟩
theorem zl_loop {LS : Addr} (S : ZipSep2 z TI TO i1 i2 fp1 fp2) (D1 : Draws prog w A.in1.in1 i1 fp1 n1 P1 St1) (D2 : Draws prog w A.in1.in1 i2 fp2 n2 P2 St2) (b1 : z < LS) (b2 : TI < LS) (b3 : TO < LS) (b4 : i1 < LS) (b5 : i2 < LS) (f1 : LS ∉ fp1) (f2 : LS ∉ fp2) (hn : min n1 n2 ≤ sizeLine) (res : Value) {h₁ : Heap}
    (hR : ∀ h' tk acc c as, (∀ b o, b ≠ LS → b ≠ z → b ≠ TO → b ≠ i1 → b ≠ i2 → h₁.get? b = some o → h'.get? b = some o) → h'.get? LS = some { cls := .type "list", dict := none, data := .seq acc c, slots := #[] } → as.length = min n1 n2 → ZlG P1 P2 LS h' as →
      acc.toList = as.map Value.ref → R (.ok (.ret res)) { s with heap := h', toks := tk }) :
    ∀ (k i : Nat) (h : Heap) (tk c : Nat) (acc : Array Value) (as : List Addr), min n1 n2 - i = k → i ≤ min n1 n2 → ZlSt z TI TO i1 i2 LS St1 St2 i h → (∀ b o, b ≠ LS → b ≠ z → b ≠ TO → b ≠ i1 → b ≠ i2 → h₁.get? b = some o → h.get? b = some o) →
      h.get? LS = some { cls := .type "list", dict := none, data := .seq acc c, slots := #[] } → acc.toList = as.map Value.ref → as.length = i → ZlG P1 P2 LS h as →
      codeAny (model prog w) A (.builtin "list.extend.loop" ⟨[.ref LS, .ref z, res], []⟩) R { s with heap := h, toks := tk } := by
  intro k
  induction k with
  | zero =>
    intro i h tk c acc as hk hi hst hkeep hS hacc hal hG
    have hin : i = min n1 n2 := by omega
    refine codeAny_builtin PySem.F.entry_extend_loop ?_
    rw [Around.under_plainId PySem.F.plain_extend_loop _]
    show wpAny _ A.in1 (pyNext (.ref z) >>= _) _ _ _
    refine wpAny_bind (zl_done (s := { s with heap := h, toks := tk }) (A := A.in1) S D1 D2 hst (by omega) (by omega) (by omega) fun h' tk' he => ?_)
    refine wpAny_pure (hR h' tk' acc c as (fun b o q1 q2 q3 q4 q5 e => he b o q2 q3 q4 q5 (hkeep b o q1 q2 q3 q4 q5 e)) (he LS _ (Nat.ne_of_gt b1) (Nat.ne_of_gt b3) (Nat.ne_of_gt b4) (Nat.ne_of_gt b5) hS) (by omega) ⟨hG.rise, hG.above, fun j a hj => ?_⟩ hacc)
    obtain ⟨x1, x2, e1, e2, e3⟩ := hG.pairs j a hj
    have hb := hG.above a (List.mem_of_getElem? hj)
    exact ⟨x1, x2, e1, e2, he a _ (Nat.ne_of_gt (Nat.lt_trans b1 hb)) (Nat.ne_of_gt (Nat.lt_trans b3 hb)) (Nat.ne_of_gt (Nat.lt_trans b4 hb)) (Nat.ne_of_gt (Nat.lt_trans b5 hb)) e3⟩
  | succ k ih =>
    intro i h tk c acc as hk hi hst hkeep hS hacc hal hG
    have hsz : acc.size = i := by rw [← Array.length_toList, hacc, List.length_map, hal]
    have hSl : LS < h.objs.size := Heap.lt_size hS
    refine codeAny_builtin PySem.F.entry_extend_loop ?_
    rw [Around.under_plainId PySem.F.plain_extend_loop _]
    show wpAny _ A.in1 (pyNext (.ref z) >>= _) _ _ _
    refine wpAny_bind (zl_item (s := { s with heap := h, toks := tk }) (A := A.in1) S D1 D2 hst hSl (by omega) (by omega) fun x1 x2 h' tk' y1 y2 hst' ht hz hkp => ?_)
    dsimp only at ht hz hkp ⊢
    have hS' := hkp LS _ (Nat.ne_of_gt b1) (Nat.ne_of_gt b3) (Nat.ne_of_gt b4) (Nat.ne_of_gt b5) hS
    have up : ∀ b o, b ≠ LS → h'.get? b = some o → (h'.update LS (Obj.mapSeq (·.push (Value.ref h.objs.size)))).get? b = some o := fun b o hb e => (Heap.get?_update_other _ _ (Ne.symm hb)).trans e
    show wpAny _ A.in1 (updateSeq LS (·.push (Value.ref h.objs.size)) >>= _) _ _ _
    refine wpAny_bind ?_
    refine wpAny_updateSeq hS' rfl (wpAny_pure ⟨plainId_quiet PySem.F.plain_extend_loop _, ih (i + 1) _ tk' _ (acc.push (Value.ref h.objs.size)) (as ++ [h.objs.size]) (by omega) (by omega)
      (hst'.keep D1 D2 up (Nat.ne_of_lt b1) (Nat.ne_of_lt b2) (Nat.ne_of_lt b3) f1 f2)
      (fun b o q1 q2 q3 q4 q5 e => up b o q1 (hkp b o q2 q3 q4 q5 (hkeep b o q1 q2 q3 q4 q5 e))) (Heap.get?_update_self _ hS' rfl) (by rw [Array.toList_push, hacc, List.map_append]; rfl) (by rw [List.length_append, hal]; rfl) ⟨?_, ?_, ?_⟩⟩) (by rw [hsz]; omega) (by show (acc.push (Value.ref h.objs.size)).size ≤ sizeLine + 1; rw [Array.size_push, hsz]; omega)
    · refine List.pairwise_append.mpr ⟨hG.rise, List.pairwise_singleton _ _, fun a ha b hb => ?_⟩
      rw [List.mem_singleton.mp hb]
      exact hG.there ha
    · intro a ha
      rcases List.mem_append.mp ha with ha | ha
      · exact hG.above a ha
      · rw [List.mem_singleton.mp ha]; exact hSl
    · intro j b hj
      rcases Nat.lt_trichotomy j as.length with q1 | q1 | q1
      · rw [List.getElem?_append_left q1] at hj
        obtain ⟨x1', x2', e1, e2, e3⟩ := hG.pairs j b hj
        have hb := hG.above b (List.mem_of_getElem? hj)
        exact ⟨x1', x2', e1, e2, up b _ (Nat.ne_of_gt hb) (hkp b _ (Nat.ne_of_gt (Nat.lt_trans b1 hb)) (Nat.ne_of_gt (Nat.lt_trans b3 hb)) (Nat.ne_of_gt (Nat.lt_trans b4 hb)) (Nat.ne_of_gt (Nat.lt_trans b5 hb)) e3)⟩
      · subst q1
        have hb : h.objs.size = b := by simpa using hj
        subst hb
        exact ⟨x1, x2, by rw [hal]; exact y1, by rw [hal]; exact y2, up _ _ (Nat.ne_of_gt hSl) ht⟩
      · have hnone : (as ++ [h.objs.size])[j]? = none := List.getElem?_eq_none (by rw [List.length_append, List.length_singleton]; omega)
        rw [hnone] at hj; cases hj
end
theorem zl_no_len : typeLookup (.type "zip") "__len__" = pure none := am_miss_of_fast (by decide +kernel)
theorem zl_no_hint : typeLookup (.type "zip") "__length_hint__" = pure none := am_miss_of_fast (by decide +kernel)
section
variable {prog : Program} {w : World} {A : Around} {E : Value → Shared → Prop} {s : Shared} {z TI TO i1 i2 : Addr} {fp1 fp2 : List Addr} {n1 n2 : Nat} {P1 P2 : Nat → Value → Prop} {St1 St2 : Nat → Heap → Prop}
theorem zl_hint {r : Addr} (hT : s.TypeIs (.ref r) "zip") {Q : Bool → Shared → Prop} (h : Q true s) : wpAny (model prog w) A (Builtin.List.listLengthHint (.ref r)) Q E s := by
  unfold Builtin.List.listLengthHint
  show wpAny _ A (specialOf (Value.ref r) (Str.ofString "__len__") >>= _) _ _ _
  refine wpAny_bind (wpAny_specialOf hT zl_no_len ?_)
  show wpAny _ A (specialOf (Value.ref r) (Str.ofString "__length_hint__") >>= _) _ _ _
  refine wpAny_bind (wpAny_specialOf hT zl_no_hint ?_)
  exact wpAny_pure h
theorem zl_extend {R : Result → Shared → Prop} {LS : Addr} (S : ZipSep2 z TI TO i1 i2 fp1 fp2) (D1 : Draws prog w A.in1.in1 i1 fp1 n1 P1 St1) (D2 : Draws prog w A.in1.in1 i2 fp2 n2 P2 St2) (b1 : z < LS) (b2 : TI < LS) (b3 : TO < LS) (b4 : i1 < LS) (b5 : i2 < LS) (f1 : LS ∉ fp1) (f2 : LS ∉ fp2) (hn : min n1 n2 ≤ sizeLine)
    (hz : IsZip s.heap z TI TO .none) (hst : ZlSt z TI TO i1 i2 LS St1 St2 0 s.heap) (res : Value) (c₀ : Nat) (hS : s.heap.get? LS = some { cls := .type "list", data := .seq #[] c₀ })
    (hR : ∀ h' tk acc c as, (∀ b o, b ≠ LS → b ≠ z → b ≠ TO → b ≠ i1 → b ≠ i2 → s.heap.get? b = some o → h'.get? b = some o) → h'.get? LS = some { cls := .type "list", dict := none, data := .seq acc c, slots := #[] } → as.length = min n1 n2 → ZlG P1 P2 LS h' as →
      acc.toList = as.map Value.ref → R (.ok (.ret res)) { s with heap := h', toks := tk }) :
    wpAny (model prog w) A.in1 (Builtin.List.listExtendWith (.ref LS) (.ref z) res)
      (fun fin s' => match fin with | .done f => R (.ok f) s' | .again c' => c'.quiet = true ∧ codeAny (model prog w) A c' R s') (fun e s' => R (.error e) s') s := by
  have hTy : s.TypeIs (.ref z) "zip" := ⟨_, hz, rfl⟩
  unfold Builtin.List.listExtendWith
  refine wpAny_bind (wpAny_typeOf (T := "zip") hTy ?_)
  have h1 : Builtin.List.listSameRef (.ref LS) (.ref z) = false := by simp [Builtin.List.listSameRef, Nat.ne_of_gt b1]
  have h2 : (Value.type "zip" == Value.type "list") = false := by decide
  have h3 : (Value.type "zip" == Value.type "tuple") = false := by decide
  simp only [h1, h2, h3, Bool.or_false, Bool.false_eq_true, if_false]
  refine wpAny_bind (wpAny_pyIter_zip hz ?_)
  refine wpAny_bind (wpAny_holding (zl_hint hTy ?_))
  refine wpAny_ite_split (fun _ => ?_) (fun hab => absurd rfl hab)
  refine wpAny_bind (wpAny_rule ?_)
  refine wpAny_bind ?_
  show wpAny _ _ (updateSeq LS (·.push .none) >>= fun _ => updateSeq LS (·.pop)) _ _ _
  refine wpAny_bind (wpAny_updateSeq hS rfl ?_)
  have hS₂ := Heap.get?_update_self (Obj.mapSeq (·.push Value.none)) hS rfl
  refine wpAny_updateSeq (hz := by seq_fits) hS₂ rfl ?_
  have hS₃ := Heap.get?_update_self (Obj.mapSeq (·.pop)) hS₂ rfl
  have oth : ∀ b o, b ≠ LS → s.heap.get? b = some o → ((s.heap.update LS (Obj.mapSeq (·.push Value.none))).update LS (Obj.mapSeq (·.pop))).get? b = some o := fun b o hb e => (Heap.get?_update_other _ _ (Ne.symm hb)).trans ((Heap.get?_update_other _ _ (Ne.symm hb)).trans e)
  refine wpAny_pure ⟨plainId_quiet PySem.F.plain_extend_loop _, ?_⟩
  exact zl_loop (s := s) (h₁ := s.heap) S D1 D2 b1 b2 b3 b4 b5 f1 f2 hn res hR (min n1 n2) 0 _ s.toks _ #[] [] (Nat.sub_zero _) (Nat.zero_le _)
    (hst.keep D1 D2 oth (Nat.ne_of_lt b1) (Nat.ne_of_lt b2) (Nat.ne_of_lt b3) f1 f2) (fun b o q1 _ _ _ _ e => oth b o q1 e) hS₃ rfl rfl ⟨List.Pairwise.nil, (fun _ ha => nomatch ha), (fun j a hj => by simp at hj)⟩
theorem zl_call {Q : Value → Shared → Prop} (S : ZipSep2 z TI TO i1 i2 fp1 fp2) (D1 : ∀ A' : Around, A'.handled = none → Draws prog w A' i1 fp1 n1 P1 St1) (D2 : ∀ A' : Around, A'.handled = none → Draws prog w A' i2 fp2 n2 P2 St2) (hh : A.handled = none) (hn : min n1 n2 ≤ sizeLine)
    (g1 : ∀ b ∈ fp1, b < s.heap.objs.size) (g2 : ∀ b ∈ fp2, b < s.heap.objs.size) (hz : IsZip s.heap z TI TO .none) (hTI : IsTupOf2 s.heap TI (.ref i1) (.ref i2)) (hTO : ∃ a1 a2, IsTupOf2 s.heap TO a1 a2) (st1 : St1 0 s.heap) (st2 : St2 0 s.heap)
    (hQ : ∀ h' tk acc c as, (∀ b o, b ≠ z → b ≠ TO → b ≠ i1 → b ≠ i2 → s.heap.get? b = some o → h'.get? b = some o) → h'.get? s.heap.objs.size = some { cls := .type "list", dict := none, data := .seq acc c, slots := #[] } → as.length = min n1 n2 → ZlG P1 P2 s.heap.objs.size h' as →
      acc.toList = as.map Value.ref → Q (.ref s.heap.objs.size) { s with heap := h', toks := tk }) :
    wpAny (model prog w) A (call (.type "list") [.ref z]) Q E s := by
  refine callType_codes (Q₁ := fun obj s₁ => obj = .ref s.heap.objs.size ∧ s₁ = { s with heap := s.heap.push { cls := .type "list", data := .seq #[] } }) PySem.F.called_list (PySem.F.typeCall_list_1 _) PySem.F.entry_list_init
    (code_list_new _ ⟨rfl, rfl⟩) fun obj s₁ h₁ => ?_
  obtain ⟨rfl, rfl⟩ := h₁
  obtain ⟨a1, a2, hTO⟩ := hTO
  have hS : (s.heap.push { cls := .type "list", data := .seq #[] }).get? s.heap.objs.size = some { cls := .type "list", data := .seq #[] } := Heap.get?_push_size _ rfl
  have lz : z < s.heap.objs.size := Heap.lt_size hz
  have lI : TI < s.heap.objs.size := Heap.lt_size hTI
  have lO : TO < s.heap.objs.size := Heap.lt_size hTO
  have l1 : i1 < s.heap.objs.size := g1 _ S.mem1
  have l2 : i2 < s.heap.objs.size := g2 _ S.mem2
  refine ⟨⟨_, hS, rfl⟩, PySem.F.args_list_init_2 _ _, ?_⟩
  have oth₁ : ∀ b o, s.heap.get? b = some o → (s.heap.push { cls := .type "list", data := .seq #[] }).get? b = some o := fun b o e => Heap.get?_push_of_some _ e
  show wpAny _ _ (do let old ← Builtin.List.listItems (.ref s.heap.objs.size); Builtin.List.listUpdate (.ref s.heap.objs.size) (fun _ => #[]); letGo old.toList.reverse; Builtin.List.listExtendWith (.ref s.heap.objs.size) (.ref z) .none) _ _ _
  refine wpAny_bind ?_
  unfold Builtin.List.listItems
  refine wpAny_bind (wpAny_seqItems hS rfl (wpAny_pure ?_))
  show wpAny _ _ (updateSeq s.heap.objs.size (fun _ => #[]) >>= fun _ => letGo (#[] : Array Value).toList.reverse >>= fun _ => Builtin.List.listExtendWith (.ref s.heap.objs.size) (.ref z) .none) _ _ _
  refine wpAny_bind (wpAny_updateSeq hS rfl ?_)
  have hS₂ := Heap.get?_update_self (Obj.mapSeq (fun _ => (#[] : Array Value))) hS rfl
  have oth : ∀ b o, b ≠ s.heap.objs.size → s.heap.get? b = some o → ((s.heap.push { cls := .type "list", data := .seq #[] }).update s.heap.objs.size (Obj.mapSeq (fun _ => (#[] : Array Value)))).get? b = some o :=
    fun b o hb e => (Heap.get?_update_other _ _ (Ne.symm hb)).trans (oth₁ b o e)
  refine wpAny_bind (wpAny_letGo ?_)
  have f1 : s.heap.objs.size ∉ fp1 := fun q => Nat.lt_irrefl _ (g1 _ q)
  have f2 : s.heap.objs.size ∉ fp2 := fun q => Nat.lt_irrefl _ (g2 _ q)
  have d1 := D1 A.in1.in1.in1 hh
  have d2 := D2 A.in1.in1.in1 hh
  have st : ZlSt z TI TO i1 i2 s.heap.objs.size St1 St2 0 s.heap := ⟨hTI, ⟨a1, a2, hTO⟩, st1, st2, .inl hz⟩
  refine zl_extend (A := A.in1) S d1 d2 lz lI lO l1 l2 f1 f2 hn (oth _ _ (Nat.ne_of_lt lz) hz) (st.keep d1 d2 oth (Nat.ne_of_lt lz) (Nat.ne_of_lt lI) (Nat.ne_of_lt lO) f1 f2) .none _ hS₂ fun h' tk acc c as hk hS' hl hG hacc => ?_
  exact ⟨rfl, hQ h' tk acc c as (fun b o q1 q2 q3 q4 e => hk b o (Nat.ne_of_lt (Heap.lt_size e)) q1 q2 q3 q4 (oth b o (Nat.ne_of_lt (Heap.lt_size e)) e)) hS' hl hG hacc⟩
end
end Lz
set_option maxRecDepth 100000
set_option maxHeartbeats 2000000
namespace L2
open PySem PySem.Spec PyProof.Rows
/-! lists and tuples alike: zip, enumerate of both, list(zip(..)) -/
/-- a tuple (true) or a list (false) -/
def SqB (K : PySem.W.Frag) (t : Bool) (H : Hp) (a : Addr) (xs : List V) : Prop := match t with | true => SqT K H a xs | false => SqL K H a xs
def seqAtB (t : Bool) (h : Heap) (a : Addr) (its : Array Value) : Prop := match t with | true => h.IsTuple a its | false => h.IsList a its
def itB (t : Bool) (h : Heap) (it a : Addr) (i : Nat) : Prop := match t with | true => h.IsTupleIter it a i | false => h.IsListIter it a i
def oB (t : Bool) (a : Addr) : Obj := match t with | true => { cls := .type "tuple_iterator", data := .fields #[.ref a, .int 0 0] } | false => { cls := .type "list_iterator", data := .fields #[.ref a, .int 0 0] }
theorem SqB.tup {K : PySem.W.Frag} {H : Hp} {a : Addr} {xs : List V} (h : H a = some (.tup xs)) : SqB K true H a xs := SqT.of h
theorem SqB.lst {K : PySem.W.Frag} {H : Hp} {a : Addr} {xs : List V} (h : H a = some (.lst xs)) : SqB K false H a xs := SqL.of h
theorem drawsB {prog : Program} {w : World} {A : Around} (t : Bool) (hh : A.handled = none) (it a : Addr) (hne : a ≠ it) (its : Array Value) :
    Draws prog w A it [it, a] its.size (fun i v => its[i]? = some v) (fun i h => itB t h it a i ∧ seqAtB t h a its) := by
  cases t
  · exact Draws.list hh it a hne its
  · exact Draws.tuple hh it a hne its
theorem beginsB (t : Bool) (a : Addr) (its : Array Value) : Begins (.ref a) (oB t a) (fun h => seqAtB t h a its) := by
  cases t
  · exact begins_list a its
  · exact begins_tuple a its
theorem itB_new {t : Bool} {h : Heap} {it a : Addr} (e : h.get? it = some (oB t a)) : itB t h it a 0 := by
  cases t
  · exact ⟨_, e, rfl, rfl⟩
  · exact ⟨_, e, rfl, rfl⟩
theorem itB.live {t : Bool} {h : Heap} {it a : Addr} {i : Nat} (x : itB t h it a i) : ∃ o, h.get? it = some o ∧ ∀ v, o.data ≠ .cell v := by
  cases t
  · obtain ⟨o, e, _, d⟩ := x
    exact ⟨o, e, fun v q => by rw [d] at q; cases q⟩
  · obtain ⟨o, e, _, d⟩ := x
    exact ⟨o, e, fun v q => by rw [d] at q; cases q⟩
theorem itB.at {t : Bool} {h h' : Heap} {it a : Addr} {i : Nat} (x : itB t h it a i) (k : ∀ o, h.get? it = some o → h'.get? it = some o) : itB t h' it a i := by
  cases t
  · exact Heap.IsListIter.at x k
  · exact Heap.IsTupleIter.at x k
section
variable {X : Cx} {pins : List (Addr × Obj)} {σ : St} {H : Hp} {s : Shared}
theorem Inv.sqB {t : Bool} {a : Addr} {xs : List V} (I : Inv X pins σ H s) (h : SqB X.K t H a xs) : ∃ its : List Value, Vals xs its ∧ seqAtB t s.heap a its.toArray ∧ xs.length ≤ sizeLine ∧ a < s.heap.objs.size := by
  cases t
  · obtain ⟨its, rv, p, z⟩ := I.list h
    exact ⟨its, rv, p.isList, z, p.lt⟩
  · obtain ⟨its, rv, p, z⟩ := I.tuple h
    exact ⟨its, rv, p, z, by obtain ⟨o, e, _⟩ := id p; exact Heap.lt_size e⟩
theorem Inv.sqB_inj {t : Bool} {a : Addr} {xs ys : List V} (I : Inv X pins σ H s) (h : SqB X.K t H a xs) (h' : SqB X.K t H a ys) : xs = ys := by
  cases t
  · exact I.list_inj h h'
  · exact I.tuple_inj h h'
end
/-- a and b as they stand at each turn, the items in new pairs -/
def ItzB (K : PySem.W.Frag) (t u : Bool) (a b : Addr) : It :=
  ⟨fun i H => ∃ (xs ys : List V) (x y : V), SqB K t H a xs ∧ SqB K u H b ys ∧ xs[i]? = some x ∧ ys[i]? = some y,
    fun i H v H' => ∃ T x y, v = .ref T ∧ H T = none ∧ H' = upd H T (.tup [x, y]) ∧ (∀ xs, SqB K t H a xs → xs[i]? = some x) ∧ ∀ ys, SqB K u H b ys → ys[i]? = some y,
    fun i H => ∃ xs ys : List V, SqB K t H a xs ∧ SqB K u H b ys ∧ (xs.length = i ∨ ys.length = i) ∧ i ≤ xs.length ∧ i ≤ ys.length⟩
theorem turn_zipB {P : Program} {w : World} {K : PySem.W.Frag} {elts : List Expr} {kk : Nat} {tpos : Pos} {t u : Bool} {a b z TI TO i1 i2 : Addr} (D : ZipSep2 z TI TO i1 i2 [i1, a] [i2, b]) (d1 : a ≠ i1) (d2 : b ≠ i2) :
    Turn P w K (.Tuple elts kk tpos) (ItzB K t u a b) [z, TI, TO, i1, i2] z (fun i h => IsZip h z TI TO .none ∧ IsTupOf2 h TI (.ref i1) (.ref i2) ∧ (∃ x y, IsTupOf2 h TO x y) ∧ itB t h i1 a i ∧ itB u h i2 b i) where
  mem := by simp
  obj := fun i h st c hc => by
    obtain ⟨hz, hTI, ⟨x, y, hTO⟩, l1, l2⟩ := st
    have e' : c = z ∨ c = TI ∨ c = TO ∨ c = i1 ∨ c = i2 := by simpa using hc
    rcases e' with q | q | q | q | q
    · rw [q]; exact ⟨_, hz, fun v q => nomatch q⟩
    · rw [q]; exact ⟨_, hTI, fun v q => nomatch q⟩
    · rw [q]; exact ⟨_, hTO, fun v q => nomatch q⟩
    · rw [q]; exact l1.live
    · rw [q]; exact l2.live
  keep := fun i h h' st k => by
    obtain ⟨hz, hTI, ⟨x, y, hTO⟩, h1, h2⟩ := st
    exact ⟨k z (by simp) _ hz, k TI (by simp) _ hTI, ⟨x, y, k TO (by simp) _ hTO⟩, h1.at fun o q => k i1 (by simp) o q, h2.at fun o q => k i2 (by simp) o q⟩
  item := by
    intro X hP hw hK hc i pins s σ H E I hf st hg
    subst hP hw hK
    obtain ⟨hz, hTI, ⟨x0, y0, hTO⟩, h1, h2⟩ := st
    obtain ⟨xs, ys, x, y, hqx, hqy, hx, hy⟩ := hg
    obtain ⟨its, rv, p, _⟩ := I.sqB hqx
    obtain ⟨its2, rv2, p2, _⟩ := I.sqB hqy
    obtain ⟨v1, hu, ru⟩ := rv.get hx
    obtain ⟨v2, hu2, ru2⟩ := rv2.get hy
    have hzl : z < s.heap.objs.size := Heap.lt_size hz
    have k1 : i < its.toArray.size := by have := (List.getElem?_eq_some_iff.mp hu).1; simpa using this
    have k2 : i < its2.toArray.size := by have := (List.getElem?_eq_some_iff.mp hu2).1; simpa using this
    refine wpAny_pyNext_zipD2_item D (drawsB (prog := X.prog) (w := X.w) (A := X.A.in1) t (I.ok.hd hc) i1 a d1 its.toArray) (drawsB (prog := X.prog) (w := X.w) (A := X.A.in1) u (I.ok.hd hc) i2 b d2 its2.toArray) hz hTI hTO ⟨h1, p⟩ ⟨h2, p2⟩ k1 k2 fun x1 x2 h' tk y1 y2 z' TO' g1 g2 hT hsz hk => ?_
    have ex1 : x1 = v1 := by simpa [hu, eq_comm] using y1
    have ex2 : x2 = v2 := by simpa [hu2, eq_comm] using y2
    subst ex1 ex2
    refine ⟨_, rfl, wpAny_letOwnedTupleGo_zip (s := { s with heap := h', toks := tk }) z' fun h'' z'' sb => ?_⟩
    have hT2 : h''.get? s.heap.objs.size = some { cls := .type "tuple", data := .seq #[x1, x2] } := (sb.2 _ (Nat.ne_of_gt hzl)).trans hT
    have new : ObjOk X.prog X.w (upd H s.heap.objs.size (.tup [x, y])) h'' s.heap.objs.size (.tup [x, y]) :=
      ⟨by show 2 ≤ sizeLine; decide, [x1, x2], .cons ru (.cons ru2 .nil), ⟨_, hT2, rfl, _, rfl⟩⟩
    have I1 : Inv X pins σ (upd H s.heap.objs.size (.tup [x, y])) { s with heap := h'', toks := tk } :=
      I.turnedNew (t' := tk) (ch := [z, TI, TO, i1, i2]) (fun c o hb q => (sb.2 c (fun q' => hb (by simp [q']))).trans (hk c o (fun q' => hb (by simp [q'])) (fun q' => hb (by simp [q'])) (fun q' => hb (by simp [q'])) (fun q' => hb (by simp [q'])) q)) hf (Nat.le_refl _) new
    have n1 : i1 ≠ z := Ne.symm D.zi1
    have n2 : i2 ≠ z := Ne.symm D.zi2
    refine ⟨.ref s.heap.objs.size, _, I1, rfl, ⟨_, x, y, rfl, I.hok.fresh (Nat.le_refl _), rfl, fun l hl => by rw [I.sqB_inj hl hqx]; exact hx, fun l hl => by rw [I.sqB_inj hl hqy]; exact hy⟩, ⟨z'', ?_, ⟨x1, x2, ?_⟩, ?_, ?_⟩, fun c hcm => ?_⟩
    · exact (sb.2 _ D.TIz).trans (hk _ _ D.TIz D.TITO D.TIi1 D.TIi2 hTI)
    · exact (sb.2 _ D.TOz).trans TO'
    · exact g1.1.at fun o q => (sb.2 _ n1).trans q
    · exact g2.1.at fun o q => (sb.2 _ n2).trans q
    · have hlt : c < s.heap.objs.size := by
        have e' : c = z ∨ c = TI ∨ c = TO ∨ c = i1 ∨ c = i2 := by simpa using hcm
        rcases e' with q | q | q | q | q
        · rw [q]; exact hzl
        · rw [q]; exact Heap.lt_size hTI
        · rw [q]; exact Heap.lt_size hTO
        · rw [q]; obtain ⟨_, e1, _⟩ := h1.live; exact Heap.lt_size e1
        · rw [q]; obtain ⟨_, e2, _⟩ := h2.live; exact Heap.lt_size e2
      rw [upd_ne (Nat.ne_of_lt hlt)]
      exact (hf c hcm).1
  done := by
    intro X hP hw hK hc i pins s σ H E I hf st hg
    subst hP hw hK
    obtain ⟨hz, hTI, ⟨x0, y0, hTO⟩, h1, h2⟩ := st
    obtain ⟨xs, ys, hqx, hqy, hend, k1, k2⟩ := hg
    obtain ⟨its, rv, p, _⟩ := I.sqB hqx
    obtain ⟨its2, rv2, p2, _⟩ := I.sqB hqy
    have l1 := rv.length
    have l2 := rv2.length
    have s1 : its.toArray.size = its.length := by simp
    have s2 : its2.toArray.size = its2.length := by simp
    exact wpAny_pyNext_zipD2_end D (drawsB (prog := X.prog) (w := X.w) (A := X.A.in1) t (I.ok.hd hc) i1 a d1 its.toArray) (drawsB (prog := X.prog) (w := X.w) (A := X.A.in1) u (I.ok.hd hc) i2 b d2 its2.toArray) hz hTI hTO ⟨h1, p⟩ ⟨h2, p2⟩ (by omega) (by omega) (by omega) fun h' tk hk => ⟨rfl, I.turnedL (t' := tk) (ch := [z, TI, TO, i1, i2]) (fun c o hb q =>
      hk c o (fun q' => hb (by simp [q'])) (fun q' => hb (by simp [q'])) (fun q' => hb (by simp [q'])) (fun q' => hb (by simp [q'])) q) hf⟩
  self := fun A i s Q E st h => wpAny_pyIter_zip st.1 h
def iZipB (K : PySem.W.Frag) (ta : TA) : TI := fun σ H R => ta σ H fun vs H1 => ∃ (t u : Bool) (a b : Addr) (xs ys : List V), vs = [.ref a, .ref b] ∧ SqB K t H1 a xs ∧ SqB K u H1 b ys ∧ R (ItzB K t u a b) H1
theorem pi_zipB {X : Cx} {e e2 : Expr} {ta : TA} {p pos tpos : Pos} {elts : List Expr} {kk : Nat} (hg : Gl X "zip") (hm : X.mg "zip" = none) (ha : PA X [e, e2] ta)
    (hs : starEach [e, e2] X.env = (false, eval e X.env) :: starEach [e2] X.env := by rfl) (hpl : (backTo pos (starEach [e2] X.env)).any (·.1) = false := by rfl) :
    PI X (.Tuple elts kk tpos) (.Call (.Name "zip" p) [e, e2] [] pos) (iZipB X.K ta) := by
  refine ⟨fun pins s σ H R I h => ?_⟩
  refine Call_ (ld_blt I hg hm PyProof.Rows.boot_zip (PyProof.Rows.callWith_type1 (thn (ha.run pos pins s σ H _ I h) fun us s1 ⟨vs, H1, I1, r1, q1⟩ => ?_) hs hpl))
  obtain ⟨t, u, a, b, xs, ys, ex, hqx, hqy, q⟩ := q1
  subst ex
  cases r1 with
  | cons r rr =>
    cases rr with
    | cons r' rr =>
      cases rr
      cases r
      cases r'
      obtain ⟨its, rv, p1, _, la⟩ := I1.sqB hqx
      obtain ⟨its2, rv2, p2, _, lb⟩ := I1.sqB hqy
      refine zip_begins2 (beginsB t a its.toArray) (beginsB u b its2.toArray) p1 p2 fun h' hz hTI hTO g1 g2 hsz hk => wpAny_pyIter_zip hz ?_
      have I2 : Inv X pins σ H1 { s1 with heap := h' } := I1.kept (t' := s1.toks) hk
      have sep := zip_sep2 (N := s1.heap.objs.size) (fp1 := [a]) (fp2 := [b]) (fun b' hb => by rw [List.mem_singleton.mp hb]; exact la) (fun b' hb => by rw [List.mem_singleton.mp hb]; exact lb)
      refine ⟨s1.heap.objs.size + 4, [s1.heap.objs.size + 4, s1.heap.objs.size + 2, s1.heap.objs.size + 3, s1.heap.objs.size, s1.heap.objs.size + 1], _, _, H1, rfl, I2, turn_zipB (t := t) (u := u) sep (Nat.ne_of_lt la) (Nat.ne_of_lt (Nat.lt_succ_of_lt lb)), ⟨hz, hTI, ⟨_, _, hTO⟩, itB_new g1, itB_new g2⟩, fun c hcm => ?_, q⟩
      have e' : c = s1.heap.objs.size + 4 ∨ c = s1.heap.objs.size + 2 ∨ c = s1.heap.objs.size + 3 ∨ c = s1.heap.objs.size ∨ c = s1.heap.objs.size + 1 := by simpa using hcm
      have hle : s1.heap.objs.size ≤ c := by
        rcases e' with z | z | z | z | z
        · rw [z]; exact Nat.le_add_right _ _
        · rw [z]; exact Nat.le_add_right _ _
        · rw [z]; exact Nat.le_add_right _ _
        · rw [z]; exact Nat.le_refl _
        · rw [z]; exact Nat.le_add_right _ _
      exact I1.fpOk hle (I1.hok.fresh hle)
theorem walk_zipB {K : PySem.W.Frag} {t u : Bool} {a b : Addr} {xs ys : List V} {n : Nat} (hn : n = min xs.length ys.length) : Walk (ItzB K t u a b) n (fun H => SqB K t H a xs ∧ SqB K u H b ys) (YPair (fun i => xs[i]?) (fun i => ys[i]?)) := by
  subst hn
  refine ⟨fun i _ hi q => ?_, fun _ q => ⟨xs, ys, q.1, q.2, by omega, by omega, by omega⟩, fun i H v H' _ q y => ?_⟩
  · have h1 : i < xs.length := by omega
    have h2 : i < ys.length := by omega
    exact ⟨xs, ys, xs[i], ys[i], q.1, q.2, by simp [h1], by simp [h2]⟩
  · obtain ⟨T, x, z, h1, h2, h3, h4, h5⟩ := y
    exact ⟨T, x, z, h1, h2, h3, h4 xs q.1, h5 ys q.2⟩

/-! ### enumerate of both -/
theorem meets_enumB {v : Value} {o : Obj} {H : Heap → Prop} (B : Begins v o H) :
    Meets (Builtin.«enumerate.__new__» ⟨[.type "enumerate", v], []⟩) (fun _ R s => H s.heap ∧
      R (.ok (.ret (.ref (s.heap.push o).objs.size))) { s with heap := (s.heap.push o).push { cls := .type "enumerate", data := .fields #[.none, .bool false, .ref s.heap.objs.size, rawInt 0, .none, .none] } }) :=
  .of_wp fun prog w A R s h => by
    obtain ⟨hp, g, d, tk, os⟩ := s; obtain ⟨h1, h⟩ := h
    have hsub := sub_enumerate
    have q1 : ∀ {A' : Around} {E : Value → Shared → Prop} {Q : Value → Shared → Prop}, Q (.ref hp.objs.size) ⟨hp.push o, g, d, tk, os⟩ → wpAny (model prog w) A' (pyIter v) Q E ⟨hp, g, d, tk, os⟩ :=
      fun q => B.iter prog w _ _ ⟨hp, g, d, tk, os⟩ _ h1 q
    wp_walk using q1
    refine wpAny_stack_any fun st => wpAny_pure ?_
    split
    · rename_i c _ _ _ _ _
      cases (c == Value.type "enumerate")
      · wp_walk using q1
        exact ⟨_, rfl, h⟩
      · wp_walk using q1
        exact ⟨_, rfl, h⟩
    · wp_walk using q1
      exact ⟨_, rfl, h⟩
theorem enum_beginsB {prog : Program} {w : World} {A : Around} {E : Value → Shared → Prop} {s : Shared} {v : Value} {o : Obj} {H : Heap → Prop} {Q : Value → Shared → Prop} (B : Begins v o H) (h1 : H s.heap)
    (h : ∀ h', IsEnum h' (s.heap.objs.size + 1) s.heap.objs.size 0 .none → h'.get? s.heap.objs.size = some o → h'.objs.size = s.heap.objs.size + 2 →
      (∀ b o, s.heap.get? b = some o → h'.get? b = some o) → Q (.ref (s.heap.objs.size + 1)) { s with heap := h' }) :
    wpAny (model prog w) A (call (.type "enumerate") [v]) Q E s := by
  refine callType_new F.called_enumerate (by decide) (F.typeCall_enumerate_1 _) (F.newCall_enumerate_1 _) (fun obj => F.args_object_init_2 obj _) F.entry_enumerate_new
    (meets_enumB B) ⟨h1, ?_⟩
  have hz : (s.heap.push o).objs.size = s.heap.objs.size + 1 := Heap.size_push ..
  show _ ∧ _
  rw [hz]
  have he : IsEnum ((s.heap.push o).push { cls := .type "enumerate", data := .fields #[.none, .bool false, .ref s.heap.objs.size, rawInt 0, .none, .none] }) (s.heap.objs.size + 1) s.heap.objs.size 0 .none := by
    have := Heap.get?_push_size (s.heap.push o) (o := { cls := .type "enumerate", data := .fields #[.none, .bool false, .ref s.heap.objs.size, rawInt 0, .none, .none] }) rfl
    rw [hz] at this; exact this
  exact ⟨⟨_, he, rfl⟩, h _ he (Heap.get?_push_of_some _ (Heap.get?_push_size _ B.free)) (by rw [Heap.size_push, hz]) fun b o x => Heap.get?_push_of_some _ (Heap.get?_push_of_some _ x)⟩
def IteB (K : PySem.W.Frag) (t : Bool) (a : Addr) : It :=
  ⟨fun i H => ∃ (xs : List V) (x : V), SqB K t H a xs ∧ xs[i]? = some x, fun i H v H' => ∃ T x, v = .ref T ∧ H T = none ∧ H' = upd H T (.tup [.int (i : Nat), x]) ∧ ∀ xs, SqB K t H a xs → xs[i]? = some x, fun i H => ∃ xs : List V, SqB K t H a xs ∧ xs.length = i⟩
theorem turn_enumB {P : Program} {w : World} {K : PySem.W.Frag} {elts : List Expr} {kk : Nat} {tpos : Pos} {t : Bool} (a e it : Addr) (d1 : a ≠ it) (d2 : e ≠ a) :
    Turn P w K (.Tuple elts kk tpos) (IteB K t a) [e, it] e (fun i h => (∃ old, IsEnum h e it ((i : Nat) : Int) old) ∧ itB t h it a i ∧ e ≠ it) where
  mem := by simp
  obj := fun i h st b hb => by
    obtain ⟨⟨old, he⟩, hi, _⟩ := st
    have e' : b = e ∨ b = it := by simpa using hb
    rcases e' with z | z
    · rw [z]; exact ⟨_, he, fun v q => nomatch q⟩
    · rw [z]; exact hi.live
  keep := fun i h h' st k => let ⟨⟨old, he⟩, hi, hne⟩ := st; ⟨⟨old, k e (by simp) _ he⟩, hi.at fun o q => k it (by simp) o q, hne⟩
  item := by
    intro X hP hw hK hc i pins s σ H E I hf st hg
    subst hP hw hK
    obtain ⟨⟨old, he⟩, hit, hne⟩ := st
    obtain ⟨xs, x, hq, hx⟩ := hg
    obtain ⟨its, rv, p, hz, la⟩ := I.sqB hq
    obtain ⟨v1, hu, ru⟩ := rv.get hx
    have hel : e < s.heap.objs.size := Heap.lt_size he
    have hil : it < s.heap.objs.size := by obtain ⟨_, q, _⟩ := hit.live; exact Heap.lt_size q
    have k1 : i < its.toArray.size := by have := (List.getElem?_eq_some_iff.mp hu).1; simpa using this
    refine wpAny_pyNext_enum_itemC (drawsB (prog := X.prog) (w := X.w) (A := X.A.in1) t (I.ok.hd hc) it a d1 its.toArray) he ⟨hit, p⟩ k1 hne (by simp; exact ⟨hne, d2⟩) fun x1 h' tk y1 ho hit' hT hsz hk => ?_
    have ex1 : x1 = v1 := by simpa [hu, eq_comm] using y1
    subst ex1
    refine ⟨_, rfl, wpAny_letOwnedTupleGo_enum (s := { s with heap := h', toks := tk + 1 }) ho fun h'' he' sb => ?_⟩
    have hT2 : h''.get? s.heap.objs.size = some { cls := .type "tuple", data := .seq #[.int i tk, x1] } := (sb.2 _ (Nat.ne_of_gt hel)).trans hT
    have new : ObjOk X.prog X.w (upd H s.heap.objs.size (.tup [.int (i : Nat), x])) h'' s.heap.objs.size (.tup [.int (i : Nat), x]) :=
      ⟨by show 2 ≤ sizeLine; decide, [.int i tk, x1], .cons ⟨_, rfl⟩ (.cons ru .nil), ⟨_, hT2, rfl, _, rfl⟩⟩
    have I1 : Inv X pins σ (upd H s.heap.objs.size (.tup [.int (i : Nat), x])) { s with heap := h'', toks := tk + 1 } :=
      I.turnedNew (ch := [e, it]) (fun b ob hb q => (sb.2 b (fun z => hb (by simp [z]))).trans (hk b ob (fun z => hb (by simp [z])) (fun z => hb (by simp [z])) q)) hf (Nat.le_refl _) new
    refine ⟨.ref s.heap.objs.size, _, I1, rfl, ⟨_, x, rfl, I.hok.fresh (Nat.le_refl _), rfl, fun ys hy => by rw [I.sqB_inj hy hq]; exact hx⟩, ⟨⟨x1, ?_⟩, hit'.1.at fun o q => (sb.2 it (Ne.symm hne)).trans q, hne⟩, fun b hb => ?_⟩
    · have e1 : ((i + 1 : Nat) : Int) = (i : Int) + 1 := by omega
      rw [e1]; exact he'
    · have hb' : b < s.heap.objs.size := by
        have e' : b = e ∨ b = it := by simpa using hb
        rcases e' with z | z
        · rw [z]; exact hel
        · rw [z]; exact hil
      rw [upd_ne (Nat.ne_of_lt hb')]
      exact (hf b hb).1
  done := by
    intro X hP hw hK hc i pins s σ H E I hf st hg
    subst hP hw hK
    obtain ⟨⟨old, he⟩, hit, hne⟩ := st
    obtain ⟨xs, hq, hx⟩ := hg
    obtain ⟨its, rv, p, hz, la⟩ := I.sqB hq
    have hl := rv.length
    have e0 : i = its.toArray.size := by simp; omega
    subst e0
    exact wpAny_pyNext_enum_endD (drawsB (prog := X.prog) (w := X.w) (A := X.A.in1) t (I.ok.hd hc) it a d1 its.toArray) he ⟨hit, p⟩ fun h' hx => ⟨rfl, I.turnedL (t' := s.toks) (ch := [e, it]) (fun b o hb q => hx b o (fun z => hb (by simp [z])) q) hf⟩
  self := fun A i s Q E st h => let ⟨⟨_, he⟩, _⟩ := st; wpAny_pyIter_enum he h
def iEnumB (K : PySem.W.Frag) (ta : TA) : TI := fun σ H R => ta σ H fun vs H1 => ∃ (t : Bool) (a : Addr) (xs : List V), vs = [.ref a] ∧ SqB K t H1 a xs ∧ R (IteB K t a) H1
theorem pi_enumB {X : Cx} {e : Expr} {ta : TA} {p pos tpos : Pos} {elts : List Expr} {kk : Nat} (hg : Gl X "enumerate") (hm : X.mg "enumerate" = none) (ha : PA X [e] ta) (hs : starEach [e] X.env = [(false, eval e X.env)] := by rfl) :
    PI X (.Tuple elts kk tpos) (.Call (.Name "enumerate" p) [e] [] pos) (iEnumB X.K ta) := by
  refine ⟨fun pins s σ H R I h => ?_⟩
  refine Call_ (ld_blt I hg hm boot_enumerate (PyProof.Rows.callWith_type1 (thn (ha.run pos pins s σ H _ I h) fun us s1 ⟨vs, H1, I1, r1, q1⟩ => ?_) hs rfl))
  obtain ⟨t, a, xs, ex, hq, q⟩ := q1
  subst ex
  cases r1 with
  | cons r rr =>
    cases rr
    cases r
    obtain ⟨its, rv, p', hz, la⟩ := I1.sqB hq
    refine enum_beginsB (beginsB t a its.toArray) p' fun h' he hit hsz hk => wpAny_pyIter_enum he ?_
    have I2 : Inv X pins σ H1 { s1 with heap := h' } := I1.kept (t' := s1.toks) hk
    refine ⟨s1.heap.objs.size + 1, [s1.heap.objs.size + 1, s1.heap.objs.size], _, _, H1, rfl, I2, turn_enumB (t := t) a (s1.heap.objs.size + 1) s1.heap.objs.size (Nat.ne_of_lt la) (Nat.ne_of_gt (Nat.lt_succ_of_lt la)), ⟨⟨.none, he⟩, itB_new hit, Nat.succ_ne_self _⟩, fun b hb => ?_, q⟩
    have e' : b = s1.heap.objs.size + 1 ∨ b = s1.heap.objs.size := by simpa using hb
    have hle : s1.heap.objs.size ≤ b := by
      rcases e' with z | z
      · rw [z]; exact Nat.le_add_right _ _
      · rw [z]; exact Nat.le_refl _
    exact I1.fpOk hle (I1.hok.fresh hle)
theorem walk_enumB {K : PySem.W.Frag} {t : Bool} {a : Addr} {xs : List V} : Walk (IteB K t a) xs.length (fun H => SqB K t H a xs) (YPair (fun i => some (.int (i : Nat))) (fun i => xs[i]?)) := by
  refine ⟨fun i _ hi q => ⟨xs, xs[i], q, by simp [hi]⟩, fun _ q => ⟨xs, q, rfl⟩, fun i H v H' _ q y => ?_⟩
  obtain ⟨T, x, h1, h2, h3, h4⟩ := y
  exact ⟨T, .int (i : Nat), x, h1, h2, h3, rfl, h4 xs q⟩

/-! ### list(zip(a, b)) -/
/-- the pairs tracked at their addresses -/
def putP : Hp → List Addr → List (V × V) → Hp
  | H, a :: as, p :: ps => putP (upd H a (.tup [p.1, p.2])) as ps
  | H, _, _ => H
theorem putP_off {b : Addr} : ∀ (as : List Addr) (ps : List (V × V)) (H : Hp), b ∉ as → putP H as ps b = H b
  | [], _, _, _ => rfl
  | _ :: _, [], _, _ => rfl
  | a :: as, p :: ps, H, h => by
    show putP (upd H a (.tup [p.1, p.2])) as ps b = H b
    rw [putP_off as ps _ (fun z => h (List.mem_cons_of_mem _ z)), upd_ne (fun z => h (by rw [z]; exact List.mem_cons_self))]
theorem putP_at : ∀ (as : List Addr) (ps : List (V × V)) (H : Hp), as.length = ps.length → as.Nodup → Paired (fun (t : Addr) (p : V × V) => putP H as ps t = some (.tup [p.1, p.2])) as ps
  | [], [], _, _, _ => .nil
  | [], _ :: _, _, h, _ => by cases h
  | _ :: _, [], _, h, _ => by cases h
  | a :: as, p :: ps, H, h, hn => by
    have hn' := List.nodup_cons.mp hn
    have ih := putP_at as ps (upd H a (.tup [p.1, p.2])) (Nat.succ.inj h) hn'.2
    refine .cons ?_ ih
    show putP (upd H a (.tup [p.1, p.2])) as ps a = some (.tup [p.1, p.2])
    rw [putP_off as ps _ hn'.1, upd_same]
theorem pairs_laid {X : Cx} {pins : List (Addr × Obj)} {σ : L2.St} {H : Hp} {s : Shared} {h' : Heap} {tk : Nat} {ps : List (V × V)} {acc : Array Value} {c : Nat} {as : List Addr} {q : Addr} (I : Inv X pins σ H s) (hz : ps.length ≤ sizeLine)
    (hk : ∀ b o, s.heap.get? b = some o → h'.get? b = some o) (hq : s.heap.objs.size ≤ q) (hS : h'.get? q = some { cls := .type "list", dict := none, data := .seq acc c, slots := #[] }) (hl : as.length = ps.length) (rise : as.Pairwise (· < ·)) (above : ∀ a ∈ as, q < a)
    (prs : ∀ (j : Nat) (a : Addr), as[j]? = some a → ∃ (p : V × V) (x1 x2 : Value), ps[j]? = some p ∧ RelV p.1 x1 ∧ RelV p.2 x2 ∧ h'.get? a = some { cls := .type "tuple", data := .seq #[x1, x2] }) (hacc : acc.toList = as.map Value.ref) :
    ∃ H' : Hp, (∀ b o, H b = some o → H' b = some o) ∧ H q = none ∧ (∀ t ∈ as, H t = none) ∧ q ∉ as ∧ H' q = some (.lst (as.map V.ref)) ∧ Paired (fun (t : Addr) (p : V × V) => H' t = some (.tup [p.1, p.2])) as ps ∧ Inv X pins σ H' { s with heap := h', toks := tk } := by
  have hSn : q ∉ as := fun z => Nat.lt_irrefl _ (above _ z)
  have nd : as.Nodup := List.Pairwise.imp (fun {a b} (h : a < b) => Nat.ne_of_lt h) rise
  have lo : ∀ t ∈ as, s.heap.objs.size ≤ t := fun t ht => Nat.le_trans hq (Nat.le_of_lt (above t ht))
  have new : ∀ t ∈ as, H t = none := fun t ht => I.hok.fresh (lo t ht)
  have newS : H q = none := I.hok.fresh hq
  have atP := putP_at as ps (upd H q (.lst (as.map V.ref))) hl nd
  have off : ∀ b, b ∉ as → b ≠ q → putP (upd H q (.lst (as.map V.ref))) as ps b = H b := fun b h1 h2 => by rw [putP_off as ps _ h1, upd_ne h2]
  have low : ∀ b o, s.heap.get? b = some o → b ∉ as ∧ b ≠ q := fun b o e => ⟨fun z => absurd (Heap.lt_size e) (Nat.not_lt.mpr (lo b z)), Nat.ne_of_lt (Nat.lt_of_lt_of_le (Heap.lt_size e) hq)⟩
  have kp : ∀ b u, H b = some u → (putP (upd H q (.lst (as.map V.ref))) as ps) b = some u := fun b u e => by
    rw [off b (fun z => by rw [new b z] at e; cases e) (fun z => by rw [z, newS] at e; cases e)]
    exact e
  have eS : putP (upd H q (.lst (as.map V.ref))) as ps q = some (.lst (as.map V.ref)) := by rw [putP_off as ps _ hSn, upd_same]
  refine ⟨putP (upd H q (.lst (as.map V.ref))) as ps, kp, newS, new, hSn, eS, atP, ?_⟩
  refine I.call' (ch := []) rfl ⟨fun b o q _ _ _ => hk b o q, fun b o q _ _ _ => ⟨o.slots, hk b o q⟩, fun b o q n _ => ?_, fun b o q _ => ⟨o, hk b o q⟩, fun b xs q => kp b _ q, fun b o u q => kp b _ q, fun b ps q => ⟨#[], by rw [kp b _ q]; simp⟩⟩ (fun b u g => ?_) I.bare fun b z => by simp at z
  · obtain ⟨z1, z2⟩ := low b o q
    rw [off b z1 z2]
    exact n
  · by_cases hb : b ∈ as
    · obtain ⟨j, pk, e1, e2, e3⟩ := LiI.paired_ix atP hb
      rw [e3] at g
      cases g
      obtain ⟨p, x1, x2, f1, f2, f3, f4⟩ := prs j b e1
      rw [e2] at f1
      cases f1
      exact ⟨by show 2 ≤ sizeLine; decide, [x1, x2], .cons f2 (.cons f3 .nil), ⟨_, f4, rfl, _, rfl⟩⟩
    · by_cases hb2 : b = q
      · rw [hb2] at g ⊢
        rw [eS] at g
        cases g
        refine ⟨by rw [List.length_map]; omega, acc.toList, c, by rw [hacc]; exact LiI.vals_refs as, ?_⟩
        rw [Array.toArray_toList]
        exact hS
      · rw [off b hb hb2] at g
        exact (I.hok b u g).stay (fun d v _ y => hk d v y) (fun d y => kp d _ y) fun d xs y => kp d _ y
def rLz (K : PySem.W.Frag) : List V → Hp → VK → Prop := fun vs H Q => ∃ (t u : Bool) (a b : Addr) (xs ys : List V), vs = [.ref a, .ref b] ∧ SqB K t H a xs ∧ SqB K u H b ys ∧
  ∀ (H' : Hp) (p : Addr) (ts : List Addr), (∀ c o, H c = some o → H' c = some o) → H p = none → (∀ t ∈ ts, H t = none) → p ∉ ts → H' p = some (.lst (ts.map V.ref)) → Paired (fun (t : Addr) (q : V × V) => H' t = some (.tup [q.1, q.2])) ts (xs.zip ys) → Q (.ref p) H'
def tLz (K : PySem.W.Frag) (ta : TA) : TE := fun σ H Q => ta σ H fun vs H1 => rLz K vs H1 Q
theorem pe_listZip {X : Cx} {e e2 : Expr} {ta : TA} {p p2 pos2 pos : Pos} (hc : X.calm = true) (ha : PA X [e, e2] ta) (hg : Gl X "list") (hm : X.mg "list" = none) (hg2 : Gl X "zip") (hm2 : X.mg "zip" = none) (hv : bootBuiltins "list" = some (.type "list") := by rfl)
    (hs2 : starEach [e, e2] X.env = (false, eval e X.env) :: starEach [e2] X.env := by rfl) (hpl2 : (backTo pos2 (starEach [e2] X.env)).any (·.1) = false := by rfl)
    (hs : starEach [.Call (.Name "zip" p2) [e, e2] [] pos2] X.env = (false, eval (.Call (.Name "zip" p2) [e, e2] [] pos2) X.env) :: starEach [] X.env := by rfl) :
    PE X (.Call (.Name "list" p) [.Call (.Name "zip" p2) [e, e2] [] pos2] [] pos) (tLz X.K ta) := by
  refine ⟨fun pins s σ H Q I hq => ?_⟩
  refine wpAny_Call_Name_kw (ld_blt I hg hm hv ?_)
  refine PyProof.Rows.callWith_type1 ?_ hs rfl
  rw [hs]
  show wpAny _ _ (spliced ((false, eval (.Call (.Name "zip" p2) [e, e2] [] pos2) X.env) :: backTo pos (starEach [] X.env))) _ _ s
  refine Calls.spliced_cons ?_
  refine Call_ (ld_blt I hg2 hm2 PyProof.Rows.boot_zip (PyProof.Rows.callWith_type1 (thn (ha.run pos2 pins s σ H _ I hq) fun us s1 ⟨vs, H1, I1, r1, q1⟩ => ?_) hs2 hpl2))
  obtain ⟨t, u, a, b, xs, ys, ex, hqx, hqy, q⟩ := q1
  subst ex
  cases r1 with
  | cons r rr =>
    cases rr with
    | cons r' rr =>
      cases rr
      cases r
      cases r'
      obtain ⟨its, rv, p1, z1, la⟩ := I1.sqB hqx
      obtain ⟨its2, rv2, p2', z2, lb⟩ := I1.sqB hqy
      refine zip_begins2 (beginsB t a its.toArray) (beginsB u b its2.toArray) p1 p2' fun h' hz hTI hTO g1 g2 hsz hk => ?_
      have sep := zip_sep2 (N := s1.heap.objs.size) (fp1 := [a]) (fp2 := [b]) (fun b' hb => by rw [List.mem_singleton.mp hb]; exact la) (fun b' hb => by rw [List.mem_singleton.mp hb]; exact lb)
      have l1 := rv.length
      have l2 := rv2.length
      have s1' : its.toArray.size = its.length := by simp
      have s2' : its2.toArray.size = its2.length := by simp
      refine Calls.spliced_nil ?_
      have N := hsz
      have lt1 : ∀ b' ∈ [s1.heap.objs.size, a], b' < h'.objs.size := fun b' hb => by
        rcases List.mem_cons.mp hb with e | hb
        · rw [e, hsz]; exact Nat.lt_add_of_pos_right (by decide : 0 < 5)
        · rw [List.mem_singleton.mp hb, hsz]; exact Nat.lt_of_lt_of_le la (Nat.le_add_right _ _)
      have lt2 : ∀ b' ∈ [s1.heap.objs.size + 1, b], b' < h'.objs.size := fun b' hb => by
        rcases List.mem_cons.mp hb with e | hb
        · rw [e, hsz]; exact Nat.add_lt_add_left (by decide : 1 < 5) _
        · rw [List.mem_singleton.mp hb, hsz]; exact Nat.lt_of_lt_of_le lb (Nat.le_add_right _ _)
      have k1 : seqAtB t h' a its.toArray := (beginsB t a its.toArray).keeps _ _ p1 hk
      have k2 : seqAtB u h' b its2.toArray := (beginsB u b its2.toArray).keeps _ _ p2' hk
      refine Lz.zl_call (s := { s1 with heap := h' }) (fp1 := [s1.heap.objs.size, a]) (fp2 := [s1.heap.objs.size + 1, b]) sep (fun A' hh => drawsB t hh _ a (Nat.ne_of_lt la) its.toArray) (fun A' hh => drawsB u hh _ b (Nat.ne_of_lt (Nat.lt_succ_of_lt lb)) its2.toArray) (I1.ok.hd hc) (by omega) lt1 lt2 hz hTI ⟨_, _, hTO⟩ ⟨itB_new g1, k1⟩ ⟨itB_new g2, k2⟩ fun h'' tk acc c as hk' hS hl hG hacc => ?_
      have old : ∀ b' o, s1.heap.get? b' = some o → h''.get? b' = some o := fun b' o e => by
        have lt := Heap.lt_size e
        exact hk' b' o (Nat.ne_of_lt (Nat.lt_of_lt_of_le lt (Nat.le_add_right _ _))) (Nat.ne_of_lt (Nat.lt_of_lt_of_le lt (Nat.le_add_right _ _))) (Nat.ne_of_lt lt) (Nat.ne_of_lt (Nat.lt_of_lt_of_le lt (Nat.le_add_right _ _))) (hk b' o e)
      have lz : (xs.zip ys).length = min xs.length ys.length := List.length_zip
      have prs : ∀ (j : Nat) (a' : Addr), as[j]? = some a' → ∃ (p : V × V) (x1 x2 : Value), (xs.zip ys)[j]? = some p ∧ RelV p.1 x1 ∧ RelV p.2 x2 ∧ h''.get? a' = some { cls := .type "tuple", data := .seq #[x1, x2] } := fun j a' hj => by
        obtain ⟨x1, x2, y1, y2, y3⟩ := hG.pairs j a' hj
        have hx : its[j]? = some x1 := by simpa using y1
        have hy : its2[j]? = some x2 := by simpa using y2
        have j1 : j < xs.length := by have := (List.getElem?_eq_some_iff.mp hx).1; omega
        have j2 : j < ys.length := by have := (List.getElem?_eq_some_iff.mp hy).1; omega
        obtain ⟨w1, e1, r1⟩ := rv.get (List.getElem?_eq_getElem j1)
        obtain ⟨w2, e2, r2⟩ := rv2.get (List.getElem?_eq_getElem j2)
        rw [hx] at e1
        rw [hy] at e2
        cases e1
        cases e2
        exact ⟨(xs[j], ys[j]), x1, x2, by rw [List.getElem?_eq_getElem (by omega)]; simp, r1, r2, y3⟩
      obtain ⟨H', f1, f2, f3, f4, f5, f6, J⟩ := pairs_laid (tk := tk) (ps := xs.zip ys) I1 (by omega) old (by show s1.heap.objs.size ≤ h'.objs.size; omega) hS (by rw [hl]; omega) hG.rise hG.above prs hacc
      exact ⟨.ref _, H', J, rfl, q H' _ as f1 f2 f3 f4 f5 f6⟩
end L2
set_option maxRecDepth 100000
namespace L2
open PySem PySem.Spec PyProof.Rows
/-! defs f(a, *r), their calls -/
theorem cxNew {P : Program} {w : World} : CXNew (L2.CX P w) := fun outer s H h2 p rest E e s' kp hle hn h =>
  StX.cxUp outer s H { s with heap := h2 } _ E e s' (Un.laid kp hle hn) kp rfl h
/-- how f(a, *r) binds -/
def BindV (fd : FuncData) (pa pv : Str) (n : Nat) : Prop := ∀ (u : Value) (rest : List Value), rest.length ≤ n → bindArgs fd ⟨u :: rest, []⟩ = (newTuple rest >>= fun t => pure [(pa, u), (pv, t)])
section
variable {P : Program} {w : World} {K : PySem.W.Frag} {mg : Str → Option Value} {base : Heap}
/-- THE RULE for a def with a star parameter -/
theorem Fun.okV {x qual : Str} {st : Stmt} {f : Addr} {fd : FuncData} {N : List Str} {pa pv : Str} {k n : Nat} {sp : Sp} (F : Fun K x qual st f fd) (S : FnScope N [pa, pv] (defScope st)) (hb : BindV fd pa pv n) (hn : n ≤ 5)
    (hbody : ∀ (cdv : Value) (A : Around) (outer : List Env) (s : Shared) (H : Hp) (vs : List V) (Q : VK) (E : XK), Room k (A.deeper (envOfC qual (defScope st) s.heap.objs.size f cdv)) → sp vs H Q E →
      ∃ t, PSs (cxOf (L2.CX P w) P w K mg base N qual (defScope st) f cdv A outer s H E) (defBody st) t ∧ t { nx := fun _ H' => Q .non H', rt := Q } (start N vs) H) :
    FnR P w K mg base (L2.CX P w) (k + 1) f (fun vs H Q E => ∃ v rest, vs = v :: rest ∧ rest.length ≤ n ∧ ∀ p, H p = none → sp [v, .ref p] (upd H p (.tup rest)) Q E) := by
  obtain ⟨oc, od, kV, doc, pm, an, cdv, ct, osl, rfl, lk, hcd⟩ := F.ex
  exact fn_ofV lk hcd S (Nat.le_trans hn (by decide)) hb cxNew fun A outer s H vs Q E hr hsp => hbody cdv A outer s H vs Q E hr hsp
end
section
variable {X : Cx} {CX : CXT} {k : Nat} {C f : Addr} {m : Str} {sp : Sp} {E : XK} {o : Expr} {ta : TE} {apos pos : Pos} {pl : Sem Bool}
/-- o.m() by a positional promise -/
theorem pe_methR0 (he : PE X o ta) (c : Cls X.K C) (hm : Meth X.K C m f) (F : FnR X.prog X.w X.K X.mg X.base CX k f sp) (hr : Room k X.A) (hx : Passes CX X E)
    (ht : eval (.Call (.Attribute o m apos) [] [] pos) X.env = (do
      let ov ← eval o X.env
      standAt apos.atName
      let (f, first) ← holding [ov] (getMethod ov m pl)
      callWith pos f first (backTo pos (starEach [] X.env)) (backToKw pos (keywordEach [] X.env))) := by rfl) :
    PE X (.Call (.Attribute o m apos) [] [] pos) (tMethR C m sp E ta tNil) := by
  refine ⟨fun pins s σ H Q I h => ?_⟩
  refine PySem.W.methodCall_KW (pl := pl) (thn (he.run pins s σ H _ I h) fun u s1 ⟨x, H1, I1, rx, a, dx, fs, ex, ea, l, q⟩ => ?_) ht
  subst ex
  obtain rfl : u = Value.ref a := rx
  refine getmeth_ok I1 ea c hm l ?_
  exact PySem.W.callWith_K0 (first := [.ref a]) I1.kIn hm.kp (wpAny_call (run_fnR (us := [.ref a]) (vs := [.ref a]) F hr hx I1 (.cons rfl .nil) q))
end
end L2
set_option maxRecDepth 100000
namespace Fb
open PySem Builtin PyProof.Rows Float
/-! f"{n:b}" -/
def binT (a : Nat) : Str := ⟨((Nat.toDigits 2 a).map (·.toNat)).toArray⟩
section
variable {prog : Program} {w : World} {A : Around} {E : Value → Shared → Prop} {s : Shared}
set_option maxHeartbeats 2000000 in
theorem formatField_b {a : Nat} {t : Tok} {Q : Value → Shared → Prop} (hlen : (binT a).length ≤ sizeLine) (h : Q (.str (binT a) (s.toks + 1)) { s with toks := s.toks + 1 + 1 }) :
    wpAny (model prog w) A (formatField (.int (a : Int) t) "b") Q E s := by
  obtain ⟨f, hp, hty, hpr, hz, hal, hw, hgr, hsg, hfi, hag⟩ : ∃ f : FormatSpec, parseFormatSpec (Str.ofString "b").cps.toList "int" 62 = .ok f ∧ f.type = some 98 ∧ f.precision = none ∧ f.noNeg0 = false ∧ f.alt = false ∧ f.width = none ∧ f.grouping = none ∧ f.sign = none ∧ f.fill = 32 ∧ f.align = 62 := ⟨_, rfl, rfl, rfl, rfl, rfl, rfl, rfl, rfl, rfl, rfl⟩
  have hne : ((Str.ofString "b").length == 0) = false := by rfl
  have hasc : (((Str.ofString "b").cps.toList.drop 1).any (· ≥ 128) || ((Str.ofString "b").cps.getD 0 0 ≥ 128 && !([60, 62, 61, 94] : List Nat).contains ((Str.ofString "b").cps.getD 1 0))) = false := by decide +kernel
  show wpAny _ _ (holding [.int (a : Int) t] (pyFormat (.int (a : Int) t) "b")) Q E s
  refine wpAny_holding ?_
  unfold pyFormat
  refine wpAny_bind (wpAny_mkStr ?_ (by decide))
  refine wpAny_bind (m := callSpecial? (.int (a : Int) t) (Str.ofString "__format__") [.str "b" s.toks]) (wpAny_callSpecial?_slot (name := Str.ofString "__format__") (typeIs_int _ (a : Int) t) PySem.F.slot_int_format ?_)
  refine wpAny_call (codeAny_call_builtin PySem.F.slot_int_format.plain PySem.F.entry_int_format (PySem.F.slot_int_format.check _ _ _ _ _ _ _ _ (typeIs_int _ (a : Int) t) (PySem.F.args_int_format_2 _ _) ?_))
  unfold Builtin.«int.__format__»
  simp only [selfAndOne, noKeywords, Int.intOfSelf, asInt?, asStr?, List.isEmpty_nil, if_true, pure_bind, bind_pure, bind_assoc, hne, hasc, Bool.false_eq_true, if_false,
    show (Value.str (Str.ofString "b") s.toks == Value.none) = false from rfl]
  refine wpAny_bind (wpAny_typeNameOf (T := "str") (typeIs_str _ _ _) (by decide) fun _ => ?_)
  first | refine wpAny_bind (wpAny_typeNameOfCut_int ?_) | refine wpAny_bind (wpAny_typeNameOf_int ?_)
  simp only [hp, hty, Option.getD_some]
  rw [if_pos (by decide)]
  show wpAny _ _ (if _ then _ else _) _ _ _
  rw [if_neg (by simp [hpr])]
  show wpAny _ _ (if _ then _ else _) _ _ _
  rw [if_neg (by simp [hz])]
  show wpAny _ _ (if _ then _ else _) _ _ _
  rw [if_neg (by decide)]
  show wpAny _ _ (if _ then _ else _) _ _ _
  rw [if_neg (by decide)]
  show wpAny _ _ (if _ then _ else _) _ _ _
  rw [if_neg (by simp [hw])]
  show wpAny _ _ (retStr _) _ _ _
  unfold retStr
  have z0 : decide ((a : Int) < 0) = false := decide_eq_false (by omega)
  have z1 : ((a : Int)).natAbs = a := Int.natAbs_natCast a
  simp only [z0, z1, hal, Bool.false_eq_true, if_false, show ((2 : Nat) == 10) = false from rfl, show ((98 : Nat) == 88) = false from rfl]
  clear hp
  cases f
  dsimp only at hty hpr hz hal hw hgr hsg hfi hag
  subst hty hpr hz hal hw hgr hsg hfi hag
  refine wpAny_bind (wpAny_mkStr (wpAny_pure ?_) ?hs2)
  case hs2 =>
    conv => lhs; arg 1; whnf
    simpa [binT] using hlen
  dsimp only
  refine wpAny_bind (wpAny_isInstance (typeIs_str _ _ _) isSubtype_str_str (wpAny_pure ?_))
  conv => arg 1; arg 1; whnf
  simpa [binT] using h
end
end Fb
namespace L2
open PySem PySem.Spec PyProof.Rows
/-- {n:b} of a number that is not below 0 -/
def tFmtB (te : TE) : TE := fun σ H Q => te σ H fun x H1 => ∃ a : Nat, x = .int (a : Int) ∧ (Fb.binT a).length ≤ sizeLine ∧ Q (.str (Fb.binT a)) H1
theorem pe_fmtB {X : Cx} {e : Expr} {te : TE} {k : Nat} {p p2 pos : Pos} (he : PE X e te) : PE X (.FormattedValue e (-1) (some (.JoinedStr [.Constant (.str "b") k p] p2)) pos) (tFmtB te) := by
  refine ⟨fun pins s σ H Q I h => ?_⟩
  refine wpAny_FormattedValue_spec (thn (he.run pins s σ H _ I h) fun v s1 hv => ?_)
  obtain ⟨x, H1, I1, r1, a, rfl, hz, q⟩ := hv
  obtain ⟨t, rfl⟩ := r1
  have hb : PE X (.JoinedStr [.Constant (.str "b") k p] p2) (tC (.str "b")) := pe_fs1 pe_str
  refine thn (hb.run pins s1 σ H1 (fun y H2 => y = .str "b" ∧ H2 = H1) I1 ⟨rfl, rfl⟩) fun w s2 hw => ?_
  obtain ⟨y, H2, I2, r2, ey, eH⟩ := hw
  subst ey eH
  obtain ⟨t2, rfl⟩ := r2
  exact ⟨_, t2, rfl, Fb.formatField_b hz ⟨.str (Fb.binT a), _, I2.tok _, ⟨_, rfl⟩, q⟩⟩
end L2
set_option maxRecDepth 100000
namespace L2
open PySem PySem.Spec PyProof.Rows
/-! z[lo:hi:k] of a text -/
def cutX (z : Str) (lo hi : Option Int) (k : Int) : Str := ⟨((Builtin.Str.strSliceIndices lo hi k z.length).filterMap (z.cps[·]?)).toArray⟩
theorem cutX_len (z : Str) (lo hi : Option Int) (k : Int) (h0 : k ≠ 0) : (cutX z lo hi k).length ≤ z.length := by
  have h1 := PySem.sliceIndicesBy_le lo hi k h0 z.length
  have h2 := List.length_filterMap_le (z.cps[·]?) (Builtin.Str.strSliceIndices lo hi k z.length)
  show (((Builtin.Str.strSliceIndices lo hi k z.length).filterMap (z.cps[·]?)).toArray).size ≤ _
  rw [List.size_toArray]
  exact Nat.le_trans h2 h1
def tSlX (te : TE) (tl th ts : St → Hp → (Option Int → Hp → Prop) → Prop) : TE := fun σ H Q => te σ H fun x H1 => tl σ H1 fun lo H2 => th σ H2 fun hi H3 => ts σ H3 fun o H4 => ∃ (z : Str) (k : Int), x = .str z ∧ o = some k ∧ k ≠ 0 ∧ z.length ≤ sizeLine ∧
  (k = 1 → (Builtin.Str.strSliceIndices lo hi k z.length).length = z.length → cutX z lo hi k = z) ∧ Q (.str (cutX z lo hi k)) H4
theorem pe_slX {X : Cx} {e st : Expr} {lo hi : Option Expr} {te : TE} {tl th ts : St → Hp → (Option Int → Hp → Prop) → Prop} {p3 pos : Pos} (he : PE X e te) (hl : PO X lo tl) (hh : PO X hi th) (hst : PO X (some st) ts)
    (htl : ∀ (v : Value) (a : Addr) (s : Shared), True := by intros; trivial) :
    PE X (.Subscript e (.Slice lo hi (some st) p3) pos) (tSlX te tl th ts) := by
  refine ⟨fun pins s σ H Q I h => ?_⟩
  refine Subscript_ (thn (he.run pins s σ H _ I h) fun v s1 ⟨x, H1, I1, r1, q1⟩ => ?_)
  refine wpAny_Slice (thn (hl.run pins s1 σ H1 _ I1 q1) fun vl s2 ⟨l, H2, I2, pl, q2⟩ => ?_)
  refine thn (hh.run pins s2 σ H2 _ I2 q2) fun vu s3 ⟨u, H3, I3, pu, q3⟩ => ?_
  refine thn (hst.run pins s3 σ H3 _ I3 q3) fun vs s4 ⟨o, H4, I4, ps, q4⟩ => ?_
  obtain ⟨z, k, ex, eo, k0, hz, hw, q⟩ := q4
  subst ex eo
  obtain ⟨t, rfl⟩ := r1
  have I5 : Inv X pins σ H4 { s4 with heap := s4.heap.push { cls := .type "slice", data := .fields #[vl, vu, vs] } } := I4.kept (t' := s4.toks) fun b ob q => Heap.get?_push_of_some _ q
  show wpAny (model X.prog X.w) X.A (subscriptTail e (.Slice lo hi (some st) p3) (.str z t) (.ref s4.heap.objs.size)) (EP X pins σ Q) X.xe { s4 with heap := s4.heap.push { cls := .type "slice", data := .fields #[vl, vu, vs] } }
  refine tail_any (ops := [.str z t, .ref s4.heap.objs.size]) (typeIs_str _ _ _) (PySem.F.slot_str_getitem.lookup) ?_ (by with_unfolding_all rfl)
  obtain ⟨l', rfl, rfl⟩ := IsPart.raw pl
  obtain ⟨u', rfl, rfl⟩ := IsPart.raw pu
  obtain ⟨k', rfl, hk⟩ := IsPart.raw ps
  refine wpAny_getItem_str_slice (l := l') (u := u') (st := k') ⟨_, Heap.get?_push_size _ rfl, rfl, rfl⟩ (by rw [hk]; simpa using k0) ?_
  have hlen : (cutX z (l'.map (·.1)) (u'.map (·.1)) k).length ≤ sizeLine := Nat.le_trans (cutX_len z _ _ k k0) hz
  unfold sliceMade slicePicked
  rw [hk]
  show Made.post (if (k == 1 && (Builtin.Str.strSliceIndices (l'.map (·.1)) (u'.map (·.1)) k z.length).length == z.length) = true then Made.val (.str z t)
    else Made.str (cutX z (l'.map (·.1)) (u'.map (·.1)) k)) (EP X pins σ Q) _
  by_cases c : (k == 1 && (Builtin.Str.strSliceIndices (l'.map (·.1)) (u'.map (·.1)) k z.length).length == z.length) = true
  · rw [if_pos c]
    obtain ⟨c1, c2⟩ := Bool.and_eq_true_iff.mp c
    rw [hw (beq_iff_eq.mp c1) (beq_iff_eq.mp c2)] at q
    exact ⟨.str z, H4, I5, ⟨t, rfl⟩, q⟩
  · rw [if_neg c]
    exact ⟨hlen, .str _, H4, I5.tok _, ⟨_, rfl⟩, q⟩
end L2
set_option maxRecDepth 100000
namespace L2
open PySem PySem.Spec PyProof.Rows
/-! an instance called, by place and by keywords; readings that don't know the context -/
def tCallI (C : Addr) (sp : Sp) (E : XK) (tf : TE) (t : TA) : TE := fun σ H Q => tf σ H fun y H1 => ∃ a, y = V.ref a ∧ t σ H1 fun vs H2 => (∃ dx fs, H2 a = some (.ins C dx fs)) ∧ sp (V.ref a :: vs) H2 Q E
def tCallIK (m : Nat) (C : Addr) (sp : Sp) (gV : List V → List V → List V) (E : XK) (tf : TE) (tk : TA) : TE := fun σ H Q => tf σ H fun y H1 => ∃ a, y = V.ref a ∧ tk σ H1 fun zs H2 => zs.length = m ∧ (∃ dx fs, H2 a = some (.ins C dx fs)) ∧ sp (gV [V.ref a] zs) H2 Q E
section
variable {X : Cx} {CX : CXT} {k n : Nat} {g C : Addr} {fd : FuncData} {ps ks : List Str} {sp : Sp} {E : XK} {e fe : Expr} {es : List Expr} {te tf : TE} {t tk : TA} {pos : Pos} {kws : List Keyword} {gg : List Value → List Value → List Value} {gV : List V → List V → List V}
theorem pe_callI (hf : PE X fe tf) (c : StX.CallO X.K C g) (F : FnR X.prog X.w X.K X.mg X.base CX k g sp) (hr : Room k X.A) (hx : Passes CX X E) (ha : PA X (e :: es) t)
    (ht : eval (.Call fe (e :: es) [] pos) X.env = (do callWith pos (← eval fe X.env) [] (backTo pos (starEach (e :: es) X.env)) (backToKw pos (keywordEach [] X.env))) := by rfl)
    (he : starEach (e :: es) X.env = (false, eval e X.env) :: starEach es X.env := by rfl) (hpl : (backTo pos (starEach es X.env)).any (·.1) = false := by rfl) : PE X (.Call fe (e :: es) [] pos) (tCallI C sp E tf t) := by
  refine ⟨fun pins s σ H Q I h => ?_⟩
  refine Call_ (thn (hf.run pins s σ H _ I h) fun u s1 ⟨y, H1, I1, ry, a, ey, q⟩ => ?_) ht
  subst ey
  obtain rfl : u = Value.ref a := ry
  refine StX.callO_with (thn (ha.run pos pins s1 σ H1 _ I1 q) fun us s2 ⟨vs, H2, I2, r, hi, q2⟩ => ?_) he hpl
  obtain ⟨ox, od, J, hd⟩ := StX.insC_at I2 (.inr hi)
  exact ⟨⟨C, ox, od, J, hd⟩, StX.run_callO c F hr hx I2 (.inr hi) r q2⟩
theorem callOK_of {M : Model} {A : Around} {E : Value → Shared → Prop} {s : Shared} {a : Addr} {pos : Pos} {Q : Value → Shared → Prop} {args : List (Bool × Sem Value)} {keywords : List (Option Str × Sem Value)} (hplain : (args.any (·.1) || keywords.any (·.1.isNone)) = false)
    (h : wpAny M A (evalArgs (.ref a) true args keywords) (fun z s₁ => (∃ C ox od, PySem.W.InstAt s₁.heap a ox C od ∧ ox.data = .plain) ∧ wpAny M A (call (.ref a) ([] ++ z.pos) z.kw) Q E s₁) E s) : wpAny M A (callWith pos (.ref a) [] args keywords) Q E s := by
  unfold callWith
  refine wpAny_bind (wpAny_holding (wpAny_mono h (fun z s₁ h₁ => wpAny_bind (wpAny_standAt ?_)) fun _ _ y => y))
  obtain ⟨⟨C, ox, od, J, hd⟩, h₁⟩ := h₁
  have L := PySem.W.kco_keeper (M := M) J hd
  simp only [hplain]
  refine wpAny_bind (L.here ?_)
  have tail : ∀ {t : Sem Value}, wpAny M A t Q E s₁ → wpAny M A (t >>= fun r => holding [r] point >>= fun _ => pure r) Q E s₁ :=
    fun ht => wpAny_bind (wpAny_mono ht (fun r s₂ hr => wpAny_bind (wpAny_holding (wpAny_point (wpAny_pure hr)))) fun _ _ y => y)
  exact tail (wpAny_operateT h₁)
theorem pe_callIK0 (hf : PE X fe tf) (c : StX.CallO X.K C g) (F : FnOk X.prog X.w X.K X.mg X.base CX k g fd ps sp) (hr : Room k X.A) (hb : KBn X.K fd ps 1 ks gg gV) (hx : Passes CX X E) (hkw : PK X kws tk)
    (ht : eval (.Call fe [] kws pos) X.env = (do callWith pos (← eval fe X.env) [] (backTo pos (starEach [] X.env)) (backToKw pos (keywordEach kws X.env))) := by rfl)
    (hall : (backToKw pos (keywordEach kws X.env)).all (·.1.isSome) = true := by rfl) (hks : (backToKw pos (keywordEach kws X.env)).filterMap (·.1) = ks := by rfl)
    (hpl : ((backTo pos (starEach [] X.env)).any (·.1) || (backToKw pos (keywordEach kws X.env)).any (·.1.isNone)) = false := by rfl) : PE X (.Call fe [] kws pos) (tCallIK ks.length C sp gV E tf tk) := by
  refine ⟨fun pins s σ H Q I h => ?_⟩
  rw [ht]
  refine wpAny_bind (thn (hf.run pins s σ H _ I h) fun u s1 ⟨y, H1, I1, ry, a, ey, q⟩ => ?_)
  subst ey
  obtain rfl : u = Value.ref a := ry
  refine callOK_of hpl (evalArgs_kw2_nil hall (thn (hkw.run pos pins s1 σ H1 _ I1 q) fun ws s2 hh => ?_))
  obtain ⟨zs, H2, I2, rz, l2, hi, q2⟩ := hh
  obtain ⟨ox, od, J, hd⟩ := StX.insC_at I2 (.inr hi)
  refine ⟨⟨C, ox, od, J, hd⟩, ?_⟩
  rw [hks]
  have r : Vals [V.ref a] [Value.ref a] := .cons rfl .nil
  have r2 := hb.rel r rz
  refine wpAny_call (PySem.W.kco_code I2.kIn J hd c.at_ c.fn c.fi (codeAny_mono (F.run X.A X.stack s2 H2 ⟨[.ref a], ks.zip ws⟩ (gg [.ref a] ws) (gV [.ref a] zs) Q E hr I2.env0 (hb.to s2 [.ref a] ws I2.kIn rfl (rz.length.symm.trans l2)) r2 q2) fun r s' hq => ?_))
  cases r with
  | error e => exact hx pins σ H2 s2 e s' I2 hq
  | ok fl =>
    cases fl with
    | ret u => exact I2.after hq
    | next => exact False.elim hq
    | brk => exact False.elim hq
    | cont => exact False.elim hq
end
/-- what the top has written of a class whose instances are called -/
def callOB (K : PySem.W.Frag) (C : Addr) : Bool := decide (PySem.W.findIn K (.ref C) "__call__" = some (some (.ref (He.ma K C "__call__")))) && (PySem.W.isFn K (.ref (He.ma K C "__call__")) && PySem.W.fnIn K (He.ma K C "__call__"))
theorem callO_of {K : PySem.W.Frag} {C : Addr} (h : callOB K C = true) : StX.CallO K C (He.ma K C "__call__") := by
  obtain ⟨h1, h2⟩ := He.ba h
  obtain ⟨h3, h4⟩ := He.ba h2
  exact ⟨of_decide_eq_true h1, h3, h4⟩
end L2
set_option maxRecDepth 100000
namespace L2
open PySem PySem.Spec PyProof.Rows
/-! operators of an own class: a op b, -a; math.lcm -/
section
variable {X : Cx} {pins : List (Addr × Obj)} {σ : St} {H : Hp} {s : Shared}
theorem plain_looks {y : V} {u : Value} {S : String} (I : Inv X pins σ H s) (ry : RelV y u) (h : Plain X.K H y S) (M : Model) : PySem.W.Looks M s.heap (typeOf u) (.type S) := by
  have at_ : ∀ {a : Addr} {o : Obj} {T : String}, s.heap.get? a = some o → o.cls = .type T → PySem.W.Looks M s.heap (typeOf (.ref a)) (.type T) := fun e c => by
    rw [← c]
    exact (PySem.W.Looks.ld e).andThen .now
  cases h with
  | non => cases (show u = Value.none from ry); exact .of_pure rfl
  | bl b => cases (show u = Value.bool b from ry); exact .of_pure rfl
  | int i => obtain ⟨t, rfl⟩ := (show ∃ t, u = Value.int i t from ry); exact .of_pure rfl
  | str z => obtain ⟨t, rfl⟩ := (show ∃ t, u = Value.str z t from ry); exact .of_pure rfl
  | @lst a xs e =>
    cases (show u = Value.ref a from ry)
    obtain ⟨_, _, n, _, h1⟩ := (show ObjOk X.prog X.w H s.heap a (.lst xs) from I.hok a _ e)
    exact at_ h1 rfl
  | @tup a xs e =>
    cases (show u = Value.ref a from ry)
    obtain ⟨_, _, _, o, h1, h2, _⟩ := (show ObjOk X.prog X.w H s.heap a (.tup xs) from I.hok a _ e)
    exact at_ h1 h2
  | @dK a kvs e =>
    cases (show u = Value.ref a from ry)
    obtain ⟨_, _, _, _, o, _, _, h1, h2, _⟩ := (show ObjOk X.prog X.w H s.heap a (.dK kvs) from I.hok a _ e)
    exact at_ h1 h2.1
theorem plain_name {K : PySem.W.Frag} {y : V} {S : String} (h : Plain K H y S) : S ∈ ["NoneType", "bool", "int", "str", "list", "tuple", "dict"] := by cases h <;> decide
end
abbrev plainTys : List String := ["NoneType", "bool", "int", "str", "list", "tuple", "dict"]
theorem mro_none : fastBuiltinMro "NoneType" = some [.type "NoneType", .type "object"] := by decide +kernel
theorem mro_bool : fastBuiltinMro "bool" = some [.type "bool", .type "int", .type "object"] := by decide +kernel
theorem mro_int : fastBuiltinMro "int" = some [.type "int", .type "object"] := by decide +kernel
theorem mro_str : fastBuiltinMro "str" = some [.type "str", .type "object"] := by decide +kernel
theorem mro_list : fastBuiltinMro "list" = some [.type "list", .type "object"] := by decide +kernel
theorem mro_tuple : fastBuiltinMro "tuple" = some [.type "tuple", .type "object"] := by decide +kernel
theorem mro_dict : fastBuiltinMro "dict" = some [.type "dict", .type "object"] := by decide +kernel
theorem sub_no (K : PySem.W.Frag) (C : Addr) : ∀ S ∈ plainTys, PySem.W.subIn K (.type S) (.ref C) = some false := by
  intro S hS
  simp only [List.mem_cons, List.not_mem_nil, or_false] at hS
  rcases hS with rfl | rfl | rfl | rfl | rfl | rfl | rfl <;> simp [PySem.W.subIn, mro_none, mro_bool, mro_int, mro_str, mro_list, mro_tuple, mro_dict]
def opTys (nm : String) : Bool := plainTys.all fun S => (fastLookup S (PySem.dunder nm)).isSome && (fastLookup S (dunderR nm)).isSome
theorem op_tys (K : PySem.W.Frag) (C : Addr) {nm : String} (h : opTys nm = true) : ∀ S ∈ plainTys, (PySem.W.findIn K (.type S) (PySem.dunder nm)).isSome = true ∧ (PySem.W.findIn K (.type S) (dunderR nm)).isSome = true ∧ PySem.W.subIn K (.type S) (.ref C) = some false := fun S hS => by
  have := List.all_eq_true.mp h S hS
  obtain ⟨h1, h2⟩ := Bool.and_eq_true_iff.mp this
  exact ⟨h1, h2, sub_no K C S hS⟩
theorem ot_add : opTys "add" = true := by decide +kernel
theorem ot_mul : opTys "mul" = true := by decide +kernel
theorem ot_lshift : opTys "lshift" = true := by decide +kernel
theorem ot_or : opTys "or" = true := by decide +kernel
theorem ot_and : opTys "and" = true := by decide +kernel
theorem ot_xor : opTys "xor" = true := by decide +kernel
theorem ot_sub : opTys "sub" = true := by decide +kernel
/-- the class has this operator of its own, and none the other way about -/
structure OwnOp (K : PySem.W.Frag) (C f : Addr) (nm : String) : Prop where
  at_ : PySem.W.findIn K (.ref C) (PySem.dunder nm) = some (some (.ref f))
  fn : PySem.W.isFn K (.ref f) = true
  first : PySem.W.selfFirst K C = true
  back : PySem.W.findIn K (.ref C) (dunderR nm) = some none
def ownOpB (K : PySem.W.Frag) (C : Addr) (nm m : Str) (r : Str) : Bool := He.eqO (PySem.W.findIn K (.ref C) m) (some (some (.ref (He.ma K C m)))) && (PySem.W.isFn K (.ref (He.ma K C m)) && (PySem.W.selfFirst K C && He.eqO (PySem.W.findIn K (.ref C) r) (some none)))
theorem ownOp_of {K : PySem.W.Frag} {C : Addr} {nm : String} {z m r : Str} (em : PySem.dunder nm = m) (er : dunderR nm = r) (h : ownOpB K C z m r = true) : OwnOp K C (He.ma K C m) nm := by
  obtain ⟨h1, h⟩ := He.ba h
  obtain ⟨h2, h⟩ := He.ba h
  obtain ⟨h3, h4⟩ := He.ba h
  exact ⟨by rw [em]; exact He.eqO_ok h1, h2, h3, by rw [er]; exact He.eqO_ok h4⟩
/-- the other thing: an instance of C too, or a plain value -/
def Oth (K : PySem.W.Frag) (C : Addr) (H : Hp) (y : V) : Prop := (∃ b dx fs, y = .ref b ∧ H b = some (.ins C dx fs)) ∨ ∃ S, Plain K H y S
def rOwnOp (K : PySem.W.Frag) (C : Addr) (sp : Sp) (E : XK) : R2 := fun x y H Q => ∃ (a dx : Addr) (fs : List (Str × V)), x = .ref a ∧ H a = some (.ins C dx fs) ∧ Oth K C H y ∧ sp [x, y] H Q E
def rOwnUn (C : Addr) (sp : Sp) (E : XK) : V → Hp → VK → Prop := fun x H Q => ∃ (a dx : Addr) (fs : List (Str × V)), x = .ref a ∧ H a = some (.ins C dx fs) ∧ sp [x] H Q E
section
variable {X : Cx} {CX : CXT} {n : Nat} {C f : Addr} {sp : Sp} {E : XK}
theorem no_ni {pins : List (Addr × Obj)} {σ : St} {Q : VK} {v : Value} {s : Shared} (h : EP X pins σ Q v s) : PySem.W.CmpBack (EP X pins σ Q) v s := by
  obtain ⟨x, H', I', r, q⟩ := id h
  cases x <;> first
    | (obtain ⟨t, rfl⟩ := (show ∃ t, v = _ from r); exact h)
    | (cases (show v = _ from r); exact h)
theorem own_bin {prog : Program} {w : World} {A : Around} {Er : Value → Shared → Prop} {s : Shared} {K : PySem.W.Frag} {x C f : Addr} {ox : Obj} {od : Option Obj} {op : Operator} {b : Value} {T : String} {fo ro : Option Value} {Q : Value → Shared → Prop}
    (Y : K.In s.heap) (J : PySem.W.InstAt s.heap x ox C od) (o : OwnOp K C f op.info.2) (hb : PySem.W.Looks (model prog w) s.heap (typeOf b) (.type T))
    (h1 : PySem.W.findIn K (.type T) (PySem.dunder op.info.2) = some fo) (h2 : PySem.W.findIn K (.type T) (dunderR op.info.2) = some ro) (hsub : PySem.W.subIn K (.type T) (.ref C) = some false)
    (h : wpAny (model prog w) A (call (.ref f) [.ref x, b]) (PySem.W.CmpBack Q) Er s) : wpAny (model prog w) A (binaryOp op (.ref x) b) Q Er s := by
  obtain ⟨cd, rest, hcd, hm⟩ := PySem.W.ksp_first o.first
  obtain ⟨o1, o2, _, o4⟩ := o
  rcases hi : op.info with ⟨sy, nm⟩
  simp only [hi] at o1 o4 h1 h2
  have one := PySem.W.ksp_try Y J o1 o2 h
  obtain ⟨hh, g, d, tt, os⟩ := s
  have k1 : PySem.W.Looks (model prog w) hh (typeOf (.ref x)) (.ref C) := J.type
  have k3 := PySem.W.fills_K (M := model prog w) Y hcd hm o1
  have k4 := PySem.W.ksp_fillsT (M := model prog w) Y h1 h2
  have k5 : PySem.W.Looks (model prog w) hh (isSubtype (.type T) (.ref C)) false := PySem.W.looks_subIn Y hsub
  have k6 := PySem.W.ksp_inPy (M := model prog w) Y o1 o4 (.inl rfl)
  have k7 : PySem.W.Looks (model prog w) hh (numberSlotInPython (.type T) nm) false := .of_pure rfl
  have k8 : PySem.W.Looks (model prog w) hh (typeLookup (.type T) (dunderR nm)) ro := PySem.W.looks_findIn Y h2
  have ne : (Value.ref C == Value.type T) = false := Bool.eq_false_iff.mpr fun q => nomatch beq_iff_eq.mp q
  generalize ((fo.isSome && !isSeqSlot fo) || (ro.isSome && !isSeqSlot ro)) = rt at k4
  simp only [binaryOp, hi]
  refine wpAny_holding (wpAny_bind ?_)
  unfold binaryOp1
  refine wpAny_bind (k1.at (wpAny_bind (hb.at (wpAny_bind (k3.at ?_)))))
  simp only [ne, Bool.false_eq_true, if_false]
  cases rt <;>
  · ksp_lk
    refine wpAny_mono one (fun r s' z => ?_) fun _ _ e => e
    obtain ⟨v, rfl, hq⟩ := z
    ksp_lk
    exact hq
theorem op_own {op : Operator} (F : FnR X.prog X.w X.K X.mg X.base CX n f sp) (o : OwnOp X.K C f op.info.2) (hT : opTys op.info.2 = true)
    (hr : Room n X.A) (hx : Passes CX X E) : OpR X (binaryOp op) (rOwnOp X.K C sp E) := by
  intro pins s σ H x y v u Q I rx ry hq
  obtain ⟨a, dx, fs, rfl, ha, hy, hsp⟩ := hq
  cases rx
  obtain ⟨mA, J, _⟩ := ins_get I.hok ha
  obtain ⟨od, J, _⟩ := J.look
  obtain ⟨m, hF⟩ := I.fr
  have run := wpAny_call (run_fnR (us := [.ref a, u]) (vs := [.ref a, y]) F hr hx I (.cons rfl (.cons ry .nil)) hsp)
  have back : wpAny (model X.prog X.w) X.A (call (.ref f) [.ref a, u]) (PySem.W.CmpBack (EP X pins σ Q)) X.xe s := wpAny_mono run (fun _ _ z => no_ni z) fun _ _ z => z
  rcases hy with ⟨b, dx2, fs2, rfl, hb⟩ | ⟨S, hp⟩
  · cases ry
    obtain ⟨mB, JB, _⟩ := ins_get I.hok hb
    obtain ⟨ob, JB, _⟩ := JB.look
    exact PySem.W.binop_K hF I.ok.mod.kin J JB.type o.first o.at_ o.fn back
  · obtain ⟨h1, h2, h3⟩ := op_tys X.K C hT S (plain_name hp)
    obtain ⟨fo, e1⟩ := Option.isSome_iff_exists.mp h1
    obtain ⟨ro, e2⟩ := Option.isSome_iff_exists.mp h2
    exact own_bin I.kIn J o (plain_looks I ry hp _) e1 e2 h3 back
theorem un_own (F : FnR X.prog X.w X.K X.mg X.base CX n f sp) (h1 : PySem.W.findIn X.K (.ref C) "__neg__" = some (some (.ref f))) (h2 : PySem.W.isFn X.K (.ref f) = true) (hr : Room n X.A) (hx : Passes CX X E) : UnR X (unaryOp .USub) (rOwnUn C sp E) := by
  intro pins s σ H x v Q I rx hq
  obtain ⟨a, dx, fs, rfl, ha, hsp⟩ := hq
  cases rx
  obtain ⟨mA, J, _⟩ := ins_get I.hok ha
  obtain ⟨od, J, _⟩ := J.look
  obtain ⟨m, hF⟩ := I.fr
  exact PySem.W.ksp_neg hF I.ok.mod.kin J h1 h2 (wpAny_call (run_fnR (us := [.ref a]) (vs := [.ref a]) F hr hx I (.cons rfl .nil) hsp))
end
def rLcm : List V → Hp → VK → Prop := fun vs H Q => ∃ a b : Nat, vs = [.int (a : Int), .int (b : Int)] ∧ a < 2 ^ 64 ∧ b < 2 ^ 64 ∧ Q (.int ((Nat.lcm a b : Nat) : Int)) H
theorem cr_lcm {X : Cx} : CallR X (.builtin "math.lcm") rLcm := by
  intro pins s σ H vs us Q I r h
  obtain ⟨a, b, rfl, ha, hb, q⟩ := h
  obtain ⟨t, u, rfl⟩ := Vals.int2 r
  refine PySem.W.mc_lcm (by rw [Int.natAbs_natCast]; exact ha) (by rw [Int.natAbs_natCast]; exact hb) fun _ => ?_
  rw [Int.natAbs_natCast, Int.natAbs_natCast]
  exact ⟨.int _, H, I.tok _, ⟨_, rfl⟩, q⟩
/-! a range as a value, walked by its name -/
theorem cr_range1 {X : Cx} : CallR X (.type "range") (fun vs H Q => ∃ j, vs = [V.int j] ∧ ∀ p, H p = none → Q (.ref p) (upd H p (.rng 0 j))) := by
  intro pins s σ H vs us Q I r h
  obtain ⟨j, rfl, q⟩ := h
  cases r with
  | cons r rr =>
    cases rr
    obtain ⟨t, rfl⟩ := r
    refine call_range_1 ⟨.ref s.heap.objs.size, upd H s.heap.objs.size (.rng 0 j), I.laid (t' := _) (fun b o e => Heap.get?_push_of_some _ e) (Nat.le_refl _) ?_, rfl, q _ (I.hok.fresh (Nat.le_refl _))⟩
    exact ⟨_, _, _, Heap.get?_push_size _ rfl⟩
def iRngV (te : TE) : TI := fun σ H R => te σ H fun y H1 => ∃ (a : Addr) (lo hi : Int), y = .ref a ∧ H1 a = some (.rng lo hi) ∧ (-(2 ^ 62) ≤ lo ∧ lo < 2 ^ 62 ∧ -(2 ^ 62) ≤ hi ∧ hi < 2 ^ 62) ∧ R (Itr lo (hi - lo).toNat) H1
theorem pi_rng {X : Cx} {tg e : Expr} {te : TE} (he : PE X e te) : PI X tg e (iRngV te) := by
  refine ⟨fun pins s σ H R I h => thn (he.run pins s σ H _ I h) fun w s1 ⟨y, H1, I1, r1, a, lo, hi, ey, ea, ⟨b1, b2, b3, b4⟩, q⟩ => ?_⟩
  subst ey
  obtain rfl : w = Value.ref a := r1
  obtain ⟨t, u, v, ho⟩ := (show ObjOk X.prog X.w H1 s1.heap a (.rng lo hi) from I1.hok a _ ea)
  refine wpAny_pyIter_range (show IsRange s1.heap a lo hi 1 t u v from ho) (small_one b1 b2 b3 b4) ?_
  refine ⟨s1.heap.objs.size, [s1.heap.objs.size], _, _, H1, rfl, I1.kept (t' := s1.toks) fun b o e => Heap.get?_push_of_some _ e, turn_range _ lo (hi - lo).toNat, ?_, fun b hb => ?_, q⟩
  · have e1 : lo + ((0 : Nat) : Int) * 1 = lo := by simp
    have e2 : (((hi - lo).toNat : Nat) : Int) - ((0 : Nat) : Int) = Builtin.Range.rangeSize lo hi 1 := by
      rw [rangeSize_one]
      split <;> omega
    show IsRangeIter _ _ (lo + ((0 : Nat) : Int) * 1) ((((hi - lo).toNat : Nat) : Int) - ((0 : Nat) : Int)) 1
    rw [e1, e2]
    exact Heap.get?_push_size _ rfl
  · obtain rfl : b = s1.heap.objs.size := by simpa using hb
    exact I1.fpOk (Nat.le_refl _) (I1.hok.fresh (Nat.le_refl _))
end L2
set_option maxRecDepth 100000
namespace L2
open PySem PySem.Spec PyProof.Rows
/-! str of an instance with a text of its own -/
def rStrI (C : Addr) (sp : Sp) (E : XK) : List V → Hp → VK → Prop := fun xs H Q => ∃ (a dx : Addr) (fs : List (Str × V)), xs = [V.ref a] ∧ H a = some (.ins C dx fs) ∧ sp [V.ref a] H (fun v H' => ∃ z, v = V.str z ∧ Q (V.str z) H') E
section
variable {X : Cx} {CX : CXT} {n : Nat} {C f : Addr} {fd : FuncData} {ps : List Str} {sp : Sp} {E : XK}
theorem own_code1 {A : Around} {pins : List (Addr × Obj)} {σ : St} {H : Hp} {s : Shared} {a : Addr} {Q : VK} (F : FnOk X.prog X.w X.K X.mg X.base CX n f fd ps sp) (hb : Binds X.K fd ps []) (hr : Room n A) (fr : A.frames = X.A.frames) (hx : Passes CX X E) (I : Inv X pins σ H s)
    (h : sp [.ref a] H Q E) : codeAny (model X.prog X.w) A (.call (.ref f) ⟨[.ref a], []⟩) (fun r s' => match r with
      | .ok (.ret v) => EP X pins σ Q v s'
      | .ok _ => False
      | .error e => X.xe e s') s := by
  have e0 : Env0 X.prog X.w X.K X.mg X.base A X.stack s H := by
    have e := I.env0
    exact ⟨by rw [fr]; exact e.frames, e.mod, e.bs, e.bsz, e.funs, e.frf, e.hok, e.bare⟩
  have hl := F.len _ _ _ _ h
  have r2 : Vals [V.ref a] [Value.ref a] := .cons rfl .nil
  refine codeAny_mono (F.run A X.stack s H ⟨[.ref a], []⟩ [.ref a] [.ref a] _ E hr e0 (by
    have := hb s [.ref a] I.kIn (by simpa using hl)
    simpa using this) r2 h) fun r s' hq => ?_
  cases r with
  | error e => exact hx pins σ H s e s' I hq
  | ok fl =>
    cases fl with
    | ret w => exact I.after hq
    | next => exact False.elim hq
    | brk => exact False.elim hq
    | cont => exact False.elim hq
theorem call_strI (F : FnOk X.prog X.w X.K X.mg X.base CX n f fd ps sp) (hb : Binds X.K fd ps []) (hr : Room (n + 1) X.A) (h1 : PySem.W.findIn X.K (.ref C) "__str__" = some (some (.ref f))) (h2 : PySem.W.isFn X.K (.ref f) = true) (hx : Passes CX X E) : CallR X (.type "str") (rStrI C sp E) := by
  intro pins s σ H xs us Q I r hq
  obtain ⟨a, dx, fs, rfl, ha, hsp⟩ := hq
  cases r with
  | cons r rr =>
    cases rr
    cases r
    obtain ⟨mA, J, _⟩ := ins_get I.hok ha
    obtain ⟨od, J, _⟩ := J.look
    have hr2 : Room n X.A.in1.in1 := ⟨hr.hd, by have := hr.dp; show X.A.depth + 3 * n + 5 < _; omega, by have := hr.un; show X.A.units + 1 + 1 + 16 * n + 200 < _; omega⟩
    refine PySem.W.kso_call (by have := hr2.un; omega) I.kIn J h1 h2 (wpAny_call (codeAny_mono (own_code1 F hb hr2 rfl hx I hsp) fun r s' z => ?_))
    cases r with
    | error e => exact z
    | ok fl =>
      cases fl with
      | ret w =>
        obtain ⟨v, H', I', rz, y, rfl, q⟩ := z
        obtain ⟨t, rfl⟩ := (show ∃ t, w = Value.str y t from rz)
        exact ⟨.str y, H', I', ⟨t, rfl⟩, q⟩
      | next => exact z.elim
      | brk => exact z.elim
      | cont => exact z.elim
end
/-- what the top has written of a class with a text of its own -/
def strB (K : PySem.W.Frag) (C : Addr) : Bool := He.eqO (PySem.W.findIn K (.ref C) "__str__") (some (some (.ref (He.ma K C "__str__")))) && PySem.W.isFn K (.ref (He.ma K C "__str__"))
theorem str_of {K : PySem.W.Frag} {C : Addr} (h : strB K C = true) : PySem.W.findIn K (.ref C) "__str__" = some (some (.ref (He.ma K C "__str__"))) ∧ PySem.W.isFn K (.ref (He.ma K C "__str__")) = true := by
  obtain ⟨h1, h2⟩ := He.ba h
  exact ⟨He.eqO_ok h1, h2⟩
end L2
set_option maxRecDepth 100000
namespace L2
open PySem PySem.Spec PyProof.Rows ClX
/-! a class method called by keywords -/
def tCMethK (C : Addr) (m : Nat) (sp : Sp) (gV : List V → List V → List V) (E : XK) (ta : TE) (tk : TA) : TE := fun σ H Q => ta σ H fun x H1 => x = .ref C ∧ tk σ H1 fun zs H2 => zs.length = m ∧ sp (gV [.ref C] zs) H2 Q E
section
variable {X : Cx} {CX : CXT} {k : Nat} {p g C : Addr} {mc : Value} {fd : FuncData} {ps ks : List Str} {m : Str} {sp : Sp} {E : XK} {o : Expr} {ta : TE} {tk : TA} {pos apos : Pos} {kws : List Keyword} {gg : List Value → List Value → List Value} {gV : List V → List V → List V}
theorem pe_cmethK {pl : Sem Bool} (he : PE X o ta) (r : CRead X.K C mc) (c : CMet X.K C mc m p g) (F : FnOk X.prog X.w X.K X.mg X.base CX k g fd ps sp) (hr : Room k X.A) (hb : KBn X.K fd ps 1 ks gg gV) (hx : Passes CX X E) (hkw : PK X kws tk)
    (hall : (backToKw pos (keywordEach kws X.env)).all (·.1.isSome) = true := by rfl) (hks : (backToKw pos (keywordEach kws X.env)).filterMap (·.1) = ks := by rfl)
    (hpl : ((backTo pos (starEach [] X.env)).any (·.1) || (backToKw pos (keywordEach kws X.env)).any (·.1.isNone)) = false := by rfl)
    (ht : eval (.Call (.Attribute o m apos) [] kws pos) X.env = (do
      let ov ← eval o X.env
      standAt apos.atName
      let (f, first) ← holding [ov] (getMethod ov m pl)
      callWith pos f first (backTo pos (starEach [] X.env)) (backToKw pos (keywordEach kws X.env))) := by rfl) :
    PE X (.Call (.Attribute o m apos) [] kws pos) (tCMethK C ks.length sp gV E ta tk) := by
  refine ⟨fun pins s σ H Q I h => ?_⟩
  refine PySem.W.methodCall_KW (pl := pl) (thn (he.run pins s σ H _ I h) fun u s1 ⟨x, H1, I1, rx, ex, q⟩ => ?_) ht
  subst ex
  obtain rfl : u = Value.ref C := rx
  refine getmethcm_ok I1 r c fun s2 I2 => ?_
  refine PySem.W.callWith_of hpl (PySem.W.keeps_M (K := X.K) (self := .ref C) c.fi) (evalArgs_kw2_nil hall (thn (hkw.run pos _ s2 σ H1 _ I2 q) fun ws s3 ⟨zs, H2, I3, rz, l2, q2⟩ => ?_))
  refine ⟨⟨pin_at I3, I3.kIn⟩, ?_⟩
  rw [hks]
  have rr : Vals [V.ref C] [Value.ref C] := .cons rfl .nil
  have r2 := hb.rel rr rz
  have z : wpAny (model X.prog X.w) X.A (call (.ref s1.heap.objs.size) [] (ks.zip ws)) (EP X ((s1.heap.objs.size, PySem.W.methodObj (.ref g) (.ref C)) :: pins) σ Q) X.xe s3 := by
    refine wpAny_call (PySem.W.method_call (pin_at I3) (codeAny_mono (F.run X.A X.stack s3 H2 ⟨[.ref C], ks.zip ws⟩ (gg [.ref C] ws) (gV [.ref C] zs) Q E hr I3.env0 (hb.to s3 [.ref C] ws I3.kIn rfl (rz.length.symm.trans l2)) r2 q2) fun r s' hq => ?_))
    cases r with
    | error e => exact hx _ σ H2 s3 e s' I3 hq
    | ok fl =>
      cases fl with
      | ret u => exact I3.after hq
      | next => exact False.elim hq
      | brk => exact False.elim hq
      | cont => exact False.elim hq
  exact thn z fun _ _ y => unpinE y
end
end L2
set_option maxRecDepth 100000
set_option maxHeartbeats 2000000
/-! own classes: __iter__ that gives a tuple's iterator, __len__, __contains__; C(*xs) -/
namespace L2
open PySem PySem.Spec PyProof.Rows
/-! a heap made longer by freed places: nothing else is said of it -/
def hole : Obj := { cls := .none, data := .freed }
def longer (h : Heap) (n : Nat) : Heap := ⟨h.objs ++ Array.replicate (n - h.objs.size) hole, h.life⟩
theorem longer_get (h : Heap) (n : Nat) (b : Addr) : (longer h n).get? b = h.get? b := by
  unfold longer Heap.get?
  by_cases c : b < h.objs.size
  · rw [show (⟨h.objs ++ Array.replicate (n - h.objs.size) hole, h.life⟩ : Heap).objs[b]? = h.objs[b]? from Array.getElem?_append_left c]
  · have c2 : h.objs.size ≤ b := Nat.le_of_not_lt c
    rw [show (⟨h.objs ++ Array.replicate (n - h.objs.size) hole, h.life⟩ : Heap).objs[b]? = (Array.replicate (n - h.objs.size) hole)[b - h.objs.size]? from Array.getElem?_append_right c2]
    rw [Array.getElem?_eq_none (xs := h.objs) c2, Array.getElem?_replicate]
    by_cases c3 : b - h.objs.size < n - h.objs.size
    · rw [if_pos c3]
      rfl
    · rw [if_neg c3]
theorem longer_size {h : Heap} {n : Nat} (l : h.objs.size ≤ n) : (longer h n).objs.size = n := by
  show (h.objs ++ Array.replicate (n - h.objs.size) hole).size = n
  rw [Array.size_append, Array.size_replicate]
  omega
theorem funs_longer {h base : Heap} {n : Nat} : ∀ {l : List Env}, h.FunFrames base l → h.FunFrames (longer base n) l
  | [], _ => trivial
  | _ :: _, ⟨hk, ⟨L, o, hf, hn, ho, hd⟩, hr⟩ => ⟨hk, ⟨L, o, hf, by rw [longer_get]; exact hn, ho, hd⟩, funs_longer hr⟩
section
variable {P : Program} {w : World} {K : PySem.W.Frag} {mg : Str → Option Value} {base : Heap} {A : Around} {outer : List Env} {s : Shared} {H : Hp}
theorem env0_longer (e : Env0 P w K mg base A outer s H) : Env0 P w K mg (longer base s.heap.objs.size) A outer s H := by
  have kp : ∀ b o, base.get? b = some o → (longer base s.heap.objs.size).get? b = some o := fun b o q => by
    rw [longer_get]
    exact q
  obtain ⟨mb, m1, m2⟩ := e.mod.blt
  obtain ⟨mc, n1, n2⟩ := e.mod.nolimit
  exact ⟨e.frames, ⟨e.mod.kin.keeps kp, e.mod.glob.keeps kp, ⟨mb, m1.keeps kp, m2⟩, ⟨mc, n1.keeps kp, n2⟩⟩, fun b o q => e.bs b o (by rw [← longer_get base s.heap.objs.size]; exact q), by rw [longer_size e.bsz]; exact Nat.le_refl _, funs_longer e.funs, e.frf, e.hok, e.bare⟩
end
/-! iter(t) of a tuple -/
/-- at it a fresh iterator over the tuple at t -/
def TiO (t it : Addr) : HO := .ext fun h => h.IsTupleIter it t 0
theorem tiO_ok {P : Program} {w : World} {H : Hp} {h : Heap} {t it : Addr} (e : h.IsTupleIter it t 0) : ObjOk P w H h it (TiO t it) := by
  obtain ⟨o, e1, r⟩ := e
  exact ⟨⟨o, e1, r⟩, ⟨o, e1⟩, fun h1 h2 q k => by
    obtain ⟨o2, f1, f2⟩ := q
    exact ⟨o2, k _ f1, f2⟩⟩
def rIterT (K : PySem.W.Frag) (base : Heap) : List V → Hp → VK → Prop := fun xs H Q => ∃ (t : Addr) (zs : List V), xs = [.ref t] ∧ SqT K H t zs ∧ ∀ it, H it = Option.none → base.objs.size ≤ it → Q (.ref it) (upd H it (TiO t it))
theorem call_iterT {X : Cx} : CallR X (.builtin "iter") (rIterT X.K X.base) := by
  intro pins s σ H xs us Q I r h
  obtain ⟨t, zs, rfl, hq, q⟩ := h
  obtain ⟨u, rfl, ru⟩ := vals1 r
  cases ru
  obtain ⟨its, rv, pl, hz⟩ := I.tuple hq
  refine Calls.call_function_entry (by decide +kernel) (by decide +kernel) PySem.W.kdk_entry_iter (PySem.W.kdk_args_iter _) ?_
  unfold Builtin.«iter»
  refine wpAny_bind (m := someArgs "iter" 1 2 _) (wpAny_of_eq (a := [Value.ref t]) (by first | rfl | kernel_rfl!) ?_)
  show wpAny _ _ (pyIter (.ref t) >>= _) _ _ _
  refine wpAny_bind (wpAny_pyIter_tuple (show s.heap.IsTuple t its.toArray from pl) (wpAny_pure ⟨_, rfl, ?_⟩))
  exact ⟨.ref s.heap.objs.size, _, I.laid (t' := s.toks) (fun b u e => Heap.get?_push_of_some _ e) (Nat.le_refl _) (tiO_ok ⟨_, Heap.get?_push_size _ rfl, rfl, rfl⟩), rfl, q _ (I.hok.fresh (Nat.le_refl _)) I.env0.bsz⟩
section
variable {X : Cx} {CX : CXT} {n : Nat} {C f : Addr} {sp : Sp} {E : XK}
theorem own_codeR {A : Around} {pins : List (Addr × Obj)} {σ : St} {H : Hp} {s : Shared} {vs : List V} {us : List Value} {Q : VK} (F : FnR X.prog X.w X.K X.mg X.base CX n f sp) (hr : Room n A) (fr : A.frames = X.A.frames) (hx : Passes CX X E) (I : Inv X pins σ H s) (rv : Vals vs us)
    (h : sp vs H Q E) : codeAny (model X.prog X.w) A (.call (.ref f) ⟨us, []⟩) (fun r s' => match r with
      | .ok (.ret v) => EP X pins σ Q v s'
      | .ok _ => False
      | .error e => X.xe e s') s := by
  have e1 := I.env0
  have e0 : Env0 X.prog X.w X.K X.mg X.base A X.stack s H := ⟨fr.trans e1.frames, e1.mod, e1.bs, e1.bsz, e1.funs, e1.frf, e1.hok, e1.bare⟩
  refine codeAny_mono (F A X.stack s H us vs Q E hr e0 rv h) fun r s' hq => ?_
  match r, hq with
  | .error e, hq => exact hx pins σ H s e s' I hq
  | .ok (.ret _), hq => exact I.after hq
  | .ok .next, hq => exact hq.elim
  | .ok .brk, hq => exact hq.elim
  | .ok .cont, hq => exact hq.elim
/-! for x in o -/
/-- o.__iter__() hands out an iterator of a tuple; base: how long the heap was -/
def iOwn (K : PySem.W.Frag) (C : Addr) (sp : Heap → Sp) (E : XK) (te : TE) : TI := fun σ H R => te σ H fun y H1 => ∃ (a dx : Addr) (fs : List (Str × V)), y = .ref a ∧ H1 a = some (.ins C dx fs) ∧
  ∀ b : Heap, sp b [.ref a] H1 (fun v H' => ∃ (it t : Addr) (xs : List V), v = .ref it ∧ H1 it = Option.none ∧ b.objs.size ≤ it ∧ H' = upd H1 it (TiO t it) ∧ SqT K H1 t xs ∧ R (Itt K t) H1) E
theorem pi_own {tg e : Expr} {te : TE} (he : PE X e te) (h1 : PySem.W.findIn X.K (.ref C) "__iter__" = some (some (.ref f))) (h2 : PySem.W.isFn X.K (.ref f) = true) {sp : Heap → Sp} (F : ∀ b : Heap, FnR X.prog X.w X.K X.mg b CX n f (sp b)) (hr : Room n X.A) (hx : Passes CX X E) : PI X tg e (iOwn X.K C sp E te) := by
  refine ⟨fun pins s σ H R I h => ?_⟩
  refine thn (he.run pins s σ H _ I h) fun v s1 hh => ?_
  obtain ⟨y, H1, I1, r1, a, dx, fs, ey, ha, q⟩ := hh
  subst ey
  obtain rfl : v = Value.ref a := r1
  obtain ⟨mA, J, _⟩ := ins_get I1.hok ha
  obtain ⟨od, J, _⟩ := J.look
  obtain ⟨m0, hF⟩ := I1.fr
  refine PySem.W.owit_iter hF I1.ok.mod.kin J h1 h2 (wpAny_call ?_)
  have e0 := env0_longer I1.env0
  refine codeAny_mono (F _ X.A X.stack s1 H1 [.ref a] [.ref a] _ E hr e0 (.cons rfl .nil) (q _)) fun r s2 hq => ?_
  match r, hq with
  | .error e, hq => exact hx pins σ H1 s1 e s2 I1 hq
  | .ok .next, hq => exact hq.elim
  | .ok .brk, hq => exact hq.elim
  | .ok .cont, hq => exact hq.elim
  | .ok (.ret u), hq =>
    obtain ⟨v2, H2, I2, r2, it, t, xs, ev, hit, sz, eH, ht, qR⟩ := I1.after hq
    subst ev eH
    obtain rfl : u = Value.ref it := r2
    have x2 : s2.heap.IsTupleIter it t 0 := (I2.hok it _ upd_same).1
    have young : s1.heap.objs.size ≤ it := by
      rw [longer_size I1.env0.bsz] at sz
      exact sz
    have I3 := ItX.inv_drop I2 (φ := fun h => h.IsTupleIter it t 0) upd_same
    rw [ItX.dropH_upd hit] at I3
    unfold PySem.W.OwitIt
    refine wpAny_specialOf (name := Str.ofString "__next__") x2.typeIs PySem.F.slot_tuple_iterator_next.lookup ?_
    refine ⟨it, [it], _, Itt X.K t, H1, rfl, I3, turn_tuple t it, x2, fun b hb => ?_, qR⟩
    rw [List.mem_singleton.mp hb]
    have fo := ItX.inv_fp I2 (a := it) upd_same (Nat.le_trans I1.sz young)
    rw [ItX.dropH_upd hit] at fo
    exact fo
/-! len(o) -/
def rLenI (C : Addr) (sp : Sp) (E : XK) : List V → Hp → VK → Prop := fun xs H Q => ∃ (a dx : Addr) (fs : List (Str × V)), xs = [V.ref a] ∧ H a = some (.ins C dx fs) ∧ sp [V.ref a] H (fun v H' => ∃ i : Int, v = V.int i ∧ 0 ≤ i ∧ i < 2 ^ 63 ∧ Q (V.int i) H') E
theorem call_lenI (F : FnR X.prog X.w X.K X.mg X.base CX n f sp) (hr : Room (n + 1) X.A) (h1 : PySem.W.findIn X.K (.ref C) "__len__" = some (some (.ref f))) (h2 : PySem.W.isFn X.K (.ref f) = true) (hx : Passes CX X E) : CallR X (.builtin "len") (rLenI C sp E) := by
  intro pins s σ H xs us Q I r hq
  obtain ⟨a, dx, fs, rfl, ha, hsp⟩ := hq
  obtain ⟨u, rfl, ru⟩ := vals1 r
  cases ru
  obtain ⟨mA, J, _⟩ := ins_get I.hok ha
  obtain ⟨od, J, _⟩ := J.look
  obtain ⟨m0, hF⟩ := I.fr
  have hr2 : Room n X.A.in1 := ⟨hr.hd, by have := hr.dp; show X.A.depth + 3 * n + 5 < _; omega, by have := hr.un; show X.A.units + 1 + 16 * n + 200 < _; omega⟩
  refine PySem.W.len_K hF I.ok.mod.kin J h1 h2 (wpAny_call (codeAny_mono (own_codeR F hr2 rfl hx I (show Vals [V.ref a] [Value.ref a] from .cons rfl .nil) hsp) fun r s' z => ?_))
  match r, z with
  | .error e, z => exact z
  | .ok .next, z => exact z.elim
  | .ok .brk, z => exact z.elim
  | .ok .cont, z => exact z.elim
  | .ok (.ret u), z =>
    obtain ⟨v, H', I', rz, i, rfl, i0, i1, q⟩ := z
    obtain ⟨t, rfl⟩ := (show ∃ t, u = Value.int i t from rz)
    exact ⟨⟨i0, i1⟩, .int i, H', I'.tok _, ⟨_, rfl⟩, q⟩
/-! x in o -/
def rInI (C : Addr) (sp : Sp) (E : XK) (neg : Bool) : R2 := fun x y H Q => ∃ (a dx : Addr) (fs : List (Str × V)), y = V.ref a ∧ H a = some (.ins C dx fs) ∧ sp [V.ref a, x] H (fun v H' => ∃ b : Bool, v = V.bl b ∧ Q (V.bl (if neg then !b else b)) H') E
theorem op_inI (F : FnR X.prog X.w X.K X.mg X.base CX n f sp) (hr : Room n X.A) (h1 : PySem.W.findIn X.K (.ref C) "__contains__" = some (some (.ref f))) (h2 : PySem.W.isFn X.K (.ref f) = true) (hx : Passes CX X E) : OpR X (compareOp .In) (rInI C sp E false) := by
  intro pins s σ H x y v u Q I rx ry hq
  obtain ⟨a, dx, fs, rfl, ha, hsp⟩ := hq
  obtain rfl : u = Value.ref a := ry
  obtain ⟨mA, J, _⟩ := ins_get I.hok ha
  obtain ⟨od, J, _⟩ := J.look
  obtain ⟨m0, hF⟩ := I.fr
  refine PySem.W.in_K hF I.ok.mod.kin J h1 h2 (wpAny_call (codeAny_mono (own_codeR F hr rfl hx I (show Vals [V.ref a, x] [Value.ref a, v] from .cons rfl (.cons rx .nil)) hsp) fun r s' z => ?_))
  match r, z with
  | .error e, z => exact z
  | .ok .next, z => exact z.elim
  | .ok .brk, z => exact z.elim
  | .ok .cont, z => exact z.elim
  | .ok (.ret u), z =>
    obtain ⟨v, H', I', rz, b, rfl, q⟩ := z
    obtain rfl : u = Value.bool b := rz
    exact wpAny_pure ⟨.bl b, H', I', rfl, q⟩
/-! C(*xs) -/
def tMakeS (K : PySem.W.Frag) (C : Addr) (sp : Sp) (E : XK) (te : TE) : TE := fun σ H Q => te σ H fun y H1 => ∃ (a : Addr) (xs : List V), y = V.ref a ∧ (SqT K H1 a xs ∨ SqL K H1 a xs) ∧
  ∀ x dx, H1 x = Option.none → H1 dx = Option.none → dx ≠ x → sp (V.ref x :: xs) (upd (upd H1 dx (.own x)) x (.ins C dx [])) (fun v H2 => v = .non ∧ Q (.ref x) H2) E
theorem pe_makeS {x : Str} {e : Expr} {te : TE} {p sp_ pos : Pos} (M : Mk X.K C f) (F : FnR X.prog X.w X.K X.mg X.base CX n f sp) (hr : Room (n + 1) X.A) (hg : Gl X x) (hm : X.mg x = some (.ref C)) (hx : Passes CX X E) (he : PE X e te) (hd : (x == ("__debug__" : Str)) = false := by decide)
    (hst : starEach [.Starred e sp_] X.env = [(true, eval e X.env)] := by rfl) : PE X (.Call (.Name x p) [.Starred e sp_] [] pos) (tMakeS X.K C sp E te) := by
  refine ⟨fun pins s σ H Q I h => wpAny_Call_Name_kw (ld_glob I hg hm ?_ hd)⟩
  refine PySem.W.callWith_S (h₀ := X.base) I.ok.mod.kin M.kp (thn (he.run pins s σ H _ I h) fun v s1 hh => ?_) hst
  obtain ⟨y, H1, I1, ry, a, xs, ey, hxs, q⟩ := hh
  subst ey
  obtain rfl : v = Value.ref a := ry
  exact StX.star_any I1 hxs fun us s2 I2 rv => ⟨I2.kIn, StX.run_makeR M F hr hx I2 rv q⟩
/-- cls(*xs), cls a name of the def -/
def tMakeVS (i : Nat) (K : PySem.W.Frag) (C : Addr) (sp : Sp) (E : XK) (te : TE) : TE := fun σ H Q => σ[i]? = some (some (.ref C)) ∧ tMakeS K C sp E te σ H Q
theorem pe_makeVS {x : Str} {e : Expr} {te : TE} {p sp_ pos : Pos} {i : Nat} (M : Mk X.K C f) (F : FnR X.prog X.w X.K X.mg X.base CX n f sp) (hr : Room (n + 1) X.A) (hN : X.N[i]? = some x) (hv : Vis X.env.scope x) (hx : Passes CX X E) (he : PE X e te) (hd : (x == ("__debug__" : Str)) = false := by decide)
    (hcd : (x == ("__classdict__" : Str)) = false := by decide) (hst : starEach [.Starred e sp_] X.env = [(true, eval e X.env)] := by rfl) : PE X (.Call (.Name x p) [.Starred e sp_] [] pos) (tMakeVS i X.K C sp E te) := by
  refine ⟨fun pins s σ H Q I h => ?_⟩
  obtain ⟨hs, h⟩ := h
  refine wpAny_Call_Name_kw (thn ((pe_var (pos := p) (i := i) hN hv hd hcd).run pins s σ H (fun v H1 => v = .ref C ∧ H1 = H) I ⟨.ref C, hs, rfl, rfl⟩) fun u s1 hu => ?_)
  obtain ⟨v, H1, I1, r1, rfl, rfl⟩ := hu
  obtain rfl : u = Value.ref C := r1
  refine PySem.W.callWith_S (h₀ := X.base) I.ok.mod.kin M.kp (thn (he.run pins s1 σ _ _ I1 h) fun v s2 hh => ?_) hst
  obtain ⟨y, H2, I2, ry, a, xs, ey, hxs, q⟩ := hh
  subst ey
  obtain rfl : v = Value.ref a := ry
  exact StX.star_any I2 hxs fun us s3 I3 rv => ⟨I3.kIn, StX.run_makeR M F hr hx I3 rv q⟩
/-- C() -/
def tMakeR0 (C : Addr) (sp : Sp) (E : XK) : TE := fun σ H Q => ∀ x dx, H x = Option.none → H dx = Option.none → dx ≠ x → sp [V.ref x] (upd (upd H dx (.own x)) x (.ins C dx [])) (fun v H2 => v = .non ∧ Q (.ref x) H2) E
theorem pe_makeR0 {x : Str} {p pos : Pos} (M : Mk X.K C f) (F : FnR X.prog X.w X.K X.mg X.base CX n f sp) (hr : Room (n + 1) X.A) (hg : Gl X x) (hm : X.mg x = some (.ref C)) (hx : Passes CX X E) (hd : (x == ("__debug__" : Str)) = false := by decide) : PE X (.Call (.Name x p) [] [] pos) (tMakeR0 C sp E) := by
  refine ⟨fun pins s σ H Q I h => wpAny_Call_Name_kw (ld_glob I hg hm ?_ hd)⟩
  exact PySem.W.callWith_K0 (first := []) I.kIn M.kp (StX.run_makeR (us := []) (vs := []) M F hr hx I .nil h)
end
/-! defs with a star parameter, any number of values -/
theorem bindV_any {fd : FuncData} {pa pv : Str} (h0 : ∀ u, bindArgs fd ⟨[u], []⟩ = (newTuple [] >>= fun t => pure [(pa, u), (pv, t)])) (h1 : ∀ u a, bindArgs fd ⟨[u, a], []⟩ = (newTuple [a] >>= fun t => pure [(pa, u), (pv, t)]))
    (h2 : ∀ u a b r, bindArgs fd ⟨u :: a :: b :: r, []⟩ = (newTuple (a :: b :: r) >>= fun t => pure [(pa, u), (pv, t)])) (m : Nat) : BindV fd pa pv m := fun u rest _ => match rest with
  | [] => h0 u
  | [a] => h1 u a
  | a :: b :: r => h2 u a b r
theorem Fun.okS {P : Program} {w : World} {K : PySem.W.Frag} {mg : Str → Option Value} {base : Heap} {x qual : Str} {st : Stmt} {f : Addr} {fd : FuncData} {N : List Str} {pa pv : Str} {k : Nat} {sp : Sp} (F : Fun K x qual st f fd) (S : FnScope N [pa, pv] (defScope st)) (hb : BindV fd pa pv sizeLine)
    (hbody : ∀ (cdv : Value) (A : Around) (outer : List Env) (s : Shared) (H : Hp) (vs : List V) (Q : VK) (E : XK), Room k (A.deeper (envOfC qual (defScope st) s.heap.objs.size f cdv)) → sp vs H Q E →
      ∃ t, PSs (cxOf (L2.CX P w) P w K mg base N qual (defScope st) f cdv A outer s H E) (defBody st) t ∧ t { nx := fun _ H' => Q .non H', rt := Q } (start N vs) H) :
    FnR P w K mg base (L2.CX P w) (k + 1) f (fun vs H Q E => ∃ v rest, vs = v :: rest ∧ rest.length ≤ sizeLine ∧ ∀ p, H p = none → sp [v, .ref p] (upd H p (.tup rest)) Q E) := by
  obtain ⟨oc, od, kV, doc, pm, an, cdv, ct, osl, rfl, lk, hcd⟩ := F.ex
  exact fn_ofV lk hcd S (Nat.le_refl _) hb cxNew fun A outer s H vs Q E hr hsp => hbody cdv A outer s H vs Q E hr hsp
/-- what the top has written of a class's methods -/
def methB (K : PySem.W.Frag) (C : Addr) (m : Str) : Bool := He.eqO (PySem.W.findIn K (.ref C) m) (some (some (.ref (He.ma K C m)))) && PySem.W.isFn K (.ref (He.ma K C m))
theorem meth_of {K : PySem.W.Frag} {C : Addr} {m : Str} (h : methB K C m = true) : PySem.W.findIn K (.ref C) m = some (some (.ref (He.ma K C m))) ∧ PySem.W.isFn K (.ref (He.ma K C m)) = true := by
  obtain ⟨h1, h2⟩ := He.ba h
  exact ⟨He.eqO_ok h1, h2⟩
end L2
set_option maxRecDepth 100000
set_option maxHeartbeats 4000000
/-! set(xs) of a list of ints, sorted(set(xs)) -/
namespace L2
open PySem PySem.Spec PyProof.Rows
/-! the ascending list of a list's ints -/
def insU (k : Int) : List Int → List Int
  | [] => [k]
  | y :: r => if k < y then k :: y :: r else if k = y then y :: r else y :: insU k r
def sortU : List Int → List Int
  | [] => []
  | k :: r => insU k (sortU r)
theorem mem_insU {k x : Int} : ∀ {l : List Int}, x ∈ insU k l ↔ x = k ∨ x ∈ l
  | [] => by simp [insU]
  | y :: r => by
    have ih := mem_insU (k := k) (x := x) (l := r)
    unfold insU
    split
    · simp
    · split
      · rename_i h1 h2
        subst h2
        simp
      · simp only [List.mem_cons, ih]
        constructor
        · rintro (h | h | h)
          · exact .inr (.inl h)
          · exact .inl h
          · exact .inr (.inr h)
        · rintro (h | h | h)
          · exact .inr (.inl h)
          · exact .inl h
          · exact .inr (.inr h)
theorem mem_sortU {x : Int} : ∀ {l : List Int}, x ∈ sortU l ↔ x ∈ l
  | [] => Iff.rfl
  | k :: r => by
    show x ∈ insU k (sortU r) ↔ _
    rw [mem_insU, mem_sortU, List.mem_cons]
theorem insU_asc {k : Int} : ∀ {l : List Int}, l.Pairwise (· < ·) → (insU k l).Pairwise (· < ·)
  | [], _ => by simp [insU]
  | y :: r, h => by
    obtain ⟨h1, h2⟩ := List.pairwise_cons.mp h
    unfold insU
    split
    · rename_i c
      refine List.pairwise_cons.mpr ⟨fun z hz => ?_, h⟩
      rcases List.mem_cons.mp hz with rfl | hz
      · exact c
      · exact Int.lt_trans c (h1 z hz)
    · split
      · exact h
      · refine List.pairwise_cons.mpr ⟨fun z hz => ?_, insU_asc h2⟩
        rcases mem_insU.mp hz with rfl | hz
        · omega
        · exact h1 z hz
theorem sortU_asc : ∀ (l : List Int), (sortU l).Pairwise (· < ·)
  | [] => .nil
  | _ :: r => insU_asc (sortU_asc r)
/-- two ascending lists of the same ints are one -/
theorem asc_ext : ∀ {a b : List Int}, a.Pairwise (· < ·) → b.Pairwise (· < ·) → (∀ x, x ∈ a ↔ x ∈ b) → a = b
  | [], [], _, _, _ => rfl
  | [], y :: r, _, _, h => absurd ((h y).mpr List.mem_cons_self) (by simp)
  | x :: r, [], _, _, h => absurd ((h x).mp List.mem_cons_self) (by simp)
  | x :: r, y :: t, ha, hb, h => by
    obtain ⟨a1, a2⟩ := List.pairwise_cons.mp ha
    obtain ⟨b1, b2⟩ := List.pairwise_cons.mp hb
    have e : x = y := by
      rcases List.mem_cons.mp ((h x).mp List.mem_cons_self) with q | q
      · exact q
      · rcases List.mem_cons.mp ((h y).mpr List.mem_cons_self) with p | p
        · exact p.symm
        · have := a1 y p
          have := b1 x q
          omega
    subst e
    refine congrArg (x :: ·) (asc_ext a2 b2 fun z => ⟨fun hz => ?_, fun hz => ?_⟩)
    · rcases List.mem_cons.mp ((h z).mp (List.mem_cons_of_mem _ hz)) with q | q
      · have := a1 z hz
        omega
      · exact q
    · rcases List.mem_cons.mp ((h z).mpr (List.mem_cons_of_mem _ hz)) with q | q
      · have := b1 z hz
        omega
      · exact q
theorem sortU_id {l : List Int} (h : l.Pairwise (· < ·)) : sortU l = l := asc_ext (sortU_asc l) h fun _ => mem_sortU
theorem insU_len (k : Int) : ∀ (l : List Int), (insU k l).length ≤ l.length + 1
  | [] => Nat.le_refl _
  | y :: r => by
    have := insU_len k r
    unfold insU
    split
    · simp
    · split
      · simp
      · simp only [List.length_cons]
        omega
theorem sortU_len : ∀ (l : List Int), (sortU l).length ≤ l.length
  | [] => Nat.le_refl _
  | k :: r => by
    have h1 := insU_len k (sortU r)
    have h2 := sortU_len r
    show (insU k (sortU r)).length ≤ r.length + 1
    omega
theorem sortU_ne {l : List Int} (h : l ≠ []) : sortU l ≠ [] := fun z => by
  cases l with
  | nil => exact h rfl
  | cons x r =>
    have m : x ∈ sortU (x :: r) := mem_sortU.mpr List.mem_cons_self
    rw [z] at m
    cases m
theorem asc_nodup {l : List Int} (h : l.Pairwise (· < ·)) : l.Nodup := h.imp fun {a b} z e => by
  rw [e] at z
  exact absurd z (Int.lt_irrefl _)
theorem len_of_same {a b : List Int} (ha : a.Nodup) (hb : b.Nodup) (h : ∀ x, x ∈ a ↔ x ∈ b) : a.length = b.length :=
  ((List.perm_ext_iff_of_nodup ha hb).mpr h).length_eq
section
variable {P : Program} {w : World} {A : Around} {E : Value → Shared → Prop} {s : Shared}
/-- a set just made -/
abbrev emptyS (w : World) : Obj := { cls := .type "set", dict := none, data := .set #[] 0 (.fresh 0 0 (!w.params.followText "set-order")) }
/-- what has become of the state: the set of ns stands at a -/
def SetDone (w : World) (s : Shared) (ns : List Int) (u : Shared) : Prop := ∃ (g : Heap) (tk c : Nat), u = { s with heap := g, toks := tk } ∧ SetR w g s.heap.objs.size (fun j => decide (j ∈ ns)) c ∧ (∀ b o, s.heap.get? b = some o → g.get? b = some o)
set_option maxRecDepth 100000 in
theorem call_set_ints {l : Addr} {xs : Array Value} (ns : List Int) {Q : Value → Shared → Prop} (free : A.handled = none) (isl : s.heap.IsList l xs) (are : IntsAre xs.toList ns) (few : ns.length + 1 < scanBound)
    (h : ∀ u, SetDone w s ns u → Q (.ref s.heap.objs.size) u) : wpAny (model P w) A (call (.type "set") [.ref l]) Q E s := by
  have size : xs.size = ns.length := (Array.length_toList (xs := xs)).symm.trans are.length
  obtain ⟨mc, mt, em⟩ := F.called_set.mro
  have e1 := F.called_set.made
  have e2 := F.called_set.sub
  have e3 := F.called_set.notType
  have e4 := F.called_set.canCreate
  have e5 := F.typeCall_set_1 (.ref l)
  refine wpAny_call (codeAny_of_tree (show wpAny _ _ (callAny (.type "set") _) _ _ _ from wpAny_pure ⟨Code.quiet_builtin _ (by decide +kernel), codeAny_builtin F.entry_type_call ?_⟩))
  rw [Around.under_plain (weight_type_call_type "set" [.ref l] []) rfl]
  repeat (any_goals (first | assumption | wp_step))
  refine codeAny_mono (code_set_led1 (.ref l) (E := E) (Q₁ := fun y u => y = .ref s.heap.objs.size ∧ u = { s with heap := s.heap.push (emptyS w) }) ⟨rfl, rfl⟩) fun r u hr => ?_
  match r, hr with
  | .error e, hr => exact hr
  | .ok .next, hr => exact hr.elim
  | .ok .brk, hr => exact hr.elim
  | .ok .cont, hr => exact hr.elim
  | .ok (.ret y), ⟨ey, eu⟩ =>
    subst ey eu
    have got : (s.heap.push (emptyS w)).get? s.heap.objs.size = some (emptyS w) := Heap.get?_push_size _ rfl
    have isS : Shared.TypeIs { s with heap := s.heap.push (emptyS w) } (.ref s.heap.objs.size) "set" := ⟨_, got, rfl⟩
    have e6 := F.called_set.init.lookup
    have e7 := F.called_set.init.bind (.ref s.heap.objs.size)
    repeat (any_goals (first | assumption | wp_step))
    refine codeAny_mono (codeAny_call_builtin (R := wants (fun r2 u2 => r2 = .none ∧ SetDone w s ns u2) E) F.called_set.init.plain F.entry_set_init (check_set_init_1 isS ?_)) fun r2 u2 hr2 => ?_
    · obtain ⟨⟨oc, od, odt, osl⟩, olk, ocl, on, oda⟩ := isl
      simp only at ocl oda
      subst ocl oda
      have olk1 : (s.heap.push (emptyS w)).get? l = some { cls := .type "list", dict := od, data := .seq xs on, slots := osl } := Heap.get?_push_of_some _ olk
      have f1 := F.sub_list_set
      have f2 := F.sub_list_frozenset
      have f3 : (Value.type "list" == Value.type "dict") = false := by decide
      have isl1 : (s.heap.push (emptyS w)).IsList l xs := ⟨_, olk1, rfl, on, rfl⟩
      have ls : l < s.heap.objs.size := Heap.lt_size olk
      have ls1 : l ≠ (s.heap.push (emptyS w)).objs.size := by
        rw [Heap.size_push]
        exact Nat.ne_of_lt (Nat.lt_succ_of_lt ls)
      have ss1 : s.heap.objs.size ∉ [(s.heap.push (emptyS w)).objs.size, l] := by
        rw [Heap.size_push]
        intro z
        rcases List.mem_cons.mp z with z | z
        · exact absurd z (Nat.ne_of_lt (Nat.lt_succ_self _))
        · exact absurd (List.mem_singleton.mp z) (Nat.ne_of_gt ls)
      unfold Builtin.«set.__init__» noKeywords Builtin.Frozenset.updateFrom
      generalize ePI : pyIter = PI0
      wp_walk
      subst ePI
      refine wpAny_pyIter_list isl1 (wpAny_bind (wpAny_runValue ?_))
      have free3 : A.in1.in1.in1.handled = none := by simp [free]
      refine set_update_ints ((Walks.list free3 _ l ls1 xs).toS) s.heap.objs.size ss1 ns size few (fun i v hv => ?_) (xs.size - 0) 0 _ (by omega) (Nat.zero_le _) ⟨⟨_, Heap.get?_push_size _ rfl, rfl, rfl⟩, isl1.push _⟩ ⟨0, Nat.le_refl 0, setR_new_at (Heap.get?_push_of_some _ got)⟩ fun u3 c hm hc hS => ?_
      · have hi : i < ns.length := by
          rw [← size]
          exact (Array.getElem?_eq_some_iff.mp hv).1
        obtain ⟨t, e⟩ := PyProof.Rows.IntsAre.int_at are i v (by rw [Array.getElem?_toList]; exact hv)
        refine ⟨ns[i], t, List.getElem?_eq_getElem hi, e.trans ?_⟩
        rw [List.getD_eq_getElem?_getD, List.getElem?_eq_getElem hi]
        rfl
      · obtain ⟨h3, g3, d3, t3, o3⟩ := u3
        have q1 : g3 = s.gens := hm.gens
        have q2 : d3 = s.drawn := hm.drawn
        have q3 : o3 = s.os := hm.os
        subst q1 q2 q3
        show wpAny _ _ _ _ _ _
        refine wpAny_pure ?_
        show wpAny _ _ (ret Value.none) _ _ _
        refine wpAny_pure ⟨rfl, h3, t3, c, rfl, hS, fun b o e => ?_⟩
        have hb : b < s.heap.objs.size := Heap.lt_size e
        refine hm.heap b o (fun z => ?_) (Heap.get?_push_of_some _ (Heap.get?_push_of_some _ e))
        rcases List.mem_cons.mp z with z | z
        · exact absurd z (Nat.ne_of_lt hb)
        · have y := List.mem_singleton.mp z
          rw [Heap.size_push] at y
          exact absurd y (Nat.ne_of_lt (Nat.lt_succ_of_lt hb))
    · match r2, hr2 with
      | .error e, hr2 => exact hr2
      | .ok .next, hr2 => exact hr2.elim
      | .ok .brk, hr2 => exact hr2.elim
      | .ok .cont, hr2 => exact hr2.elim
      | .ok (.ret y2), ⟨e8, done⟩ =>
        subst e8
        repeat (any_goals (first | assumption | wp_step))
        exact h _ done
end
section
variable {X : Cx}
/-- set(xs) -/
def rSetInts (K : PySem.W.Frag) (w : World) : List V → Hp → VK → Prop := fun xs H Q => ∃ (l : Addr) (ns : List Int), xs = [V.ref l] ∧ SqL K H l (ns.map V.int) ∧ ns.length ≤ 4000 ∧
  ∀ p, H p = none → Q (.ref p) (upd H p (SetO w p (fun j => decide (j ∈ ns)) (sortU ns).length))
theorem cr_setInts (hc : X.calm = true) : CallR X (.type "set") (rSetInts X.K X.w) := by
  intro pins s σ H xs us Q I r h
  obtain ⟨l, ns, rfl, hq, hl, q⟩ := h
  obtain ⟨u, rfl, ru⟩ := vals1 r
  cases ru
  obtain ⟨its, rv, pl, hz⟩ := I.list hq
  refine call_set_ints ns (I.ok.hd hc) pl.isList (by simpa using ints_of_vals rv) (by unfold scanBound; omega) fun u hu => ?_
  obtain ⟨g, tk, c, rfl, R, kp⟩ := hu
  have ec : c = (sortU ns).length := by
    obtain ⟨o, es, ep, t, ho, hex, hd, gd, nd, hm, hb, hf, hn, hr, hl2⟩ := R
    rw [← hn, ← Array.length_toList (xs := es), ← List.length_map (f := keyOf)]
    exact len_of_same nd (asc_nodup (sortU_asc ns)) fun x => by rw [mem_sortU, ← hm x, decide_eq_true_eq]
  rw [ec] at R
  exact ⟨.ref s.heap.objs.size, _, I.laid (t' := tk) kp (Nat.le_refl _) (setO_new R), rfl, q _ (I.hok.fresh (Nat.le_refl _))⟩
/-- sorted(set(xs)) -/
def rSortS (w : World) : List V → Hp → VK → Prop := fun vs H Q => ∃ (a : Addr) (ns : List Int), vs = [V.ref a] ∧ H a = some (SetO w a (fun j => decide (j ∈ ns)) (sortU ns).length) ∧ (sortU ns).length < 64 ∧
  ∀ p, H p = none → Q (.ref p) (upd H p (.lst ((sortU ns).map V.int)))
theorem cr_sortS (hc : X.calm = true) : CallR X (.builtin "sorted") (rSortS X.w) := fun pins s σ H xs us Q I r h => by
  obtain ⟨a, ns, e1, e2, e3, q⟩ := h
  refine cr_sortedSet hc pins s σ H xs us Q I r ⟨a, _, _, e1, e2, e3, fun ms p asc mem _ hp => ?_⟩
  have e : ms = sortU ns := asc_ext asc (sortU_asc ns) fun x => by rw [mem x, mem_sortU, decide_eq_true_eq]
  rw [e]
  exact q p hp
end
end L2
set_option maxRecDepth 100000
/-! numbers written in words -/
namespace L2
open PySem PySem.NumText TL
def numT (n : Nat) : Str := Str.ofString (toString ((n : Nat) : Int))
theorem tl_numT (n : Nat) : tl (numT n) = numL n := tl_num n
theorem str_ext {a b : Str} (h : tl a = tl b) : a = b := by
  cases a with
  | mk x =>
    cases b with
    | mk y =>
      have e : x.toList = y.toList := h
      rw [show x = y from Array.toList_inj.mp e]
theorem numT_inj {m n : Nat} (h : numT m = numT n) : m = n := numL_inj (by rw [← tl_numT, ← tl_numT, h])
def valT (w : Str) : Nat := digitsVal (tl w)
theorem valT_num (n : Nat) : valT (numT n) = n := by
  unfold valT
  rw [tl_numT]
  exact numL_val n
theorem numL_mono : ∀ (m n : Nat), n ≤ m → (numL n).length ≤ (numL m).length := by
  intro m
  induction m using Nat.strongRecOn with
  | _ m ih =>
    intro n h
    by_cases hn : n < 10
    · rw [numL_lt hn]
      show 1 ≤ _
      exact List.length_pos_iff.mpr (numL_ne m)
    · rw [numL_step (n := n) (by omega), numL_step (n := m) (by omega), List.length_append, List.length_append]
      have := ih (m / 10) (by omega) (n / 10) (Nat.div_le_div_right h)
      simp only [List.length_singleton]
      omega
/-- the number that a word tells, no greater than most -/
def numW (most : Nat) (w : Str) : Option Nat := if numT (valT w) = w ∧ valT w ≤ most then some (valT w) else none
theorem numW_eq {most n : Nat} {w : Str} : numW most w = some n ↔ w = numT n ∧ n ≤ most := by
  unfold numW
  by_cases c : numT (valT w) = w ∧ valT w ≤ most
  · rw [if_pos c]
    constructor
    · intro h
      have e := Option.some.inj h
      rw [← e]
      exact ⟨c.1.symm, c.2⟩
    · rintro ⟨h, _⟩
      rw [h, valT_num]
  · rw [if_neg c]
    constructor
    · intro h
      cases h
    · rintro ⟨h, l⟩
      exact absurd (by rw [h, valT_num]; exact ⟨rfl, l⟩) c
theorem numW_num {most n : Nat} (h : n ≤ most) : numW most (numT n) = some n := numW_eq.mpr ⟨rfl, h⟩
theorem numW_none {most : Nat} {w : Str} (h : ∀ n, n ≤ most → w ≠ numT n) : numW most w = none := by
  cases e : numW most w with
  | none => rfl
  | some n => exact absurd (numW_eq.mp e).1 (h n (numW_eq.mp e).2)
def digB (w : Str) : Bool := (tl w).all fun c => decide (48 ≤ c ∧ c ≤ 57)
theorem digB_num (n : Nat) : digB (numT n) = true := by
  unfold digB
  rw [tl_numT]
  exact List.all_eq_true.mpr fun c hc => decide_eq_true (numL_digits n c hc)
theorem len_numT (n : Nat) : (numT n).length = (numL n).length := by
  rw [len_tl, tl_numT]
theorem pos_numT (n : Nat) : 1 ≤ (numT n).length := by
  rw [len_numT]
  exact List.length_pos_iff.mpr (numL_ne n)
theorem int_dig {w : Str} (h : digB w = true) (h1 : 1 ≤ w.length) (h2 : w.length ≤ 4300) : intText? w = some ((valT w : Nat) : Int) := by
  refine intText_digits (fun c hc => of_decide_eq_true (List.all_eq_true.mp h c hc)) (fun z => ?_) h2
  rw [len_tl, show tl w = [] from z] at h1
  exact absurd h1 (by decide)
theorem dig_in (c : Nat) : decide (c ∈ ("0123456789" : Str).cps.toList) = decide (48 ≤ c ∧ c ≤ 57) := by
  have e : ("0123456789" : Str).cps.toList = [48, 49, 50, 51, 52, 53, 54, 55, 56, 57] := by decide +kernel
  rw [e]
  by_cases h : 48 ≤ c ∧ c ≤ 57
  · rw [decide_eq_true h]
    have : c = 48 ∨ c = 49 ∨ c = 50 ∨ c = 51 ∨ c = 52 ∨ c = 53 ∨ c = 54 ∨ c = 55 ∨ c = 56 ∨ c = 57 := by omega
    rcases this with rfl | rfl | rfl | rfl | rfl | rfl | rfl | rfl | rfl | rfl <;> decide
  · rw [decide_eq_false h]
    refine decide_eq_false fun m => h ?_
    simp only [List.mem_cons, List.not_mem_nil, or_false] at m
    omega
theorem valT_lt {w : Str} (h : digB w = true) : valT w < 10 ^ w.length := by
  have key : ∀ (cs : List Nat) (a : Nat), (∀ c ∈ cs, 48 ≤ c ∧ c ≤ 57) → cs.foldl (fun acc c => acc * 10 + (c - 48)) a < (a + 1) * 10 ^ cs.length := by
    intro cs
    induction cs with
    | nil => intro a _; simp
    | cons c r ih =>
      intro a hh
      have hc := hh c List.mem_cons_self
      have q := ih (a * 10 + (c - 48)) fun d hd => hh d (List.mem_cons_of_mem _ hd)
      rw [List.foldl_cons]
      refine Nat.lt_of_lt_of_le q ?_
      rw [List.length_cons, Nat.pow_succ, Nat.mul_comm (10 ^ r.length) 10, ← Nat.mul_assoc]
      exact Nat.mul_le_mul_right _ (by omega)
  have z := key (tl w) 0 fun c hc => of_decide_eq_true (List.all_eq_true.mp h c hc)
  rw [len_tl]
  simpa [valT, digitsVal] using z
end L2
set_option maxRecDepth 100000
namespace Toy
open PySem L2 TL
abbrev s_is_integer : Stmt := top 2
abbrev s_is_within : Stmt := top 3
abbrev s_whole_in : Stmt := top 13
structure TR (mg : Str → Option Value) : Prop where
  m_isinstance : mg "isinstance" = none
  m_int : mg "int" = none
  m_bool : mg "bool" = none
  m_len : mg "len" = none
  m_all : mg "all" = none
  m_str : mg "str" = none
  m_list : mg "list" = none
  m_tuple : mg "tuple" = none
  m_range : mg "range" = none
  m_set : mg "set" = none
  m_sorted : mg "sorted" = none
  m_iter : mg "iter" = none
  m_repr : mg "repr" = none
  m_enumerate : mg "enumerate" = none
  g_DIGITS : ∃ t, mg "DIGITS" = some (.str "0123456789" t)
  g_GREATEST : ∃ t, mg "GREATEST" = some (.int (10 ^ 30) t)
def spIsInt (K : PySem.W.Frag) : Sp := fun vs H Q _ => ∃ (x : V) (S : String), vs = [x] ∧ Plain K H x S ∧ Q (.bl (isI x)) H
def withinV (lo hi : Int) : V → Bool
  | .int i => decide (lo ≤ i ∧ i ≤ hi)
  | _ => false
def spWithin (K : PySem.W.Frag) : Sp := fun vs H Q _ => ∃ (x : V) (S : String) (lo hi : Int), vs = [x, .int lo, .int hi] ∧ Plain K H x S ∧ Q (.bl (withinV lo hi x)) H
theorem plain_same {K : PySem.W.Frag} {H H' : Hp} {x : V} {S : String} (s : Same H H') (h : Plain K H x S) : Plain K H' x S := by
  cases h with
  | non => exact .non
  | bl b => exact .bl b
  | int i => exact .int i
  | str z => exact .str z
  | lst e => exact .lst (s _ _ e)
  | tup e => exact .tup (s _ _ e)
  | dK e => exact .dK (s _ _ e)
/-- whole_in(word, most) -/
def numV (most : Nat) (w : Str) : V := match numW most w with
  | some n => .int (n : Int)
  | none => .non
def spWhole : Sp := fun vs H Q _ => ∃ (w : Str) (most : Nat), vs = [.str w, .int (most : Int)] ∧ w.length ≤ PySem.sizeLine ∧ most < 10 ^ 60 ∧ ∀ H', Same H H' → Q (numV most w) H'
theorem numV_bad {m : Nat} {z : Str} (h : ∀ n, n ≤ m → z = numT n → False) : numV m z = .non := by
  unfold numV
  rw [numW_none fun n hn e => h n hn e]
theorem numV_ok {m n : Nat} {z : Str} (e : z = numT n) (h : n ≤ m) : numV m z = .int (n : Int) := by
  unfold numV
  rw [e, numW_num h]
/-- which signs are digits -/
def digs (cs : List Nat) : List Bool := cs.map fun c => decide (48 ≤ c ∧ c ≤ 57)
theorem digs_all (z : Str) : (digs (tl z)).all id = digB z := by
  unfold digs digB
  rw [List.all_map]
  rfl
theorem log_small {n : Nat} (h : n < 10 ^ 70) : ((n : Nat) : Int).natAbs.log2 < 1920 := by
  show n.log2 < 1920
  by_cases c : n = 0
  · rw [c]
    decide
  · have := (Nat.log2_lt (n := n) (k := 240) c).mpr (Nat.lt_trans h (by decide +kernel))
    omega
section
variable {P : Program} {w : World} {K : PySem.W.Frag} {mg : Str → Option Value} {base : Heap}
theorem sc_is_integer : FnScope ["value"] ["value"] (defScope s_is_integer) := ⟨rfl, rfl, rfl, by decide +kernel, rfl, by decide +kernel, by decide +kernel⟩
theorem ok_is_integer {f : Addr} {fd : FuncData} (F : Fun K "is_integer" "is_integer" s_is_integer f fd) (T : TR mg) : FnOk P w K mg base CX0 1 f fd ["value"] (spIsInt K) := by
  refine F.ok sc_is_integer (fun vs H Q E h => ?_) (fun cdv A outer s H vs Q E hr h => ?_)
  · obtain ⟨x, S, rfl, _⟩ := h
    rfl
  · obtain ⟨x, S, rfl, hx, k⟩ := h
    refine ⟨_, (pss_one (ps_ret (pe_and (pe_callB call_isi (by rfl) T.m_isinstance (by decide +kernel) (pa_cons (pv 0) (pa_cons (pe_bltn (v := .ty "int") (u := .type "int") rfl T.m_int (by decide +kernel) rfl) pa_nil))) (pe_one (pe_not (pe_callB call_isi (by rfl) T.m_isinstance (by decide +kernel) (pa_cons (pv 0) (pa_cons (pe_bltn (v := .ty "bool") (u := .type "bool") rfl T.m_bool (by decide +kernel) rfl) pa_nil)))))))), ?_⟩
    refine ⟨_, rfl, _, _, _, _, _, rfl, .ty _, hx.ty, hx.kInt, _, rfl, ?_⟩
    cases hi : isI x with
    | true =>
      refine ⟨_, rfl, _, _, _, _, _, rfl, .ty _, hx.ty, hx.kBool, _, rfl, ?_⟩
      have hb : isB x = false := by
        cases x <;> first | rfl | (cases hi)
      rw [hb]
      rw [hi] at k
      exact k
    | false =>
      cases hb : isB x with
      | true =>
        refine ⟨_, rfl, _, _, _, _, _, rfl, .ty _, hx.ty, hx.kBool, _, rfl, ?_⟩
        rw [hb]
        rw [hi] at k
        exact k
      | false =>
        rw [hi] at k
        exact k
theorem sc_is_within : FnScope ["value", "least", "most"] ["value", "least", "most"] (defScope s_is_within) := ⟨rfl, rfl, rfl, by decide +kernel, rfl, by decide +kernel, by decide +kernel⟩
theorem ok_is_within {f fI : Addr} {fd fdI : FuncData} (F : Fun K "is_within" "is_within" s_is_within f fd) (T : TR mg) (FI : Fun K "is_integer" "is_integer" s_is_integer fI fdI) (gI : mg "is_integer" = some (.ref fI)) (bI : Binds K fdI ["value"] []) :
    FnOk P w K mg base CX0 2 f fd ["value", "least", "most"] (spWithin K) := by
  have GI : FnOk P w K mg base CX0 1 fI fdI ["value"] (spIsInt K) := ok_is_integer FI T
  have kI := FI.kp
  refine F.ok sc_is_within (fun vs H Q E h => ?_) (fun cdv A outer s H vs Q E hr h => ?_)
  · obtain ⟨x, S, lo, hi, rfl, _⟩ := h
    rfl
  · obtain ⟨x, S, lo, hi, rfl, hx, k⟩ := h
    refine ⟨_, (pss_one (ps_ret (pe_and (pe_call GI hr rfl gI kI bI .nil pass0 (pa_cons (pv 0) pa_nil)) (pe_one (pe_chain op_le op_le (pv 1) (pv 0) (pv 2)))))), ?_⟩
    refine ⟨_, rfl, _, _, rfl, hx, _, rfl, ?_⟩
    cases x with
    | int i =>
      refine ⟨_, rfl, _, rfl, _, _, rfl, rfl, _, rfl, ?_⟩
      refine ite2 (fun c1 => ?_) (fun c1 => ?_)
      · refine ⟨_, rfl, _, _, rfl, rfl, ?_⟩
        have e : decide (i ≤ hi) = withinV lo hi (.int i) := by
          have c2 := of_decide_eq_true c1
          simp [withinV, c2]
        show Q (V.bl (decide (i ≤ hi))) H
        rw [e]
        exact k
      · have e : withinV lo hi (.int i) = false := by
          have c2 : ¬ lo ≤ i := fun z => c1 (decide_eq_true z)
          simp [withinV, c2]
        rw [e] at k
        exact k
    | _ => exact k
abbrev N_whole_in : List Str := ["word", "most", "letter", "number"]
theorem sc_whole_in : FnScope N_whole_in ["word", "most"] (defScope s_whole_in) := ⟨rfl, rfl, rfl, by decide +kernel, rfl, by decide +kernel, by decide +kernel⟩
theorem ok_whole_in {f : Addr} {fd : FuncData} (F : Fun K "whole_in" "whole_in" s_whole_in f fd) (T : TR mg) : FnOk P w K mg base CX0 1 f fd ["word", "most"] spWhole := by
  refine F.ok sc_whole_in (fun vs H Q E h => ?_) (fun cdv A outer s H vs Q E hr h => ?_)
  · obtain ⟨z, m, rfl, _⟩ := h
    rfl
  · obtain ⟨z, m, rfl, hz, hm, k⟩ := h
    refine ⟨_, (pss_cons (ps_if (PW.pt (pw_or (pt_not (pt_chain op_le op_le pe_int (pe_callB call_len_str (by rfl) T.m_len (by decide +kernel) (pa_cons (pv 0) pa_nil)) (pe_callB call_len_str (by rfl) T.m_len (by decide +kernel) (pa_cons (pe_callTy call_str_int (by rfl) T.m_str (by decide +kernel) (pa_cons (pv 1) pa_nil)) pa_nil)))) (pw_or1 (pt_not (pt_val (pe_callB (cr_all rfl) (by rfl) T.m_all (by decide +kernel) (pa_cons (pe_lc (own := [("letter", 2)]) (g := (gName 2)) (tt := tYes) rfl sc_whole_in.nd (pi_str (pv 0)) (blkOk_by (N := N_whole_in) (sc := defScope s_whole_in) (by decide +kernel)) (fun _ _ _ _ _ => (pg_name (i := 2) sc_whole_in.nd rfl (Or.inl rfl))) (fun _ _ _ _ _ => pts_nil) (fun _ _ _ _ _ => (pe_cmpR op_in_sign (pv 2) (pe_glob (v := .str "0123456789") rfl T.g_DIGITS.choose_spec ⟨_, rfl⟩) (by rfl)))) pa_nil))))))) (pss_one (ps_ret pe_non)) pss_nil)
 (pss_cons (ps_set (i := 3) sc_whole_in.nd rfl (Or.inl rfl) (by exact (pe_callTy call_int_str (by rfl) T.m_int (by decide +kernel) (pa_cons (pv 0) pa_nil))))
 (pss_cons (ps_if (PW.pt (pw_or (pt_cmpR op_gt (pv 3) (pv 1) (nomark _)) (pw_or1 (pt_cmpR op_ne (pe_callTy call_str_int (by rfl) T.m_str (by decide +kernel) (pa_cons (pv 3) pa_nil)) (pv 0) (nomark _))))) (pss_one (ps_ret pe_non)) pss_nil)
 (pss_one (ps_ret (pv 3)))))), ?_⟩
    have hm2 : ((m : Nat) : Int).natAbs.log2 < 1920 := log_small (Nat.lt_trans hm (by decide +kernel))
    have ml : (Str.ofString (toString ((m : Nat) : Int))).length ≤ 60 := by
      show (numT m).length ≤ 60
      rw [len_numT]
      exact numL_len (by decide) hm
    have bad : (∀ n, n ≤ m → z = numT n → False) → ∀ G, Same H G → Q V.non G := fun h G s => by
      rw [← numV_bad h]
      exact k G s
    refine ⟨_, rfl, _, rfl, hz, _, _, rfl, rfl, _, rfl, ?_⟩
    refine ite2 (fun c1 => ?_) (fun c1 => ?_)
    rotate_left
    · refine ⟨_, rfl, iteT (iteT (bad (fun n _ e => c1 (decide_eq_true ?_)) H (Same.refl H)))⟩
      rw [e]
      have := pos_numT n
      omega
    have c1' : 1 ≤ z.length := by
      have := of_decide_eq_true c1
      omega
    refine ⟨_, rfl, _, rfl, hm2, _, rfl, (by rw [sizeLine_eq]; omega), _, _, rfl, rfl, _, rfl, ?_⟩
    have mb : ∀ n, n ≤ m → z = numT n → z.length ≤ (Str.ofString (toString ((m : Nat) : Int))).length := fun n hn e => by
      rw [e, len_numT, show (Str.ofString (toString ((m : Nat) : Int))).length = (numL m).length from len_numT m]
      exact numL_mono m n hn
    cases c2 : decide ((z.length : Int) ≤ ((Str.ofString (toString ((m : Nat) : Int))).length : Int)) with
    | false => exact iteT (iteT (bad (fun n hn e => of_decide_eq_false c2 (by have := mb n hn e; omega)) H (Same.refl H)))
    | true =>
      have l60 : z.length ≤ 60 := by
        have := of_decide_eq_true c2
        omega
      refine iteF ?_
      refine ⟨_, rfl, z, rfl, fun D hD => ?_⟩
      have sz : z.cps.size = (tl z).length := Array.length_toList.symm
      refine lc_it walk_str (fun i G => G = upd H D (.lst ((digs ((tl z).take i)).map V.bl))) rfl (fun _ _ _ _ => trivial) ?_ ?_
      · rintro i x G G' hi rfl ⟨rfl, c, hc, rfl⟩
        have hc2 : (tl z)[i]? = some c := by
          show z.cps.toList[i]? = _
          rw [Array.getElem?_toList]
          exact hc
        refine ⟨rfl, _, rfl, c, _, rfl, rfl, _, upd_same, small1000 (by unfold digs; rw [List.length_map, List.length_map, List.length_take]; rw [len_tl] at l60; omega), ?_⟩
        rw [upd_upd, dig_in, List.take_add_one, hc2]
        unfold digs
        rw [List.map_append, List.map_append]
        rfl
      · rintro G rfl
        rw [sz, List.take_length]
        have s1 : Same H (upd H D (.lst ((digs (tl z)).map V.bl))) := Same.lay hD
        refine ⟨D, _, rfl, SqL.of upd_same, _, rfl, ?_⟩
        rw [digs_all]
        cases c3 : digB z with
        | false => exact iteT (bad (fun n hn e => by rw [e, digB_num] at c3; cases c3) _ s1)
        | true =>
          refine iteF ⟨_, rfl, _, _, rfl, int_dig c3 c1' (by omega), by omega, ?_⟩
          have v60 : valT z < 10 ^ 60 := Nat.lt_of_lt_of_le (valT_lt c3) (Nat.pow_le_pow_right (by decide) l60)
          refine ⟨_, rfl, _, rfl, _, _, rfl, rfl, _, rfl, ?_⟩
          cases c4 : decide ((m : Int) < ((valT z : Nat) : Int)) with
          | true =>
            refine iteT (iteT (bad (fun n hn e => ?_) _ s1))
            rw [e, valT_num] at c4
            have := of_decide_eq_true c4
            omega
          | false =>
            have le : valT z ≤ m := by
              have := of_decide_eq_false c4
              omega
            refine iteF ⟨_, rfl, _, rfl, log_small (Nat.lt_trans v60 (by decide +kernel)), _, rfl, rfl, _, rfl, ?_⟩
            by_cases c5 : numT (valT z) = z
            · rw [show decide (V.str (Str.ofString (toString ((valT z : Nat) : Int))) = V.str z) = true from decide_eq_true (congrArg V.str c5)]
              refine iteF ⟨_, rfl, ?_⟩
              rw [← numV_ok c5.symm le]
              exact k _ s1
            · rw [show decide (V.str (Str.ofString (toString ((valT z : Nat) : Int))) = V.str z) = false from decide_eq_false fun y => c5 (V.str.inj y)]
              refine iteT (bad (fun n hn e => c5 ?_) _ s1)
              rw [e, valT_num]
end
end Toy
set_option maxRecDepth 100000
set_option maxHeartbeats 2000000
/-! list comprehensions whose element may let an exception out of a call (E, by a promise's own exits): the block is let go, the exception goes on in the def's frame -/
namespace LamX
open PySem L2 PySem.Spec
/-! ### an exception that is held stays held when the block's names go -/
section
variable {M : Model} {A : Around} {E : Value → Shared → Prop} {s' : Shared} {B B1 : Heap} {env cenv : Env} {outer l : List Env} {a L C : Addr} {Z : Obj → Prop} {m : Str → Option Value} {h h' : Heap}
theorem traced_less {fl : Value} (k : ∀ b, B.get? b = none → B1.get? b = none) (t : HandSPX.TracedZ h B a Z fl) : HandSPX.TracedZ h B1 a Z fl := by
  obtain ⟨oe, vs, T, oT, ts, he, hz, hd, h1, hn, hne, hT, hdT, h3⟩ := t
  exact ⟨oe, vs, T, oT, ts, he, hz, hd, h1, k _ hn, hne, hT, hdT, h3⟩
theorem frames_less (k : ∀ b, B.get? b = none → B1.get? b = none) : ∀ {l : List Env}, h.FunFrames B l → h.FunFrames B1 l
  | [], _ => trivial
  | _ :: _, ⟨hk, ⟨L, o, hf, hn, ho, hd⟩, hr⟩ => ⟨hk, ⟨L, o, hf, k _ hn, ho, hd⟩, frames_less k hr⟩
theorem held_less (k : ∀ b o, B1.get? b = some o → B.get? b = some o) (x : HandSPX.HeldZ B l a Z L h) : HandSPX.HeldZ B1 l a Z L h := by
  obtain ⟨h1, h2, h3, h4⟩ := x
  have kn : ∀ b, B.get? b = none → B1.get? b = none := fun b hb => by
    cases e : B1.get? b with
    | none => rfl
    | some o =>
      rw [k b o e] at hb
      cases hb
  exact ⟨fun b o e => h1 b o (k b o e), kn _ h2, frames_less kn h3, traced_less kn h4⟩
theorem traced_but {fl : Value} (hn : h.Ns C m) (hs : Heap.SameBut C h h') (t : HandSPX.TracedZ h B a Z fl) : HandSPX.TracedZ h' B a Z fl := by
  obtain ⟨oe, vs, T, oT, ts, he, hz, hd, h1, hnT, hne, hT, hdT, h3⟩ := t
  obtain ⟨oC, es, ep, hoC, hdC, _⟩ := hn
  have n1 : a ≠ C := fun q => by
    rw [q, hoC] at he
    cases he
    rw [hdC] at hd
    cases hd
  have n2 : T ≠ C := fun q => by
    rw [q, hoC] at hT
    cases hT
    rw [hdC] at hdT
    cases hdT
  exact ⟨oe, vs, T, oT, ts, (hs.2 a n1).trans he, hz, hd, h1, hnT, hne, (hs.2 T n2).trans hT, hdT, h3⟩
theorem fails_held (hf : cenv.frame = some L) (hbC : B.get? cenv.locals = none) (hn : s'.heap.Ns cenv.locals m) (hh : HandSPX.HeldZ B l a Z L s'.heap)
    (hQ : ∀ h', HandSPX.HeldZ B l a Z L h' → (∀ b o, s'.heap.get? b = some o → b ≠ cenv.locals → (∀ vs, o.data ≠ .fields vs) → ∃ sl, h'.get? b = some { o with slots := sl }) → E (.ref a) { s' with heap := h' }) : CompFails M A E cenv (.ref a) s' := by
  refine ⟨m, hn, fun h2 m2 hn2 hs2 => ?_⟩
  obtain ⟨b1, b0, f1, t1⟩ := hh
  have b2 : B.StaysIn h2 := fun b o e => (hs2.2 b fun q => by rw [q, hbC] at e; cases e).trans (b1 b o e)
  have f2 : h2.FunFrames B l := Heap.FunFrames.sameBut hs2 hn2 f1
  have t2 := traced_but hn hs2 t1
  obtain ⟨oe, vs, T, oT, ts, he, hz, hd, h1, r⟩ := id t2
  unfold passOn
  refine wpAny_bind (wpAny_field he hd h1 ?_)
  rw [if_neg (show ¬ ((Value.ref T == Value.none) = true) from by simp)]
  rw [hf]
  refine wpAny_bind (HandSPX.setFlight_anyZ (l := l) b2 f2 t2 fun h3 b3 f3 t3 k3 => ?_)
  refine wpAny_throw (hQ h3 ⟨b3, b0, f3, t3⟩ fun b o hb hbL hnf => ?_)
  exact k3 b o ((hs2.2 b hbL).trans hb) hnf
end
section
variable {X : Cx} {pins : List (Addr × Obj)} {σ : St} {H : Hp} {s s' : Shared} {W : WX} {EB : XK}
/-- noted in the def's own frame -/
theorem XE.noted {u : Value} {Q : Unit → Shared → Prop} {E₁ : Value → Shared → Prop} (hs : X.stack = X.env :: X.outer) (hf : X.env.frame = some X.env.locals) (x : XE X W u s')
    (hQ : ∀ (a : Addr) (B : Heap) (sI : Shared) (pins : List (Addr × Obj)) (σ : St) (H : Hp) (cls : Value) (d : Option Addr) (h' : Heap), u = .ref a → Inv X pins σ H sI → (∀ b o, sI.heap.get? b = some o → b ∉ frs X.stack → B.get? b = some o) → sI.heap.UpToSlots s'.heap → s'.heap.UpToSlots h' →
      HandSPX.HeldZ B X.stack a (Zc cls d) X.env.locals h' → H a = none → s'.os = sI.os → PyProof.Rows.AllBare s'.gens → W cls d σ H → Q () { s' with heap := h' }) :
    wpAny (model X.prog X.w) X.A (noteFrame u X.env) Q E₁ s' := by
  obtain ⟨a, B, sI, pins, σ, H, cls, d, rfl, I, nb, up, sky, na, os, ag, w⟩ := x
  have hfr : X.A.frames = some (X.env :: X.outer) := by rw [I.ok.frames, hs]
  have fin : ∀ h', HandSPX.HeldZ B X.stack a (Zc cls d) X.env.locals h' → s'.heap.UpToSlots h' → Q () { s' with heap := h' } := fun h' hh up' => hQ a B sI pins σ H cls d h' rfl I nb up up' hh na os ag w
  rw [hs] at sky fin
  rcases sky with ⟨hB, hn, hl, oe, vs, he, hz, hd, h1⟩ | fl | hh
  · exact HandSPX.look_newZ Zc.steady hfr hl hf he hB hn hd h1 hz fin
  · exact HandSPX.looks_onZ Zc.steady hfr hf fl fin
  · exact HandSPX.againZ hf hh.2.2.2 (fin s'.heap hh (Heap.UpToSlots.refl _))
end
section
variable {X : Cx} {pins : List (Addr × Obj)} {σ : L2.St} {H H3 : Hp} {s s3 s' : Shared} {W : WX} {EB E : XK} {scope : Scope} {cl : List (Str × Addr)} {fp : List Addr}
/-- the context of a block out of which a call may go by EB -/
abbrev blkE (X : Cx) (s : Shared) (H : Hp) (scope : Scope) (ce : Env) (fp : List Addr) (EB : XK) : Cx :=
  (X.blk s H scope ce fp).wish fun u s' => ∃ (pins : List (Addr × Obj)) (σ : L2.St) (H' : Hp) (s1 : Shared), Inv (X.blk s H scope ce fp) pins σ H' s1 ∧ L2.CX X.prog X.w X.stack H' s1 EB u s'
theorem cx_imp {P : Program} {w : World} {outer : List Env} {u : Value} (hE : ∀ cls d H, E cls d H → EB cls d H) (c : L2.CX P w outer H s E u s') : L2.CX P w outer H s EB u s' := by
  obtain ⟨a, B, H2, cls, d, e, fl, hok, ub, na, os, ag, h⟩ := c
  exact ⟨a, B, H2, cls, d, e, fl, hok, ub, na, os, ag, hE _ _ _ h⟩
theorem passes_blk {ce : Env} (hE : ∀ cls d H, E cls d H → EB cls d H) : Passes (L2.CX X.prog X.w) (blkE X s H scope ce fp EB) E := fun pins σ H' s1 e s2 I c => ⟨pins, σ, H', s1, I.unwish, cx_imp hE c⟩
theorem blk_fails {u : Value} {pb : List (Addr × Obj)} {σb : L2.St} {Hb : Hp} {sb : Shared} (hs : X.stack = X.env :: X.outer) (hf : X.env.frame = some X.env.locals) (tk : Takes X W) (hW : ∀ cls d σ H, EB cls d H → W cls d σ H)
    (I3 : Inv X pins σ H3 s3) (f3 : ∀ b ∈ fp, FpOk X pins H3 b ∧ b < s3.heap.objs.size) (Ib : Inv (X.blk s3 H3 scope (compEnvC scope cl s3.heap.objs.size X.env) fp) pb σb Hb sb)
    (c : L2.CX X.prog X.w X.stack Hb sb EB u s') :
    notedBy (model X.prog X.w) X.A (compEnvC scope cl s3.heap.objs.size X.env) (CompFails (model X.prog X.w) X.A X.xe (compEnvC scope cl s3.heap.objs.size X.env)) u s' := by
  have I1 : Inv X pins σ Hb sb := I3.call' (ch := fp) Ib.os Ib.base Ib.hok Ib.bare fun b hb => ⟨(f3 b hb).1.2.2.2.1, (f3 b hb).1.2.1, (f3 b hb).1.2.2.2.2.1, (f3 b hb).1.2.2.2.2.2⟩
  have nC : Hb s3.heap.objs.size = none := Ib.free
  obtain ⟨m, hn, _⟩ := Ib.loc
  have hn : sb.heap.Ns s3.heap.objs.size m := hn
  obtain ⟨f0, f1, f2, f4, f5, f6⟩ := I3.fpOk (Nat.le_refl _) nC
  generalize hC : s3.heap.objs.size = C at nC hn f0 f1 f2 f4 f5 f6
  have hCs : C ∉ frs X.stack := by
    rw [hs]
    show C ∉ List.filterMap (·.frame) (X.env :: X.outer)
    rw [List.filterMap_cons, hf]
    exact fun z => (List.mem_cons.mp z).elim f1 f2
  obtain ⟨a, B, H2, cls, d, rfl, fl, hok, ub, na, os, ag, hE⟩ := c
  obtain ⟨oC, es, ep, ho, hd, r⟩ := hn
  have hnC : s'.heap.Ns C m := ⟨oC, es, ep, fl.1 _ _ (ub.keep C oC ho nC hCs), hd, r⟩
  have H2C : H2 C = none := ub.free C oC ho nC
  have x : XE X (fun cls d σ H => W cls d σ H ∧ H C = none) (.ref a) s' :=
    XE.of_call (E := fun cls d H => EB cls d H ∧ H C = none) I1 (fun cls d H' h => ⟨hW _ _ _ _ h.1, h.2⟩) ⟨a, B, H2, cls, d, rfl, fl, hok, ub, na, os, ag, hE, H2C⟩
  show wpAny _ _ (noteFrame (.ref a) (compEnvC scope cl C X.env)) _ _ s'
  rw [noteFrame_env (cenv := compEnvC scope cl C X.env) (env := X.env) _ rfl]
  refine XE.noted hs hf x fun a' B' sI pins' σ' H' cls' d' h' e I nb up up' hh na' os' ag' w => ?_
  cases e
  have kn : ∀ {h : Heap} {b : Addr} {o : Obj}, (PySem.W.hideAll h [C]).get? b = some o → b ≠ C := fun {h b o} e q => by
    rw [q, PySem.W.hideAll_none [C] (List.mem_singleton.mpr rfl)] at e
    cases e
  refine fails_held (L := X.env.locals) (B := PySem.W.hideAll B' [C]) hf (PySem.W.hideAll_none [C] (List.mem_singleton.mpr rfl)) (hnC.upToSlots up') (held_less (fun b o e => PySem.W.of_hideAll [C] e) hh) fun h'' hh' k => ?_
  refine tk _ _ ⟨a, PySem.W.hideAll B' [C], { sI with heap := PySem.W.hideAll sI.heap [C] }, [], σ', H', cls', d', rfl, ?_, fun b o e hb => ?_, fun b o e hnf => ?_, .inr (.inr hh'), na', os', ag', w.1⟩
  · have I0 : Inv X [] σ' H' sI := Inv.unpinned (pins := []) I
    exact I0.turned (t' := sI.toks) (it := C) (fun b o hb e => PySem.W.hideAll_get [C] e (fun z => hb (List.mem_singleton.mp z))) w.2 f1 f4 f5 (fun p hp => f6 p (List.mem_append_left _ (by simpa using hp)))
  · exact PySem.W.hideAll_get [C] (nb b o (PySem.W.of_hideAll [C] e) hb) (fun z => kn e (List.mem_singleton.mp z))
  · obtain ⟨sl1, e1⟩ := up b o (PySem.W.of_hideAll [C] e) hnf
    obtain ⟨sl2, e2⟩ := up' b _ e1 hnf
    exact k b { o with slots := sl2 } e2 (kn e) hnf
end
/-! ### the comprehension -/
section
variable {X : Cx} {W : WX} {EB : XK} {elt tg iter : Expr} {ifs : List Expr} {scope : Scope} {own : List (Str × Nat)} {pos pos' : Pos} {wi : TI} {g : TG} {tt : TT} {te : TE}
theorem lc_coreE {pins : List (Addr × Obj)} {s : Shared} {σ : L2.St} {H : Hp} {Q : VK} {use : Option (Value → Sem Unit)} {Qf : Value → Shared → Prop}
    (hc : X.calm = true) (hN : X.N.Nodup) (hst : X.stack = X.env :: X.outer) (hf : X.env.frame = some X.env.locals) (tk : Takes X W) (hW : ∀ cls d σ H, EB cls d H → W cls d σ H)
    (I : Inv X pins σ H s) (hi : PI X tg iter wi) (ok : BlkOk X.N X.env.scope scope own)
    (hg : ∀ (s : Shared) (H : Hp) (C : Addr) (cl : List (Str × Addr)) (fp : List Addr), PG (X.blk s H scope (compEnvC scope cl C X.env) fp) tg g) (ht : ∀ (s : Shared) (H : Hp) (C : Addr) (cl : List (Str × Addr)) (fp : List Addr), PTs (X.blk s H scope (compEnvC scope cl C X.env) fp) ifs tt)
    (he : ∀ (s : Shared) (H : Hp) (C : Addr) (cl : List (Str × Addr)) (fp : List Addr), PE (blkE X s H scope (compEnvC scope cl C X.env) fp EB) elt te) (hs : ∀ x, foldedSetIterable iter X.env x = pure x)
    (h : tLc wi g tt te (own.map (·.2)) σ H Q)
    (hRR : ∀ D ce s' m H', Inv X pins σ H' s' → Q (.ref D) H' → s'.heap.Ns ce.locals m → FpOk X pins H' ce.locals → compEnds (model X.prog X.w) X.A X.xe use Qf (.ref D) ce (.ok .next) s') :
    wpAny (model X.prog X.w) X.A (comprehension (.ListComp elt [⟨tg, iter, ifs, 0⟩] scope pos) scope X.env pos' (newList []) false (eval iter X.env) use) Qf X.xe s := by
  have hfree : ∀ y ∈ scope.names, y.2 = .free → ∃ c, X.env.cells.lookup y.1 = some c := fun y hy e => (ok.free y hy e).elim (fun k => I.ok.has _ (.inl k)) fun k => I.ok.has _ (.inr k)
  refine comprehension_at (use := use) rfl hs (closure_ok hfree) ok.kind (fun y hy e => by rw [ok.uniq y hy, e]) (thn (hi.run pins s σ H _ I h) fun xv s1 hx => thn hx fun itv s2 h2 => ?_)
  obtain ⟨it, fp, tn, J, H2, e, I2, T, st2, f2, q⟩ := h2
  subst e
  refine wpAny_newObj_type (newEnv_comp ?_) (by show 0 ≤ sizeLine; decide)
  generalize hD : s2.heap.objs.size = D
  obtain ⟨Wt, ⟨m0, w0⟩, turn⟩ := q D (I2.hok.fresh (Nat.le_of_eq hD))
  generalize hs3 : ({ s2 with heap := s2.heap.push { cls := .type "list", data := .seq ([] : List Value).toArray } } : Shared) = s3
  have h3 : s3.heap = s2.heap.push { cls := .type "list", data := .seq ([] : List Value).toArray } := by rw [← hs3]
  have old : ∀ b o, s2.heap.get? b = some o → s3.heap.get? b = some o := fun b o e => by
    rw [h3]
    exact Heap.get?_push_of_some _ e
  have I3 : Inv X pins σ (upd H2 D (.lst [])) s3 := by
    rw [← hs3]
    refine I2.laid (t' := s2.toks) (fun b o e => Heap.get?_push_of_some _ e) (Nat.le_of_eq hD) ⟨Nat.zero_le _, [], 0, .nil, ?_⟩
    rw [← hD]
    exact Heap.get?_push_size _ rfl
  have f3 : ∀ b ∈ fp, FpOk X pins (upd H2 D (.lst [])) b ∧ b < s3.heap.objs.size := fun b hb => by
    obtain ⟨o, eo, _⟩ := T.obj _ _ st2 b hb
    have hlt := Heap.lt_size eo
    refine ⟨⟨?_, (f2 b hb).2⟩, by rw [h3, Heap.size_push]; exact Nat.lt_succ_of_lt hlt⟩
    rw [upd_ne (by rw [← hD]; exact Nat.ne_of_lt hlt)]
    exact (f2 b hb).1
  have st3 : tn 0 s3.heap := T.keep _ _ _ st2 fun b _ o e => old b o e
  have I4 := block_start I3 ok hN f3
  obtain ⟨cl, hcl⟩ : ∃ cl, cl = cellsFrom (s3.heap.objs.size + 1) scope.names (cloFrom X.env.cells scope.names []) := ⟨_, rfl⟩
  rw [← hcl] at I4
  have pg := hg s3 (upd H2 D (.lst [])) s3.heap.objs.size cl fp
  have pt := ht s3 (upd H2 D (.lst [])) s3.heap.objs.size cl fp
  have pe := he s3 (upd H2 D (.lst [])) s3.heap.objs.size cl fp
  show codeAny _ _ (.compStart (.ListComp elt [⟨tg, iter, ifs, 0⟩] scope pos) 0 (.ref it) (.ref D) (compEnvC scope (cellsFrom (s3.heap.objs.size + 1) scope.names (cloFrom X.env.cells scope.names [])) s3.heap.objs.size X.env)) (compEnds (model X.prog X.w) X.A X.xe use Qf (.ref D) (compEnvC scope (cellsFrom (s3.heap.objs.size + 1) scope.names (cloFrom X.env.cells scope.names [])) s3.heap.objs.size X.env)) { s3 with heap := pushCells (s3.heap.push { cls := .type "dict", data := .dict #[] }) scope.names }
  rw [← hcl]
  have bad : ∀ {pb σb Hb sb u s'}, Inv (X.blk s3 (upd H2 D (.lst [])) scope (compEnvC scope cl s3.heap.objs.size X.env) fp) pb σb Hb sb → L2.CX X.prog X.w X.stack Hb sb EB u s' →
      notedBy (model X.prog X.w) X.A (compEnvC scope cl s3.heap.objs.size X.env) (fun e s' => compEnds (model X.prog X.w) X.A X.xe use Qf (.ref D) (compEnvC scope cl s3.heap.objs.size X.env) (.error e) s') u s' := fun Ib c => by
    have z := blk_fails (scope := scope) (cl := cl) hst hf tk hW I3 f3 Ib c
    cases use <;> exact z
  generalize hH3 : upd H2 D (.lst []) = H3 at I3 I4 pg pt pe w0 f3 bad
  generalize hce : compEnvC scope cl s3.heap.objs.size X.env = ce at I4 pg pt pe bad ⊢
  have cL : ce.locals = s3.heap.objs.size := by
    subst hce
    rfl
  generalize hs4 : ({ s3 with heap := pushCells (s3.heap.push { cls := .type "dict", data := .dict #[] }) scope.names } : Shared) = s4 at I4 ⊢
  have st4 : tn 0 s4.heap := T.keep _ _ _ st3 fun b _ o e => by
    rw [← hs4]
    exact pushCells_keeps _ _ _ _ (Heap.get?_push_of_some _ e)
  have stat : ∀ {σ' : L2.St} {H' : Hp} {s' : Shared}, Inv (X.blk s3 H3 scope ce fp) [] σ' H' s' → (∀ b ∈ fp, H' b = none) → ∀ b ∈ fp, FpOk (X.blk s3 H3 scope ce fp) [] H' b := fun I' hn b hb =>
    ⟨hn b hb, (I'.ok.exf b hb).1, I'.ok.exfs b hb, .inl hb, fun x c e => (I'.ok.exf b hb).2 x c e, fun p hp => nomatch (show p ∈ ([] : List (Addr × Obj)) ++ [] from hp)⟩
  have loop : codeAny (model X.prog X.w) X.A (.compLoop (.ListComp elt [⟨tg, iter, ifs, 0⟩] scope pos) 0 (.ref it) (.ref D) ce) (compEnds (model X.prog X.w) X.A X.xe use Qf (.ref D) ce) s4 := by
    refine compLoop_any (fun n s' => ∃ i H', Inv (X.blk s3 H3 scope ce fp) [] (wipe σ (own.map (·.2))) H' s' ∧ tn i s'.heap ∧ (∀ b ∈ fp, H' b = none) ∧ Wt i n H') ?_ m0 ⟨0, H3, I4, st4, fun b hb => (f3 b hb).1.1, w0⟩
    rintro n s5 ⟨i, H5, I5, st5, n5, w5⟩
    rcases turn i n H5 w5 with ⟨stop, qq⟩ | ⟨go, Nx, hNx, step⟩
    · refine thnF (T.done (X.blk s3 H3 scope ce fp) rfl rfl rfl hc i [] s5 _ H5 (fun _ _ => False) I5 (stat I5 n5) st5 stop) fun r s6 ⟨hr, I6⟩ => ?_
      subst hr
      have I7 : Inv X pins σ H5 s6 := I3.call' (ch := fp) I6.os I6.base I6.hok I6.bare fun b hb => ⟨(f3 b hb).1.2.2.2.1, (f3 b hb).1.2.1, (f3 b hb).1.2.2.2.2.1, (f3 b hb).1.2.2.2.2.2⟩
      have nC : H5 ce.locals = none := I6.free
      obtain ⟨m, hn, _⟩ := I6.loc
      exact hRR D ce s6 m H5 I7 qq hn (I3.fpOk (by rw [cL]; exact Nat.le_refl _) nC)
    · refine thnF (T.item (X.blk s3 H3 scope ce fp) rfl rfl rfl hc i [] s5 _ H5 (fun _ _ => False) I5 (stat I5 n5) st5 go) fun r s6 ⟨u, hr, h6⟩ => ?_
      subst hr
      refine thnF h6 fun _ s7 ⟨x, H7, I7, r7, y7, st7, n7⟩ => ?_
      refine thnF (pg.run _ s7 _ H7 x u _ (I7.pinned (stat I7 n7) (T.obj _ _ st7)) r7 (step x H7 y7)) fun _ s8 ⟨σ8, H8, I8, hw8, q8⟩ => ?_
      refine thnF (pt.run _ s8 σ8 H8 _ I8 q8) fun b s9 ⟨H9, I9, q9⟩ => ?_
      have fin : ∀ {s' : Shared} {H' : Hp}, Inv (X.blk s3 H3 scope ce fp) ([] ++ pinsAt fp s7.heap) σ8 H' s' → Nx H' → ∃ m, m < n ∧ ∃ i H', Inv (X.blk s3 H3 scope ce fp) [] (wipe σ (own.map (·.2))) H' s' ∧ tn i s'.heap ∧ (∀ b ∈ fp, H' b = none) ∧ Wt i m H' := fun {s' H'} I' nx => by
        obtain ⟨m', hm, w'⟩ := hNx H' nx
        have pin' : ∀ b ∈ fp, ∀ o, s7.heap.get? b = some o → s'.heap.get? b = some o ∧ H' b = none := fun b hb o e =>
          let z := I'.pin (b, o) (List.mem_append_right _ (List.mem_append_right _ (mem_pinsAt hb e)))
          ⟨z.1, z.2.1⟩
        refine ⟨m', hm, i + 1, H', (I'.unpinned (pins := [])).weak (by rw [← hw8, wipe_length]) (fun j v e => ?_), T.keep _ _ _ st7 fun b hb o e => (pin' b hb o e).1, fun b hb => ?_, w'⟩
        · rw [← hw8] at e
          exact (wipe_some e).1
        · obtain ⟨o, e, _⟩ := T.obj _ _ st7 b hb
          exact (pin' b hb o e).2
      cases b with
      | false => exact fin I9 (by simpa using q9)
      | true =>
        have q9 : te σ8 H9 fun y H4 => ∃ acc, H4 D = some (.lst acc) ∧ acc.length < sizeLine ∧ Nx (upd H4 D (.lst (acc ++ [y]))) := by simpa using q9
        show wpAny _ _ _ _ _ _
        refine wpAny_mono (pe.run _ s9 σ8 H9 _ (I9.wish _) q9) (fun z s10 ⟨yv, H10, I10, r10, acc, hD10, hz10, nx⟩ => ?_) fun u s10 ⟨pb, σb, Hb, sb, Ib, c⟩ => bad Ib c
        exact app_ok (X := X.blk s3 H3 scope ce fp) I10.unwish hD10 hz10 r10 fun s11 I11 => fin I11 nx
  exact codeAny_compStart_list loop (T.self X.A 0 _ _ _ st4 loop)
/-- as a value -/
theorem pe_lcE (hc : X.calm = true) (hN : X.N.Nodup) (hst : X.stack = X.env :: X.outer) (hf : X.env.frame = some X.env.locals) (tk : Takes X W) (hW : ∀ cls d σ H, EB cls d H → W cls d σ H) (hi : PI X tg iter wi) (ok : BlkOk X.N X.env.scope scope own)
    (hg : ∀ (s : Shared) (H : Hp) (C : Addr) (cl : List (Str × Addr)) (fp : List Addr), PG (X.blk s H scope (compEnvC scope cl C X.env) fp) tg g) (ht : ∀ (s : Shared) (H : Hp) (C : Addr) (cl : List (Str × Addr)) (fp : List Addr), PTs (X.blk s H scope (compEnvC scope cl C X.env) fp) ifs tt)
    (he : ∀ (s : Shared) (H : Hp) (C : Addr) (cl : List (Str × Addr)) (fp : List Addr), PE (blkE X s H scope (compEnvC scope cl C X.env) fp EB) elt te) (hs : ∀ x, foldedSetIterable iter X.env x = pure x := by intro _; rfl) :
    PE X (.ListComp elt [⟨tg, iter, ifs, 0⟩] scope pos) (tLc wi g tt te (own.map (·.2))) := by
  refine ⟨fun pins s σ H Q I h => ?_⟩
  rw [eval_ListComp]
  refine lc_coreE hc hN hst hf tk hW I hi ok hg ht he hs h fun D ce s' m H' I' q hn f => ⟨m, hn, fun h'' sb => ?_⟩
  obtain ⟨f0, f1, f2, f3, f4, f5⟩ := f
  exact ⟨.ref D, H', I'.turned (t' := s'.toks) (fun b o hb e => (sb.2 b hb).trans e) f0 f1 f3 f4 f5, rfl, q⟩
/-- name = [..] on one line, the name a local -/
theorem ps_setLcE {i : Nat} {y : Str} {py spos : Pos} (hc : X.calm = true) (hN : X.N.Nodup) (hst : X.stack = X.env :: X.outer) (hf : X.env.frame = some X.env.locals) (tk : Takes X W) (hW : ∀ cls d σ H, EB cls d H → W cls d σ H)
    (hy : X.N[i]? = some y) (hyl : X.env.scope.names.lookup y = some .local)
    (hsw : swapsWith (.ListComp elt [⟨tg, iter, ifs, 0⟩] scope pos) (some (.Name y py)) spos.line X.env = pure true) (hi : PI X tg iter wi) (ok : BlkOk X.N X.env.scope scope own)
    (hg : ∀ (s : Shared) (H : Hp) (C : Addr) (cl : List (Str × Addr)) (fp : List Addr), PG (X.blk s H scope (compEnvC scope cl C X.env) fp) tg g) (ht : ∀ (s : Shared) (H : Hp) (C : Addr) (cl : List (Str × Addr)) (fp : List Addr), PTs (X.blk s H scope (compEnvC scope cl C X.env) fp) ifs tt)
    (he : ∀ (s : Shared) (H : Hp) (C : Addr) (cl : List (Str × Addr)) (fp : List Addr), PE (blkE X s H scope (compEnvC scope cl C X.env) fp EB) elt te) (hs : ∀ x, foldedSetIterable iter X.env x = pure x := by intro _; rfl) :
    PS X (.Assign [.Name y py] (.ListComp elt [⟨tg, iter, ifs, 0⟩] scope pos) spos) (tAsg (tLc wi g tt te (own.map (·.2))) (gName i)) := by
  refine ⟨fun pins s σ H D I h => ?_⟩
  rw [exec_Assign_Name_used _ _ _ _ hsw]
  refine wpAny_bind (wpAny_standAt (wpAny_bind ?_))
  show wpAny _ X.A (do let _ ← comprehension (.ListComp elt [⟨tg, iter, ifs, 0⟩] scope pos) scope X.env (firstIterPos [⟨tg, iter, ifs, 0⟩] pos) (newList []) false (eval iter X.env) (some (assign (.Name y py) X.env))) _ _ s
  have h : tLc wi g tt te (own.map (·.2)) σ H (fun x H1 => gName i x σ H1 D.nx) := h
  refine wpAny_bind (thn (lc_coreE (Qf := fun _ s' => SP X pins D .next s') hc hN hst hf tk hW I hi ok hg ht he hs h fun L ce s' m H' I' q hn f => ?_) fun _ s' hq => wpAny_pure (wpAny_pure hq))
  show wpAny _ _ (assign (.Name y py) X.env (.ref L)) _ _ _
  obtain ⟨f0, f1, f2, f3, f4, f5⟩ := f
  refine wpAny_assign_Name (store_ok2 (v := V.ref L) I' hN hy (.inl hyl) rfl (fun s2 I2 ⟨a, sb, ha⟩ => ?_) (.inr hyl))
  have haC : ce.locals ≠ a := ha.elim (fun z => by rw [z]; exact f1) fun z => fun e => f4 y a z e.symm
  exact ⟨m, hn.sameBut sb haC, fun h3 sb3 => ⟨_, H', I2.turned (t' := s2.toks) (fun b o hb e => (sb3.2 b hb).trans e) f0 f1 f3 f4 f5, q⟩⟩
end
end LamX
set_option maxRecDepth 100000
namespace Toy
open PySem L2 TL LamX
abbrev s_BadText : Stmt := (inClass (top 10) 0)
abbrev s_BadLog : Stmt := (inClass (top 9) 0)
abbrev s_lines_of : Stmt := top 16
abbrev s_words_at : Stmt := top 17
abbrev s_check_no_line : Stmt := top 18
abbrev s_word_in : Stmt := top 19
abbrev s_number_in : Stmt := top 20
abbrev s_check_no_word : Stmt := top 21
/-! errors -/
def fs1 (f : Str) : List V → List (Str × V) := fun ys => match ys with
  | [y] => [(f, y)]
  | _ => []
def fs2 (f g : Str) : List V → List (Str × V) := fun ys => match ys with
  | [y, z] => [(g, z), (f, y)]
  | _ => []
/-- what the top has written of the errors' classes -/
structure TErr (K : PySem.W.Frag) (mg : Str → Option Value) (CW CG uW uG : Addr) (fdW fdG : FuncData) : Prop where
  gBadText : mg "BadText" = some (.ref CW)
  iBadText : XvI K CW uW
  fBadText : Fun K "__init__" "BadText.__init__" s_BadText uW fdW
  nLine : PySem.W.findIn K (.ref CW) "line" = some none
  nWord : PySem.W.findIn K (.ref CW) "word" = some none
  bBadText : Binds K fdW ["self", "line", "word"] []
  gBadLog : mg "BadLog" = some (.ref CG)
  iBadLog : XvI K CG uG
  fBadLog : Fun K "__init__" "BadLog.__init__" s_BadLog uG fdG
  nAt : PySem.W.findIn K (.ref CG) "at" = some none
  bBadLog : Binds K fdG ["self", "at"] []
theorem mono_c {v : V} {t : TA} (h : Mono t) : Mono (tCons (tC v) t) := fun σ H Q Q' i q => h σ H _ _ (fun vs H' z => i _ _ z) q
theorem mono_len {K : PySem.W.Frag} {t1 t : TA} (h1 : Mono t1) (h : Mono t) : Mono (tCons (tCB (fun xs H Q => ∃ (p : Addr) (ys : List V), xs = [V.ref p] ∧ (SqL K H p ys ∨ SqT K H p ys) ∧ Q (V.int (ys.length : Nat)) H) t1) t) := fun σ H Q Q' i q =>
  h1 σ H _ _ (fun vs H' ⟨p, ys, e, hs, z⟩ => ⟨p, ys, e, hs, h σ H' _ _ (fun vs H' z => i _ _ z) z⟩) q
/-- a text error with its line and word -/
def TextE (CW : Addr) (H : Hp) (E : XK) (ln wd : Int) : Prop := ∀ d H', H d = none → Same H H' → H' d = some (.xd [("word", .int wd), ("line", .int ln)]) → E (.ref CW) (some d) H'
theorem TextE.same {CW : Addr} {H H1 : Hp} {E : XK} {a b : Int} (s : Same H H1) (h : TextE CW H E a b) : TextE CW H1 E a b := fun d H' hd s' e => h d H' (s.free hd) (fun _ _ z => s' _ _ (s _ _ z)) e
def linesT (a : Str) : List Str := Txt.split a "\n"
def wordsT (a : Str) : List Str := Txt.split a " "
def NotStr (K : PySem.W.Frag) (H : Hp) (x : V) : Prop := ∃ t, TyX K H x t ∧ PySem.W.kitOne K t (.type "str") = some false
def spLinesOf (CW : Addr) (K : PySem.W.Frag) : Sp := fun vs H Q E => ∃ x, vs = [x] ∧ ((∃ a, x = .str a ∧ a.length + 2 ≤ PySem.sizeLine ∧ ∀ L, H L = none → Q (.ref L) (upd H L (.lst ((linesT a).map V.str)))) ∨ (NotStr K H x ∧ TextE CW H E 0 0))
def spWordsAt (CW : Addr) (K : PySem.W.Frag) : Sp := fun vs H Q E => ∃ (L : Addr) (ls : List Str) (k : Nat), vs = [.ref L, .int (k : Nat)] ∧ SqL K H L (ls.map V.str) ∧
  (∀ w, ls[k]? = some w → w.length + 2 ≤ PySem.sizeLine ∧ ∀ W, H W = none → Q (.ref W) (upd H W (.lst ((wordsT w).map V.str)))) ∧ (ls.length ≤ k → TextE CW H E (ls.length : Nat) 0)
def spNoLine (CW : Addr) (K : PySem.W.Frag) : Sp := fun vs H Q E => ∃ (L : Addr) (ls : List Str) (k : Nat), vs = [.ref L, .int (k : Nat)] ∧ SqL K H L (ls.map V.str) ∧ (k < ls.length → TextE CW H E (k : Nat) 0) ∧ (ls.length ≤ k → Q .non H)
def spNoWord (CW : Addr) (K : PySem.W.Frag) : Sp := fun vs H Q E => ∃ (W : Addr) (ws : List Str) (ln : Int) (k : Nat), vs = [.ref W, .int ln, .int (k : Nat)] ∧ SqL K H W (ws.map V.str) ∧ (k < ws.length → TextE CW H E ln (k : Nat)) ∧ (ws.length ≤ k → Q .non H)
def spWordIn (CW : Addr) (K : PySem.W.Frag) : Sp := fun vs H Q E => ∃ (W t : Addr) (ws cs : List Str) (ln : Int) (k : Nat), vs = [.ref W, .int ln, .int (k : Nat), .ref t] ∧ SqL K H W (ws.map V.str) ∧ SqT K H t (cs.map V.str) ∧
  (∀ w, ws[k]? = some w → w ∈ cs → Q (.str w) H) ∧ ((∀ w, ws[k]? = some w → w ∉ cs) → TextE CW H E ln (k : Nat))
def spNumIn (CW : Addr) (K : PySem.W.Frag) : Sp := fun vs H Q E => ∃ (W : Addr) (ws : List Str) (ln : Int) (k most : Nat), vs = [.ref W, .int ln, .int (k : Nat), .int 0, .int (most : Nat)] ∧ SqL K H W (ws.map V.str) ∧ most < 10 ^ 60 ∧ (∀ w ∈ ws, w.length ≤ PySem.sizeLine) ∧
  (∀ w n, ws[k]? = some w → numW most w = some n → ∀ H', Same H H' → Q (.int (n : Nat)) H') ∧ ((∀ w, ws[k]? = some w → numW most w = none) → TextE CW H E ln (k : Nat))
theorem inV_strs (z : Str) (ws : List Str) : inV (.str z) (ws.map V.str) = decide (z ∈ ws) := by
  unfold inV
  rw [List.any_map]
  induction ws with
  | nil => rfl
  | cons w r ih =>
    rw [List.any_cons, ih]
    show ((w == z) || decide (z ∈ r)) = decide (z ∈ w :: r)
    by_cases h : w = z
    · subst h
      simp
    · have h2 : ¬ z = w := fun e => h e.symm
      simp [h, h2]
theorem flat_strs (ws : List Str) : (ws.map V.str).all flatV = true := List.all_eq_true.mpr fun y hy => by
  obtain ⟨z, _, rfl⟩ := List.mem_map.mp hy
  rfl
section
variable {P : Program} {w : World} {K : PySem.W.Frag} {mg : Str → Option Value} {base : Heap} {CW CG uW uG : Addr} {fdW fdG : FuncData}
theorem sc_BadText : FnScope ["self", "line", "word"] ["self", "line", "word"] (defScope s_BadText) := ⟨rfl, rfl, rfl, by decide +kernel, rfl, by decide +kernel, by decide +kernel⟩
theorem ok_BadText (T : TErr K mg CW CG uW uG fdW fdG) : FnOk P w K mg base CX0 1 uW fdW ["self", "line", "word"] (spX CW 2 (fs2 "line" "word")) := by
  refine T.fBadText.ok sc_BadText (fun vs H Q E h => ?_) (fun cdv A outer s H vs Q E hr h => ?_)
  · obtain ⟨a, ys, rfl, hl, _⟩ := h
    show ys.length + 1 = 3
    omega
  · obtain ⟨a, ys, rfl, hl, ha, k⟩ := h
    obtain ⟨y, z, rfl⟩ : ∃ y z, ys = [y, z] := by
      match ys, hl with
      | [y, z], _ => exact ⟨y, z, rfl⟩
    refine ⟨_, (pss_cons (ps_ost (pv 0) (pv 1)) (pss_one (ps_ost (pv 0) (pv 2)))), ?_⟩
    refine ⟨_, rfl, _, rfl, a, CW, rfl, T.iBadText.cls.oex, T.nLine, .inl ⟨ha, fun dx hd nd => ?_⟩⟩
    refine ⟨_, rfl, _, rfl, a, CW, rfl, T.iBadText.cls.oex, T.nWord, .inr ⟨dx, _, upd_same, (by rw [upd_ne nd]; exact upd_same), (by show 1 ≤ 900; decide), ?_⟩⟩
    exact k dx _ hd nd (by rw [upd_ne nd.symm]; exact upd_same) upd_same fun b h1 h2 => by rw [upd_ne h2, upd_ne h1, upd_ne h2]
theorem sc_BadLog : FnScope ["self", "at"] ["self", "at"] (defScope s_BadLog) := ⟨rfl, rfl, rfl, by decide +kernel, rfl, by decide +kernel, by decide +kernel⟩
theorem ok_BadLog (T : TErr K mg CW CG uW uG fdW fdG) : FnOk P w K mg base CX0 1 uG fdG ["self", "at"] (spX CG 1 (fs1 "at")) := by
  refine T.fBadLog.ok sc_BadLog (fun vs H Q E h => ?_) (fun cdv A outer s H vs Q E hr h => ?_)
  · obtain ⟨a, ys, rfl, hl, _⟩ := h
    show ys.length + 1 = 2
    omega
  · obtain ⟨a, ys, rfl, hl, ha, k⟩ := h
    obtain ⟨y, rfl⟩ : ∃ y, ys = [y] := by
      match ys, hl with
      | [y], _ => exact ⟨y, rfl⟩
    refine ⟨_, (pss_one (ps_ost (pv 0) (pv 1))), ?_⟩
    refine ⟨_, rfl, _, rfl, a, CG, rfl, T.iBadLog.cls.oex, T.nAt, .inl ⟨ha, fun dx hd nd => ?_⟩⟩
    exact k dx _ hd nd upd_same (by rw [upd_ne nd]; exact upd_same) fun b h1 h2 => by rw [upd_ne h1, upd_ne h2]
abbrev N_lines_of : List Str := ["text"]
theorem sc_lines_of : FnScope N_lines_of ["text"] (defScope s_lines_of) := ⟨rfl, rfl, rfl, by decide +kernel, rfl, by decide +kernel, by decide +kernel⟩
theorem ok_lines_of {f : Addr} {fd : FuncData} (F : Fun K "lines_of" "lines_of" s_lines_of f fd) (T : TR mg) (TE : TErr K mg CW CG uW uG fdW fdG) : FnOk P w K mg base (L2.CX P w) 3 f fd ["text"] (spLinesOf CW K) := by
  refine F.okX sc_lines_of (fun vs H Q E h => ?_) (fun cdv A outer s H vs Q E hrE h => ?_)
  · obtain ⟨x, rfl, _⟩ := h
    rfl
  · obtain ⟨x, rfl, h⟩ := h
    refine ⟨_, (pss_cons (ps_if (pt_not (pt_val (pe_callB call_isi (by rfl) T.m_isinstance (by decide +kernel) (pa_cons (pv 0) (pa_cons (pe_bltn (v := .ty "str") (u := .type "str") rfl T.m_str (by decide +kernel) rfl) pa_nil))))) (pss_one (ps_raise rfl (takes_of rfl rfl rfl rfl) (pmk_x TE.iBadText (ok_BadText TE) hrE TE.bBadText (by decide) rfl TE.gBadText (mono_c (mono_c mono_nil)) (pa_cons pe_int (pa_cons pe_int pa_nil))))) pss_nil)
 (pss_one (ps_ret (pe_split (pv 0) pe_str)))), ?_⟩
    rcases h with ⟨a, rfl, ha, k⟩ | ⟨⟨t, ty, nk⟩, kE⟩
    · exact ⟨_, rfl, _, _, _, _, _, rfl, .ty _, (Plain.str a).ty, rfl, _, rfl, iteF ⟨_, rfl, ⟨_, rfl⟩, a, "\n", rfl, rfl, rfl, ha, fun L hL => k L hL⟩⟩
    · exact ⟨_, rfl, _, _, _, _, _, rfl, .ty _, ty, nk, _, rfl, iteT ⟨rfl, fun d H' hd s1 e => kE d H' hd s1 e⟩⟩
abbrev N_words_at : List Str := ["lines", "line"]
theorem sc_words_at : FnScope N_words_at ["lines", "line"] (defScope s_words_at) := ⟨rfl, rfl, rfl, by decide +kernel, rfl, by decide +kernel, by decide +kernel⟩
theorem ok_words_at {f : Addr} {fd : FuncData} (F : Fun K "words_at" "words_at" s_words_at f fd) (T : TR mg) (TE : TErr K mg CW CG uW uG fdW fdG) : FnOk P w K mg base (L2.CX P w) 3 f fd ["lines", "line"] (spWordsAt CW K) := by
  refine F.okX sc_words_at (fun vs H Q E h => ?_) (fun cdv A outer s H vs Q E hrE h => ?_)
  · obtain ⟨L, ls, k, rfl, _⟩ := h
    rfl
  · obtain ⟨L, ls, k, rfl, hL, kQ, kE⟩ := h
    refine ⟨_, (pss_cons (ps_if (pt_cmpR op_ge (pv 1) (pe_callB call_len_seq (by rfl) T.m_len (by decide +kernel) (pa_cons (pv 0) pa_nil)) (nomark _)) (pss_one (ps_raise rfl (takes_of rfl rfl rfl rfl) (pmk_x TE.iBadText (ok_BadText TE) hrE TE.bBadText (by decide) rfl TE.gBadText (mono_len (mono_var mono_nil) (mono_c mono_nil)) (pa_cons (pe_callB call_len_seq (by rfl) T.m_len (by decide +kernel) (pa_cons (pv 0) pa_nil)) (pa_cons pe_int pa_nil))))) pss_nil)
 (pss_one (ps_ret (pe_split (pe_ix ix_list (pv 0) (pv 1) (fun _ _ => rfl)) pe_str)))), ?_⟩
    refine ⟨_, rfl, _, rfl, L, _, rfl, .inl hL, _, _, rfl, rfl, _, rfl, ?_⟩
    rw [List.length_map]
    by_cases c : ls.length ≤ k
    · rw [decide_eq_true (show ((ls.length : Nat) : Int) ≤ ((k : Nat) : Int) by omega)]
      refine iteT ⟨_, rfl, L, _, rfl, .inl hL, rfl, fun d H' hd s1 e => kE c d H' hd s1 ?_⟩
      rw [List.length_map] at e
      exact e
    · rw [decide_eq_false (show ¬ ((ls.length : Nat) : Int) ≤ ((k : Nat) : Int) by omega)]
      obtain ⟨w, hw⟩ : ∃ w, ls[k]? = some w := ⟨_, List.getElem?_eq_getElem (by omega)⟩
      obtain ⟨h1, h2⟩ := kQ w hw
      exact iteF ⟨_, rfl, _, rfl, L, _, _, .str w, rfl, rfl, hL, atI_nat (by rw [List.getElem?_map, hw]; rfl), ⟨_, rfl⟩, w, " ", rfl, rfl, rfl, h1, fun W hW => h2 W hW⟩
abbrev N_check_no_line : List Str := ["lines", "line"]
theorem sc_check_no_line : FnScope N_check_no_line ["lines", "line"] (defScope s_check_no_line) := ⟨rfl, rfl, rfl, by decide +kernel, rfl, by decide +kernel, by decide +kernel⟩
theorem ok_check_no_line {f : Addr} {fd : FuncData} (F : Fun K "check_no_line" "check_no_line" s_check_no_line f fd) (T : TR mg) (TE : TErr K mg CW CG uW uG fdW fdG) : FnOk P w K mg base (L2.CX P w) 3 f fd ["lines", "line"] (spNoLine CW K) := by
  refine F.okX sc_check_no_line (fun vs H Q E h => ?_) (fun cdv A outer s H vs Q E hrE h => ?_)
  · obtain ⟨L, ls, k, rfl, _⟩ := h
    rfl
  · obtain ⟨L, ls, k, rfl, hL, kE, kQ⟩ := h
    refine ⟨_, (pss_one (ps_if (pt_cmpR op_lt (pv 1) (pe_callB call_len_seq (by rfl) T.m_len (by decide +kernel) (pa_cons (pv 0) pa_nil)) (nomark _)) (pss_one (ps_raise rfl (takes_of rfl rfl rfl rfl) (pmk_x TE.iBadText (ok_BadText TE) hrE TE.bBadText (by decide) rfl TE.gBadText (mono_var (mono_c mono_nil)) (pa_cons (pv 1) (pa_cons pe_int pa_nil))))) pss_nil)), ?_⟩
    refine ⟨_, rfl, _, rfl, L, _, rfl, .inl hL, _, _, rfl, rfl, _, rfl, ?_⟩
    rw [List.length_map]
    by_cases c : k < ls.length
    · rw [decide_eq_true (show ((k : Nat) : Int) < ((ls.length : Nat) : Int) by omega)]
      exact iteT ⟨_, rfl, rfl, fun d H' hd s1 e => kE c d H' hd s1 e⟩
    · rw [decide_eq_false (show ¬ ((k : Nat) : Int) < ((ls.length : Nat) : Int) by omega)]
      exact iteF (kQ (by omega))
abbrev N_check_no_word : List Str := ["words", "line", "at"]
theorem sc_check_no_word : FnScope N_check_no_word ["words", "line", "at"] (defScope s_check_no_word) := ⟨rfl, rfl, rfl, by decide +kernel, rfl, by decide +kernel, by decide +kernel⟩
theorem ok_check_no_word {f : Addr} {fd : FuncData} (F : Fun K "check_no_word" "check_no_word" s_check_no_word f fd) (T : TR mg) (TE : TErr K mg CW CG uW uG fdW fdG) : FnOk P w K mg base (L2.CX P w) 3 f fd ["words", "line", "at"] (spNoWord CW K) := by
  refine F.okX sc_check_no_word (fun vs H Q E h => ?_) (fun cdv A outer s H vs Q E hrE h => ?_)
  · obtain ⟨W, ws, ln, k, rfl, _⟩ := h
    rfl
  · obtain ⟨W, ws, ln, k, rfl, hW, kE, kQ⟩ := h
    refine ⟨_, (pss_one (ps_if (pt_cmpR op_lt (pv 2) (pe_callB call_len_seq (by rfl) T.m_len (by decide +kernel) (pa_cons (pv 0) pa_nil)) (nomark _)) (pss_one (ps_raise rfl (takes_of rfl rfl rfl rfl) (pmk_x TE.iBadText (ok_BadText TE) hrE TE.bBadText (by decide) rfl TE.gBadText (mono_var (mono_var mono_nil)) (pa_cons (pv 1) (pa_cons (pv 2) pa_nil))))) pss_nil)), ?_⟩
    refine ⟨_, rfl, _, rfl, W, _, rfl, .inl hW, _, _, rfl, rfl, _, rfl, ?_⟩
    rw [List.length_map]
    by_cases c : k < ws.length
    · rw [decide_eq_true (show ((k : Nat) : Int) < ((ws.length : Nat) : Int) by omega)]
      exact iteT ⟨_, rfl, _, rfl, rfl, fun d H' hd s1 e => kE c d H' hd s1 e⟩
    · rw [decide_eq_false (show ¬ ((k : Nat) : Int) < ((ws.length : Nat) : Int) by omega)]
      exact iteF (kQ (by omega))
abbrev N_word_in : List Str := ["words", "line", "at", "choices"]
theorem sc_word_in : FnScope N_word_in ["words", "line", "at", "choices"] (defScope s_word_in) := ⟨rfl, rfl, rfl, by decide +kernel, rfl, by decide +kernel, by decide +kernel⟩
theorem ok_word_in {f : Addr} {fd : FuncData} (F : Fun K "word_in" "word_in" s_word_in f fd) (T : TR mg) (TE : TErr K mg CW CG uW uG fdW fdG) : FnOk P w K mg base (L2.CX P w) 3 f fd ["words", "line", "at", "choices"] (spWordIn CW K) := by
  refine F.okX sc_word_in (fun vs H Q E h => ?_) (fun cdv A outer s H vs Q E hrE h => ?_)
  · obtain ⟨W, t, ws, cs, ln, k, rfl, _⟩ := h
    rfl
  · obtain ⟨W, t, ws, cs, ln, k, rfl, hW, ht, kQ, kE⟩ := h
    refine ⟨_, (pss_cons (ps_if (PW.pt (pw_or (pt_cmpR op_ge (pv 2) (pe_callB call_len_seq (by rfl) T.m_len (by decide +kernel) (pa_cons (pv 0) pa_nil)) (nomark _)) (pw_or1 (pt_cmpR op_notIn_seq (pe_ix ix_list (pv 0) (pv 2) (fun _ _ => rfl)) (pv 3) (by rfl))))) (pss_one (ps_raise rfl (takes_of rfl rfl rfl rfl) (pmk_x TE.iBadText (ok_BadText TE) hrE TE.bBadText (by decide) rfl TE.gBadText (mono_var (mono_var mono_nil)) (pa_cons (pv 1) (pa_cons (pv 2) pa_nil))))) pss_nil)
 (pss_one (ps_ret (pe_ix ix_list (pv 0) (pv 2) (fun _ _ => rfl))))), ?_⟩
    refine ⟨_, rfl, _, rfl, W, _, rfl, .inl hW, _, _, rfl, rfl, _, rfl, ?_⟩
    rw [List.length_map]
    by_cases c : ws.length ≤ k
    · rw [decide_eq_true (show ((ws.length : Nat) : Int) ≤ ((k : Nat) : Int) by omega)]
      exact iteT (iteT ⟨_, rfl, _, rfl, rfl, fun d H' hd s1 e => kE (fun w hw => by rw [List.getElem?_eq_none c] at hw; cases hw) d H' hd s1 e⟩)
    · rw [decide_eq_false (show ¬ ((ws.length : Nat) : Int) ≤ ((k : Nat) : Int) by omega)]
      obtain ⟨w, hw⟩ : ∃ w, ws[k]? = some w := ⟨_, List.getElem?_eq_getElem (by omega)⟩
      have hat : atI (ws.map V.str) ((k : Nat) : Int) = some (.str w) := atI_nat (by rw [List.getElem?_map, hw]; rfl)
      refine iteF ⟨_, rfl, _, rfl, W, _, _, .str w, rfl, rfl, hW, hat, _, rfl, t, _, rfl, .inr ht, rfl, flat_strs cs, _, rfl, ?_⟩
      show if (!inV (.str w) (cs.map V.str)) = true then _ else _
      rw [inV_strs]
      by_cases m : w ∈ cs
      · rw [decide_eq_true m]
        exact iteF ⟨_, rfl, _, rfl, W, _, _, .str w, rfl, rfl, hW, hat, kQ w hw m⟩
      · rw [decide_eq_false m]
        exact iteT ⟨_, rfl, _, rfl, rfl, fun d H' hd s1 e => kE (fun w' hw' => by rw [hw] at hw'; cases hw'; exact m) d H' hd s1 e⟩
abbrev N_number_in : List Str := ["words", "line", "at", "least", "most", "number"]
theorem sc_number_in : FnScope N_number_in ["words", "line", "at", "least", "most"] (defScope s_number_in) := ⟨rfl, rfl, rfl, by decide +kernel, rfl, by decide +kernel, by decide +kernel⟩
theorem ok_number_in {f fWh : Addr} {fd fdWh : FuncData} (F : Fun K "number_in" "number_in" s_number_in f fd) (T : TR mg) (TE : TErr K mg CW CG uW uG fdW fdG)
    (GWh : FnOk P w K mg base CX0 1 fWh fdWh ["word", "most"] spWhole) (gWh : mg "whole_in" = some (.ref fWh)) (kWh : PySem.W.keepIn K (.ref fWh) = true) (bWh : Binds K fdWh ["word", "most"] []) : FnOk P w K mg base (L2.CX P w) 3 f fd ["words", "line", "at", "least", "most"] (spNumIn CW K) := by
  refine F.okX sc_number_in (fun vs H Q E h => ?_) (fun cdv A outer s H vs Q E hrE h => ?_)
  · obtain ⟨W, ws, ln, k, most, rfl, _⟩ := h
    rfl
  · obtain ⟨W, ws, ln, k, most, rfl, hW, hm, hw, kQ, kE⟩ := h
    have hrE1 : Room 1 _ := hrE.mono (by decide)
    refine ⟨_, (pss_cons (ps_set (i := 5) sc_number_in.nd rfl (Or.inl rfl) (pe_ifExp (pt_cmpR op_lt (pv 2) (pe_callB call_len_seq (by rfl) T.m_len (by decide +kernel) (pa_cons (pv 0) pa_nil)) (nomark _)) (pe_call GWh hrE1 rfl gWh kWh bWh .nil pass0 (pa_cons (pe_ix ix_list (pv 0) (pv 2) (fun _ _ => rfl)) (pa_cons (pv 4) pa_nil))) pe_non))
 (pss_cons (ps_if (PW.pt (pw_or (pt_cmpR op_isN (pv 5) pe_non (nomark _)) (pw_or1 (pt_cmpR op_lt (pv 5) (pv 3) (nomark _))))) (pss_one (ps_raise rfl (takes_of rfl rfl rfl rfl) (pmk_x TE.iBadText (ok_BadText TE) hrE TE.bBadText (by decide) rfl TE.gBadText (mono_var (mono_var mono_nil)) (pa_cons (pv 1) (pa_cons (pv 2) pa_nil))))) pss_nil)
 (pss_one (ps_ret (pv 5))))), ?_⟩
    refine ⟨_, rfl, _, rfl, W, _, rfl, .inl hW, _, _, rfl, rfl, _, rfl, ?_⟩
    rw [List.length_map]
    have bad : ∀ H1, Same H H1 → (∀ w, ws[k]? = some w → numW most w = none) → ∀ d H', H1 d = none → Same H1 H' → H' d = some (.xd [("word", .int (k : Nat)), ("line", .int ln)]) → E (.ref CW) (some d) H' := fun H1 s1 hb => (kE hb).same s1
    by_cases c : k < ws.length
    · rw [decide_eq_true (show ((k : Nat) : Int) < ((ws.length : Nat) : Int) by omega)]
      obtain ⟨w, hk⟩ : ∃ w, ws[k]? = some w := ⟨_, List.getElem?_eq_getElem c⟩
      have hat : atI (ws.map V.str) ((k : Nat) : Int) = some (.str w) := atI_nat (by rw [List.getElem?_map, hk]; rfl)
      refine iteT ⟨_, rfl, _, rfl, W, _, _, .str w, rfl, rfl, hW, hat, _, rfl, w, most, rfl, hw w (List.mem_of_getElem? hk), hm, fun H1 s1 => ?_⟩
      cases e : numW most w with
      | none =>
        have en : numV most w = .non := by
          unfold numV
          rw [e]
        rw [en]
        exact ⟨_, rfl, rfl, _, rfl, iteT (iteT ⟨_, rfl, _, rfl, rfl, fun d H' hd s2 e2 => bad H1 s1 (fun w' hw' => by rw [hk] at hw'; cases hw'; exact e) d H' hd s2 e2⟩)⟩
      | some n =>
        have en : numV most w = .int (n : Nat) := by
          unfold numV
          rw [e]
        rw [en]
        refine ⟨_, rfl, rfl, _, rfl, iteF ⟨_, rfl, _, rfl, _, _, rfl, rfl, _, rfl, ?_⟩⟩
        show if decide (((n : Nat) : Int) < 0) = true then _ else _
        rw [decide_eq_false (show ¬ ((n : Nat) : Int) < 0 by omega)]
        exact iteF ⟨_, rfl, kQ w n hk e H1 s1⟩
    · rw [decide_eq_false (show ¬ ((k : Nat) : Int) < ((ws.length : Nat) : Int) by omega)]
      exact iteF ⟨_, rfl, rfl, _, rfl, iteT (iteT ⟨_, rfl, _, rfl, rfl, fun d H' hd s2 e2 => bad H (Same.refl H) (fun w hw' => by rw [List.getElem?_eq_none (by omega)] at hw'; cases hw') d H' hd s2 e2⟩)⟩
end
end Toy
set_option maxRecDepth 100000
set_option maxHeartbeats 2000000
/-! own classes: truth by __len__, <=, == beside any plain value; static methods -/
namespace L2
open PySem PySem.Spec PyProof.Rows ClX
theorem oth_looks {X : Cx} {C : Addr} {pins : List (Addr × Obj)} {σ : St} {H : Hp} {s : Shared} {y : V} {u : Value} (I : Inv X pins σ H s) (r : RelV y u) (h : Oth X.K C H y) : ∃ t, (∀ M : Model, PySem.W.Looks M s.heap (typeOf u) t) ∧ PySem.W.notFirst X.K C t = true := by
  rcases h with ⟨b, dx, fs, rfl, h⟩ | ⟨S, h⟩
  · cases r
    obtain ⟨mA, J, _⟩ := ins_get I.hok h
    obtain ⟨od, J, _⟩ := J.look
    exact ⟨_, fun M => J.type, by simp [PySem.W.notFirst]⟩
  · refine ⟨.type S, fun M => plain_looks I r h M, ?_⟩
    unfold PySem.W.notFirst
    rw [sub_no X.K C S (plain_name h)]
    simp
/-- own comparisons beside an instance or a plain value -/
def rOwnC (C : Addr) (sp : Sp) (E : XK) (K : PySem.W.Frag) : R2 := fun x y H Q => ∃ (a dx : Addr) (fs : List (Str × V)), x = .ref a ∧ H a = some (.ins C dx fs) ∧ Oth K C H y ∧ sp [x, y] H (fun v H' => ∃ b : Bool, v = .bl b ∧ Q (.bl b) H') E
section
variable {X : Cx} {CX : CXT} {n : Nat} {C f : Addr} {sp : Sp} {E : XK}
theorem own_cmp {op : CmpOp} (F : FnR X.prog X.w X.K X.mg X.base CX n f sp) (h1 : PySem.W.findIn X.K (.ref C) (cmpInfo op).2.1 = some (some (.ref f))) (h2 : PySem.W.isFn X.K (.ref f) = true) (hr : Room n X.A) (hx : Passes CX X E)
    {pins : List (Addr × Obj)} {σ : St} {H : Hp} {s : Shared} {x y : V} {v u : Value} {Q : VK} (I : Inv X pins σ H s) (rx : RelV x v) (ry : RelV y u) (hq : rOwnC C sp E X.K x y H Q) : wpAny (model X.prog X.w) X.A (richCompare op v u) (EP X pins σ Q) X.xe s := by
  obtain ⟨a, dx, fs, rfl, ha, hy, hsp⟩ := hq
  cases rx
  obtain ⟨mA, J, _⟩ := ins_get I.hok ha
  obtain ⟨od, J, _⟩ := J.look
  obtain ⟨t, ht, hn⟩ := oth_looks I ry hy
  obtain ⟨m, hF⟩ := I.fr
  refine PySem.W.cmp_K (op := op) (tb := t) hr.units0 hF I.ok.mod.kin J (ht _) hn h1 h2 (wpAny_call (codeAny_mono (own_codeR F hr rfl hx I (show Vals [V.ref a, y] [Value.ref a, u] from .cons rfl (.cons ry .nil)) hsp) fun r s' z => ?_))
  match r, z with
  | .error e, z => exact z
  | .ok .next, z => exact z.elim
  | .ok .brk, z => exact z.elim
  | .ok .cont, z => exact z.elim
  | .ok (.ret w), z =>
    obtain ⟨v, H', I', rz, b, rfl, q⟩ := z
    obtain rfl : w = Value.bool b := rz
    exact ⟨.bl b, H', I', rfl, q⟩
theorem op_leOwn (F : FnR X.prog X.w X.K X.mg X.base CX n f sp) (h1 : PySem.W.findIn X.K (.ref C) "__le__" = some (some (.ref f))) (h2 : PySem.W.isFn X.K (.ref f) = true) (hr : Room n X.A) (hx : Passes CX X E) : OpR X (compareOp .LtE) (rOwnC C sp E X.K) := by
  intro pins s σ H x y v u Q I rx ry hq
  exact own_cmp (op := .LtE) F h1 h2 hr hx I rx ry hq
theorem op_eqOwnP (F : FnR X.prog X.w X.K X.mg X.base CX n f sp) (h1 : PySem.W.findIn X.K (.ref C) "__eq__" = some (some (.ref f))) (h2 : PySem.W.isFn X.K (.ref f) = true) (hr : Room n X.A) (hx : Passes CX X E) : OpR X (compareOp .Eq) (rOwnC C sp E X.K) := by
  intro pins s σ H x y v u Q I rx ry hq
  exact own_cmp (op := .Eq) F h1 h2 hr hx I rx ry hq
/-! truth -/
def rTruI (C : Addr) (sp : Sp) (E : XK) : V → Hp → (Bool → Hp → Prop) → Prop := fun x H Q => ∃ (a dx : Addr) (fs : List (Str × V)), x = V.ref a ∧ H a = some (.ins C dx fs) ∧ sp [V.ref a] H (fun v H' => ∃ i : Int, v = V.int i ∧ 0 ≤ i ∧ i < 2 ^ 63 ∧ Q (i != 0) H') E
theorem truth_len (F : FnR X.prog X.w X.K X.mg X.base CX n f sp) (hr : Room (n + 1) X.A) (h0 : PySem.W.findIn X.K (.ref C) "__bool__" = some none) (h1 : PySem.W.findIn X.K (.ref C) "__len__" = some (some (.ref f))) (h2 : PySem.W.isFn X.K (.ref f) = true) (hx : Passes CX X E)
    {pins : List (Addr × Obj)} {σ : St} {H : Hp} {s : Shared} {x : V} {v : Value} {Q : Bool → Hp → Prop} (I : Inv X pins σ H s) (rx : RelV x v) (hq : rTruI C sp E x H Q) : wpAny (model X.prog X.w) X.A (truthy v) (fun b s' => ∃ H', Inv X pins σ H' s' ∧ Q b H') X.xe s := by
  obtain ⟨a, dx, fs, rfl, ha, hsp⟩ := hq
  cases rx
  obtain ⟨mA, J, _⟩ := ins_get I.hok ha
  obtain ⟨od, J, _⟩ := J.look
  obtain ⟨m0, hF⟩ := I.fr
  have hr2 : Room n X.A.in1 := ⟨hr.hd, by have := hr.dp; show X.A.depth + 3 * n + 5 < _; omega, by have := hr.un; show X.A.units + 1 + 16 * n + 200 < _; omega⟩
  unfold truthy
  refine wpAny_bind (m := callSpecial? (.ref a) (Str.ofString "__bool__")) (wpAny_bind (wpAny_bind (J.type.here ((PySem.W.looks_findIn I.kIn h0).here (wpAny_pure ?_)))))
  refine wpAny_bind (wpAny_bind (J.type.here ((PySem.W.looks_findIn I.kIn h1).here ?_)))
  show wpAny _ _ (runValue (.builtin "len" ⟨[.ref a], []⟩) >>= _) _ _ _
  refine wpAny_bind (wpAny_runValue (codeAny_builtin entry_len ?_))
  rw [Around.under_plainId plain_len _]
  unfold Builtin.«len»
  refine wpAny_bind (m := oneArg "len" _) (wpAny_pure ?_)
  refine wpAny_bind (m := callSpecial? (.ref a) (Str.ofString "__len__")) (PySem.W.special_fn I.kIn J h1 (beq_iff_eq.mp h2) (wpAny_mono (wpAny_call (codeAny_mono (own_codeR F hr2 rfl hx I (show Vals [V.ref a] [Value.ref a] from .cons rfl .nil) hsp) (R := fun r s' => match r with | .ok (.ret v) => EP X pins σ _ v s' | .ok _ => False | .error e => X.xe e s') fun r s' z => z)) (fun r s' hr => ?_) fun _ _ y => y))
  obtain ⟨v, H', I', rz, i, rfl, i0, i1, q⟩ := hr
  obtain ⟨t, rfl⟩ := (show ∃ t, r = Value.int i t from rz)
  refine wpAny_bind (wpAny_holding (wpAny_pure ?_))
  refine wpAny_bind (wpAny_letGo ?_)
  show wpAny _ _ (if i < 0 then _ else _) _ _ _
  rw [if_neg (by omega)]
  show wpAny _ _ (if i ≥ 2 ^ 63 then _ else _) _ _ _
  rw [if_neg (by omega)]
  exact wpAny_bind (wpAny_mkInt (wpAny_pure (wpAny_pure ⟨H', I'.tok _, q⟩)))
theorem pt_truthI {e : Expr} {te : TE} (he : PE X e te) (F : FnR X.prog X.w X.K X.mg X.base CX n f sp) (hr : Room (n + 1) X.A) (h0 : PySem.W.findIn X.K (.ref C) "__bool__" = some none) (h1 : PySem.W.findIn X.K (.ref C) "__len__" = some (some (.ref f))) (h2 : PySem.W.isFn X.K (.ref f) = true) (hx : Passes CX X E)
    (hw : ∀ whole, isTrue e X.env whole = (do let v ← whole; standAt e.pos; holding [v] (truthy v)) := by exact fun _ => rfl) : PT X e (fun σ H Q => te σ H fun x H' => rTruI C sp E x H' Q) := by
  refine ⟨fun pins s σ H Q I h => ?_⟩
  exact isTrue_plain (thn (he.run pins s σ H _ I h) fun v s1 hh => by
    obtain ⟨x, H1, I1, r1, q1⟩ := hh
    exact truth_len F hr h0 h1 h2 hx I1 r1 q1) (hw _)
end
/-! static methods, called through the class -/
structure SMet (K : PySem.W.Frag) (C : Addr) (mc : Value) (m : Str) (p g : Addr) : Prop where
  at_ : PySem.W.findCls K (.ref C) mc m = some (.get (.builtin "staticmethod.__get__") (.ref p) .none (.ref C))
  rc : ∃ rest, PySem.W.recIn K p "staticmethod" = some (.ref g :: rest)
  kp : PySem.W.keepIn K (.ref g) = true
def tSMeth (C : Addr) (sp : Sp) (E : XK) (ta : TE) (t : TA) : TE := fun σ H Q => ta σ H fun x H1 => x = .ref C ∧ t σ H1 fun vs H2 => sp vs H2 Q E
section
variable {X : Cx} {CX : CXT} {k : Nat} {C p g : Addr} {mc : Value} {sp : Sp} {E : XK} {o e : Expr} {es : List Expr} {m : Str} {pos apos : Pos} {ta : TE} {t : TA} {pl : Sem Bool}
theorem getmethsm_ok {pins : List (Addr × Obj)} {σ : St} {H : Hp} {s : Shared} {A : Around} {Q : Value × List Value → Shared → Prop} {E : Value → Shared → Prop} (I : Inv X pins σ H s) (r : CRead X.K C mc) (c : SMet X.K C mc m p g) (h : ∀ s', Inv X pins σ H s' → Q (.ref g, []) s') : wpAny (model X.prog X.w) A (getMethod (.ref C) m pl) Q E s := by
  obtain ⟨rest, hp⟩ := c.rc
  refine PySem.W.method_cls I.kIn r.ga (PySem.W.cls_bind I.kIn r.rd c.at_ (wpAny_call (PySem.W.sm_get (s := { s with toks := s.toks + 1 }) I.kIn hp (PySem.W.handed_on rfl ?_))))
  exact h _ (I.tok _)
theorem pe_smeth (he : PE X o ta) (r : CRead X.K C mc) (c : SMet X.K C mc m p g) (F : FnR X.prog X.w X.K X.mg X.base CX k g sp) (hr : Room k X.A) (hx : Passes CX X E) (ha : PA X (e :: es) t)
    (hst : starEach (e :: es) X.env = (false, eval e X.env) :: starEach es X.env := by rfl) (hpl : (backTo pos (starEach es X.env)).any (·.1) = false := by rfl)
    (ht : eval (.Call (.Attribute o m apos) (e :: es) [] pos) X.env = (do
      let ov ← eval o X.env
      standAt apos.atName
      let (f, first) ← holding [ov] (getMethod ov m pl)
      callWith pos f first (backTo pos (starEach (e :: es) X.env)) (backToKw pos (keywordEach [] X.env))) := by rfl) : PE X (.Call (.Attribute o m apos) (e :: es) [] pos) (tSMeth C sp E ta t) := by
  refine ⟨fun pins s σ H Q I h => ?_⟩
  refine PySem.W.methodCall_KW (pl := pl) (thn (he.run pins s σ H _ I h) fun u s1 hh => ?_) ht
  obtain ⟨x, H1, I1, rx, ex, q⟩ := hh
  subst ex
  obtain rfl : u = Value.ref C := rx
  refine getmethsm_ok I1 r c fun s2 I2 => ?_
  refine PySem.W.callWith_K (h₀ := X.base) I2.ok.mod.kin c.kp (thn (ha.run pos pins s2 σ H1 _ I2 q) fun us s3 hv => ?_) hst hpl
  obtain ⟨vs, H2, I3, rv, q2⟩ := hv
  exact ⟨I3.kIn, wpAny_call (run_fnR F hr hx I3 rv q2)⟩
end
section
variable {X : Cx} {CX : CXT} {k : Nat} {p g C : Addr} {mc : Value} {fd : FuncData} {ps ks : List Str} {m : Str} {sp : Sp} {E : XK} {o : Expr} {ta : TE} {tk : TA} {pos apos : Pos} {kws : List Keyword} {gg : List Value → List Value → List Value} {gV : List V → List V → List V}
def tSMethK (C : Addr) (n : Nat) (sp : Sp) (gV : List V → List V → List V) (E : XK) (ta : TE) (tk : TA) : TE := fun σ H Q => ta σ H fun x H1 => x = .ref C ∧ tk σ H1 fun zs H2 => zs.length = n ∧ sp (gV [] zs) H2 Q E
theorem pe_smethK {pl : Sem Bool} (he : PE X o ta) (r : CRead X.K C mc) (c : SMet X.K C mc m p g) (F : FnOk X.prog X.w X.K X.mg X.base CX k g fd ps sp) (hr : Room k X.A) (hb : KBn X.K fd ps 0 ks gg gV) (hx : Passes CX X E) (hkw : PK X kws tk)
    (hall : (backToKw pos (keywordEach kws X.env)).all (·.1.isSome) = true := by rfl) (hks : (backToKw pos (keywordEach kws X.env)).filterMap (·.1) = ks := by rfl)
    (hpl : ((backTo pos (starEach [] X.env)).any (·.1) || (backToKw pos (keywordEach kws X.env)).any (·.1.isNone)) = false := by rfl)
    (ht : eval (.Call (.Attribute o m apos) [] kws pos) X.env = (do
      let ov ← eval o X.env
      standAt apos.atName
      let (f, first) ← holding [ov] (getMethod ov m pl)
      callWith pos f first (backTo pos (starEach [] X.env)) (backToKw pos (keywordEach kws X.env))) := by rfl) :
    PE X (.Call (.Attribute o m apos) [] kws pos) (tSMethK C ks.length sp gV E ta tk) := by
  refine ⟨fun pins s σ H Q I h => ?_⟩
  refine PySem.W.methodCall_KW (pl := pl) (thn (he.run pins s σ H _ I h) fun u s1 hh => ?_) ht
  obtain ⟨x, H1, I1, rx, ex, q⟩ := hh
  subst ex
  obtain rfl : u = Value.ref C := rx
  refine getmethsm_ok I1 r c fun s2 I2 => ?_
  refine PySem.W.callWith_KW0 (h₀ := X.base) I2.ok.mod.kin c.kp hall ?_ hpl
  refine thn (hkw.run pos pins s2 σ H1 _ I2 q) fun ws s3 hw => ?_
  obtain ⟨zs, H2, I3, rz, l2, q2⟩ := hw
  refine ⟨I3.kIn, ?_⟩
  rw [hks]
  have rr : Vals ([] : List V) ([] : List Value) := .nil
  have r2 := hb.rel rr rz
  refine wpAny_call (codeAny_mono (F.run X.A X.stack s3 H2 ⟨[], ks.zip ws⟩ (gg [] ws) (gV [] zs) Q E hr I3.env0 (hb.to s3 [] ws I3.kIn rfl (rz.length.symm.trans l2)) r2 q2) fun r s' hq => ?_)
  match r, hq with
  | .error e, hq => exact hx _ σ H2 s3 e s' I3 hq
  | .ok (.ret u), hq => exact I3.after hq
  | .ok .next, hq => exact hq.elim
  | .ok .brk, hq => exact hq.elim
  | .ok .cont, hq => exact hq.elim
end
/-- what the top has written of a static method -/
def smB (K : PySem.W.Frag) (C : Addr) (m : Str) : Bool := He5.wrapB K C "staticmethod" "staticmethod.__get__" m && PySem.W.keepIn K (.ref (He5.wf K C "staticmethod" m))
theorem sm_of {K : PySem.W.Frag} {C : Addr} {m : Str} (h : smB K C m = true) : SMet K C (.type "type") m (He.ma K C m) (He5.wf K C "staticmethod" m) := by
  obtain ⟨h1, h2⟩ := He.ba h
  obtain ⟨h3, h4⟩ := He5.wrapB_ok h1
  exact ⟨h3, h4, h2⟩
end L2
set_option maxRecDepth 100000
namespace Toy
open PySem L2 TL LamX ClX
abbrev s_is_entry : Stmt := top 24
abbrev s_Log___init__ : Stmt := (inClass (top 25) 0)
abbrev s_Log___eq__ : Stmt := (inClass (top 25) 1)
abbrev s_Log___len__ : Stmt := (inClass (top 25) 2)
abbrev s_Log___add__ : Stmt := (inClass (top 25) 4)
/-- an entry of a log: two addresses, whether they met -/
abbrev Ent := Nat × Nat × Bool
def entD (e : Ent) : PyData := .tuple [.int (e.1 : Nat), .int (e.2.1 : Nat), .bool e.2.2]
def entV (e : Ent) : List V := [.int (e.1 : Nat), .int (e.2.1 : Nat), .bl e.2.2]
def EntOk (e : Ent) : Prop := e.1 ≤ 10 ^ 30 ∧ e.2.1 ≤ 10 ^ 30
/-- tuples of three, one by one -/
inductive EntsAt (G : Hp) : List V → List Ent → Prop where
  | nil : EntsAt G [] []
  | cons {t : Addr} {e : Ent} {r : List V} {es : List Ent} (h : G t = some (.tup (entV e))) (o : EntOk e) (k : EntsAt G r es) : EntsAt G (.ref t :: r) (e :: es)
theorem EntsAt.keep {G G' : Hp} {rs : List V} {es : List Ent} (k : ∀ t xs, G t = some (.tup xs) → G' t = some (.tup xs)) (h : EntsAt G rs es) : EntsAt G' rs es := by
  induction h with
  | nil => exact .nil
  | cons h o _ ih => exact .cons (k _ _ h) o ih
theorem EntsAt.append {G : Hp} {rs rs' : List V} {es es' : List Ent} (h : EntsAt G rs es) (k : EntsAt G rs' es') : EntsAt G (rs ++ rs') (es ++ es') := by
  induction h with
  | nil => exact k
  | cons h o _ ih => exact .cons h o ih
theorem EntsAt.len {G : Hp} {rs : List V} {es : List Ent} (h : EntsAt G rs es) : rs.length = es.length := by
  induction h with
  | nil => rfl
  | cons h o _ ih => rw [List.length_cons, List.length_cons, ih]
theorem EntsAt.get {G : Hp} {rs : List V} {es : List Ent} (h : EntsAt G rs es) {i : Nat} {v : V} (hv : rs[i]? = some v) : ∃ t e, v = .ref t ∧ es[i]? = some e ∧ G t = some (.tup (entV e)) ∧ EntOk e := by
  induction h generalizing i with
  | nil => cases hv
  | cons h o _ ih =>
    cases i with
    | zero =>
      cases hv
      exact ⟨_, _, rfl, rfl, h, o⟩
    | succ i => exact ih hv
theorem EntsAt.dp {K : PySem.W.Frag} {G : Hp} {rs : List V} {es : List Ent} (h : EntsAt G rs es) : DpAll K G rs (es.map entD) := by
  induction h with
  | nil => exact .nil
  | cons h o _ ih => exact .cons (.tup (SqT.of h) (.cons (.int _) (.cons (.int _) (.cons (.bl _) .nil)))) ih
theorem ents_shaped (es : List Ent) : SeqAt.shaped (.tuple (es.map entD)) = true := by
  have z : ∀ es : List Ent, PyData.canLayAll0 (es.map entD) = true ∧ PyData.depthAll (es.map entD) ≤ 1 := by
    intro es
    induction es with
    | nil => exact ⟨rfl, Nat.zero_le _⟩
    | cons x r ih =>
      obtain ⟨i1, i2⟩ := ih
      refine ⟨?_, ?_⟩
      · simp [entD, PyData.canLayAll0, PyData.canLay0, i1]
      · have : PyData.depthAll ((x :: r).map entD) = max (entD x).depth (PyData.depthAll (r.map entD)) := by simp [PyData.depthAll]
        rw [this]
        have e : (entD x).depth = 1 := by simp [entD, PyData.depth, PyData.depthAll]
        omega
  obtain ⟨z1, z2⟩ := z es
  have e : (PyData.tuple (es.map entD)).depth = 1 + PyData.depthAll (es.map entD) := by simp [PyData.depth, Nat.add_comm]
  have c : (PyData.tuple (es.map entD)).canLay0 = true := by simp [PyData.canLay0, z1]
  unfold SeqAt.shaped
  rw [c, e]
  exact decide_eq_true (by omega)
theorem ent_eqv (x y : Ent) : PyData.eqv (entD x) (entD y) = decide (x = y) := by
  obtain ⟨a, b, c⟩ := x
  obtain ⟨a', b', c'⟩ := y
  simp only [entD, PyData.eqv, PyData.eqvAll, Prod.mk.injEq, Bool.and_true, Bool.decide_and]
  have h1 : (((a : Nat) : Int) == ((a' : Nat) : Int)) = decide (a = a') := by
    rw [Bool.eq_iff_iff, beq_iff_eq, decide_eq_true_iff]
    omega
  have h2 : (((b : Nat) : Int) == ((b' : Nat) : Int)) = decide (b = b') := by
    rw [Bool.eq_iff_iff, beq_iff_eq, decide_eq_true_iff]
    omega
  have h3 : (c == c') = decide (c = c') := by cases c <;> cases c' <;> rfl
  rw [h1, h2, h3]
theorem ents_eqv (a b : List Ent) : PyData.eqv (.tuple (a.map entD)) (.tuple (b.map entD)) = decide (a = b) := by
  show PyData.eqvAll _ _ = _
  induction a generalizing b with
  | nil => cases b <;> simp [PyData.eqvAll]
  | cons x r ih => cases b with
    | nil => simp [PyData.eqvAll]
    | cons y t =>
      rw [List.map_cons, List.map_cons]
      show (PyData.eqv (entD x) (entD y) && PyData.eqvAll _ _) = _
      rw [ih t, ent_eqv]
      simp only [List.cons.injEq, Bool.decide_and]
/-- a Log stands at p -/
def LogAt (C : Addr) (H : Hp) (p : Addr) (es : List Ent) : Prop := ∃ (dx po : Addr) (rs : List V), H p = some (.ins C dx (putF "entries" (.ref po) [])) ∧ H po = some (.tup rs) ∧ EntsAt H rs es
theorem LogAt.same {C : Addr} {H H' : Hp} {p : Addr} {es : List Ent} (s : Same H H') (h : LogAt C H p es) : LogAt C H' p es :=
  let ⟨dx, po, rs, h1, h2, h3⟩ := h
  ⟨dx, po, rs, s _ _ h1, s _ _ h2, h3.keep fun _ _ z => s _ _ z⟩
theorem fs_ent (v : V) : (putF "entries" v []).lookup ("entries" : Str) = some v := by rw [lookup_putF, if_pos rfl]
/-- what the top has written of the class -/
structure TLog (K : PySem.W.Frag) (mg : Str → Option Value) (C : Addr) : Prop where
  cl : Cls K C
  nO : NoAttr K C "entries"
  gC : mg "Log" = some (.ref C)
structure LogCls (K : PySem.W.Frag) (C : Addr) : Prop where
  cl : Cls K C
  ha : PySem.W.findIn K (.ref C) "__class__" = some (some (.builtin "object.__class__"))
  hn : PySem.W.specialIn K (.builtin "object.__class__") "__get__" = some (some (.builtin "getset_descriptor.__get__"))
  ht : PySem.W.takesIn K (.builtin "object.__class__") = some true
  hm : PySem.W.mroIn K C (.type "object") = some true
  kC : PySem.W.kitOne K (.ref C) (.ref C) = some true
  kS : ∀ S ∈ plainTys, PySem.W.kitOne K (.type S) (.ref C) = some false
theorem small_n {n : Nat} (h : n ≤ 10000) : n < PySem.sizeLine := by
  have e : PySem.sizeLine = 16777216 := rfl
  omega
theorem ite_nb {c : Bool} {A B : Prop} (h : c = true) (b : B) : if (!c) = true then A else B := by
  rw [h]
  exact iteF b
theorem ite_yes {c : Bool} {A B : Prop} (h : c = true) (a : A) : if c = true then A else B := by
  rw [h]
  exact iteT a
def spIsEntry : Sp := fun vs H Q _ => ∃ (t : Addr) (e : Ent), vs = [.ref t] ∧ H t = some (.tup (entV e)) ∧ EntOk e ∧ Q (.bl true) H
def spLInit (C : Addr) : Sp := fun vs H Q _ => ∃ (p dx q : Addr) (rs : List V) (es : List Ent), vs = [.ref p, .ref q] ∧ H p = some (.ins C dx []) ∧ H q = some (.tup rs) ∧ EntsAt H rs es ∧ rs.length ≤ 1000 ∧ ∀ H', But p H H' → LogAt C H' p es → Q .non H'
def spLMk (C : Addr) : Sp := fun vs H Q E => ∃ v rest, vs = v :: rest ∧ rest.length ≤ PySem.sizeLine ∧ ∀ p, H p = none → spLInit C [v, .ref p] (upd H p (.tup rest)) Q E
def spLEq (C : Addr) (K : PySem.W.Frag) : Sp := fun vs H Q _ => ∃ (p : Addr) (es : List Ent) (y : V), vs = [.ref p, y] ∧ LogAt C H p es ∧ ∃ (q : Addr) (fs : List Ent), y = .ref q ∧ LogAt C H q fs ∧ Q (.bl (decide (es = fs))) H
def spLLen (C : Addr) : Sp := fun vs H Q _ => ∃ (p : Addr) (es : List Ent), vs = [.ref p] ∧ LogAt C H p es ∧ Q (.int (es.length : Nat)) H
def spLAdd (C : Addr) : Sp := fun vs H Q _ => ∃ (p q : Addr) (es fs : List Ent), vs = [.ref p, .ref q] ∧ LogAt C H p es ∧ LogAt C H q fs ∧ es.length + fs.length ≤ 1000 ∧ ∀ H' x, Same H H' → LogAt C H' x (es ++ fs) → Q (.ref x) H'
section
variable {P : Program} {w : World} {K : PySem.W.Frag} {mg : Str → Option Value} {base : Heap} {CW CG uW uG : Addr} {fdW fdG : FuncData} {C : Addr}
abbrev N_is_entry : List Str := ["value"]
theorem sc_is_entry : FnScope N_is_entry ["value"] (defScope s_is_entry) := ⟨rfl, rfl, rfl, by decide +kernel, rfl, by decide +kernel, by decide +kernel⟩
theorem ok_is_entry {f fW : Addr} {fd fdW_ : FuncData} (F : Fun K "is_entry" "is_entry" s_is_entry f fd) (T : TR mg) (EP : ∃ t, mg "ENTRY_PARTS" = some (.int 3 t))
    (GW : FnOk P w K mg base CX0 2 fW fdW_ ["value", "least", "most"] (spWithin K)) (gW : mg "is_within" = some (.ref fW)) (kW : PySem.W.keepIn K (.ref fW) = true) (bW : Binds K fdW_ ["value", "least", "most"] []) : FnOk P w K mg base CX0 3 f fd ["value"] spIsEntry := by
  refine F.ok sc_is_entry (fun vs H Q E h => ?_) (fun cdv A outer s H vs Q E hrD2 h => ?_)
  · obtain ⟨t, e, rfl, _⟩ := h
    rfl
  · obtain ⟨t, e, rfl, ht, ⟨o1, o2⟩, k⟩ := h
    refine ⟨_, (pss_cons (ps_if (PW.pt (pw_or (pt_not (pt_val (pe_callB call_isi (by rfl) T.m_isinstance (by decide +kernel) (pa_cons (pv 0) (pa_cons (pe_bltn (v := .ty "tuple") (u := .type "tuple") rfl T.m_tuple (by decide +kernel) rfl) pa_nil))))) (pw_or1 (pt_cmpR op_ne (pe_callB call_len_seq (by rfl) T.m_len (by decide +kernel) (pa_cons (pv 0) pa_nil)) (pe_glob (v := .int 3) rfl EP.choose_spec ⟨_, rfl⟩) (nomark _))))) (pss_one (ps_ret pe_bl)) pss_nil)
 (pss_one (ps_ret (pe_and (pe_call GW hrD2 rfl gW kW bW .nil pass0 (pa_cons (pe_ix ix_tup (pv 0) pe_int (fun _ _ => rfl)) (pa_cons pe_int (pa_cons (pe_glob (v := .int (10 ^ 30)) rfl T.g_GREATEST.choose_spec ⟨_, rfl⟩) pa_nil)))) (pe_and (pe_call GW hrD2 rfl gW kW bW .nil pass0 (pa_cons (pe_ix ix_tup (pv 0) pe_int (fun _ _ => rfl)) (pa_cons pe_int (pa_cons (pe_glob (v := .int (10 ^ 30)) rfl T.g_GREATEST.choose_spec ⟨_, rfl⟩) pa_nil)))) (pe_one (pe_callB call_isi (by rfl) T.m_isinstance (by decide +kernel) (pa_cons (pe_ix ix_tup (pv 0) pe_int (fun _ _ => rfl)) (pa_cons (pe_bltn (v := .ty "bool") (u := .type "bool") rfl T.m_bool (by decide +kernel) rfl) pa_nil))))))))), ?_⟩
    have w1 : withinV 0 (10 ^ 30) (.int (e.1 : Nat)) = true := decide_eq_true ⟨by omega, by omega⟩
    have w2 : withinV 0 (10 ^ 30) (.int (e.2.1 : Nat)) = true := decide_eq_true ⟨by omega, by omega⟩
    refine ⟨_, rfl, _, _, _, _, _, rfl, .ty _, (Plain.tup (K := K) ht).ty, rfl, _, rfl, ite_nb rfl ⟨_, rfl, t, _, rfl, .inr (SqT.of ht), rfl, _, rfl, ite_nb (decide_eq_true rfl) ?_⟩⟩
    exact ⟨_, rfl, t, _, 0, _, rfl, rfl, SqT.of ht, atI_nat (j := 0) rfl, _, _, 0, 10 ^ 30, rfl, .int _, _, rfl, ite_yes w1 ⟨_, rfl, t, _, 1, _, rfl, rfl, SqT.of ht, atI_nat (j := 1) rfl, _, _, 0, 10 ^ 30, rfl, .int _, _, rfl, ite_yes w2
      ⟨_, rfl, t, _, 2, _, rfl, rfl, SqT.of ht, atI_nat (j := 2) rfl, _, _, _, _, _, rfl, .ty _, (Plain.bl (K := K) _).ty, rfl, k⟩⟩⟩
abbrev N_Log___eq__ : List Str := ["self", "other"]
theorem sc_Log___eq__ : FnScope N_Log___eq__ ["self", "other"] (defScope s_Log___eq__) := ⟨rfl, rfl, rfl, by decide +kernel, rfl, by decide +kernel, by decide +kernel⟩
theorem ok_Log_eq {f : Addr} {fd : FuncData} (F : Fun K "__eq__" "Log.__eq__" s_Log___eq__ f fd) (T : TR mg) (TU : TLog K mg C) (RC : LogCls K C) : FnOk P w K mg base CX0 1 f fd ["self", "other"] (spLEq C K) := by
  refine F.ok sc_Log___eq__ (fun vs H Q E h => ?_) (fun cdv A outer s H vs Q E hr h => ?_)
  · obtain ⟨p, es, y, rfl, _⟩ := h
    rfl
  · obtain ⟨p, es, y, rfl, ⟨dx, po, rs, h1, h2, h3⟩, q, fs, rfl, ⟨dy, qo, ts, g1, g2, g3⟩, k⟩ := h
    refine ⟨_, (pss_one (ps_ret (pe_and (pe_callB call_isi (by rfl) T.m_isinstance (by decide +kernel) (pa_cons (pv 1) (pa_cons (pe_glob (v := .ref C) rfl TU.gC rfl) pa_nil))) (pe_one (pe_cmpR (op_eqD hr.units) (pe_fld (pv 0) rfl) (pe_fld (pv 1) rfl) (nomark _)))))), ?_⟩
    refine ⟨_, rfl, _, _, _, _, _, rfl, .own _, .base (.ins g1 RC.cl RC.ha RC.hn RC.ht RC.hm), RC.kC, _, rfl, iteT ?_⟩
    refine ⟨_, rfl, p, C, dx, _, _, rfl, h1, TU.cl, TU.nO, fs_ent _, _, rfl, q, C, dy, _, _, rfl, g1, TU.cl, TU.nO, fs_ent _, .tuple (es.map entD), .tuple (fs.map entD), .tup (SqT.of h2) h3.dp, .tup (SqT.of g2) g3.dp, ents_shaped _, ents_shaped _, ?_⟩
    rw [ents_eqv]
    exact k
abbrev N_Log___len__ : List Str := ["self"]
theorem sc_Log___len__ : FnScope N_Log___len__ ["self"] (defScope s_Log___len__) := ⟨rfl, rfl, rfl, by decide +kernel, rfl, by decide +kernel, by decide +kernel⟩
theorem ok_Log_len {f : Addr} {fd : FuncData} (F : Fun K "__len__" "Log.__len__" s_Log___len__ f fd) (T : TR mg) (TU : TLog K mg C) : FnOk P w K mg base CX0 1 f fd ["self"] (spLLen C) := by
  refine F.ok sc_Log___len__ (fun vs H Q E h => ?_) (fun cdv A outer s H vs Q E hr h => ?_)
  · obtain ⟨p, es, rfl, _⟩ := h
    rfl
  · obtain ⟨p, es, rfl, ⟨dx, po, rs, h1, h2, h3⟩, k⟩ := h
    refine ⟨_, (pss_one (ps_ret (pe_callB call_len_seq (by rfl) T.m_len (by decide +kernel) (pa_cons (pe_fld (pv 0) rfl) pa_nil)))), ?_⟩
    refine ⟨_, rfl, p, C, dx, _, _, rfl, h1, TU.cl, TU.nO, fs_ent _, po, _, rfl, .inr (SqT.of h2), ?_⟩
    rw [h3.len]
    exact k
abbrev N_Log___init__ : List Str := ["self", "entries", "at", "entry"]
theorem sc_Log___init__ : FnScope N_Log___init__ ["self", "entries"] (defScope s_Log___init__) := ⟨rfl, rfl, rfl, by decide +kernel, rfl, by decide +kernel, by decide +kernel⟩
theorem ok_Log_init {f fIe : Addr} {fd fdIe : FuncData} (F : Fun K "__init__" "Log.__init__" s_Log___init__ f fd) (hb : BindV fd "self" "entries" PySem.sizeLine) (T : TR mg) (TE : TErr K mg CW CG uW uG fdW fdG) (TU : TLog K mg C)
    (GIe : FnOk P w K mg base CX0 3 fIe fdIe ["value"] spIsEntry) (gIe : mg "is_entry" = some (.ref fIe)) (kIe : PySem.W.keepIn K (.ref fIe) = true) (bIe : Binds K fdIe ["value"] []) :
    FnR P w K mg base (L2.CX P w) 4 f (spLMk C) := by
  refine F.okS sc_Log___init__ hb (fun cdv A outer s H vs Q E hrD3 h => ?_)
  obtain ⟨p, dx, q, rs, es, rfl, hp, hq, he, lr, k⟩ := h
  have hrE : Room 2 _ := hrD3.mono (by decide)
  refine ⟨_, (pss_cons (ps_for (passes_of rfl) rfl (pi_enumB (by rfl) T.m_enumerate (pa_cons (pv 1) pa_nil)) (pg_tup rfl (pgs_cons (pg_name (i := 2) sc_Log___init__.nd rfl (Or.inl rfl)) (pgs_cons (pg_name (i := 3) sc_Log___init__.nd rfl (Or.inl rfl)) pgs_nil)))
 (pss_one (ps_if (pt_not (pt_val (pe_call GIe hrD3 rfl gIe kIe bIe .nil pass0 (pa_cons (pv 3) pa_nil)))) (pss_one (ps_raise rfl (takes_of rfl rfl rfl rfl) (pmk_x TE.iBadLog (ok_BadLog TE) hrE TE.bBadLog (by decide) rfl TE.gBadLog (mono_var mono_nil) (pa_cons (pv 2) pa_nil)))) pss_nil)))
 (pss_one (ps_fld (pv 0) (pv 1) rfl))), ?_⟩
  refine ⟨_, rfl, true, q, rs, rfl, SqB.tup hq, for_it (walk_enumB (xs := rs)) (fun i σ G => ∃ u v, σ = [some (.ref p), some (.ref q), u, v] ∧ Same H G) ⟨none, none, rfl, Same.refl H⟩ ?_ ?_ ?_⟩
  · rintro i σ G _ ⟨u, v, rfl, s1⟩
    exact SqB.tup (s1 _ _ hq)
  · rintro i x σ G G' hi ⟨u, v, rfl, s1⟩ ⟨T1, y0, x0, rfl, hT1, rfl, e0, hx0⟩
    obtain rfl := Option.some.inj e0
    replace hx0 : rs[i]? = some x0 := hx0
    have s2 : Same H (upd G T1 (.tup [.int (i : Nat), x0])) := fun _ _ z => Same.lay hT1 _ _ (s1 _ _ z)
    refine ⟨T1, _, rfl, SqT.of upd_same, rfl, _, _, rfl, _, _, rfl, rfl, ?_⟩
    generalize upd G T1 (.tup [.int (i : Nat), x0]) = G2 at s2 ⊢
    obtain ⟨t, e, rfl, _, ht, o⟩ := he.get hx0
    exact ⟨_, rfl, t, e, rfl, s2 _ _ ht, o, _, rfl, ite_nb rfl ⟨_, _, rfl, s2⟩⟩
  · rintro σ G ⟨u, v, rfl, s1⟩
    have nqp : q ≠ p := fun z => by
      rw [z, hp] at hq
      cases hq
    refine ⟨_, rfl, _, rfl, p, C, dx, [], rfl, s1 _ _ hp, TU.cl, TU.nO, (by show 0 < 1000; decide), ?_⟩
    refine k _ (But.put (But.of s1)) ⟨dx, q, rs, upd_same, by rw [upd_ne nqp]; exact s1 _ _ hq, he.keep fun t xs z => ?_⟩
    rw [upd_ne (fun y => by rw [y, hp] at z; cases z)]
    exact s1 _ _ z
abbrev N_Log___add__ : List Str := ["self", "other", "entries"]
theorem sc_Log___add__ : FnScope N_Log___add__ ["self", "other"] (defScope s_Log___add__) := ⟨rfl, rfl, rfl, by decide +kernel, rfl, by decide +kernel, by decide +kernel⟩
theorem ok_Log_add {f fPI : Addr} {fd : FuncData} (F : Fun K "__add__" "Log.__add__" s_Log___add__ f fd) (T : TR mg) (TE : TErr K mg CW CG uW uG fdW fdG) (TU : TLog K mg C) (RC : LogCls K C)
    (MPI : Mk K C fPI) (GPI : FnR P w K mg base (L2.CX P w) 4 fPI (spLMk C)) : FnOk P w K mg base (L2.CX P w) 6 f fd ["self", "other"] (spLAdd C) := by
  refine F.okX sc_Log___add__ (fun vs H Q E h => ?_) (fun cdv A outer s H vs Q E hrM h => ?_)
  · obtain ⟨p, q, es, fs, rfl, _⟩ := h
    rfl
  · obtain ⟨p, q, es, fs, rfl, ⟨dx, po, rs, h1, h2, h3⟩, ⟨dy, qo, ts, g1, g2, g3⟩, ll, k⟩ := h
    have hrE : Room 2 _ := hrM.mono (by decide)
    refine ⟨_, (pss_cons (ps_if (pt_not (pt_val (pe_callB call_isi (by rfl) T.m_isinstance (by decide +kernel) (pa_cons (pv 1) (pa_cons (pe_glob (v := .ref C) rfl TU.gC rfl) pa_nil))))) (pss_one (ps_raise rfl (takes_of rfl rfl rfl rfl) (pmk_x TE.iBadLog (ok_BadLog TE) hrE TE.bBadLog (by decide) rfl TE.gBadLog (mono_c mono_nil) (pa_cons pe_str pa_nil)))) pss_nil)
 (pss_cons (ps_set (i := 2) sc_Log___add__.nd rfl (Or.inl rfl) (pe_op op_catP (pe_fld (pv 0) rfl) (pe_fld (pv 1) rfl)))
 (pss_one (ps_ret (pe_makeS MPI GPI hrM rfl TU.gC (passes_call (takes_of rfl rfl rfl rfl) fun _ _ _ _ h => h) (pv 2)))))), ?_⟩
    refine ⟨_, rfl, _, _, _, _, _, rfl, .own _, .base (.ins g1 RC.cl RC.ha RC.hn RC.ht RC.hm), RC.kC, _, rfl, ite_nb rfl ?_⟩
    have l1 := h3.len
    have l2 := g3.len
    refine ⟨_, rfl, p, C, dx, _, _, rfl, h1, TU.cl, TU.nO, fs_ent _, _, rfl, q, C, dy, _, _, rfl, g1, TU.cl, TU.nO, fs_ent _, po, qo, _, _, rfl, rfl, h2, g2, by omega, fun r H1 s1 hr => ?_⟩
    refine ⟨_, rfl, r, _, rfl, .inl (SqT.of hr), fun x dx' nx ndx hne => ⟨_, _, rfl, by rw [List.length_append]; have : PySem.sizeLine = 16777216 := rfl; omega, fun t nt => ⟨x, dx', t, _, es ++ fs, rfl, ?_, upd_same, ?_, by rw [List.length_append]; omega, fun H' bt lg => ⟨rfl, ?_⟩⟩⟩⟩
    · rw [upd_ne (fun z => by rw [z, upd_same] at nt; cases nt)]
      exact upd_same
    · have up : Same H1 (upd (upd (upd H1 dx' (.own x)) x (.ins C dx' [])) t (.tup (rs ++ ts))) := fun c o e => by
        have g2 : (upd (upd H1 dx' (.own x)) x (.ins C dx' [])) c = some o := by
          rw [upd_ne (ne_of_none e nx), upd_ne (ne_of_none e ndx)]
          exact e
        rw [upd_ne (ne_of_none g2 nt)]
        exact g2
      exact (h3.append g3).keep fun _ _ z => up _ _ (s1 _ _ z)
    · have up : Same H1 (upd (upd (upd H1 dx' (.own x)) x (.ins C dx' [])) t (.tup (rs ++ ts))) := fun c o e => by
        have g2 : (upd (upd H1 dx' (.own x)) x (.ins C dx' [])) c = some o := by
          rw [upd_ne (ne_of_none e nx), upd_ne (ne_of_none e ndx)]
          exact e
        rw [upd_ne (ne_of_none g2 nt)]
        exact g2
      exact k H' x (fun c o e => bt c o (ne_of_none (s1 _ _ e) nx) (up _ _ (s1 _ _ e))) lg
end
end Toy
set_option maxRecDepth 100000
namespace Toy
open PySem L2 TL LamX ClX
abbrev s_check_log : Stmt := top 26
abbrev s_log_text : Stmt := top 28
abbrev s_entry_line : Stmt := top 29
abbrev s_read_log : Stmt := top 31
abbrev s_entry_in : Stmt := top 32
def metT (b : Bool) : Str := if b then "met" else "apart"
def lineT (e : Ent) : Str := Str.empty ++ numT e.1 ++ " " ++ numT e.2.1 ++ " " ++ metT e.2.2
def pageT (es : List Ent) : Str := if es.isEmpty then "-" else Txt.join "\n" (es.map lineT)
theorem num31 {n : Nat} (h : n ≤ 10 ^ 30) : (numT n).length ≤ 31 := by
  rw [len_numT]
  exact Nat.le_trans (numL_mono _ _ h) (by decide +kernel)
theorem met5 (b : Bool) : (metT b).length ≤ 5 := by cases b <;> decide +kernel
theorem e0 : Str.empty.length = 0 := rfl
theorem sp1 : (Str.ofString " ").length = 1 := rfl
theorem line_len {e : Ent} (o : EntOk e) : (lineT e).length ≤ 100 := by
  have h1 := num31 o.1
  have h2 := num31 o.2
  have h3 := met5 e.2.2
  unfold lineT
  rw [PySem.Str.length_append, PySem.Str.length_append, PySem.Str.length_append, PySem.Str.length_append, PySem.Str.length_append, e0, sp1]
  omega
theorem lines_sum {es : List Ent} (o : ∀ e ∈ es, EntOk e) : ((es.map lineT).map (·.length)).sum ≤ 100 * es.length := by
  induction es with
  | nil => exact Nat.le_refl _
  | cons x r ih =>
    have h1 := ih fun m hm => o m (List.mem_cons_of_mem _ hm)
    have h2 := line_len (o x List.mem_cons_self)
    show (lineT x).length + ((r.map lineT).map (·.length)).sum ≤ 100 * (r.length + 1)
    omega
theorem EntsAt.oks {G : Hp} {rs : List V} {es : List Ent} (h : EntsAt G rs es) : ∀ e ∈ es, EntOk e := by
  induction h with
  | nil => exact fun _ z => nomatch z
  | cons h o _ ih => exact fun e he => (List.mem_cons.mp he).elim (fun z => by rw [z]; exact o) (ih e)
theorem log_small' {n : Nat} (h : n ≤ 10 ^ 30) : ((n : Nat) : Int).natAbs.log2 < 1920 := log_small (Nat.lt_of_le_of_lt h (by decide +kernel))
def spCheckLog (CG C : Addr) (K : PySem.W.Frag) : Sp := fun vs H Q E => ∃ y, vs = [y] ∧ ((∃ (q : Addr) (es : List Ent), y = .ref q ∧ LogAt C H q es ∧ Q .non H) ∨ ∃ S, Plain K H y S ∧ ∀ d H', H d = none → Same H H' → H' d = some (.xd [("at", .str "log")]) → E (.ref CG) (some d) H')
def spEntryLine : Sp := fun vs H Q _ => ∃ e : Ent, vs = entV e ∧ EntOk e ∧ Q (.str (lineT e)) H
def spLogText (CG C : Addr) (K : PySem.W.Frag) : Sp := fun vs H Q E => ∃ y, vs = [y] ∧ ((∃ (q : Addr) (es : List Ent), y = .ref q ∧ LogAt C H q es ∧ es.length ≤ 1000 ∧ ∀ H', Same H H' → Q (.str (pageT es)) H') ∨ ∃ S, Plain K H y S ∧ ∀ d H', H d = none → Same H H' → H' d = some (.xd [("at", .str "log")]) → E (.ref CG) (some d) H')
/-- an entry of a line's words, or the first word that is wrong -/
def entryW (ws : List Str) : Nat ⊕ Ent :=
  match ws[0]?.bind (numW (10 ^ 30)), ws[1]?.bind (numW (10 ^ 30)) with
  | none, _ => .inl 0
  | some _, none => .inl 1
  | some a, some b => if ws[2]? = some ("met" : Str) ∨ ws[2]? = some ("apart" : Str) then (if 3 < ws.length then .inl 3 else .inr (a, b, decide (ws[2]? = some ("met" : Str)))) else .inl 2
def spEntryIn (CW : Addr) (K : PySem.W.Frag) : Sp := fun vs H Q E => ∃ (W : Addr) (ws : List Str) (ln : Int), vs = [.ref W, .int ln] ∧ H W = some (.lst (ws.map V.str)) ∧ (∀ w ∈ ws, w.length ≤ PySem.sizeLine) ∧
  (∀ k, entryW ws = .inl k → TextE CW H E ln (k : Nat)) ∧ (∀ e, entryW ws = .inr e → ∀ H' t, Same H H' → H' t = some (.tup (entV e)) → Q (.ref t) H')
section
variable {P : Program} {w : World} {K : PySem.W.Frag} {mg : Str → Option Value} {base : Heap} {CW CG uW uG : Addr} {fdW fdG : FuncData} {C : Addr}
abbrev N_check_log : List Str := ["log"]
theorem sc_check_log : FnScope N_check_log ["log"] (defScope s_check_log) := ⟨rfl, rfl, rfl, by decide +kernel, rfl, by decide +kernel, by decide +kernel⟩
theorem ok_check_log {f : Addr} {fd : FuncData} (F : Fun K "check_log" "check_log" s_check_log f fd) (T : TR mg) (TE : TErr K mg CW CG uW uG fdW fdG) (TU : TLog K mg C) (RC : LogCls K C) : FnOk P w K mg base (L2.CX P w) 3 f fd ["log"] (spCheckLog CG C K) := by
  refine F.okX sc_check_log (fun vs H Q E h => ?_) (fun cdv A outer s H vs Q E hrE h => ?_)
  · obtain ⟨y, rfl, _⟩ := h
    rfl
  · obtain ⟨y, rfl, h⟩ := h
    refine ⟨_, (pss_one (ps_if (pt_not (pt_val (pe_callB call_isi (by rfl) T.m_isinstance (by decide +kernel) (pa_cons (pv 0) (pa_cons (pe_glob (v := .ref C) rfl TU.gC rfl) pa_nil))))) (pss_one (ps_raise rfl (takes_of rfl rfl rfl rfl) (pmk_x TE.iBadLog (ok_BadLog TE) hrE TE.bBadLog (by decide) rfl TE.gBadLog (mono_c mono_nil) (pa_cons pe_str pa_nil)))) pss_nil)), ?_⟩
    rcases h with ⟨q, es, rfl, ⟨dx, po, rs, h1, h2, h3⟩, k⟩ | ⟨S, py, k⟩
    · exact ⟨_, rfl, _, _, _, _, _, rfl, .own _, .base (.ins h1 RC.cl RC.ha RC.hn RC.ht RC.hm), RC.kC, _, rfl, ite_nb rfl k⟩
    · exact ⟨_, rfl, _, _, _, _, _, rfl, .own _, py.ty, RC.kS S (plain_name py), _, rfl, iteT ⟨rfl, fun d H' hd s1 e => k d H' hd s1 e⟩⟩
abbrev N_entry_line : List Str := ["first", "second", "met", "word"]
theorem sc_entry_line : FnScope N_entry_line ["first", "second", "met"] (defScope s_entry_line) := ⟨rfl, rfl, rfl, by decide +kernel, rfl, by decide +kernel, by decide +kernel⟩
theorem ok_entry_line {f : Addr} {fd : FuncData} (F : Fun K "entry_line" "entry_line" s_entry_line f fd) (T : TR mg) : FnOk P w K mg base CX0 1 f fd ["first", "second", "met"] spEntryLine := by
  refine F.ok sc_entry_line (fun vs H Q E h => ?_) (fun cdv A outer s H vs Q E hr h => ?_)
  · obtain ⟨e, rfl, _⟩ := h
    rfl
  · obtain ⟨e, rfl, o, k⟩ := h
    refine ⟨_, (pss_cons (ps_set (i := 3) sc_entry_line.nd rfl (Or.inl rfl) (pe_ifExp (pt_val (pv 2)) pe_str pe_str))
 (pss_one (ps_ret (pe_joined (.cons (pe_fmt (pv 0)) (.cons pe_str (.cons (pe_fmt (pv 1)) (.cons pe_str (.cons (pe_fmt (pv 3)) .nil))))))))), ?_⟩
    obtain ⟨a, b, c⟩ := e
    have l1 : (numT a).length ≤ 31 := num31 o.1
    have l2 : (numT b).length ≤ 31 := num31 o.2
    have l3 := met5 c
    have sz : PySem.sizeLine = 16777216 := rfl
    have fin : tJs [tFmt (tVar 0), tC (V.str (Str.ofString " ")), tFmt (tVar 1), tC (V.str (Str.ofString " ")), tFmt (tVar 3)] Str.empty [some (.int (a : Nat)), some (.int (b : Nat)), some (.bl c), some (.str (metT c))] H fun out H1 => Q (V.str out) H1 := by
      refine ⟨_, rfl, .inr ⟨_, rfl, log_small' o.1, numT a, rfl, ?_, Str.ofString " ", rfl, ?_, _, rfl, .inr ⟨_, rfl, log_small' o.2, numT b, rfl, ?_, Str.ofString " ", rfl, ?_, _, rfl, .inl ⟨_, rfl, by omega, metT c, rfl, ?_, k⟩⟩⟩⟩
      all_goals
        simp only [PySem.Str.length_append, e0, sp1]
        omega
    cases c with
    | true => exact ⟨_, rfl, true, rfl, iteT fin⟩
    | false => exact ⟨_, rfl, false, rfl, iteF fin⟩
abbrev N_log_text : List Str := ["log", "lines", "first", "second", "met"]
theorem sc_log_text : FnScope N_log_text ["log"] (defScope s_log_text) := ⟨rfl, rfl, rfl, by decide +kernel, rfl, by decide +kernel, by decide +kernel⟩
theorem ok_log_text {f fCl fEl : Addr} {fd fdCl fdEl : FuncData} (F : Fun K "log_text" "log_text" s_log_text f fd) (T : TR mg) (TE : TErr K mg CW CG uW uG fdW fdG) (TU : TLog K mg C)
    (GCl : FnOk P w K mg base (L2.CX P w) 3 fCl fdCl ["log"] (spCheckLog CG C K)) (gCl : mg "check_log" = some (.ref fCl)) (kCl : PySem.W.keepIn K (.ref fCl) = true) (bCl : Binds K fdCl ["log"] [])
    (GEl : FnOk P w K mg base CX0 1 fEl fdEl ["first", "second", "met"] spEntryLine) (gEl : mg "entry_line" = some (.ref fEl)) (kEl : PySem.W.keepIn K (.ref fEl) = true) (bEl : Binds K fdEl ["first", "second", "met"] []) :
    FnOk P w K mg base (L2.CX P w) 4 f fd ["log"] (spLogText CG C K) := by
  refine F.okX sc_log_text (fun vs H Q E h => ?_) (fun cdv A outer s H vs Q E hrN h => ?_)
  · obtain ⟨y, rfl, _⟩ := h
    rfl
  · obtain ⟨y, rfl, h⟩ := h
    have hrD1 : Room 1 _ := hrN.mono (by decide)
    refine ⟨_, (pss_cons (ps_expr (pe_call GCl hrN rfl gCl kCl bCl .nil (passes_call (takes_of rfl rfl rfl rfl) fun _ _ _ _ h => h) (pa_cons (pv 0) pa_nil)))
 (pss_cons (ps_setLc (i := 1) (own := [("first", 2), ("second", 3), ("met", 4)]) (g := (gTup K 3 (gCons (gName 2) (gCons (gName 3) (gCons (gName 4) gNil))))) (tt := tYes) rfl sc_log_text.nd rfl rfl (sw_true rfl rfl rfl (by decide +kernel)) (pi_tup (pe_fld (pv 0) rfl)) (blkOk_by (N := N_log_text) (sc := defScope s_log_text) (by decide +kernel)) (fun _ _ _ _ _ => (pg_tup rfl (pgs_cons (pg_name (i := 2) sc_log_text.nd rfl (Or.inl rfl)) (pgs_cons (pg_name (i := 3) sc_log_text.nd rfl (Or.inl rfl)) (pgs_cons (pg_name (i := 4) sc_log_text.nd rfl (Or.inl rfl)) pgs_nil))))) (fun _ _ _ _ _ => pts_nil) (fun _ _ _ _ _ => (pe_call GEl hrD1 rfl gEl kEl bEl .nil pass0 (pa_cons (pv 2) (pa_cons (pv 3) (pa_cons (pv 4) pa_nil))))))
 (pss_one (ps_ret (pe_ifExp (pt_truth (pv 1) (fun _ => rfl)) (pe_m1 PySem.F.slot_str_join PySem.F.type_str_join mt_join pe_str (pv 1)) pe_str))))), ?_⟩
    rcases h with ⟨q, es, rfl, lg, le, k⟩ | ⟨S, py, k⟩
    rotate_left
    · exact ⟨_, rfl, y, rfl, .inr ⟨S, py, k⟩⟩
    obtain ⟨dx, po, rs, h1, h2, h3⟩ := id lg
    have lr := h3.len
    refine ⟨_, rfl, .ref q, rfl, .inl ⟨q, es, rfl, lg, ?_⟩⟩
    refine ⟨_, rfl, q, C, dx, _, _, rfl, h1, TU.cl, TU.nO, fs_ent _, po, rfl, ⟨_, SqT.of h2⟩, fun D hD => ?_⟩
    refine lc_it (walk_tup (xs := rs)) (fun i G => G = upd H D (.lst (((es.take i).map lineT).map V.str))) rfl (fun i G _ z => by rw [z]; exact SqT.of (Same.lay hD _ _ h2)) ?_ ?_
    · rintro i x G G' hi rfl ⟨rfl, hx⟩
      obtain ⟨t, e, rfl, he, ht, o⟩ := h3.get hx
      refine ⟨t, _, rfl, SqT.of (Same.lay hD _ _ ht), rfl, _, _, rfl, _, _, rfl, _, _, rfl, rfl, rfl, _, rfl, _, rfl, _, rfl, e, rfl, o, _, upd_same, small_n (by rw [List.length_map, List.length_map, List.length_take]; omega), ?_⟩
      rw [upd_upd, List.take_add_one, he, List.map_append, List.map_append]
      rfl
    rintro G rfl
    rw [lr, List.take_length]
    have hD2 : (upd H D (.lst ((es.map lineT).map V.str))) D = some (.lst ((es.map lineT).map V.str)) := upd_same
    have kk := k _ (Same.lay (o := .lst ((es.map lineT).map V.str)) hD)
    have ls := lines_sum h3.oks
    refine ⟨_, rfl, !((es.map lineT).map V.str).isEmpty, .inl ⟨_, SqL.of hD2, rfl⟩, ?_⟩
    unfold pageT at kk
    cases es with
    | nil => exact iteF kk
    | cons e r => exact iteT ⟨⟨_, rfl⟩, _, rfl, _, D, _, rfl, rfl, .inl (SqL.of hD2), by rw [List.length_map, show (Str.ofString "\n").length = 1 from rfl, Nat.mul_one]; omega, kk⟩
abbrev N_entry_in : List Str := ["words", "line", "first", "second", "word"]
theorem sc_entry_in : FnScope N_entry_in ["words", "line"] (defScope s_entry_in) := ⟨rfl, rfl, rfl, by decide +kernel, rfl, by decide +kernel, by decide +kernel⟩
theorem ok_entry_in {f fNu fWi fCw : Addr} {fd fdNu fdWi fdCw : FuncData} (F : Fun K "entry_in" "entry_in" s_entry_in f fd) (T : TR mg) (TE : TErr K mg CW CG uW uG fdW fdG)
    (GNu : FnOk P w K mg base (L2.CX P w) 3 fNu fdNu ["words", "line", "at", "least", "most"] (spNumIn CW K)) (gNu : mg "number_in" = some (.ref fNu)) (kNu : PySem.W.keepIn K (.ref fNu) = true) (bNu : Binds K fdNu ["words", "line", "at", "least", "most"] [])
    (GWi : FnOk P w K mg base (L2.CX P w) 3 fWi fdWi ["words", "line", "at", "choices"] (spWordIn CW K)) (gWi : mg "word_in" = some (.ref fWi)) (kWi : PySem.W.keepIn K (.ref fWi) = true) (bWi : Binds K fdWi ["words", "line", "at", "choices"] [])
    (GCw : FnOk P w K mg base (L2.CX P w) 3 fCw fdCw ["words", "line", "at"] (spNoWord CW K)) (gCw : mg "check_no_word" = some (.ref fCw)) (kCw : PySem.W.keepIn K (.ref fCw) = true) (bCw : Binds K fdCw ["words", "line", "at"] []) :
    FnOk P w K mg base (L2.CX P w) 4 f fd ["words", "line"] (spEntryIn CW K) := by
  refine F.okX sc_entry_in (fun vs H Q E h => ?_) (fun cdv A outer s H vs Q E hrN h => ?_)
  · obtain ⟨W, ws, ln, rfl, _⟩ := h
    rfl
  · obtain ⟨W, ws, ln, rfl, hW, hl, kE, kQ⟩ := h
    refine ⟨_, (pss_cons (ps_set (i := 2) sc_entry_in.nd rfl (Or.inl rfl) (by exact (pe_call GNu hrN rfl gNu kNu bNu .nil (passes_call (takes_of rfl rfl rfl rfl) fun _ _ _ _ h => h) (pa_cons (pv 0) (pa_cons (pv 1) (pa_cons pe_int (pa_cons pe_int (pa_cons (pe_glob (v := .int (10 ^ 30)) rfl T.g_GREATEST.choose_spec ⟨_, rfl⟩) pa_nil))))))))
 (pss_cons (ps_set (i := 3) sc_entry_in.nd rfl (Or.inl rfl) (by exact (pe_call GNu hrN rfl gNu kNu bNu .nil (passes_call (takes_of rfl rfl rfl rfl) fun _ _ _ _ h => h) (pa_cons (pv 0) (pa_cons (pv 1) (pa_cons pe_int (pa_cons pe_int (pa_cons (pe_glob (v := .int (10 ^ 30)) rfl T.g_GREATEST.choose_spec ⟨_, rfl⟩) pa_nil))))))))
 (pss_cons (ps_set (i := 4) sc_entry_in.nd rfl (Or.inl rfl) (by exact (pe_call GWi hrN rfl gWi kWi bWi .nil (passes_call (takes_of rfl rfl rfl rfl) fun _ _ _ _ h => h) (pa_cons (pv 0) (pa_cons (pv 1) (pa_cons pe_int (pa_cons (pe_tup (pa_cons pe_str (pa_cons pe_str pa_nil))) pa_nil)))))))
 (pss_cons (ps_expr (pe_call GCw hrN rfl gCw kCw bCw .nil (passes_call (takes_of rfl rfl rfl rfl) fun _ _ _ _ h => h) (pa_cons (pv 0) (pa_cons (pv 1) (pa_cons pe_int pa_nil)))))
 (pss_one (ps_ret (pe_tup (pa_cons (pv 2) (pa_cons (pv 3) (pa_cons (pe_cmpR op_eq (pv 4) pe_str (nomark _)) pa_nil)))))))))), ?_⟩
    have m60 : (10 : Nat) ^ 30 < 10 ^ 60 := by decide +kernel
    have bnd : ∀ {k : Nat} {f : Str → Option Nat} {w : Str}, ws[k]? = some w → ws[k]?.bind f = f w := fun {k f w} h => by rw [h]; rfl
    cases e0 : ws[0]?.bind (numW (10 ^ 30)) with
    | none =>
      refine ⟨_, rfl, _, rfl, W, ws, ln, 0, 10 ^ 30, rfl, SqL.of hW, m60, hl, (fun w n hw hn => ?_), fun _ => kE 0 (by unfold entryW; rw [e0])⟩
      rw [bnd hw, hn] at e0
      cases e0
    | some a =>
      refine ⟨_, rfl, _, rfl, W, ws, ln, 0, 10 ^ 30, rfl, SqL.of hW, m60, hl, (fun w n hw hn H1 s1 => ?_), fun hb => ?_⟩
      rotate_left
      · exfalso
        cases hw : ws[0]? with
        | none =>
          rw [hw] at e0
          cases e0
        | some w =>
          rw [bnd hw, hb w hw] at e0
          cases e0
      obtain rfl : a = n := Option.some.inj (e0.symm.trans ((bnd hw).trans hn))
      cases e1 : ws[1]?.bind (numW (10 ^ 30)) with
      | none =>
        refine ⟨_, rfl, _, rfl, W, ws, ln, 1, 10 ^ 30, rfl, SqL.of (s1 _ _ hW), m60, hl, (fun w n hw hn => ?_), fun _ => (kE 1 (by unfold entryW; rw [e0, e1])).same s1⟩
        rw [bnd hw, hn] at e1
        cases e1
      | some b =>
        refine ⟨_, rfl, _, rfl, W, ws, ln, 1, 10 ^ 30, rfl, SqL.of (s1 _ _ hW), m60, hl, (fun w n hw hn H2 s2 => ?_), fun hb => ?_⟩
        rotate_left
        · exfalso
          cases hw : ws[1]? with
          | none =>
            rw [hw] at e1
            cases e1
          | some w =>
            rw [bnd hw, hb w hw] at e1
            cases e1
        obtain rfl : b = n := Option.some.inj (e1.symm.trans ((bnd hw).trans hn))
        have s12 : Same H H2 := fun _ _ z => s2 _ _ (s1 _ _ z)
        refine ⟨_, rfl, _, rfl, (by show 2 ≤ PySem.sizeLine; decide), fun t ht => ?_⟩
        have y3 := Same.lay (o := .tup [V.str "met", V.str "apart"]) ht
        have s13 : Same H (upd H2 t (.tup [V.str "met", V.str "apart"])) := fun _ _ z => y3 _ _ (s12 _ _ z)
        refine ⟨W, t, ws, ["met", "apart"], ln, 2, rfl, SqL.of (s13 _ _ hW), SqT.of upd_same, (fun w2 hw2 hm => ?_), fun hb => ?_⟩
        · have or2 : ws[2]? = some ("met" : Str) ∨ ws[2]? = some ("apart" : Str) := by
            rw [hw2]
            simp only [List.mem_cons, List.not_mem_nil, or_false] at hm
            rcases hm with rfl | rfl
            · exact .inl rfl
            · exact .inr rfl
          refine ⟨_, rfl, _, rfl, W, ws, ln, 3, rfl, SqL.of (s13 _ _ hW), (fun h3 => (kE 3 (by unfold entryW; rw [e0, e1]; simp only [if_pos or2, if_pos h3])).same s13), fun h3 => ?_⟩
          refine ⟨_, rfl, _, rfl, _, rfl, rfl, (by show 3 ≤ PySem.sizeLine; decide), fun p hp => ?_⟩
          refine kQ (a, b, decide (ws[2]? = some ("met" : Str))) (by unfold entryW; rw [e0, e1]; simp only [if_pos or2, if_neg (show ¬ 3 < ws.length by omega)]) _ p (fun _ _ z => Same.lay hp _ _ (s13 _ _ z)) ?_
          rw [upd_same]
          have eb : decide (V.str w2 = V.str "met") = decide (ws[2]? = some ("met" : Str)) := by
            rw [hw2, Bool.eq_iff_iff, decide_eq_true_iff, decide_eq_true_iff]
            simp
          rw [eb]
          rfl
        · refine (kE 2 ?_).same s13
          unfold entryW
          rw [e0, e1]
          have no : ¬ (ws[2]? = some ("met" : Str) ∨ ws[2]? = some ("apart" : Str)) := fun z => by
            rcases z with z | z
            · exact hb _ z List.mem_cons_self
            · exact hb _ z (List.mem_cons_of_mem _ List.mem_cons_self)
          simp only [if_neg no]
end
end Toy
set_option maxRecDepth 100000
namespace Toy
open PySem L2 TL LamX ClX StX
def rowsA : List Ent → List Str → (Nat × Nat) ⊕ List Ent
  | acc, [] => .inr acc
  | acc, l :: r => match entryW (wordsT l) with
    | .inl k => .inl (acc.length, k)
    | .inr e => rowsA (acc ++ [e]) r
/-- what a page's reading comes to -/
def readP (a : Str) : (Nat × Nat) ⊕ List Ent :=
  if (wordsT ((linesT a).headD (Str.ofString ""))).head? = some (Str.ofString "-") then
    (if 1 < (wordsT ((linesT a).headD (Str.ofString ""))).length then .inl (0, 1) else if 1 < (linesT a).length then .inl (1, 0) else .inr [])
  else rowsA [] (linesT a)
theorem lines_ne (a : Str) : linesT a ≠ [] := fun z => by
  have := PyProof.Rows.split_pos a "\n"
  rw [show Txt.split a "\n" = [] from z] at this
  cases this
theorem words_ne (a : Str) : wordsT a ≠ [] := fun z => by
  have := PyProof.Rows.split_pos a " "
  rw [show Txt.split a " " = [] from z] at this
  cases this
theorem line_short {a l : Str} (h : l ∈ linesT a) : l.length ≤ a.length := PyProof.Rows.part_short (x := a) (y := "\n") h
theorem word_short {a l : Str} (h : l ∈ wordsT a) : l.length ≤ a.length := PyProof.Rows.part_short (x := a) (y := " ") h
theorem entry_ok {ws : List Str} {e : Ent} (h : entryW ws = .inr e) : EntOk e := by
  unfold entryW at h
  cases e0 : ws[0]?.bind (numW (10 ^ 30)) with
  | none =>
    rw [e0] at h
    cases h
  | some a =>
    cases e1 : ws[1]?.bind (numW (10 ^ 30)) with
    | none =>
      rw [e0, e1] at h
      cases h
    | some b =>
      rw [e0, e1] at h
      have bd : ∀ {k n : Nat}, ws[k]?.bind (numW (10 ^ 30)) = some n → n ≤ 10 ^ 30 := fun {k n} z => by
        cases hw : ws[k]? with
        | none =>
          rw [hw] at z
          cases z
        | some w =>
          rw [hw] at z
          exact (numW_eq.mp z).2
      by_cases c : ws[2]? = some ("met" : Str) ∨ ws[2]? = some ("apart" : Str)
      · simp only [if_pos c] at h
        by_cases c2 : 3 < ws.length
        · simp only [if_pos c2] at h
          cases h
        · simp only [if_neg c2] at h
          obtain rfl := Sum.inr.inj h
          exact ⟨bd e0, bd e1⟩
      · simp only [if_neg c] at h
        cases h
def spReadLog (CW C : Addr) (K : PySem.W.Frag) : Sp := fun vs H Q E => ∃ x, vs = [x] ∧ ((∃ a, x = .str a ∧ a.length + 2 ≤ PySem.sizeLine ∧ (linesT a).length ≤ 1000 ∧
  (∀ i k, readP a = .inl (i, k) → TextE CW H E (i : Nat) (k : Nat)) ∧ (∀ es, readP a = .inr es → ∀ H' x, Same H H' → LogAt C H' x es → Q (.ref x) H')) ∨ (NotStr K H x ∧ TextE CW H E 0 0))
section
variable {P : Program} {w : World} {K : PySem.W.Frag} {mg : Str → Option Value} {base : Heap} {CW CG uW uG : Addr} {fdW fdG : FuncData} {C : Addr}
abbrev N_read_log : List Str := ["text", "lines", "first_words", "entries", "line"]
theorem sc_read_log : FnScope N_read_log ["text"] (defScope s_read_log) := ⟨rfl, rfl, rfl, by decide +kernel, rfl, by decide +kernel, by decide +kernel⟩
theorem ok_read_log {f fLo fWa fCw fCn fEi fPI : Addr} {fd fdLo fdWa fdCw fdCn fdEi : FuncData} (F : Fun K "read_log" "read_log" s_read_log f fd) (T : TR mg) (TU : TLog K mg C)
    (GLo : FnOk P w K mg base (L2.CX P w) 3 fLo fdLo ["text"] (spLinesOf CW K)) (gLo : mg "lines_of" = some (.ref fLo)) (kLo : PySem.W.keepIn K (.ref fLo) = true) (bLo : Binds K fdLo ["text"] [])
    (GWa : FnOk P w K mg base (L2.CX P w) 3 fWa fdWa ["lines", "line"] (spWordsAt CW K)) (gWa : mg "words_at" = some (.ref fWa)) (kWa : PySem.W.keepIn K (.ref fWa) = true) (bWa : Binds K fdWa ["lines", "line"] [])
    (GCw : FnOk P w K mg base (L2.CX P w) 3 fCw fdCw ["words", "line", "at"] (spNoWord CW K)) (gCw : mg "check_no_word" = some (.ref fCw)) (kCw : PySem.W.keepIn K (.ref fCw) = true) (bCw : Binds K fdCw ["words", "line", "at"] [])
    (GCn : FnOk P w K mg base (L2.CX P w) 3 fCn fdCn ["lines", "line"] (spNoLine CW K)) (gCn : mg "check_no_line" = some (.ref fCn)) (kCn : PySem.W.keepIn K (.ref fCn) = true) (bCn : Binds K fdCn ["lines", "line"] [])
    (GEi : FnOk P w K mg base (L2.CX P w) 4 fEi fdEi ["words", "line"] (spEntryIn CW K)) (gEi : mg "entry_in" = some (.ref fEi)) (kEi : PySem.W.keepIn K (.ref fEi) = true) (bEi : Binds K fdEi ["words", "line"] [])
    (MPI : Mk K C fPI) (GPI : FnR P w K mg base (L2.CX P w) 4 fPI (spLMk C)) : FnOk P w K mg base (L2.CX P w) 6 f fd ["text"] (spReadLog CW C K) := by
  refine F.okX sc_read_log (fun vs H Q E h => ?_) (fun cdv A outer s H vs Q E hrM h => ?_)
  · obtain ⟨x, rfl, _⟩ := h
    rfl
  · obtain ⟨x, rfl, h⟩ := h
    have hrEi : Room 4 _ := hrM.mono (by decide)
    have hrN : Room 3 _ := hrM.mono (by decide)
    refine ⟨_, (pss_cons (ps_set (i := 1) sc_read_log.nd rfl (Or.inr rfl) (by exact (pe_call GLo hrN rfl gLo kLo bLo .nil (passes_call (takes_of rfl rfl rfl rfl) fun _ _ _ _ h => h) (pa_cons (pv 0) pa_nil))))
 (pss_cons (ps_set (i := 2) sc_read_log.nd rfl (Or.inl rfl) (by exact (pe_call GWa hrN rfl gWa kWa bWa .nil (passes_call (takes_of rfl rfl rfl rfl) fun _ _ _ _ h => h) (pa_cons (pv 1) (pa_cons pe_int pa_nil)))))
 (pss_cons (ps_if (pt_cmpR op_eq (pe_ix ix_list (pv 2) pe_int (fun _ _ => rfl)) pe_str (nomark _)) (pss_cons (ps_expr (pe_call GCw hrN rfl gCw kCw bCw .nil (passes_call (takes_of rfl rfl rfl rfl) fun _ _ _ _ h => h) (pa_cons (pv 2) (pa_cons pe_int (pa_cons pe_int pa_nil)))))
 (pss_cons (ps_expr (pe_call GCn hrN rfl gCn kCn bCn .nil (passes_call (takes_of rfl rfl rfl rfl) fun _ _ _ _ h => h) (pa_cons (pv 1) (pa_cons pe_int pa_nil))))
 (pss_one (ps_ret (pe_makeR0 MPI GPI hrM rfl TU.gC (passes_call (takes_of rfl rfl rfl rfl) fun _ _ _ _ h => h)))))) pss_nil)
 (pss_cons (ps_setLcE (i := 3) (EB := E) (own := [("line", 4)]) (g := (gName 4)) (tt := tYes) rfl sc_read_log.nd rfl rfl (takes_of rfl rfl rfl rfl) (fun _ _ _ _ h => h) rfl rfl (sw_true rfl rfl rfl (by decide +kernel)) (pi_range1 rfl T.m_range (pa_cons (pe_callB call_len_seq (by rfl) T.m_len (by decide +kernel) (pa_cons (pv 1) pa_nil)) pa_nil)) (blkOk_by (N := N_read_log) (sc := defScope s_read_log) (by decide +kernel)) (fun _ _ _ _ _ => (pg_name (i := 4) sc_read_log.nd rfl (Or.inl rfl))) (fun _ _ _ _ _ => pts_nil) (fun _ _ _ _ _ => (pe_call GEi hrEi rfl gEi kEi bEi .nil (passes_blk fun _ _ _ h => h) (pa_cons (pe_call GWa hrN rfl gWa kWa bWa .nil (passes_blk fun _ _ _ h => h) (pa_cons (pv 1) (pa_cons (pv 4) pa_nil))) (pa_cons (pv 4) pa_nil)))))
 (pss_one (ps_ret (pe_makeS MPI GPI hrM rfl TU.gC (passes_call (takes_of rfl rfl rfl rfl) fun _ _ _ _ h => h) (pv 3)))))))), ?_⟩
    have sz : PySem.sizeLine = 16777216 := rfl
    rcases h with ⟨a, rfl, ha, ll, kE, kQ⟩ | ⟨nst, te⟩
    rotate_left
    · exact ⟨_, rfl, x, rfl, .inr ⟨nst, te⟩⟩
    refine ⟨_, rfl, .str a, rfl, .inl ⟨a, rfl, ha, fun L hL => ?_⟩⟩
    have s1 := Same.lay (o := .lst ((linesT a).map V.str)) hL
    have hL1 : (upd H L (.lst ((linesT a).map V.str))) L = some (.lst ((linesT a).map V.str)) := upd_same
    generalize upd H L (.lst ((linesT a).map V.str)) = H1 at s1 hL1 ⊢
    obtain ⟨l0, lr, hls⟩ : ∃ l0 lr, linesT a = l0 :: lr := by
      cases e : linesT a with
      | nil => exact absurd e (lines_ne a)
      | cons l0 lr => exact ⟨l0, lr, rfl⟩
    have lm : ∀ l ∈ linesT a, l.length + 2 ≤ PySem.sizeLine := fun l hl => by
      have := line_short hl
      omega
    have hd0 : (linesT a).headD (Str.ofString "") = l0 := by rw [hls]; rfl
    refine ⟨_, rfl, L, linesT a, 0, rfl, SqL.of hL1, (fun w hw => ⟨lm w (List.mem_of_getElem? hw), fun W hW => ?_⟩), fun z => by rw [hls] at z; exact absurd z (by simp)⟩
    obtain rfl : l0 = w := by
      rw [hls] at hw
      exact Option.some.inj hw
    have s2 := Same.lay (o := .lst ((wordsT l0).map V.str)) hW
    have hW2 : (upd H1 W (.lst ((wordsT l0).map V.str))) W = some (.lst ((wordsT l0).map V.str)) := upd_same
    have hL2 := s2 _ _ hL1
    have s12 : Same H (upd H1 W (.lst ((wordsT l0).map V.str))) := fun _ _ z => s2 _ _ (s1 _ _ z)
    generalize upd H1 W (.lst ((wordsT l0).map V.str)) = H2 at s12 hW2 hL2 ⊢
    obtain ⟨w0, wr, hws⟩ : ∃ w0 wr, wordsT l0 = w0 :: wr := by
      cases e : wordsT l0 with
      | nil => exact absurd e (words_ne l0)
      | cons w0 wr => exact ⟨w0, wr, rfl⟩
    refine ⟨_, rfl, W, _, 0, .str w0, rfl, rfl, SqL.of hW2, atI_nat (j := 0) (by rw [hws]; rfl), rfl, _, rfl, ?_⟩
    by_cases c : w0 = Str.ofString "-"
    · have hp : (wordsT ((linesT a).headD (Str.ofString ""))).head? = some (Str.ofString "-") := by rw [hd0, hws, c]; rfl
      rw [show decide (V.str w0 = V.str (Str.ofString "-")) = true from decide_eq_true (by rw [c])]
      refine iteT ⟨_, rfl, W, wordsT l0, 0, 1, rfl, SqL.of hW2, (fun h1 => (kE 0 1 (by unfold readP; rw [if_pos hp, hd0, if_pos h1])).same s12), fun h1 => ?_⟩
      refine ⟨_, rfl, L, linesT a, 1, rfl, SqL.of hL2, (fun h2 => (kE 1 0 (by unfold readP; rw [if_pos hp, hd0, if_neg (show ¬ 1 < (wordsT l0).length by omega), if_pos h2])).same s12), fun h2 => ?_⟩
      refine fun x dx nx ndx hne => ⟨.ref x, [], rfl, (by show 0 ≤ PySem.sizeLine; decide), fun t nt => ⟨x, dx, t, [], [], rfl, ?_, upd_same, .nil, (by show 0 ≤ 1000; decide), fun H' bt lg => ⟨rfl, ?_⟩⟩⟩
      · rw [upd_ne (fun z => by rw [z, upd_same] at nt; cases nt)]
        exact upd_same
      · refine kQ [] (by unfold readP; rw [if_pos hp, hd0, if_neg (show ¬ 1 < (wordsT l0).length by omega), if_neg (show ¬ 1 < (linesT a).length by omega)]) H' x (fun b o e => ?_) lg
        have e2 := s12 _ _ e
        have g2 : (upd (upd H2 dx (.own x)) x (.ins C dx [])) b = some o := by
          rw [upd_ne (ne_of_none e2 nx), upd_ne (ne_of_none e2 ndx)]
          exact e2
        refine bt b o (ne_of_none e2 nx) ?_
        rw [upd_ne (ne_of_none g2 nt)]
        exact g2
    · have hp : ¬ (wordsT ((linesT a).headD (Str.ofString ""))).head? = some (Str.ofString "-") := fun z => by
        rw [hd0, hws] at z
        exact c (Option.some.inj z)
      have er : readP a = rowsA [] (linesT a) := by unfold readP; rw [if_neg hp]
      rw [show decide (V.str w0 = V.str (Str.ofString "-")) = false from decide_eq_false (fun z => c (V.str.inj z))]
      refine iteF ⟨_, rfl, L, _, rfl, .inl (SqL.of hL2), _, rfl, by rw [List.length_map]; omega, by rw [List.length_map]; omega, fun D hD => ?_⟩
      have nD : ∀ {b : Addr} {o : HO}, H2 b = some o → b ≠ D := fun e => ne_of_none e hD
      refine lc_it walk_range (fun i G => ∃ acc rs, (∀ b o, H2 b = some o → G b = some o) ∧ G D = some (.lst rs) ∧ EntsAt G rs acc ∧ rowsA [] (linesT a) = rowsA acc ((linesT a).drop i) ∧ acc.length = i) ⟨[], [], fun _ _ z => Same.lay hD _ _ z, upd_same, .nil, rfl, rfl⟩ (fun _ _ _ _ => trivial) ?_ ?_
      · rintro i x G G' hi ⟨acc, rs, sG, hG, hE, inv, la⟩ ⟨rfl, hx⟩
        obtain rfl : x = .int ((i : Nat) : Int) := hx.trans (congrArg V.int (Int.zero_add _))
        have hi2 : i < (linesT a).length := by
          rw [List.length_map] at hi
          omega
        have sHG : Same H G' := fun _ _ z => sG _ _ (s12 _ _ z)
        refine ⟨rfl, _, rfl, _, rfl, L, linesT a, i, rfl, SqL.of (sG _ _ hL2), (fun w hw => ⟨lm w (List.mem_of_getElem? hw), fun W' hW' => ?_⟩), fun z => absurd z (by omega)⟩
        have y1 := Same.lay (o := .lst ((wordsT w).map V.str)) hW'
        have hdr : (linesT a).drop i = w :: (linesT a).drop (i + 1) := by
          rw [List.drop_eq_getElem_cons hi2]
          congr 1
          exact (List.getElem?_eq_some_iff.mp hw).2
        refine ⟨_, rfl, W', wordsT w, _, rfl, upd_same, (fun z hz => by have := word_short hz; have := lm w (List.mem_of_getElem? hw); omega), (fun k hk => ?_), fun e he H' t s' ht => ?_⟩
        · refine (kE i k ?_).same (fun _ _ z => y1 _ _ (sHG _ _ z))
          rw [er, inv, hdr]
          show (match entryW (wordsT w) with | .inl k => Sum.inl (acc.length, k) | .inr e => rowsA (acc ++ [e]) ((linesT a).drop (i + 1))) = _
          rw [hk, la]
        · have sGH : ∀ b o, G' b = some o → H' b = some o := fun _ _ z => s' _ _ (y1 _ _ z)
          have lr2 := hE.len
          have hD' := sGH _ _ hG
          refine ⟨rs, hD', small_n (by omega), acc ++ [e], rs ++ [.ref t], fun b o z => ?_, upd_same, ?_, ?_, by rw [List.length_append, la]; rfl⟩
          · rw [upd_ne (nD z)]
            exact sGH _ _ (sG _ _ z)
          · have kt : ∀ t' xs, H' t' = some (.tup xs) → (upd H' D (.lst (rs ++ [.ref t]))) t' = some (.tup xs) := fun t' xs z => by
              rw [upd_ne (fun y => by rw [y, hD'] at z; cases z)]
              exact z
            exact ((hE.keep fun _ _ z => sGH _ _ z).append (.cons ht (entry_ok he) .nil)).keep kt
          · rw [inv, hdr]
            show (match entryW (wordsT w) with | .inl k => Sum.inl (acc.length, k) | .inr e => rowsA (acc ++ [e]) ((linesT a).drop (i + 1))) = _
            rw [he]
      · rintro G ⟨acc, rs, sG, hG, hE, inv, la⟩
        have en : readP a = .inr acc := by
          rw [er, inv, List.drop_eq_nil_of_le (by rw [List.length_map]; omega)]
          rfl
        have lr2 := hE.len
        have la2 : acc.length ≤ 1000 := by
          rw [la, List.length_map]
          omega
        refine ⟨_, rfl, D, rs, rfl, .inr (SqL.of hG), fun x dx nx ndx hne => ⟨.ref x, rs, rfl, by omega, fun t nt => ⟨x, dx, t, rs, acc, rfl, ?_, upd_same, ?_, by omega, fun H' bt lg => ⟨rfl, ?_⟩⟩⟩⟩
        · rw [upd_ne (fun z => by rw [z, upd_same] at nt; cases nt)]
          exact upd_same
        all_goals
          have up : Same G (upd (upd (upd G dx (.own x)) x (.ins C dx [])) t (.tup rs)) := fun b o e => by
            have g2 : (upd (upd G dx (.own x)) x (.ins C dx [])) b = some o := by
              rw [upd_ne (ne_of_none e nx), upd_ne (ne_of_none e ndx)]
              exact e
            rw [upd_ne (ne_of_none g2 nt)]
            exact g2
        · exact hE.keep fun _ _ z => up _ _ z
        · exact kQ acc en H' x (fun b o e => bt b o (ne_of_none (sG _ _ (s12 _ _ e)) nx) (up _ _ (sG _ _ (s12 _ _ e)))) lg
end
end Toy
set_option maxRecDepth 100000
namespace L2
open PySem PySem.Spec PyProof.Rows
/-- plain data that a law shows: ints, texts, lists and tuples of ints, one small dict -/
inductive Dat0 (H : Hp) : V → PyData → Prop where
  | non : Dat0 H .non .none
  | bl (b : Bool) : Dat0 H (.bl b) (.bool b)
  | int (i : Int) : Dat0 H (.int i) (.int i)
  | str (z : Str) : Dat0 H (.str z) (.str z)
  | tup {a : Addr} {ns : List Int} (e : H a = some (.tup (ns.map V.int))) : Dat0 H (.ref a) (.tuple (ns.map .int))
  | lst {a : Addr} {ns : List Int} (e : H a = some (.lst (ns.map V.int))) (n : a ≠ sysModules) : Dat0 H (.ref a) (.list (ns.map .int))
  | dct {a : Addr} {z : Str} {i : Int} (e : H a = some (.dK [(.inr z, .int i)])) : Dat0 H (.ref a) (.dict [(.str z, .int i)])
/-- x reads as d, in every state over H, and the modules' own dict is no part of it -/
def RdS (X : Cx) (H : Hp) (x : V) (d : PyData) : Prop := ∀ (pins : List (Addr × Obj)) (σ : St) (s : Shared) (u : Value), Inv X pins σ H s → RelV x u → ∃ as, Reads s.heap u d as ∧ sysModules ∉ as
theorem RdS.v {X : Cx} {H : Hp} {x : V} {d : PyData} (h : RdS X H x d) : RdV X H x d := fun pins σ s u I r =>
  let ⟨as, q, m⟩ := h pins σ s u I r
  ⟨as, q, fun _ => m⟩
theorem reads_ints {h : Heap} : ∀ {ns : List Int} {us : List Value}, Vals (ns.map V.int) us → ReadsAll h us (ns.map PyData.int) []
  | [], _, r => by
    cases r
    exact .nil
  | z :: ns, _, r => by
    cases r with
    | cons a b =>
      obtain ⟨t, rfl⟩ := a
      exact ReadsAll.cons (as := []) (.int z t) (reads_ints b)
theorem Dat0.rd {X : Cx} {H : Hp} {v : V} {d : PyData} (h : Dat0 H v d) : RdS X H v d := by
  cases h with
  | non =>
    intro pins σ s u I r
    obtain rfl : u = Value.none := r
    exact ⟨_, .none, fun m => nomatch m⟩
  | bl b =>
    intro pins σ s u I r
    obtain rfl : u = Value.bool b := r
    exact ⟨_, .bool b, fun m => nomatch m⟩
  | int i =>
    intro pins σ s u I r
    obtain ⟨t, rfl⟩ : ∃ t, u = Value.int i t := r
    exact ⟨_, .int i t, fun m => nomatch m⟩
  | str z =>
    intro pins σ s u I r
    obtain ⟨t, rfl⟩ : ∃ t, u = Value.str z t := r
    exact ⟨_, .str z t, fun m => nomatch m⟩
  | @tup a ns e =>
    intro pins σ s u I r
    obtain rfl : u = Value.ref a := r
    obtain ⟨its, rv, ⟨o, ho, hc, n, hd⟩, _⟩ := I.tuple (SqT.of e)
    exact ⟨_, .tuple ho hc hd (reads_ints rv), fun m => nomatch m⟩
  | @lst a ns e n =>
    intro pins σ s u I r
    obtain rfl : u = Value.ref a := r
    obtain ⟨its, rv, ⟨o, n', ho, hc, _, hd⟩, _⟩ := I.list (SqL.of e)
    refine ⟨_, .list ho hc hd (reads_ints rv), fun m => ?_⟩
    exact n (by simpa using m : sysModules = a).symm
  | @dct a z i e =>
    intro pins σ s u I r
    obtain rfl : u = Value.ref a := r
    obtain ⟨_, sm, vs, kv, o, es, ep, ho, ex, hd, kk, pr, _⟩ := dk_of I.hok e
    cases kv with
    | @cons p q _ r2 e1 e2 =>
      cases e2
      obtain ⟨k1, w1⟩ := q
      obtain ⟨f1, f2⟩ := e1
      obtain ⟨t2, rfl⟩ : ∃ t, w1 = Value.int i t := f2
      obtain rfl : Sum.inr z = k1 := f1
      obtain ⟨d0, rest, er, k0, v0, pr2⟩ : ∃ d0 rest, es.toList = d0 :: rest ∧ keyIs (.inr z) d0.key = true ∧ d0.val = Value.int i t2 ∧ Pairs (mixKind X.prog X.w) rest [] := by
        generalize es.toList = l at pr
        cases pr with
        | cons a b c => exact ⟨_, _, rfl, a, b, c⟩
      cases pr2
      rcases keyIs_shape k0 with ⟨_, _, q, _⟩ | ⟨z', t, q, ek⟩
      · cases q
      · cases q
        have h1 : ReadsAll s.heap (es.toList.map (·.key)) [PyData.str z] ([] ++ []) := by
          rw [er]
          show ReadsAll s.heap [d0.key] _ _
          rw [ek]
          exact .cons (.str z t) .nil
        have h2 : ReadsAll s.heap (es.toList.map (·.val)) [PyData.int i] ([] ++ []) := by
          rw [er]
          show ReadsAll s.heap [d0.val] _ _
          rw [v0]
          exact .cons (.int i t2) .nil
        refine ⟨_, Reads.dict (kvs := [(PyData.str z, PyData.int i)]) ho ex.1 hd h1 h2, fun m => ?_⟩
        have e1 : sysModules = a := by simpa using m
        rw [← e1] at sm
        exact absurd sm (by decide)
/-- a list of such, at an address that is not the modules' own -/
theorem rd_list {X : Cx} {H : Hp} {q : Addr} {vs : List V} {ds : List PyData} (hq : H q = some (.lst vs)) (nq : q ≠ sysModules) (h : Paired (fun v d => RdS X H v d) vs ds) : RdS X H (.ref q) (.list ds) := by
  intro pins σ s u I r
  obtain rfl : u = Value.ref q := r
  obtain ⟨its, rv, ⟨o, n, ho, hc, _, hd⟩, _⟩ := I.list (SqL.of hq)
  have all : ∀ {vs : List V} {ds : List PyData} {us : List Value}, Paired (fun v d => RdS X H v d) vs ds → Vals vs us → ∃ as, ReadsAll s.heap us ds as ∧ sysModules ∉ as := by
    intro vs ds us h
    induction h generalizing us with
    | nil =>
      intro r
      cases r
      exact ⟨_, .nil, fun m => nomatch m⟩
    | @cons v d vs ds a b ih =>
      intro r
      cases r with
      | cons r1 r2 =>
        obtain ⟨as, q1, m1⟩ := a pins σ s _ I r1
        obtain ⟨bs, q2, m2⟩ := ih r2
        exact ⟨_, .cons q1 q2, fun m => (List.mem_append.mp m).elim m1 m2⟩
  obtain ⟨as, q1, m1⟩ := all h rv
  refine ⟨_, Reads.list ho hc hd q1, fun m => ?_⟩
  rcases List.mem_cons.mp m with e | e
  · exact nq e.symm
  · exact m1 e
/-- a list display, with where it does not stand -/
def tLstS (t : TA) : TE := fun σ H Q => t σ H fun xs H1 => xs.length ≤ sizeLine ∧ ∀ p, H1 p = none → p ≠ sysModules → Q (.ref p) (upd H1 p (.lst xs))
theorem pe_lstS {X : Cx} {es : List Expr} {t : TA} {pos : Pos} (h : PA X es t) : PE X (.List es pos) (tLstS t) := by
  refine ⟨fun pins s σ H Q I hq => ?_⟩
  refine wpAny_List_spliced (thn (h.run pos pins s σ H _ I hq) fun us s1 hh => ?_)
  obtain ⟨xs, H1, I1, r, z, q⟩ := hh
  have z' : us.length ≤ sizeLine := by rw [← r.length]; exact z
  refine ⟨z', V.ref s1.heap.objs.size, upd H1 s1.heap.objs.size (.lst xs), ?_, rfl, q _ (I1.hok.fresh (Nat.le_refl _)) (Nat.ne_of_gt I1.big)⟩
  exact I1.laid (t' := s1.toks) (fun _ _ e => Heap.get?_push_of_some _ e) (Nat.le_refl _) ⟨z, us, 0, r, Heap.get?_push_size _ rfl⟩
end L2
set_option maxRecDepth 100000
namespace Toy
open PySem L2 TL LamX
abbrev s__law_heard : Stmt := top 37
theorem dat_same {H H' : Hp} {v : V} {d : PyData} (s : Same H H') (h : Dat0 H v d) : Dat0 H' v d := by
  cases h with
  | non => exact .non
  | bl b => exact .bl b
  | int i => exact .int i
  | str z => exact .str z
  | tup e => exact .tup (s _ _ e)
  | lst e n => exact .lst (s _ _ e) n
  | dct e => exact .dct (s _ _ e)
/-- plain data, the empty dict too -/
inductive Dat1 (H : Hp) : V → PyData → Prop where
  | d0 {v : V} {d : PyData} (h : Dat0 H v d) : Dat1 H v d
  | emp {a : Addr} (e : H a = some (.dK [])) : Dat1 H (.ref a) (.dict [])
theorem dat_same1 {H H' : Hp} {v : V} {d : PyData} (s : Same H H') (h : Dat1 H v d) : Dat1 H' v d := by
  cases h with
  | d0 h => exact .d0 (dat_same s h)
  | emp e => exact .emp (s _ _ e)
theorem Dat1.rd {X : Cx} {H : Hp} {v : V} {d : PyData} (h : Dat1 H v d) : RdS X H v d := by
  cases h with
  | d0 h => exact h.rd
  | @emp a e =>
    intro pins σ s u I r
    obtain rfl : u = Value.ref a := r
    obtain ⟨_, sm, vs, kv, o, es, ep, ho, ex, hd, kk, pr, _⟩ := dk_of I.hok e
    cases kv
    have e0 : es.toList = [] := by
      generalize es.toList = l at pr
      cases pr
      rfl
    have h1 : ReadsAll s.heap (es.toList.map (·.key)) [] [] := by
      rw [e0]
      exact .nil
    have h2 : ReadsAll s.heap (es.toList.map (·.val)) [] [] := by
      rw [e0]
      exact .nil
    refine ⟨_, Reads.dict (kvs := []) ho ex.1 hd h1 h2, fun m => ?_⟩
    have e1 : sysModules = a := by simpa using m
    rw [← e1] at sm
    exact absurd sm (by decide)


/-- how the law tells what it caught: by the error's class -/
structure THeard (K : PySem.W.Frag) (mg : Str → Option Value) (CW CG CR CU CS B : Addr) : Prop where
  gB : mg "BankError" = some (.ref B)
  gW : mg "BadText" = some (.ref CW)
  gG : mg "BadLog" = some (.ref CG)
  gR : mg "BadRule" = some (.ref CR)
  gU : mg "BadUnit" = some (.ref CU)
  gS : mg "BadSet" = some (.ref CS)
  xW : XvC K CW
  nWd : PySem.W.findIn K (.ref CW) "word" = some none
  nLn : PySem.W.findIn K (.ref CW) "line" = some none
  eW : PySem.W.exmOne K (.ref CW) (.ref B) = some true
  xG : XvC K CG
  nAt : PySem.W.findIn K (.ref CG) "at" = some none
  eG : PySem.W.exmOne K (.ref CG) (.ref B) = some true
  kWW : PySem.W.kitOne K (.ref CW) (.ref CW) = some true
  kGW : PySem.W.kitOne K (.ref CG) (.ref CW) = some false
  kGR : PySem.W.kitOne K (.ref CG) (.ref CR) = some false
  kGU : PySem.W.kitOne K (.ref CG) (.ref CU) = some false
  kGG : PySem.W.kitOne K (.ref CG) (.ref CG) = some true
  m_isinstance : mg "isinstance" = none
  m_repr : mg "repr" = none
/-- a value that repr shows, as the text z -/
def Shows (H : Hp) (v : V) (z : Str) : Prop := ∃ d, Dat1 H v d ∧ d.showable = true ∧ d.depth ≤ 20 ∧ d.shown.length ≤ PySem.sizeLine ∧ d.shown = z
theorem Shows.same {H H' : Hp} {v : V} {z : Str} (s : Same H H') (h : Shows H v z) : Shows H' v z :=
  let ⟨d, h1, h2⟩ := h
  ⟨d, dat_same1 s h1, h2⟩
/-- what is told of what was caught -/
def Told (CW CG : Addr) (H : Hp) (cls : Value) (d : Option Addr) (xs : List V) : Prop := ∃ dd, d = some dd ∧
  ((cls = .ref CW ∧ ∃ (v u : V) (z y : Str), H dd = some (.xd [("word", v), ("line", u)]) ∧ Shows H u z ∧ Shows H v y ∧ xs = [.str "text", .str z, .str y]) ∨
   (cls = .ref CG ∧ ∃ v, H dd = some (.xd [("at", v)]) ∧ xs = [.str "log", v]))
def TTH (CW CG : Addr) : (XK → Hp → VK → Prop) → Hp → VK → Prop := fun tl H Q =>
  tl (fun cls d H' => ∃ xs, Told CW CG H' cls d xs ∧ ∀ H'' p, Same H' H'' → H'' p = some (.tup xs) → Q (.ref p) H'') H (fun v H' => [v].length ≤ PySem.sizeLine ∧ ∀ p, H' p = none → Q (.ref p) (upd H' p (.lst [v])))
abbrev N__law_heard : List Str := ["_law_ask", "_law_caught", "error"]
theorem sc__law_heard : FnScope N__law_heard ["_law_ask"] (defScope s__law_heard) := ⟨rfl, rfl, rfl, by decide +kernel, rfl, by decide +kernel, by decide +kernel⟩
theorem heard_gives {X : Cx} {k : Nat} {g : Addr} {cdg : Value} {q : Str} {CW CG CR CU CS B : Addr} (T : THeard X.K X.mg CW CG CR CU CS B) (hr : Room (k + 2) X.A) (hgd : X.A.guards = some []) :
    GivesTo X N__law_heard "_law_heard" (defScope s__law_heard) g cdg (defBody s__law_heard) "_law_ask" q (TTH CW CG) := by
  intro f c' s H Q tl act hc h
  have gd : (cxOf C8.CX0 X.prog X.w X.K X.mg X.base N__law_heard "_law_heard" (defScope s__law_heard) g cdg X.A X.stack s H C8.E0).nox.A.guards = some [] := hgd
  have hr' : Room (k + 1) (cxOf C8.CX0 X.prog X.w X.K X.mg X.base N__law_heard "_law_heard" (defScope s__law_heard) g cdg X.A X.stack s H C8.E0).nox.A := hr.deeper _
  refine ⟨_, (pss_cons (ps_set (i := 1) sc__law_heard.nd rfl (Or.inl rfl) pe_non)
 (pss_cons (ps_try_keep (i := 2) (c := .ref B) (tb := fun W D σ H => ∃ Ech : XK, (∀ cls d σ' H', Ech cls d H' → W cls d σ' H') ∧ σ[0]? = some (some (.ref f)) ∧ H c' = some (CodeO c' q) ∧ tl Ech H (fun v H' => [v].length ≤ PySem.sizeLine ∧ ∀ p, H' p = none → D.rt (.ref p) (upd H' p (.lst [v])))) rfl rfl sc__law_heard.nd rfl rfl ⟨rfl, by decide, .inl T.gB⟩ L2.takes0 rfl (fun W pn xe tk _ => ?_) (fun a oe cls d pn _ _ => pss_one (ps_set (i := 1) sc__law_heard.nd rfl (Or.inl rfl) (pv 2))))
 (pss_cons (ps_if (pt_val (pe_callB call_isz (by rfl) T.m_isinstance (by decide +kernel) (pa_cons (pv 1) (pa_cons (pe_glob (v := .ref CW) rfl T.gW rfl) pa_nil)))) (pss_one (ps_ret (pe_tup (pa_cons pe_str (pa_cons (pe_callB (call_reprG gd hr'.units) (by rfl) T.m_repr (by decide +kernel) (pa_cons (pe_zat (pv 1)) pa_nil)) (pa_cons (pe_callB (call_reprG gd hr'.units) (by rfl) T.m_repr (by decide +kernel) (pa_cons (pe_zat (pv 1)) pa_nil)) pa_nil)))))) pss_nil)
 (pss_cons (ps_if (pt_val (pe_callB call_isz (by rfl) T.m_isinstance (by decide +kernel) (pa_cons (pv 1) (pa_cons (pe_glob (v := .ref CR) rfl T.gR rfl) pa_nil)))) (pss_one (ps_ret (pe_tup (pa_cons pe_str (pa_cons (pe_zat (pv 1)) pa_nil))))) pss_nil)
 (pss_cons (ps_if (pt_val (pe_callB call_isz (by rfl) T.m_isinstance (by decide +kernel) (pa_cons (pv 1) (pa_cons (pe_glob (v := .ref CU) rfl T.gU rfl) pa_nil)))) (pss_one (ps_ret (pe_tup (pa_cons pe_str (pa_cons (pe_zat (pv 1)) pa_nil))))) pss_nil)
 (pss_cons (ps_if (pt_val (pe_callB call_isz (by rfl) T.m_isinstance (by decide +kernel) (pa_cons (pv 1) (pa_cons (pe_glob (v := .ref CG) rfl T.gG rfl) pa_nil)))) (pss_one (ps_ret (pe_tup (pa_cons pe_str (pa_cons (pe_zat (pv 1)) pa_nil))))) pss_nil)
 (pss_one (ps_ret (pe_ifExp (pt_val (pe_callB call_isz (by rfl) T.m_isinstance (by decide +kernel) (pa_cons (pv 1) (pa_cons (pe_glob (v := .ref CS) rfl T.gS rfl) pa_nil)))) (pe_tup (pa_cons pe_str (pa_cons (pe_zat (pv 1)) pa_nil))) (pe_tup (pa_cons pe_str pa_nil))))))))))), ?_⟩
  · refine ⟨fun pins s' σ G D I h' => ?_⟩
    obtain ⟨Ech, hW, h1, h2, h3⟩ := h'
    exact (pss_one (ps_ret (pe_lst (pa_cons (act W pn xe Ech _ _ tk hW) pa_nil)))).run pins s' σ G D I ⟨h1, h2, h3⟩
  · refine ⟨_, fun cls d σ' G e => ?_, rfl, hc, h⟩
    obtain ⟨xs, ⟨dd, rfl, hT⟩, hq⟩ := e
    have shape : σ'.length = 3 → ∃ w0 w1 w2, σ' = [w0, w1, w2] := fun hl => by
      match σ', hl with
      | [w0, w1, w2], _ => exact ⟨w0, w1, w2, rfl⟩
    rcases hT with ⟨rfl, v, u, z, y, hd, hu, hv, rfl⟩ | ⟨rfl, v, hd, rfl⟩
    · refine ⟨true, T.eW, fun _ hl a na => ?_, fun z => nomatch z⟩
      obtain ⟨w0, w1, w2, rfl⟩ := shape hl
      have s1 : Same G (upd G a (exz a (.ref CW) (some dd))) := Same.lay na
      have c1 : Caught (upd G a (exz a (.ref CW) (some dd))) a CW [("word", v), ("line", u)] := ⟨dd, upd_same, s1 _ _ hd⟩
      obtain ⟨du, u4, u5, u6, u7, rfl⟩ := hu
      obtain ⟨dv, v4, v5, v6, v7, rfl⟩ := hv
      refine ⟨_, rfl, _, rfl, a, CW, _, _, _, true, rfl, c1, T.xW, .own _, T.kWW, _, rfl, ?_⟩
      exact iteT ⟨_, rfl, a, CW, _, u, rfl, c1, T.xW, T.nLn, rfl, u, du, rfl, (dat_same1 s1 u4).rd.v, u5, u6, u7, _, rfl, a, CW, _, v, rfl, c1, T.xW, T.nWd, rfl, v, dv, rfl, (dat_same1 s1 v4).rd.v, v5, v6, v7, (by show 3 ≤ PySem.sizeLine; decide), fun t ht => hq _ t (fun _ _ z => Same.lay ht _ _ (s1 _ _ z)) upd_same⟩
    · refine ⟨true, T.eG, fun _ hl a na => ?_, fun z => nomatch z⟩
      obtain ⟨w0, w1, w2, rfl⟩ := shape hl
      have s1 : Same G (upd G a (exz a (.ref CG) (some dd))) := Same.lay na
      have c1 : Caught (upd G a (exz a (.ref CG) (some dd))) a CG [("at", v)] := ⟨dd, upd_same, s1 _ _ hd⟩
      refine ⟨_, rfl, _, rfl, a, CG, _, _, _, false, rfl, c1, T.xG, .own _, T.kGW, _, rfl, iteF ?_⟩
      refine ⟨_, rfl, a, CG, _, _, _, false, rfl, c1, T.xG, .own _, T.kGR, _, rfl, iteF ?_⟩
      refine ⟨_, rfl, a, CG, _, _, _, false, rfl, c1, T.xG, .own _, T.kGU, _, rfl, iteF ?_⟩
      refine ⟨_, rfl, a, CG, _, _, _, true, rfl, c1, T.xG, .own _, T.kGG, _, rfl, iteT ?_⟩
      exact ⟨_, rfl, a, CG, _, v, rfl, c1, T.xG, T.nAt, rfl, (by show 2 ≤ PySem.sizeLine; decide), fun t ht => hq _ t (fun _ _ z => Same.lay ht _ _ (s1 _ _ z)) upd_same⟩
end Toy
set_option maxRecDepth 100000
namespace Toy
open PySem L2 TL LamX
abbrev s__law_is_number : Stmt := top 38
abbrev s__law_wrong : Stmt := top 41
/-! texts that lists of them can hold -/
def OkS (w : Str) : Prop := (∀ c ∈ tl w, c < 1114112) ∧ w.length ≤ 100000
theorem okS_str {w : Str} (h : OkS w) : PyData.strOk w = true := by
  unfold PyData.strOk
  rw [← Array.all_toList]
  exact List.all_eq_true.mpr fun c hc => decide_eq_true (h.1 c hc)
theorem lay_strs : ∀ {ws : List Str}, (∀ w ∈ ws, ∀ c ∈ tl w, c < 1114112) → PyData.canLayAll0 (ws.map PyData.str) = true ∧ PyData.depthAll (ws.map PyData.str) = 0
  | [], _ => ⟨rfl, rfl⟩
  | w :: r, h => by
    have ih := lay_strs fun u hu => h u (List.mem_cons_of_mem _ hu)
    have z : PyData.strOk w = true := by
      unfold PyData.strOk
      rw [← Array.all_toList]
      exact List.all_eq_true.mpr fun c hc => decide_eq_true (h w List.mem_cons_self c hc)
    exact ⟨by simp [PyData.canLayAll0, PyData.canLay0, ih.1, z], by simp [PyData.depthAll, PyData.depth, ih.2]⟩
theorem shaped_strs {ws : List Str} (h : ∀ w ∈ ws, ∀ c ∈ tl w, c < 1114112) : SeqAt.shaped (.list (ws.map PyData.str)) = true := by
  have z := lay_strs h
  simp [SeqAt.shaped, PyData.canLay0, PyData.depth, z]
theorem dp_strs {K : PySem.W.Frag} {H : Hp} : ∀ ws : List Str, DpAll K H (ws.map V.str) (ws.map PyData.str)
  | [] => .nil
  | w :: r => .cons (.str w) (dp_strs r)
/-- the signs that are no digits -/
def odds (cs : List Nat) : List Str := (cs.filter fun c => !decide (48 ≤ c ∧ c ≤ 57)).map fun c => ⟨#[c]⟩
theorem odds_nil {w : Str} : odds (tl w) = [] ↔ digB w = true := by
  unfold odds digB
  rw [List.map_eq_nil_iff, List.filter_eq_nil_iff, List.all_eq_true]
  constructor
  · intro h c hc
    have := h c hc
    cases e : decide (48 ≤ c ∧ c ≤ 57) with
    | true => rfl
    | false =>
      rw [e] at this
      exact absurd rfl this
  · intro h c hc
    rw [h c hc]
    decide
theorem odds_ok {w : Str} (h : OkS w) : ∀ u ∈ odds (tl w), ∀ c ∈ tl u, c < 1114112 := fun u hu c hc => by
  obtain ⟨x, hx, rfl⟩ := List.mem_map.mp hu
  have e : c = x := List.mem_singleton.mp hc
  rw [e]
  exact h.1 x (List.mem_filter.mp hx).1

def spIsNum : Sp := fun vs H Q _ => ∃ w : Str, vs = [.str w, .int 0, .int (10 ^ 30)] ∧ OkS w ∧ ∀ H', Same H H' → Q (.bl (numW (10 ^ 30) w).isSome) H'
theorem numW_long {w : Str} (h : ¬ (1 ≤ w.length ∧ w.length ≤ 41)) : numW (10 ^ 30) w = none := numW_none fun n hn e => by
  have h1 := pos_numT n
  have h2 := num31 hn
  rw [e] at h
  omega
theorem numW_odd {w : Str} (h : digB w = false) : numW (10 ^ 30) w = none := numW_none fun n hn e => by
  rw [e, digB_num] at h
  cases h
section
variable {P : Program} {w : World} {K : PySem.W.Frag} {mg : Str → Option Value} {base : Heap}
abbrev N__law_is_number : List Str := ["_law_word", "_law_least", "_law_most", "_law_sign"]
theorem sc__law_is_number : FnScope N__law_is_number ["_law_word", "_law_least", "_law_most"] (defScope s__law_is_number) := ⟨rfl, rfl, rfl, by decide +kernel, rfl, by decide +kernel, by decide +kernel⟩
theorem ok__law_is_number {f : Addr} {fd : FuncData} (F : Fun K "_law_is_number" "_law_is_number" s__law_is_number f fd) (T : TR mg) : FnOk P w K mg base CX0 1 f fd ["_law_word", "_law_least", "_law_most"] spIsNum := by
  refine F.ok sc__law_is_number (fun vs H Q E h => ?_) (fun cdv A outer s H vs Q E hr h => ?_)
  · obtain ⟨w, rfl, _⟩ := h
    rfl
  · obtain ⟨wd, rfl, okw, k⟩ := h
    refine ⟨_, (pss_cons (ps_if (PW.pt (pw_or (pt_not (pt_chain op_le op_le pe_int (pe_callB call_len_str (by rfl) T.m_len (by decide +kernel) (pa_cons (pv 0) pa_nil)) pe_int)) (pw_or1 (pt_cmpR (op_neD hr.units) (pe_lc (own := [("_law_sign", 3)]) (g := (gName 3)) rfl sc__law_is_number.nd (pi_str (pv 0)) (blkOk_by (N := N__law_is_number) (sc := defScope s__law_is_number) (by decide +kernel)) (fun _ _ _ _ _ => (pg_name (i := 3) sc__law_is_number.nd rfl (Or.inl rfl))) (fun _ _ _ _ _ => (pts_one (pt_cmpR op_notIn_sign (pv 3) pe_str (by rfl)))) (fun _ _ _ _ _ => (pv 3))) (pe_lst pa_nil) (nomark _))))) (pss_one (ps_ret pe_bl)) pss_nil)
 (pss_one (ps_ret (pe_and (pe_cmpR op_eq (pe_callTy call_str_int (by rfl) T.m_str (by decide +kernel) (pa_cons (pe_callTy call_int_str (by rfl) T.m_int (by decide +kernel) (pa_cons (pv 0) pa_nil)) pa_nil)) (pv 0) (nomark _)) (pe_one (pe_chain op_le op_le (pv 1) (pe_callTy call_int_str (by rfl) T.m_int (by decide +kernel) (pa_cons (pv 0) pa_nil)) (pv 2))))))), ?_⟩
    have sz0 : PySem.sizeLine = 16777216 := rfl
    have lw := okw.2
    have bad : ∀ G, Same H G → numW (10 ^ 30) wd = none → Q (.bl false) G := fun G s e => by
      have z := k G s
      rw [e] at z
      exact z
    refine ⟨_, rfl, wd, rfl, by omega, _, _, rfl, rfl, _, rfl, ?_⟩
    refine ite2 (fun c1 => ?_) (fun c1 => ?_)
    rotate_left
    · exact ⟨_, rfl, iteT (iteT (bad H (Same.refl H) (numW_long fun z => c1 (decide_eq_true (by omega)))))⟩
    have c1' : (1 : Int) ≤ ((wd.length : Nat) : Int) := of_decide_eq_true c1
    refine ⟨_, _, rfl, rfl, _, rfl, ?_⟩
    by_cases c41 : wd.length ≤ 41
    rotate_left
    · rw [decide_eq_false (show ¬ ((wd.length : Nat) : Int) ≤ 41 by omega)]
      exact iteT (iteT (bad H (Same.refl H) (numW_long fun z => c41 z.2)))
    rw [decide_eq_true (show ((wd.length : Nat) : Int) ≤ 41 by omega)]
    refine iteF ⟨_, rfl, wd, rfl, fun D hD => ?_⟩
    have sz : wd.cps.size = (tl wd).length := Array.length_toList.symm
    refine lc_it walk_str (fun j G3 => G3 = upd H D (.lst ((odds ((tl wd).take j)).map V.str))) rfl (fun _ _ _ _ => trivial) ?_ ?_
    · rintro j x G3 G4 hj rfl ⟨rfl, c, hc, rfl⟩
      have hc2 : (tl wd)[j]? = some c := by
        show wd.cps.toList[j]? = _
        rw [Array.getElem?_toList]
        exact hc
      refine ⟨rfl, _, rfl, c, _, rfl, rfl, _, rfl, ?_⟩
      rw [dig_in]
      have ot : odds ((tl wd).take (j + 1)) = if (!decide (48 ≤ c ∧ c ≤ 57)) = true then odds ((tl wd).take j) ++ [⟨#[c]⟩] else odds ((tl wd).take j) := by
        rw [List.take_add_one, hc2]
        unfold odds
        rw [List.filter_append, List.map_append]
        by_cases h : 48 ≤ c ∧ c ≤ 57
        · simp [h]
        · have h2 : c < 48 ∨ 57 < c := by omega
          rw [show decide (48 ≤ c ∧ c ≤ 57) = false from decide_eq_false h]
          simp [h2]
      rw [ot]
      cases c2 : (!decide (48 ≤ c ∧ c ≤ 57)) with
      | true =>
        refine iteT ⟨_, rfl, _, upd_same, ?_, ?_⟩
        · have l1 : (odds ((tl wd).take j)).length ≤ wd.length := by
            unfold odds
            rw [List.length_map, len_tl]
            exact Nat.le_trans (List.length_filter_le ..) (by rw [List.length_take]; omega)
          rw [List.length_map]
          omega
        · rw [upd_upd, if_pos rfl, List.map_append]
          rfl
      | false =>
        refine iteF ?_
        rw [if_neg Bool.false_ne_true]
    rintro G3 rfl
    rw [sz, List.take_length]
    have s3 := Same.lay (o := .lst ((odds (tl wd)).map V.str)) hD
    refine ⟨(by show 0 ≤ PySem.sizeLine; decide), fun E1 hE1 => ?_⟩
    have y1 := Same.lay (o := .lst []) hE1
    have s4 : Same H (upd (upd H D (.lst ((odds (tl wd)).map V.str))) E1 (.lst [])) := fun _ _ z => y1 _ _ (s3 _ _ z)
    refine ⟨.list ((odds (tl wd)).map .str), .list [], .lst (SqL.of (y1 _ _ upd_same)) (dp_strs _), .lst (SqL.of upd_same) .nil, shaped_strs (odds_ok okw), rfl, _, rfl, ?_⟩
    cases c3 : digB wd with
    | false =>
      have ne : odds (tl wd) ≠ [] := fun z => by
        rw [odds_nil.mp z] at c3
        cases c3
      have e : (!PyData.eqv (.list ((odds (tl wd)).map .str)) (.list [])) = true := by
        cases h : odds (tl wd) with
        | nil => exact absurd h ne
        | cons _ _ => rfl
      rw [e]
      exact iteT (bad _ s4 (numW_odd c3))
    | true =>
      have e : (!PyData.eqv (.list ((odds (tl wd)).map .str)) (.list [])) = false := by
        rw [odds_nil.mpr c3]
        rfl
      rw [e]
      have w1 : 1 ≤ wd.length := by omega
      have v41 : valT wd < 10 ^ 41 := Nat.lt_of_lt_of_le (valT_lt c3) (Nat.pow_le_pow_right (by decide) c41)
      refine iteF ⟨_, rfl, wd, _, rfl, int_dig c3 w1 (by omega), by omega, _, rfl, log_small (Nat.lt_trans v41 (by decide +kernel)), _, rfl, rfl, _, rfl, ?_⟩
      have kk := k _ s4
      by_cases c5 : numT (valT wd) = wd
      · rw [show decide (V.str (Str.ofString (toString ((valT wd : Nat) : Int))) = V.str wd) = true from decide_eq_true (congrArg V.str c5)]
        refine iteT ⟨_, rfl, _, rfl, wd, _, rfl, int_dig c3 w1 (by omega), by omega, _, _, rfl, rfl, _, rfl, ?_⟩
        rw [decide_eq_true (show (0 : Int) ≤ ((valT wd : Nat) : Int) by omega)]
        refine iteT ⟨_, rfl, _, _, rfl, rfl, ?_⟩
        show Q (.bl (decide (((valT wd : Nat) : Int) ≤ 10 ^ 30))) _
        by_cases c6 : valT wd ≤ 10 ^ 30
        · have en : numW (10 ^ 30) wd = some (valT wd) := numW_eq.mpr ⟨c5.symm, c6⟩
          rw [en] at kk
          rw [decide_eq_true (show ((valT wd : Nat) : Int) ≤ 10 ^ 30 by omega)]
          exact kk
        · rw [decide_eq_false (show ¬ ((valT wd : Nat) : Int) ≤ 10 ^ 30 by omega)]
          refine bad _ s4 (numW_none fun n hn z => c6 ?_)
          rw [z, valT_num]
          exact hn
      · rw [show decide (V.str (Str.ofString (toString ((valT wd : Nat) : Int))) = V.str wd) = false from decide_eq_false (fun z => c5 (V.str.inj z))]
        exact iteF (bad _ s4 (numW_none fun n hn z => c5 (by rw [z, valT_num])))
end
end Toy
set_option maxRecDepth 100000
namespace Toy
open PySem L2 TL LamX
def wrongV (ws : List Str) : V := match entryW ws with
  | .inl k => .int ((k : Nat) : Int)
  | .inr _ => .non
def spLWrong : Sp := fun vs H Q _ => ∃ (q : Addr) (ws : List Str), vs = [.ref q] ∧ H q = some (.lst (ws.map V.str)) ∧ (∀ w ∈ ws, OkS w) ∧ ∀ H', Same H H' → Q (wrongV ws) H'
/-- what the first two words come to -/
def numAt (ws : List Str) (k : Nat) : Option Nat := ws[k]?.bind (numW (10 ^ 30))
theorem wrong_num {ws : List Str} {i : Nat} (hi : i < 2) (h : numAt ws i = none) (hp : ∀ j, j < i → (numAt ws j).isSome = true) : wrongV ws = .int ((i : Nat) : Int) := by
  unfold wrongV entryW
  rcases i with _ | _ | i
  · rw [show ws[0]?.bind (numW (10 ^ 30)) = none from h]
  · obtain ⟨a, ha⟩ := Option.isSome_iff_exists.mp (hp 0 (by decide))
    rw [show ws[0]?.bind (numW (10 ^ 30)) = some a from ha, show ws[1]?.bind (numW (10 ^ 30)) = none from h]
  · omega
theorem wrong_rest {ws : List Str} (hp : ∀ j, j < 2 → (numAt ws j).isSome = true) : wrongV ws = if ws[2]? = some ("met" : Str) ∨ ws[2]? = some ("apart" : Str) then (if 3 < ws.length then .int 3 else .non) else .int 2 := by
  obtain ⟨a, ha⟩ := Option.isSome_iff_exists.mp (hp 0 (by decide))
  obtain ⟨b, hb⟩ := Option.isSome_iff_exists.mp (hp 1 (by decide))
  unfold wrongV entryW
  rw [show ws[0]?.bind (numW (10 ^ 30)) = some a from ha, show ws[1]?.bind (numW (10 ^ 30)) = some b from hb]
  by_cases c : ws[2]? = some ("met" : Str) ∨ ws[2]? = some ("apart" : Str)
  · simp only [if_pos c]
    by_cases c2 : 3 < ws.length
    · simp only [if_pos c2]
      rfl
    · simp only [if_neg c2]
  · simp only [if_neg c]
    rfl
section
variable {P : Program} {w : World} {K : PySem.W.Frag} {mg : Str → Option Value} {base : Heap}
abbrev N__law_wrong : List Str := ["_law_words", "_law_at"]
theorem sc__law_wrong : FnScope N__law_wrong ["_law_words"] (defScope s__law_wrong) := ⟨rfl, rfl, rfl, by decide +kernel, rfl, by decide +kernel, by decide +kernel⟩
theorem ok__law_wrong {f fIn : Addr} {fd fdIn : FuncData} (F : Fun K "_law_wrong" "_law_wrong" s__law_wrong f fd) (T : TR mg)
    (GIn : FnOk P w K mg base CX0 1 fIn fdIn ["_law_word", "_law_least", "_law_most"] spIsNum) (gIn : mg "_law_is_number" = some (.ref fIn)) (kIn : PySem.W.keepIn K (.ref fIn) = true) (bIn : Binds K fdIn ["_law_word", "_law_least", "_law_most"] []) : FnOk P w K mg base CX0 2 f fd ["_law_words"] spLWrong := by
  refine F.ok sc__law_wrong (fun vs H Q E h => ?_) (fun cdv A outer s H vs Q E hrD1 h => ?_)
  · obtain ⟨q, ws, rfl, _⟩ := h
    rfl
  · obtain ⟨q, ws, rfl, hq, ok, k⟩ := h
    refine ⟨_, (pss_cons (ps_for PassesOwn.never rfl (pi_range1 rfl T.m_range (pa_cons pe_int pa_nil)) (pg_name (i := 1) sc__law_wrong.nd rfl (Or.inl rfl))
 (pss_one (ps_if (PW.pt (pw_or (pt_cmpR op_ge (pv 1) (pe_callB call_len_seq (by rfl) T.m_len (by decide +kernel) (pa_cons (pv 0) pa_nil)) (nomark _)) (pw_or1 (pt_not (pt_val (pe_call GIn hrD1 rfl gIn kIn bIn .nil pass0 (pa_cons (pe_ix ix_list (pv 0) (pv 1) (fun _ _ => rfl)) (pa_cons pe_int (pa_cons (pe_op op_pow pe_int pe_int) pa_nil))))))))) (pss_one (ps_ret (pv 1))) pss_nil)))
 (pss_cons (ps_if (PW.pt (pw_or (pt_cmpR op_lt (pe_callB call_len_seq (by rfl) T.m_len (by decide +kernel) (pa_cons (pv 0) pa_nil)) pe_int (nomark _)) (pw_or1 (pt_cmpR op_notIn_seq (pe_ix ix_list (pv 0) pe_int (fun _ _ => rfl)) (pe_tup (pa_cons pe_str (pa_cons pe_str pa_nil))) (by rfl))))) (pss_one (ps_ret pe_int)) pss_nil)
 (pss_one (ps_ret (pe_ifExp (pt_cmpR op_gt (pe_callB call_len_seq (by rfl) T.m_len (by decide +kernel) (pa_cons (pv 0) pa_nil)) pe_int (nomark _)) pe_int pe_non))))), ?_⟩
    have kw : ∀ G, Same H G → ∀ v, wrongV ws = v → Q v G := fun G s v e => by
      rw [← e]
      exact k G s
    refine ⟨2, rfl, by decide, by decide, for_it walk_range (fun i σ G => ∃ u, σ = [some (.ref q), u] ∧ Same H G ∧ ∀ j, j < i → (numAt ws j).isSome = true) ⟨none, rfl, Same.refl H, fun j z => absurd z (Nat.not_lt_zero j)⟩ (fun _ _ _ _ _ => trivial) ?_ ?_⟩
    · rintro i v σ G G' hi ⟨u, rfl, s1, hp⟩ ⟨rfl, hv⟩
      obtain rfl : v = .int ((i : Nat) : Int) := hv.trans (congrArg V.int (Int.zero_add _))
      have hi2 : i < 2 := hi
      have hq1 := s1 _ _ hq
      refine ⟨_, rfl, _, rfl, q, _, rfl, .inl (SqL.of hq1), _, _, rfl, rfl, _, rfl, ?_⟩
      rw [List.length_map]
      by_cases c : ws.length ≤ i
      · rw [decide_eq_true (show ((ws.length : Nat) : Int) ≤ ((i : Nat) : Int) by omega)]
        refine iteT (iteT ⟨_, rfl, kw _ s1 _ (wrong_num hi2 ?_ hp)⟩)
        unfold numAt
        rw [List.getElem?_eq_none c]
        rfl
      · rw [decide_eq_false (show ¬ ((ws.length : Nat) : Int) ≤ ((i : Nat) : Int) by omega)]
        obtain ⟨wd, hw⟩ : ∃ wd, ws[i]? = some wd := ⟨_, List.getElem?_eq_getElem (by omega)⟩
        refine iteF ⟨_, rfl, _, rfl, q, _, _, .str wd, rfl, rfl, SqL.of hq1, atI_nat (by rw [List.getElem?_map, hw]; rfl), _, _, rfl, rfl, ⟨by decide, by decide, by decide⟩, wd, rfl, ok wd (List.mem_of_getElem? hw), fun G2 s2 => ⟨_, rfl, ?_⟩⟩
        have s12 : Same H G2 := fun _ _ z => s2 _ _ (s1 _ _ z)
        have en : numAt ws i = numW (10 ^ 30) wd := by
          unfold numAt
          rw [hw]
          rfl
        cases e : numW (10 ^ 30) wd with
        | none => exact iteT ⟨_, rfl, kw _ s12 _ (wrong_num hi2 (en.trans e) hp)⟩
        | some n =>
          refine iteF ⟨_, rfl, s12, fun j hj => ?_⟩
          rcases Nat.lt_or_ge j i with c2 | c2
          · exact hp j c2
          · obtain rfl : j = i := by omega
            rw [en, e]
            rfl
    · rintro σ G ⟨u, rfl, s1, hp⟩
      have er := wrong_rest (ws := ws) hp
      have hq1 := s1 _ _ hq
      refine ⟨_, rfl, q, _, rfl, .inl (SqL.of hq1), _, _, rfl, rfl, _, rfl, ?_⟩
      rw [List.length_map]
      by_cases c : ws.length < 3
      · show if decide (((ws.length : Nat) : Int) < 3) = true then _ else _
        rw [decide_eq_true (show ((ws.length : Nat) : Int) < 3 by omega)]
        refine iteT (iteT (kw _ s1 _ ?_))
        rw [er, if_neg]
        rw [List.getElem?_eq_none (by omega)]
        exact fun z => z.elim (fun y => nomatch y) fun y => nomatch y
      · show if decide (((ws.length : Nat) : Int) < 3) = true then _ else _
        rw [decide_eq_false (show ¬ ((ws.length : Nat) : Int) < 3 by omega)]
        obtain ⟨wd, hw⟩ : ∃ wd, ws[2]? = some wd := ⟨_, List.getElem?_eq_getElem (by omega)⟩
        refine iteF ⟨_, rfl, q, _, 2, .str wd, rfl, rfl, SqL.of hq1, atI_nat (j := 2) (by rw [List.getElem?_map, hw]; rfl), (by show 2 ≤ PySem.sizeLine; decide), fun t ht => ?_⟩
        have y2 := Same.lay (o := .tup [V.str "met", V.str "apart"]) ht
        have s3 : Same H (upd G t (.tup [V.str "met", V.str "apart"])) := fun _ _ z => y2 _ _ (s1 _ _ z)
        refine ⟨t, _, rfl, .inr (SqT.of upd_same), rfl, flat_strs ["met", "apart"], _, rfl, ?_⟩
        show if (!inV (.str wd) ([("met" : Str), "apart"].map V.str)) = true then _ else _
        rw [inV_strs]
        have em : (ws[2]? = some ("met" : Str) ∨ ws[2]? = some ("apart" : Str)) ↔ wd ∈ [("met" : Str), "apart"] := by
          rw [hw]
          simp
        by_cases m : wd ∈ [("met" : Str), "apart"]
        · rw [decide_eq_true m]
          refine iteF ⟨_, rfl, q, _, rfl, .inl (SqL.of (y2 _ _ hq1)), _, _, rfl, rfl, _, rfl, ?_⟩
          rw [List.length_map]
          by_cases c3 : 3 < ws.length
          · show if decide ((3 : Int) < ((ws.length : Nat) : Int)) = true then _ else _
            rw [decide_eq_true (show (3 : Int) < ((ws.length : Nat) : Int) by omega)]
            exact iteT (kw _ s3 _ (by rw [er, if_pos (em.mpr m), if_pos c3]))
          · show if decide ((3 : Int) < ((ws.length : Nat) : Int)) = true then _ else _
            rw [decide_eq_false (show ¬ (3 : Int) < ((ws.length : Nat) : Int) by omega)]
            exact iteF (kw _ s3 _ (by rw [er, if_pos (em.mpr m), if_neg c3]))
        · rw [decide_eq_false m]
          exact iteT (kw _ s3 _ (by rw [er, if_neg (fun z => m (em.mp z))]))
end
end Toy
set_option maxRecDepth 100000
namespace Toy
open PySem L2 TL LamX
abbrev s__law_due : Stmt := top 42
theorem mem_joinL {S : List Nat} : ∀ {ps : List (List Nat)} {p : List Nat} {c : Nat}, p ∈ ps → c ∈ p → c ∈ joinL S ps
  | [q], p, c, hp, hc => by
    rw [List.mem_singleton.mp hp] at hc
    exact hc
  | q :: r :: t, p, c, hp, hc => by
    show c ∈ q ++ (S ++ joinL S (r :: t))
    rcases List.mem_cons.mp hp with rfl | hp
    · exact List.mem_append_left _ hc
    · exact List.mem_append_right _ (List.mem_append_right _ (mem_joinL hp hc))
theorem joinL_mem {S : List Nat} : ∀ {ps : List (List Nat)} {c : Nat}, c ∈ joinL S ps → c ∈ S ∨ ∃ p ∈ ps, c ∈ p
  | [], c, h => nomatch h
  | [q], c, h => .inr ⟨q, List.mem_singleton.mpr rfl, h⟩
  | q :: r :: t, c, h => by
    have h' : c ∈ q ++ (S ++ joinL S (r :: t)) := h
    rcases List.mem_append.mp h' with h1 | h1
    · exact .inr ⟨q, List.mem_cons_self, h1⟩
    · rcases List.mem_append.mp h1 with h2 | h2
      · exact .inl h2
      · rcases joinL_mem h2 with h3 | ⟨p, hp, hc⟩
        · exact .inl h3
        · exact .inr ⟨p, List.mem_cons_of_mem _ hp, hc⟩
theorem join_split (a : Str) {sep : Str} (h : Txt.split a sep ≠ []) (hs : (sep.length == 0) = false) : Txt.join sep (Txt.split a sep) = a := by
  rw [TL.join_eq]
  exact StrLaws.join_split a sep
theorem ok_split {a sep : Str} (h : OkS a) (hj : Txt.join sep (Txt.split a sep) = a) : ∀ w ∈ Txt.split a sep, OkS w := fun w hw => by
  refine ⟨fun c hc => h.1 c ?_, Nat.le_trans (PyProof.Rows.part_short (x := a) (y := sep) hw) h.2⟩
  have e := hj
  rw [TL.join_eq] at e
  have e2 := congrArg tl e
  rw [TL.tl_join] at e2
  rw [← e2]
  exact mem_joinL (List.mem_map.mpr ⟨w, hw, rfl⟩) hc
theorem join_nl (a : Str) : Txt.join " " (wordsT a) = a := by
  rw [TL.join_eq]
  exact StrLaws.join_split a " "
theorem join_ll (a : Str) : Txt.join "\n" (linesT a) = a := by
  rw [TL.join_eq]
  exact StrLaws.join_split a "\n"
theorem entry_le {ws : List Str} {k : Nat} (h : entryW ws = .inl k) : k ≤ 3 := by
  unfold entryW at h
  split at h
  · cases h
    decide
  · cases h
    decide
  · split at h
    · split at h
      · cases h
        decide
      · cases h
    · cases h
      decide
theorem n0 : numT 0 = Str.ofString "0" := by decide +kernel
theorem n1 : numT 1 = Str.ofString "1" := by decide +kernel
theorem wdash : wordsT (Str.ofString "-") = [Str.ofString "-"] := by decide +kernel
def spLDue : Sp := fun vs H Q _ => ∃ a : Str, vs = [.str a] ∧ OkS a ∧ (linesT a).length ≤ 1000 ∧
  (∀ i k, readP a = .inl (i, k) → ∀ H' t, Same H H' → H' t = some (.tup [.str "text", .str (numT i), .str (numT k)]) → Q (.ref t) H') ∧ (∀ es, readP a = .inr es → ∀ H', Same H H' → Q .non H')
section
variable {P : Program} {w : World} {K : PySem.W.Frag} {mg : Str → Option Value} {base : Heap}
abbrev N__law_due : List Str := ["_law_page", "_law_lines", "_law_at", "_law_wrong_here"]
theorem sc__law_due : FnScope N__law_due ["_law_page"] (defScope s__law_due) := ⟨rfl, rfl, rfl, by decide +kernel, rfl, by decide +kernel, by decide +kernel⟩
theorem ok__law_due {f fWr : Addr} {fd fdWr : FuncData} (F : Fun K "_law_due" "_law_due" s__law_due f fd) (T : TR mg)
    (GWr : FnOk P w K mg base CX0 2 fWr fdWr ["_law_words"] spLWrong) (gWr : mg "_law_wrong" = some (.ref fWr)) (kWr : PySem.W.keepIn K (.ref fWr) = true) (bWr : Binds K fdWr ["_law_words"] []) : FnOk P w K mg base CX0 3 f fd ["_law_page"] spLDue := by
  refine F.ok sc__law_due (fun vs H Q E h => ?_) (fun cdv A outer s H vs Q E hrD2 h => ?_)
  · obtain ⟨a, rfl, _⟩ := h
    rfl
  · obtain ⟨a, rfl, oa, ll, kE, kQ⟩ := h
    refine ⟨_, (pss_cons (ps_set (i := 1) sc__law_due.nd rfl (Or.inl rfl) (pe_split (pv 0) pe_str))
 (pss_cons (ps_if (pt_cmpR op_eq (pe_ix ix_list (pe_split (pe_ix ix_list (pv 1) pe_int (fun _ _ => rfl)) pe_str) pe_int (fun _ _ => rfl)) pe_str (nomark _)) (pss_cons (ps_if (pt_cmpR op_ne (pe_ix ix_list (pv 1) pe_int (fun _ _ => rfl)) pe_str (nomark _)) (pss_one (ps_ret (pe_tup (pa_cons pe_str (pa_cons pe_str (pa_cons pe_str pa_nil)))))) pss_nil)
 (pss_one (ps_ret (pe_ifExp (pt_cmpR op_eq (pe_callB call_len_seq (by rfl) T.m_len (by decide +kernel) (pa_cons (pv 1) pa_nil)) pe_int (nomark _)) pe_non (pe_tup (pa_cons pe_str (pa_cons pe_str (pa_cons pe_str pa_nil)))))))) pss_nil)
 (pss_cons (ps_for PassesOwn.never rfl (pi_range1 rfl T.m_range (pa_cons (pe_callB call_len_seq (by rfl) T.m_len (by decide +kernel) (pa_cons (pv 1) pa_nil)) pa_nil)) (pg_name (i := 2) sc__law_due.nd rfl (Or.inl rfl))
 (pss_cons (ps_set (i := 3) sc__law_due.nd rfl (Or.inl rfl) (by exact (pe_call GWr hrD2 rfl gWr kWr bWr .nil pass0 (pa_cons (pe_split (pe_ix ix_list (pv 1) (pv 2) (fun _ _ => rfl)) pe_str) pa_nil))))
 (pss_one (ps_if (pt_cmpR op_notN (pv 3) pe_non (nomark _)) (pss_one (ps_ret (pe_tup (pa_cons pe_str (pa_cons (pe_callTy call_str_int (by rfl) T.m_str (by decide +kernel) (pa_cons (pv 2) pa_nil)) (pa_cons (pe_callTy call_str_int (by rfl) T.m_str (by decide +kernel) (pa_cons (pv 3) pa_nil)) pa_nil)))))) pss_nil))))
 (pss_one (ps_ret pe_non))))), ?_⟩
    have sz : PySem.sizeLine = 16777216 := rfl
    have la := oa.2
    refine ⟨_, rfl, ⟨_, rfl⟩, a, "\n", rfl, rfl, rfl, by omega, fun L hL => ?_⟩
    have s1 := Same.lay (o := .lst ((linesT a).map V.str)) hL
    have hL1 : (upd H L (.lst ((linesT a).map V.str))) L = some (.lst ((linesT a).map V.str)) := upd_same
    change gName 1 (V.ref L) _ (upd H L (.lst ((linesT a).map V.str))) _
    generalize upd H L (.lst ((linesT a).map V.str)) = H1 at s1 hL1 ⊢
    obtain ⟨l0, lr, hls⟩ : ∃ l0 lr, linesT a = l0 :: lr := by
      cases e : linesT a with
      | nil => exact absurd e (lines_ne a)
      | cons l0 lr => exact ⟨l0, lr, rfl⟩
    have lm : ∀ l ∈ linesT a, l.length + 2 ≤ PySem.sizeLine := fun l hl => by
      have := line_short hl
      omega
    have hd0 : (linesT a).headD (Str.ofString "") = l0 := by rw [hls]; rfl
    have at0 : atI ((linesT a).map V.str) 0 = some (.str l0) := atI_nat (j := 0) (by rw [hls]; rfl)
    refine ⟨_, rfl, L, _, 0, .str l0, rfl, rfl, SqL.of hL1, at0, ⟨_, rfl⟩, l0, " ", rfl, rfl, rfl, lm l0 (by rw [hls]; exact List.mem_cons_self), fun W hW => ?_⟩
    have s2 := Same.lay (o := .lst ((Txt.split l0 (Str.ofString " ")).map V.str)) hW
    have hW2 : (upd H1 W (.lst ((Txt.split l0 (Str.ofString " ")).map V.str))) W = some (.lst ((Txt.split l0 (Str.ofString " ")).map V.str)) := upd_same
    have hL2 := s2 _ _ hL1
    have s12 : Same H (upd H1 W (.lst ((Txt.split l0 (Str.ofString " ")).map V.str))) := fun _ _ z => s2 _ _ (s1 _ _ z)
    generalize upd H1 W (.lst ((Txt.split l0 (Str.ofString " ")).map V.str)) = H2 at s12 hW2 hL2 ⊢
    replace hW2 : H2 W = some (.lst ((wordsT l0).map V.str)) := hW2
    obtain ⟨w0, wr, hws⟩ : ∃ w0 wr, wordsT l0 = w0 :: wr := by
      cases e : wordsT l0 with
      | nil => exact absurd e (words_ne l0)
      | cons w0 wr => exact ⟨w0, wr, rfl⟩
    refine ⟨W, (wordsT l0).map V.str, 0, .str w0, rfl, rfl, SqL.of hW2, atI_nat (j := 0) (by rw [hws]; rfl), rfl, _, rfl, ?_⟩
    by_cases c : w0 = Str.ofString "-"
    · have hp : (wordsT ((linesT a).headD (Str.ofString ""))).head? = some (Str.ofString "-") := by rw [hd0, hws, c]; rfl
      rw [show decide (V.str w0 = V.str (Str.ofString "-")) = true from decide_eq_true (by rw [c])]
      refine iteT ⟨_, rfl, L, _, 0, .str l0, rfl, rfl, SqL.of hL2, at0, rfl, _, rfl, ?_⟩
      by_cases c2 : l0 = Str.ofString "-"
      · rw [show decide (V.str l0 = V.str (Str.ofString "-")) = true from decide_eq_true (by rw [c2])]
        have w1 : (wordsT l0).length = 1 := by rw [c2, wdash]; rfl
        refine iteF ⟨_, rfl, L, _, rfl, .inl (SqL.of hL2), rfl, _, rfl, ?_⟩
        rw [List.length_map]
        by_cases c3 : (linesT a).length = 1
        · rw [show decide (V.int (((linesT a).length : Nat) : Int) = V.int 1) = true from decide_eq_true (by rw [c3]; rfl)]
          exact iteT (kQ [] (by unfold readP; rw [if_pos hp, hd0, if_neg (show ¬ 1 < (wordsT l0).length by omega), if_neg (show ¬ 1 < (linesT a).length by omega)]) _ s12)
        · have lp : 0 < (linesT a).length := by rw [hls]; exact Nat.succ_pos _
          rw [show decide (V.int (((linesT a).length : Nat) : Int) = V.int 1) = false from decide_eq_false (fun z => c3 (by have := V.int.inj z; omega))]
          refine iteF ⟨(by show 3 ≤ PySem.sizeLine; decide), fun t ht => ?_⟩
          refine kE 1 0 (by unfold readP; rw [if_pos hp, hd0, if_neg (show ¬ 1 < (wordsT l0).length by omega), if_pos (show 1 < (linesT a).length by omega)]) _ t (fun _ _ z => Same.lay ht _ _ (s12 _ _ z)) ?_
          rw [upd_same, n0, n1]
      · have w1 : 1 < (wordsT l0).length := by
          cases wr with
          | nil =>
            have z := join_nl l0
            rw [hws, c] at z
            exact absurd z.symm c2
          | cons x r =>
            rw [hws]
            simp
        rw [show decide (V.str l0 = V.str (Str.ofString "-")) = false from decide_eq_false (fun z => c2 (V.str.inj z))]
        refine iteT ⟨(by show 3 ≤ PySem.sizeLine; decide), fun t ht => ?_⟩
        refine kE 0 1 (by unfold readP; rw [if_pos hp, hd0, if_pos w1]) _ t (fun _ _ z => Same.lay ht _ _ (s12 _ _ z)) ?_
        rw [upd_same, n0, n1]
    · have hp : ¬ (wordsT ((linesT a).headD (Str.ofString ""))).head? = some (Str.ofString "-") := fun z => by
        rw [hd0, hws] at z
        exact c (Option.some.inj z)
      have er : readP a = rowsA [] (linesT a) := by unfold readP; rw [if_neg hp]
      rw [show decide (V.str w0 = V.str (Str.ofString "-")) = false from decide_eq_false (fun z => c (V.str.inj z))]
      refine iteF ⟨_, rfl, L, _, rfl, .inl (SqL.of hL2), _, rfl, by rw [List.length_map]; omega, by rw [List.length_map]; omega, for_it walk_range (fun i σ G => ∃ u v acc, σ = [some (.str a), some (.ref L), u, v] ∧ Same H2 G ∧ rowsA [] (linesT a) = rowsA acc ((linesT a).drop i) ∧ acc.length = i) ⟨none, none, [], rfl, Same.refl _, rfl, rfl⟩ (fun _ _ _ _ _ => trivial) ?_ ?_⟩
      · rintro i x σ G G' hi ⟨u, v, acc, rfl, sG, inv, lac⟩ ⟨rfl, hx⟩
        obtain rfl : x = .int ((i : Nat) : Int) := hx.trans (congrArg V.int (Int.zero_add _))
        have hi2 : i < (linesT a).length := by
          rw [List.length_map] at hi
          omega
        obtain ⟨wd, hw⟩ : ∃ wd, (linesT a)[i]? = some wd := ⟨_, List.getElem?_eq_getElem hi2⟩
        have hwm := List.mem_of_getElem? hw
        have hdr : (linesT a).drop i = wd :: (linesT a).drop (i + 1) := by
          rw [List.drop_eq_getElem_cons hi2]
          congr 1
          exact (List.getElem?_eq_some_iff.mp hw).2
        have od : OkS wd := ok_split oa (join_ll a) wd hwm
        refine ⟨_, rfl, _, rfl, L, _, _, .str wd, rfl, rfl, SqL.of (sG _ _ hL2), atI_nat (by rw [List.getElem?_map, hw]; rfl), ⟨_, rfl⟩, wd, " ", rfl, rfl, rfl, lm wd hwm, fun W' hW' => ?_⟩
        have y1 := Same.lay (o := .lst ((Txt.split wd (Str.ofString " ")).map V.str)) hW'
        refine ⟨W', wordsT wd, rfl, upd_same, ok_split od (join_nl wd), fun G2 s2 => ?_⟩
        have sH : Same H G2 := fun _ _ z => s2 _ _ (y1 _ _ (sG _ _ (s12 _ _ z)))
        have ew : rowsA acc ((linesT a).drop i) = match entryW (wordsT wd) with | .inl k => Sum.inl (acc.length, k) | .inr e => rowsA (acc ++ [e]) ((linesT a).drop (i + 1)) := by rw [hdr]; rfl
        refine ⟨_, rfl, rfl, _, rfl, ?_⟩
        cases he : entryW (wordsT wd) with
        | inl k =>
          have k3 := entry_le he
          have ev : wrongV (wordsT wd) = .int ((k : Nat) : Int) := by unfold wrongV; rw [he]
          rw [ev]
          refine iteT ⟨_, rfl, _, rfl, log_small (Nat.lt_of_le_of_lt (show i ≤ 1000 by omega) (by decide +kernel)), _, rfl, _, rfl, log_small (Nat.lt_of_le_of_lt k3 (by decide +kernel)), (by show 3 ≤ PySem.sizeLine; decide), fun t ht => ?_⟩
          refine kE i k (by rw [er, inv, ew, he, lac]) _ t (fun _ _ z => Same.lay ht _ _ (sH _ _ z)) ?_
          rw [upd_same]
          rfl
        | inr e =>
          have ev : wrongV (wordsT wd) = .non := by unfold wrongV; rw [he]
          rw [ev]
          exact iteF ⟨_, _, acc ++ [e], rfl, fun _ _ z => s2 _ _ (y1 _ _ (sG _ _ z)), by rw [inv, ew, he], by rw [List.length_append, lac]; rfl⟩
      · rintro σ G ⟨u, v, acc, rfl, sG, inv, lac⟩
        refine kQ acc ?_ _ (fun _ _ z => sG _ _ (s12 _ _ z))
        rw [er, inv, List.drop_eq_nil_of_le (by rw [List.length_map]; omega)]
        rfl
end
end Toy
set_option maxRecDepth 100000
namespace Toy
open PySem L2 TL LamX
theorem tl_app (x y : Str) : tl (x ++ y) = tl x ++ tl y := by
  show (x ++ y).cps.toList = x.cps.toList ++ y.cps.toList
  rw [PySem.Str.cps_append, Array.toList_append]
theorem line_join (e : Ent) : lineT e = Txt.join " " [numT e.1, numT e.2.1, metT e.2.2] := str_ext (by
  rw [TL.join_eq, TL.tl_join]
  unfold lineT
  rw [tl_app, tl_app, tl_app, tl_app, tl_app]
  show (([] ++ tl (numT e.1)) ++ tl (Str.ofString " ") ++ tl (numT e.2.1)) ++ tl (Str.ofString " ") ++ tl (metT e.2.2) = tl (numT e.1) ++ (tl (Str.ofString " ") ++ (tl (numT e.2.1) ++ (tl (Str.ofString " ") ++ tl (metT e.2.2))))
  simp only [List.nil_append, List.append_assoc])
theorem line_back {l : Str} {e : Ent} (h : entryW (wordsT l) = .inr e) : lineT e = l := by
  have j := join_nl l
  generalize wordsT l = ws at h j
  rw [line_join, ← j]
  congr 1
  unfold entryW at h
  cases e0 : ws[0]?.bind (numW (10 ^ 30)) with
  | none =>
    rw [e0] at h
    cases h
  | some a =>
    cases e1 : ws[1]?.bind (numW (10 ^ 30)) with
    | none =>
      rw [e0, e1] at h
      cases h
    | some b =>
      rw [e0, e1] at h
      by_cases c : ws[2]? = some ("met" : Str) ∨ ws[2]? = some ("apart" : Str)
      · simp only [if_pos c] at h
        by_cases c2 : 3 < ws.length
        · simp only [if_pos c2] at h
          cases h
        · simp only [if_neg c2] at h
          obtain rfl := Sum.inr.inj h
          match ws, e0, e1, c, c2 with
          | [], e0, _, _, _ => cases e0
          | [_], _, e1, _, _ => cases e1
          | [_, _], _, _, c, _ => rcases c with c | c <;> cases c
          | [x, y, z], e0, e1, c, _ =>
            have h0 := (numW_eq.mp (show numW (10 ^ 30) x = some a from e0)).1
            have h1 := (numW_eq.mp (show numW (10 ^ 30) y = some b from e1)).1
            rw [h0, h1]
            congr 3
            rcases c with c | c
            · have hz : z = ("met" : Str) := Option.some.inj c
              rw [hz]
              exact (by decide +kernel : metT (decide (some (Str.ofString "met") = some (Str.ofString "met"))) = Str.ofString "met")
            · have hz : z = ("apart" : Str) := Option.some.inj c
              rw [hz]
              exact (by decide +kernel : metT (decide (some (Str.ofString "apart") = some (Str.ofString "met"))) = Str.ofString "apart")
          | _ :: _ :: _ :: _ :: _, _, _, _, c2 => exact absurd (by simp) c2
      · simp only [if_neg c] at h
        cases h
theorem rows_back : ∀ {ls : List Str} {acc es : List Ent}, rowsA acc ls = .inr es → es.map lineT = acc.map lineT ++ ls
  | [], acc, es, h => by
    obtain rfl : acc = es := Sum.inr.inj h
    rw [List.append_nil]
  | l :: r, acc, es, h => by
    unfold rowsA at h
    cases he : entryW (wordsT l) with
    | inl k =>
      rw [he] at h
      cases h
    | inr e =>
      rw [he] at h
      rw [rows_back h, List.map_append, List.append_assoc]
      show acc.map lineT ++ ([lineT e] ++ r) = _
      rw [line_back he]
      rfl
/-- what was read is written as it stood -/
theorem page_back {a : Str} {es : List Ent} (h : readP a = .inr es) : pageT es = a := by
  have j := join_ll a
  unfold readP at h
  by_cases c : (wordsT ((linesT a).headD (Str.ofString ""))).head? = some (Str.ofString "-")
  · rw [if_pos c] at h
    by_cases c1 : 1 < (wordsT ((linesT a).headD (Str.ofString ""))).length
    · rw [if_pos c1] at h
      cases h
    · rw [if_neg c1] at h
      by_cases c2 : 1 < (linesT a).length
      · rw [if_pos c2] at h
        cases h
      · rw [if_neg c2] at h
        obtain rfl := Sum.inr.inj h
        cases hl : linesT a with
        | nil => exact absurd hl (lines_ne a)
        | cons l r =>
          rw [hl] at c c1 c2 j
          have hr : r = [] := by
            cases r with
            | nil => rfl
            | cons _ _ => exact absurd (by simp) c2
          subst hr
          have cw : (wordsT l).head? = some (Str.ofString "-") := c
          have c1w : ¬ 1 < (wordsT l).length := c1
          have jl := join_nl l
          cases hw : wordsT l with
          | nil => exact absurd hw (words_ne l)
          | cons w t =>
            rw [hw] at cw c1w jl
            have ht : t = [] := by
              cases t with
              | nil => rfl
              | cons _ _ => exact absurd (by simp) c1w
            subst ht
            obtain rfl : w = Str.ofString "-" := Option.some.inj cw
            have e1 : Str.ofString "-" = l := jl
            have e2 : l = a := j
            rw [← e2, ← e1]
            rfl
  · rw [if_neg c] at h
    have e := rows_back h
    rw [List.map_nil, List.nil_append] at e
    unfold pageT
    rw [e, j]
    cases es with
    | nil => exact absurd e.symm (lines_ne a)
    | cons _ _ => rfl
end Toy
set_option maxRecDepth 100000
namespace L2
open PySem PySem.Spec PyProof.Rows
/-- a def whose code object is known, by its body -/
theorem fnG_of {P : Program} {w : World} {K : PySem.W.Frag} {mg : Str → Option Value} {base : Heap} {x qual : Str} {st : Stmt} {f : Addr} {N ps : List Str} {k : Nat} {sp : Sp} {oc kV doc pm cdv ct : Value} {od an : Option Addr} {osl : Array (Option Value)}
    (lk : K.lookup f = some ⟨oc, od, .func (PySem.W.fnOf x qual (defArgs st) (defBody st) (defScope st) .none kV doc pm an cdv ct), osl⟩) (hcd : PySem.W.codeIn K cdv qual = true) (S : FnScope N ps (defScope st)) (len : ∀ vs H Q E, sp vs H Q E → vs.length = ps.length)
    (body : ∀ (A : Around) (outer : List Env) (s : Shared) (H : Hp) (vs : List V) (Q : VK) (E : XK), A.guards = some [] →
      Room k (A.deeper (envOfC qual (defScope st) s.heap.objs.size f cdv)) → sp vs H Q E →
      ∃ t, PSs (cxOf CX0 P w K mg base N qual (defScope st) f cdv A outer s H E).nox (defBody st) t ∧
        t { nx := fun _ H' => Q .non H', rt := Q } (start N vs) H) :
    FnG P w K mg base CX0 (k + 1) f (PySem.W.fnOf x qual (defArgs st) (defBody st) (defScope st) .none kV doc pm an cdv ct) ps sp := by
  refine ⟨len, fun A outer s H args us vs Q E gd hr e0 bi r h => ?_⟩
  have hn := len _ _ _ _ h
  have up : ∀ b o, base.get? b = some o → s.heap.get? b = some o := fun b o e => (e0.bs b o e).1
  have kin := e0.mod.kin.keeps up
  refine codeAny_call_function hr.depth (kin _ _ lk) rfl S.co S.gen rfl (PySem.W.codeRec_of kin hcd) (bi _ _ _ _ (wpAny_newFunctionEnv_cells S.kind ?_ ?_))
  · intro y hy
    have hm : y.1 ∈ ps := by
      obtain ⟨n, v⟩ := y
      exact (List.of_mem_zip hy).1
    exact (S.par _ hm).elim Or.inl fun q => Or.inr ⟨q, PySem.W.cellsFrom_some _ _ _ (.inl q)⟩
  · rintro env rfl s1 x
    refine ⟨(e0.mod.nolimit.keeps up).keeps x.toInCall.keep, codeAny_func ?_⟩
    obtain ⟨t, ht, hq⟩ := body A outer s H vs Q E gd (hr.deeper _) h
    have I := inv_start (CX := CX0) (P := P) (w := w) (K := K) (mg := mg) (base := base) (E := E) S hr.hd e0 hn r x
    refine wpAny_mono (ht.nox.run [] s1 (start N vs) H _ I hq) (fun fl s' hs => ?_) fun _ _ hs => hs
    cases fl with
    | next =>
      obtain ⟨_, H', J, q⟩ := hs
      exact ⟨V.non, H', J.os, J.bare, J.base, J.hok, rfl, q⟩
    | ret u =>
      obtain ⟨v, _, H', J, rv, q⟩ := hs
      exact ⟨v, H', J.os, J.bare, J.base, J.hok, rv, q⟩
    | brk =>
      obtain ⟨_, _, _, q⟩ := hs
      exact q.elim
    | cont =>
      obtain ⟨_, _, _, q⟩ := hs
      exact q.elim
end L2
set_option maxRecDepth 100000
namespace L2
open PySem PySem.Spec PyProof.Rows LamX
/-! the law's call, where nothing is being shown and one def makes lambdas: its code object at c, its table at t -/
theorem end_tab {P : Program} {w : World} {K : PySem.W.Frag} {mg mb : Str → Option Value} {k : Nat} {fa a c t : Addr} {fd : FuncData} {x : Str} {sp : Sp} {s₁ : Shared} {vs : List Value} {H : Hp}
    (KX : K.In s₁.heap) (hns : s₁.heap.Ns mainGlobals mg) (hb : s₁.heap.Ns builtinsNs mb) (hbb : ∀ y : Str, y ≠ "__name__" → mb y = bootBuiltins y) (lim : s₁.heap.NoLimit) (hg : s₁.gens = #[])
    (ht : s₁.heap.get? t = some { cls := .none, data := .fields #[] }) (nt : K.lookup t = none) (hc : PySem.W.CodeHd s₁.heap c t)
    (bm : ∃ (m : Addr) (om : Obj), mg "__builtins__" = some (.ref m) ∧ m ≠ builtinsNs ∧ s₁.heap.get? m = some om ∧ om.cls = .type "module" ∧ om.dict = some builtinsNs ∧ om.data = .plain)
    (ha : s₁.heap.get? a = some { cls := .type "list", data := .seq vs.toArray }) (hr : Room k callerA)
    (F : ∀ base : Heap, K.In base → base.Ns mainGlobals mg → TabB base mg c t → FnG P w K mg base CX0 k fa fd [x] sp) (bind : ∀ (s : Shared) (u : Value), BindsTo s fd ⟨[u], []⟩ [(x, u)])
    (hHt : H t = some (.tbl #[])) (hO : ∀ b, b ≠ t → H b = none ∨ ∃ o xs, H b = some (.frz o (.lst xs))) (hok : HOk P w H s₁.heap) (hA : ∀ b, b ≠ t → H b ≠ none → b = a) (hK : H a ≠ none → K.lookup a = none)
    (hsp : sp [.ref a] H (fun v _ => v = .bl true) fun _ _ _ => False) :
    codeAny (model P w) callerA (.call (.ref fa) ⟨[.ref a], []⟩) (fun r s' => r = .ok (.ret (.bool true)) ∧ OldK s₁.heap s'.heap ∧ s'.os = s₁.os ∧ AllBare s'.gens) s₁ := by
  have apart : ∀ {b : Addr} {o : Obj}, s₁.heap.get? b = some o → o.data ≠ .fields #[] → b ≠ t := by
    intro b o e d z
    rw [z, ht] at e
    have eo := Option.some.inj e
    exact d (by rw [← eo])
  have free : ∀ {b : Addr} {o : Obj}, s₁.heap.get? b = some o → o.data ≠ .fields #[] → (∀ v n, o.data ≠ .seq v n) → H b = none := by
    intro b o e d1 d2
    refine Classical.byContradiction fun n => ?_
    have eb := hA b (apart e d1) n
    subst eb
    have eo := Option.some.inj (e.symm.trans ha)
    exact d2 vs.toArray _ (by rw [eo])
  have ns' : ∀ {b : Addr} {m : Str → Option Value}, s₁.heap.Ns b m → (hidT s₁.heap H).Ns b m := by
    rintro b m ⟨o, es, ep, e, d, r⟩
    exact ⟨o, es, ep, hidT_get e (free e (by rw [d]; intro z; cases z) fun v n z => by rw [d] at z; cases z), d, r⟩
  have kb : K.In (hidT s₁.heap H) := by
    intro b o e
    refine hidT_get (KX b o e) (Classical.byContradiction fun n => ?_)
    by_cases eb : b = t
    · subst eb
      rw [nt] at e
      cases e
    · have e2 := hA b eb n
      subst e2
      rw [hK n] at e
      cases e
  have md : Mod K mg (hidT s₁.heap H) := by
    obtain ⟨mc, h1, h2⟩ := lim
    exact ⟨kb, ns' hns, ⟨mb, ns' hb, hbb⟩, ⟨mc, ns' h1, h2⟩⟩
  have tb : TabB (hidT s₁.heap H) mg c t := by
    obtain ⟨m, om, m1, m2, m3, m4, m5, m6⟩ := id bm
    have hm : H m = none := free m3 (by rw [m6]; intro z; cases z) fun v n z => by rw [m6] at z; cases z
    have gm : m ≠ mainGlobals := fun z => by
      obtain ⟨o, es, ep, e, d, _⟩ := hns
      rw [z, e] at m3
      have eo := Option.some.inj m3
      rw [← eo, d] at m6
      cases m6
    have mt : m ≠ t := apart m3 (by rw [m6]; intro z; cases z)
    refine ⟨?_, ⟨m, om, m1, m2, gm, mt, hidT_get m3 hm, m4, m5, m6⟩, fun z => ?_⟩
    · obtain ⟨o, us, fi, tf, fl, tg, inF, tx, tt, c1, c2, c3, c4, rest⟩ := hc
      refine ⟨o, us, fi, tf, fl, tg, inF, tx, tt, hidT_get c1 (free c1 (fun z => ?_) fun v n z => ?_), c2, c3, c4, rest⟩
      · rw [c3] at z
        have e := Data.fields.inj z
        rw [e] at c4
        simp at c4
      · rw [c3] at z
        cases z
    · obtain ⟨o, es, ep, e, d, _⟩ := hns
      rw [z, ht] at e
      have eo := Option.some.inj e
      rw [← eo] at d
      cases d
  have ev : Env0 P w K mg (hidT s₁.heap H) callerA [] s₁ H :=
    ⟨rfl, md, fun b o e => of_hidT e, Nat.le_of_eq (hidT_size _ _), trivial, fun b hb => (nomatch hb), hok, .of_eq hg⟩
  refine codeAny_mono ((F _ kb (ns' hns) tb).run callerA [] s₁ H _ [.ref a] [.ref a] _ _ rfl hr ev (bind s₁ (.ref a)) (.cons rfl .nil) hsp) fun r s' h => ?_
  cases r with
  | error e => exact (h : False).elim
  | ok fl =>
    cases fl with
    | next => exact (h : False).elim
    | brk => exact (h : False).elim
    | cont => exact (h : False).elim
    | ret u =>
      obtain ⟨v, H', os, bare, un, hok', r', q⟩ := h
      have q' : v = .bl true := q
      subst q'
      obtain rfl : u = Value.bool true := r'
      have keep : ∀ b o, b ≠ t → s₁.heap.get? b = some o → s'.heap.get? b = some o := by
        intro b o n e
        rcases hO b n with z | ⟨ob, xs, z⟩
        · exact un.keep b o e z (fun m => nomatch m) (fun m => nomatch m)
        · have e1 := (hok b _ z).1
          have e2 := (hok' b _ (un.frzs b ob _ z)).1
          exact (Option.some.inj (e.symm.trans e1)) ▸ e2
      obtain ⟨more, gt⟩ := un.tbls t #[] hHt
      have gt2 : s'.heap.get? t = some { cls := .none, data := .fields (#[] ++ more) } := hok' t _ gt
      refine ⟨rfl, ⟨fun b o e => ?_, fun b o e => ?_⟩, os, bare⟩
      · by_cases eb : b = t
        · subst eb
          have eo := Option.some.inj (e.symm.trans ht)
          subst eo
          exact .inr (.inl ⟨(hc.tab ht).isCodeTable, rfl, #[], more, rfl, gt2⟩)
        · exact .inl (keep b o eb e)
      · by_cases eb : b = t
        · subst eb
          exact ⟨_, gt2⟩
        · exact ⟨o, keep b o eb e⟩
theorem walk_tab {l : PySem.W.OpenLaw} {n k : Nat} {q : Program} {loose : List Str} {XP : (Str → Option Value) → Heap → Prop} {YP : World → Heap → Prop} {d : DefRec} {sp : PySem.W.Frag → Addr → Sp} {x : Str}
    (hn : l.most = some n) (hn2 : n ≤ sizeLine) (hdf : d.params.defaults = []) (hr : Room k callerA)
    (F : ∀ (w : World) (mg : Str → Option Value) (fa : Addr) (h : Heap), YP w h → h.Ns mainGlobals mg → mg d.name = some (.ref fa) →
      ∃ (K : PySem.W.Frag) (c t : Addr) (fd : FuncData), K.In h ∧ h.get? t = some { cls := .none, data := .fields #[] } ∧ K.lookup t = none ∧ PySem.W.CodeHd h c t ∧ (∀ (s : Shared) (u : Value), BindsTo s fd ⟨[u], []⟩ [(x, u)]) ∧
        ∀ base : Heap, K.In base → base.Ns mainGlobals mg → TabB base mg c t → FnG l.prog w K mg base CX0 k fa fd [x] (sp K t))
    (hsp : ∀ (K : PySem.W.Frag) (t : Addr) (H : Hp) (a : Addr) (ns : List Int), ns.length ≤ n → (∀ z ∈ ns, Builtin.Int.intBits z ≤ 1048576) → H t = some (.tbl #[]) → SqL K H a (ns.map V.int) → sp K t [.ref a] H (fun v _ => v = .bl true) fun _ _ _ => False) :
    PySem.W.WalkO q loose XP YP l.row.toRowW d [] (fun f vs => PySem.call f vs) := by
  refine Att.attach_callB hn hdf fun w s₀ s₁ mg mb fa o pm cd doc a vs ns G Y ho hd hcd hmg hobj hints hlen hbits hg => ?_
  obtain ⟨K, c, t, fd, KX, ht, nt, hc, b, f⟩ := F w mg fa _ Y G.T.g hmg
  have rv := vals_ints hints
  have lv := hints.length
  have nat_ : a ≠ t := fun z => by
    have e := hobj
    rw [z, ht] at e
    have eo := congrArg Obj.data (Option.some.inj e)
    cases eo
  have hl : ns.length ≤ sizeLine := Nat.le_trans hlen hn2
  cases hk : K.lookup a with
  | some oa =>
    have eo := Option.some.inj ((KX a oa hk).symm.trans hobj)
    subst eo
    refine end_tab (H := fun b => if b = t then some (.tbl #[]) else none) KX G.T.g G.T.b G.T.builtins G.T.nolimit hg ht nt hc G.T.bmain hobj hr f b (if_pos rfl) (fun b n => .inl (if_neg n)) (fun b u z => ?_) (fun b n z => absurd (if_neg n) z) (fun z => absurd (if_neg nat_) z) ?_
    · by_cases eb : b = t
      · subst eb
        have eu := Option.some.inj ((if_pos rfl).symm.trans z)
        subst eu
        exact ht
      · exact nomatch (if_neg eb).symm.trans z
    · exact hsp K t _ a ns hlen hbits (if_pos rfl) (.inr ⟨_, vs.toArray, _, hk, rfl, rfl, rfl, by rw [List.size_toArray, lv]; exact hl, by simpa using rv⟩)
  | none =>
    refine end_tab (H := fun b => if b = t then some (.tbl #[]) else if b = a then some (HO.frz { cls := .type "list", data := .seq vs.toArray } (.lst (ns.map V.int))) else none) KX G.T.g G.T.b G.T.builtins G.T.nolimit hg ht nt hc G.T.bmain hobj hr f b (if_pos rfl) (fun b n => ?_) (fun b u z => ?_) (fun b n z => ?_) (fun _ => hk) ?_
    · by_cases eb : b = a
      · exact .inr ⟨_, _, (if_neg n).trans (if_pos eb)⟩
      · exact .inl ((if_neg n).trans (if_neg eb))
    · by_cases eb : b = t
      · subst eb
        have eu := Option.some.inj ((if_pos rfl).symm.trans z)
        subst eu
        exact ht
      · have z2 := (if_neg eb).symm.trans z
        by_cases e2 : b = a
        · subst e2
          have eu := Option.some.inj ((if_pos rfl).symm.trans z2)
          subst eu
          exact ⟨hobj, by rw [List.length_map]; exact hl, vs, _, rv, hobj⟩
        · exact nomatch (if_neg e2).symm.trans z2
    · refine Classical.byContradiction fun e2 => z ((if_neg n).trans (if_neg e2))
    · exact hsp K t _ a ns hlen hbits (if_pos rfl) (.inl (.inr ⟨_, (if_neg nat_).trans (if_pos rfl)⟩))
end L2
set_option maxRecDepth 100000
namespace L2
open PySem PySem.Spec PyProof.Rows LamX
/-! the law's call, where nothing is being shown and several defs make lambdas: their code objects and tables in ts -/
theorem end_tabs {P : Program} {w : World} {K : PySem.W.Frag} {mg mb : Str → Option Value} {k : Nat} {fa a : Addr} {ts : List (Addr × Addr)} {fd : FuncData} {x : Str} {sp : Sp} {s₁ : Shared} {vs : List Value} {H : Hp}
    (KX : K.In s₁.heap) (hns : s₁.heap.Ns mainGlobals mg) (hb : s₁.heap.Ns builtinsNs mb) (hbb : ∀ y : Str, y ≠ "__name__" → mb y = bootBuiltins y) (lim : s₁.heap.NoLimit) (hg : s₁.gens = #[])
    (ht : ∀ p ∈ ts, s₁.heap.get? p.2 = some { cls := .none, data := .fields #[] }) (nt : ∀ p ∈ ts, K.lookup p.2 = none) (hc : ∀ p ∈ ts, PySem.W.CodeHd s₁.heap p.1 p.2)
    (bm : ∃ (m : Addr) (om : Obj), mg "__builtins__" = some (.ref m) ∧ m ≠ builtinsNs ∧ s₁.heap.get? m = some om ∧ om.cls = .type "module" ∧ om.dict = some builtinsNs ∧ om.data = .plain)
    (ha : s₁.heap.get? a = some { cls := .type "list", data := .seq vs.toArray }) (hr : Room k callerA)
    (F : ∀ base : Heap, K.In base → base.Ns mainGlobals mg → (∀ p ∈ ts, TabB base mg p.1 p.2) → FnG P w K mg base CX0 k fa fd [x] sp) (bind : ∀ (s : Shared) (u : Value), BindsTo s fd ⟨[u], []⟩ [(x, u)])
    (hHt : ∀ p ∈ ts, H p.2 = some (.tbl #[])) (hO : ∀ b, (∀ p ∈ ts, b ≠ p.2) → H b = none ∨ ∃ o xs, H b = some (.frz o (.lst xs))) (hok : HOk P w H s₁.heap) (hA : ∀ b, (∀ p ∈ ts, b ≠ p.2) → H b ≠ none → b = a) (hK : H a ≠ none → K.lookup a = none)
    (hsp : sp [.ref a] H (fun v _ => v = .bl true) fun _ _ _ => False) :
    codeAny (model P w) callerA (.call (.ref fa) ⟨[.ref a], []⟩) (fun r s' => r = .ok (.ret (.bool true)) ∧ OldK s₁.heap s'.heap ∧ s'.os = s₁.os ∧ AllBare s'.gens) s₁ := by
  have apart : ∀ {b : Addr} {o : Obj}, s₁.heap.get? b = some o → o.data ≠ .fields #[] → ∀ p ∈ ts, b ≠ p.2 := by
    intro b o e d p hp z
    rw [z, ht p hp] at e
    have eo := Option.some.inj e
    exact d (by rw [← eo])
  have free : ∀ {b : Addr} {o : Obj}, s₁.heap.get? b = some o → o.data ≠ .fields #[] → (∀ v n, o.data ≠ .seq v n) → H b = none := by
    intro b o e d1 d2
    refine Classical.byContradiction fun n => ?_
    have eb := hA b (apart e d1) n
    subst eb
    have eo := Option.some.inj (e.symm.trans ha)
    exact d2 vs.toArray _ (by rw [eo])
  have ns' : ∀ {b : Addr} {m : Str → Option Value}, s₁.heap.Ns b m → (hidT s₁.heap H).Ns b m := by
    rintro b m ⟨o, es, ep, e, d, r⟩
    exact ⟨o, es, ep, hidT_get e (free e (by rw [d]; intro z; cases z) fun v n z => by rw [d] at z; cases z), d, r⟩
  have kb : K.In (hidT s₁.heap H) := by
    intro b o e
    refine hidT_get (KX b o e) (Classical.byContradiction fun n => ?_)
    by_cases eb : ∃ p ∈ ts, b = p.2
    · obtain ⟨p, hp, eb⟩ := eb
      rw [eb, nt p hp] at e
      cases e
    · have e2 := hA b (fun p hp z => eb ⟨p, hp, z⟩) n
      subst e2
      rw [hK n] at e
      cases e
  have md : Mod K mg (hidT s₁.heap H) := by
    obtain ⟨mc, h1, h2⟩ := lim
    exact ⟨kb, ns' hns, ⟨mb, ns' hb, hbb⟩, ⟨mc, ns' h1, h2⟩⟩
  have tb : ∀ p ∈ ts, TabB (hidT s₁.heap H) mg p.1 p.2 := by
    intro p hp
    obtain ⟨m, om, m1, m2, m3, m4, m5, m6⟩ := id bm
    have hm : H m = none := free m3 (by rw [m6]; intro z; cases z) fun v n z => by rw [m6] at z; cases z
    have gm : m ≠ mainGlobals := fun z => by
      obtain ⟨o, es, ep, e, d, _⟩ := hns
      rw [z, e] at m3
      have eo := Option.some.inj m3
      rw [← eo, d] at m6
      cases m6
    have mt : m ≠ p.2 := apart m3 (by rw [m6]; intro z; cases z) p hp
    refine ⟨?_, ⟨m, om, m1, m2, gm, mt, hidT_get m3 hm, m4, m5, m6⟩, fun z => ?_⟩
    · obtain ⟨o, us, fi, tf, fl, tg, inF, tx, tt, c1, c2, c3, c4, rest⟩ := hc p hp
      refine ⟨o, us, fi, tf, fl, tg, inF, tx, tt, hidT_get c1 (free c1 (fun z => ?_) fun v n z => ?_), c2, c3, c4, rest⟩
      · rw [c3] at z
        have e := Data.fields.inj z
        rw [e] at c4
        simp at c4
      · rw [c3] at z
        cases z
    · obtain ⟨o, es, ep, e, d, _⟩ := hns
      rw [z, ht p hp] at e
      have eo := Option.some.inj e
      rw [← eo] at d
      cases d
  have ev : Env0 P w K mg (hidT s₁.heap H) callerA [] s₁ H :=
    ⟨rfl, md, fun b o e => of_hidT e, Nat.le_of_eq (hidT_size _ _), trivial, fun b hb => (nomatch hb), hok, .of_eq hg⟩
  refine codeAny_mono ((F _ kb (ns' hns) tb).run callerA [] s₁ H _ [.ref a] [.ref a] _ _ rfl hr ev (bind s₁ (.ref a)) (.cons rfl .nil) hsp) fun r s' h => ?_
  cases r with
  | error e => exact (h : False).elim
  | ok fl =>
    cases fl with
    | next => exact (h : False).elim
    | brk => exact (h : False).elim
    | cont => exact (h : False).elim
    | ret u =>
      obtain ⟨v, H', os, bare, un, hok', r', q⟩ := h
      have q' : v = .bl true := q
      subst q'
      obtain rfl : u = Value.bool true := r'
      have keep : ∀ b o, (∀ p ∈ ts, b ≠ p.2) → s₁.heap.get? b = some o → s'.heap.get? b = some o := by
        intro b o n e
        rcases hO b n with z | ⟨ob, xs, z⟩
        · exact un.keep b o e z (fun m => nomatch m) (fun m => nomatch m)
        · have e1 := (hok b _ z).1
          have e2 := (hok' b _ (un.frzs b ob _ z)).1
          exact (Option.some.inj (e.symm.trans e1)) ▸ e2
      refine ⟨rfl, ⟨fun b o e => ?_, fun b o e => ?_⟩, os, bare⟩
      · by_cases eb : ∃ p ∈ ts, b = p.2
        · obtain ⟨p, hp, eb⟩ := eb
          obtain ⟨more, gt⟩ := un.tbls p.2 #[] (hHt p hp)
          have gt2 : s'.heap.get? p.2 = some { cls := .none, data := .fields (#[] ++ more) } := hok' p.2 _ gt
          subst eb
          have eo := Option.some.inj (e.symm.trans (ht p hp))
          subst eo
          exact .inr (.inl ⟨((hc p hp).tab (ht p hp)).isCodeTable, rfl, #[], more, rfl, gt2⟩)
        · exact .inl (keep b o (fun p hp z => eb ⟨p, hp, z⟩) e)
      · by_cases eb : ∃ p ∈ ts, b = p.2
        · obtain ⟨p, hp, eb⟩ := eb
          obtain ⟨more, gt⟩ := un.tbls p.2 #[] (hHt p hp)
          have gt2 : s'.heap.get? p.2 = some { cls := .none, data := .fields (#[] ++ more) } := hok' p.2 _ gt
          subst eb
          exact ⟨_, gt2⟩
        · exact ⟨o, keep b o (fun p hp z => eb ⟨p, hp, z⟩) e⟩
open Classical in
theorem walk_tabs {l : PySem.W.OpenLaw} {n k : Nat} {q : Program} {loose : List Str} {XP : (Str → Option Value) → Heap → Prop} {YP : World → Heap → Prop} {d : DefRec} {sp : PySem.W.Frag → List (Addr × Addr) → Sp} {x : Str}
    (hn : l.most = some n) (hn2 : n ≤ sizeLine) (hdf : d.params.defaults = []) (hr : Room k callerA)
    (F : ∀ (w : World) (mg : Str → Option Value) (fa : Addr) (h : Heap), YP w h → h.Ns mainGlobals mg → mg d.name = some (.ref fa) →
      ∃ (K : PySem.W.Frag) (ts : List (Addr × Addr)) (fd : FuncData), K.In h ∧ (∀ p ∈ ts, h.get? p.2 = some { cls := .none, data := .fields #[] }) ∧ (∀ p ∈ ts, K.lookup p.2 = none) ∧ (∀ p ∈ ts, PySem.W.CodeHd h p.1 p.2) ∧ (∀ (s : Shared) (u : Value), BindsTo s fd ⟨[u], []⟩ [(x, u)]) ∧
        ∀ base : Heap, K.In base → base.Ns mainGlobals mg → (∀ p ∈ ts, TabB base mg p.1 p.2) → FnG l.prog w K mg base CX0 k fa fd [x] (sp K ts))
    (hsp : ∀ (K : PySem.W.Frag) (ts : List (Addr × Addr)) (H : Hp) (a : Addr) (ns : List Int), ns.length ≤ n → (∀ z ∈ ns, Builtin.Int.intBits z ≤ 1048576) → (∀ p ∈ ts, H p.2 = some (.tbl #[])) → SqL K H a (ns.map V.int) → sp K ts [.ref a] H (fun v _ => v = .bl true) fun _ _ _ => False) :
    PySem.W.WalkO q loose XP YP l.row.toRowW d [] (fun f vs => PySem.call f vs) := by
  refine Att.attach_callB hn hdf fun w s₀ s₁ mg mb fa o pm cd doc a vs ns G Y ho hd hcd hmg hobj hints hlen hbits hg => ?_
  obtain ⟨K, ts, fd, KX, ht, nt, hc, b, f⟩ := F w mg fa _ Y G.T.g hmg
  have rv := vals_ints hints
  have lv := hints.length
  have nat_ : ¬ ∃ p ∈ ts, a = p.2 := fun ⟨p, hp, z⟩ => by
    have e := hobj
    rw [z, ht p hp] at e
    have eo := congrArg Obj.data (Option.some.inj e)
    cases eo
  have hl : ns.length ≤ sizeLine := Nat.le_trans hlen hn2
  have no : ∀ {b : Addr}, (∀ p ∈ ts, b ≠ p.2) → ¬ ∃ p ∈ ts, b = p.2 := fun n ⟨p, hp, z⟩ => n p hp z
  cases hk : K.lookup a with
  | some oa =>
    have eo := Option.some.inj ((KX a oa hk).symm.trans hobj)
    subst eo
    refine end_tabs (H := fun b => if ∃ p ∈ ts, b = p.2 then some (.tbl #[]) else none) KX G.T.g G.T.b G.T.builtins G.T.nolimit hg ht nt hc G.T.bmain hobj hr f b (fun p hp => if_pos ⟨p, hp, rfl⟩) (fun b n => .inl (if_neg (no n))) (fun b u z => ?_) (fun b n z => absurd (if_neg (no n)) z) (fun z => absurd (if_neg nat_) z) ?_
    · by_cases eb : ∃ p ∈ ts, b = p.2
      · have eu := Option.some.inj ((if_pos eb).symm.trans z)
        subst eu
        obtain ⟨p, hp, eb⟩ := eb
        subst eb
        exact ht p hp
      · exact nomatch (if_neg eb).symm.trans z
    · exact hsp K ts _ a ns hlen hbits (fun p hp => if_pos ⟨p, hp, rfl⟩) (.inr ⟨_, vs.toArray, _, hk, rfl, rfl, rfl, by rw [List.size_toArray, lv]; exact hl, by simpa using rv⟩)
  | none =>
    refine end_tabs (H := fun b => if ∃ p ∈ ts, b = p.2 then some (.tbl #[]) else if b = a then some (HO.frz { cls := .type "list", data := .seq vs.toArray } (.lst (ns.map V.int))) else none) KX G.T.g G.T.b G.T.builtins G.T.nolimit hg ht nt hc G.T.bmain hobj hr f b (fun p hp => if_pos ⟨p, hp, rfl⟩) (fun b n => ?_) (fun b u z => ?_) (fun b n z => ?_) (fun _ => hk) ?_
    · by_cases eb : b = a
      · exact .inr ⟨_, _, (if_neg (no n)).trans (if_pos eb)⟩
      · exact .inl ((if_neg (no n)).trans (if_neg eb))
    · by_cases eb : ∃ p ∈ ts, b = p.2
      · have eu := Option.some.inj ((if_pos eb).symm.trans z)
        subst eu
        obtain ⟨p, hp, eb⟩ := eb
        subst eb
        exact ht p hp
      · have z2 := (if_neg eb).symm.trans z
        by_cases e2 : b = a
        · subst e2
          have eu := Option.some.inj ((if_pos rfl).symm.trans z2)
          subst eu
          exact ⟨hobj, by rw [List.length_map]; exact hl, vs, _, rv, hobj⟩
        · exact nomatch (if_neg e2).symm.trans z2
    · refine Classical.byContradiction fun e2 => z ((if_neg (no n)).trans (if_neg e2))
    · exact hsp K ts _ a ns hlen hbits (fun p hp => if_pos ⟨p, hp, rfl⟩) (.inl (.inr ⟨_, (if_neg nat_).trans (if_pos rfl)⟩))
end L2
set_option maxRecDepth 100000
namespace Toy
open PySem L2 TL LamX
abbrev s__law_one_right : Stmt := top 44
abbrev qR : Str := "_law_one_right" ++ ".<locals>." ++ "<lambda>"
abbrev qLaw : Str := "law" ++ ".<locals>." ++ "<lambda>"
def T2 (a b : Addr) : List (Addr × Str) := [(a, qR), (b, qLaw)]
section
variable {a b : Addr}
theorem t2_cases {p : Addr × Str} (h : p ∈ T2 a b) : p = (a, qR) ∨ p = (b, qLaw) := by simpa [T2] using h
theorem t2_r : (a, qR) ∈ T2 a b := .head _
theorem t2_l : (b, qLaw) ∈ T2 a b := .tail _ (.head _)
theorem t2u_r (D : a ≠ b) : ∀ p ∈ T2 a b, p.1 = a → p.2 = qR := fun p h e => by
  rcases t2_cases h with rfl | rfl
  · rfl
  · exact absurd e.symm D
theorem t2u_l (D : a ≠ b) : ∀ p ∈ T2 a b, p.1 = b → p.2 = qLaw := fun p h e => by
  rcases t2_cases h with rfl | rfl
  · exact absurd e D
  · rfl
end
theorem int_shows : ∀ k : Nat, k ≤ 1000 → (PyData.int ((k : Nat) : Int)).showable = true ∧ (PyData.int ((k : Nat) : Int)).shown.length ≤ PySem.sizeLine ∧ PyData.strOk (numT k) = true ∧ (PyData.int ((k : Nat) : Int)).shown = numT k := by decide +kernel
theorem shows_num {H : Hp} {k : Nat} (h : k ≤ 1000) : Shows H (.int ((k : Nat) : Int)) (numT k) := ⟨.int (k : Nat), .d0 (.int _), (int_shows k h).1, (by show 0 ≤ 20; decide), (int_shows k h).2.1, (int_shows k h).2.2.2⟩
def spOne (R L : Addr) : Sp := fun vs H Q _ => ∃ a : Str, vs = [.str a] ∧ OkS a ∧ (linesT a).length ≤ 1000 ∧ Tabs (T2 R L) H ∧ ∀ H', ExtN H H' → Tabs (T2 R L) H' → Q (.bl true) H'
theorem read_le {a : Str} {i k : Nat} (h : readP a = .inl (i, k)) (hl : (linesT a).length ≤ 1000) : i ≤ 1000 ∧ k ≤ 3 := by
  have key : ∀ (ls : List Str) (acc : List Ent), rowsA acc ls = .inl (i, k) → i ≤ acc.length + ls.length ∧ k ≤ 3 := by
    intro ls
    induction ls with
    | nil =>
      intro acc h
      cases h
    | cons l r ih =>
      intro acc h
      unfold rowsA at h
      cases he : entryW (wordsT l) with
      | inl k' =>
        rw [he] at h
        cases h
        exact ⟨by omega, entry_le he⟩
      | inr e =>
        rw [he] at h
        have z := ih _ h
        rw [List.length_append] at z
        simp only [List.length_cons, List.length_nil] at z ⊢
        omega
  unfold readP at h
  split at h
  · split at h
    · cases h
      decide
    · split at h
      · cases h
        decide
      · cases h
  · have z := key _ _ h
    simp only [List.length_nil] at z
    omega
theorem read_len {a : Str} {es : List Ent} (h : readP a = .inr es) : es.length ≤ (linesT a).length := by
  unfold readP at h
  split at h
  · split at h
    · cases h
    · split at h
      · cases h
      · obtain rfl := Sum.inr.inj h
        exact Nat.zero_le _
  · have z := congrArg List.length (rows_back h)
    rw [List.length_map, List.map_nil, List.nil_append] at z
    omega
theorem shaped3 {x y z : Str} (h1 : PyData.strOk x = true) (h2 : PyData.strOk y = true) (h3 : PyData.strOk z = true) : SeqAt.shaped (.tuple [.str x, .str y, .str z]) = true := by
  simp [SeqAt.shaped, PyData.canLay0, PyData.canLayAll0, PyData.depth, PyData.depthAll, h1, h2, h3]
section
variable {P : Program} {w : World} {K : PySem.W.Frag} {mg : Str → Option Value} {base : Heap} {CW CG CR CU CS B C : Addr}
abbrev N__law_one_right : List Str := ["_law_page", "_law_due_here", "_law_heard_here"]
theorem sc__law_one_right : FnScope N__law_one_right ["_law_page"] (defScope s__law_one_right) := ⟨rfl, rfl, rfl, by decide +kernel, rfl, by decide +kernel, by decide +kernel⟩
set_option maxHeartbeats 2000000 in
theorem ok__law_one_right {f fDu fRl fLt fHe c TR_ TL : Addr} {fdDu fdRl fdLt : FuncData} {oc kV doc pm ct : Value} {od an : Option Addr} {osl : Array (Option Value)} {och kVh doch pmh cdvh cth : Value} {odh anh : Option Addr} {oslh : Array (Option Value)}
    (lk : K.lookup f = some ⟨oc, od, .func (PySem.W.fnOf "_law_one_right" "_law_one_right" (defArgs s__law_one_right) (defBody s__law_one_right) (defScope s__law_one_right) .none kV doc pm an (.ref c) ct), osl⟩) (hcd : PySem.W.codeIn K (.ref c) "_law_one_right" = true) (TBR : TabB base mg c TR_) (dis : TR_ ≠ TL)
    (T : TR mg) (TU : TLog K mg C) (RC : LogCls K C) (THd : THeard K mg CW CG CR CU CS B)
    (GDu : FnOk P w K mg base CX0 3 fDu fdDu ["_law_page"] spLDue) (gDu : mg "_law_due" = some (.ref fDu)) (kDu : PySem.W.keepIn K (.ref fDu) = true) (bDu : Binds K fdDu ["_law_page"] [])
    (GRl : FnOk P w K mg base (L2.CX P w) 6 fRl fdRl ["text"] (spReadLog CW C K)) (gRl : mg "read_log" = some (.ref fRl)) (kRl : PySem.W.keepIn K (.ref fRl) = true) (bRl : Binds K fdRl ["text"] [])
    (GLt : FnOk P w K mg base (L2.CX P w) 4 fLt fdLt ["log"] (spLogText CG C K)) (gLt : mg "log_text" = some (.ref fLt)) (kLt : PySem.W.keepIn K (.ref fLt) = true) (bLt : Binds K fdLt ["log"] [])
    (gHe : mg "_law_heard" = some (.ref fHe)) (kHe : PySem.W.keepIn K (.ref fHe) = true) (lkHe : K.lookup fHe = some ⟨och, odh, .func (PySem.W.fnOf "_law_heard" "_law_heard" (defArgs s__law_heard) (defBody s__law_heard) (defScope s__law_heard) .none kVh doch pmh anh cdvh cth), oslh⟩) (hcHe : PySem.W.codeIn K cdvh "_law_heard" = true)
    (bHe : L2.Binds K (PySem.W.fnOf "_law_heard" "_law_heard" (defArgs s__law_heard) (defBody s__law_heard) (defScope s__law_heard) .none kVh doch pmh anh cdvh cth) ["_law_ask"] []) :
    FnG P w K mg base CX0 9 f (PySem.W.fnOf "_law_one_right" "_law_one_right" (defArgs s__law_one_right) (defBody s__law_one_right) (defScope s__law_one_right) .none kV doc pm an (.ref c) ct) ["_law_page"] (spOne TR_ TL) := by
  refine fnG_of lk hcd sc__law_one_right (fun vs H Q E h => ?_) (fun A outer s H vs Q E hgd hr h => ?_)
  · obtain ⟨a, rfl, _⟩ := h
    rfl
  · obtain ⟨a, rfl, oa, ll, hTb, k⟩ := h
    have hrH : Room 8 _ := hr
    have hrLt : Room 4 _ := hr.mono (by decide)
    have hrD3 : Room 3 _ := hr.mono (by decide)
    have hrD2 : Room 2 _ := hr.mono (by decide)
    refine ⟨_, (pss_cons (ps_par (i := 1) (j := 2) rfl sc__law_one_right.nd rfl rfl (by decide) rfl rfl (pa_cons (pe_call GDu hrD3 rfl gDu kDu bDu .nil pass0 (pa_cons (pv 0) pa_nil)) (pa_cons (pe_lamcall (T := T2 TR_ TL) (TT := TTH CW CG) (k := 6) (t := (fun E => (tCall (spReadLog CW C K) [] E (tCons (tVar 0) tNil)))) rfl gHe kHe lkHe hcHe bHe sc__law_heard rfl (Or.inl rfl) (heard_gives THd hrH hgd) TBR rfl t2_r (t2u_r dis) hrH (lamS_by (show lamSB (defScope s__law_one_right) _ = true by decide +kernel)) rfl (fun _ _ _ _ _ => rfl) (fun A outer s H E f c' hr => (pe_call GRl hr rfl gRl kRl bRl .nil (passes_call (takes_of rfl rfl rfl rfl) fun _ _ _ _ h => h) (pa_cons (pv 0) pa_nil)))) pa_nil)) rfl)
 (pss_cons (ps_if (pt_cmpR op_notN (pv 1) pe_non (nomark _)) (pss_one (ps_ret (pe_cmpR (op_eqD hrD2.units) (pv 2) (pv 1) (nomark _)))) pss_nil)
 (pss_one (ps_ret (pe_and (pe_callB call_isi (by rfl) T.m_isinstance (by decide +kernel) (pa_cons (pv 2) (pa_cons (pe_bltn (v := .ty "list") (u := .type "list") rfl T.m_list (by decide +kernel) rfl) pa_nil))) (pe_and (pe_callB call_isi (by rfl) T.m_isinstance (by decide +kernel) (pa_cons (pe_ix ix_list (pv 2) pe_int (fun _ _ => rfl)) (pa_cons (pe_glob (v := .ref C) rfl TU.gC rfl) pa_nil))) (pe_one (pe_cmpR op_eq (pe_call GLt hrLt rfl gLt kLt bLt .nil passL (pa_cons (pe_ix ix_list (pv 2) pe_int (fun _ _ => rfl)) pa_nil)) (pv 0) (nomark _))))))))), ?_⟩
    have sz : PySem.sizeLine = 16777216 := rfl
    have la := oa.2
    cases e : readP a with
    | inl p =>
      obtain ⟨i, j⟩ := p
      obtain ⟨bi, bj⟩ := read_le e ll
      refine ⟨_, rfl, a, rfl, oa, ll, (fun i' k' hk H1 t1 s1 ht1 => ?_), (fun es he => by rw [e] at he; cases he)⟩
      rw [e] at hk
      cases hk
      refine ⟨hTb.ext s1, fun H2 e2 tb2 => ⟨_, rfl, .str a, rfl, .inl ⟨a, rfl, by omega, ll, (fun i' k' hk d H3 hd s3 hx => ?_), (fun es he => by rw [e] at he; cases he)⟩⟩⟩
      rw [e] at hk
      cases hk
      refine ⟨[.str "text", .str (numT i), .str (numT j)], ⟨d, rfl, .inl ⟨rfl, _, _, _, _, hx, shows_num bi, shows_num (by omega), rfl⟩⟩, fun H4 p s4 hp => ⟨_, _, rfl, ?_⟩⟩
      refine ⟨_, rfl, rfl, _, rfl, ?_⟩
      rw [show decide (V.ref t1 = V.non) = false from decide_eq_false (fun z => nomatch z)]
      have ht4 := s4 _ _ (s3 _ _ (e2 _ _ ht1 fun _ z => by cases z))
      have sh := shaped3 (x := "text") (by decide +kernel) (int_shows i bi).2.2.1 (int_shows j (by omega)).2.2.1
      refine iteT ⟨_, rfl, _, rfl, .tuple [.str "text", .str (numT i), .str (numT j)], .tuple [.str "text", .str (numT i), .str (numT j)], .tup (SqT.of hp) (.cons (.str _) (.cons (.str _) (.cons (.str _) .nil))), .tup (SqT.of ht4) (.cons (.str _) (.cons (.str _) (.cons (.str _) .nil))), sh, sh, ?_⟩
      rw [PySem.SeqAt.eqv_refl _ (SeqAt.canLay_of_shaped sh)]
      exact k H4 ((ExtN.of s1).trans (e2.trans (ExtN.of fun _ _ z => s4 _ _ (s3 _ _ z)))) (tb2.ext fun _ _ z => s4 _ _ (s3 _ _ z))
    | inr es =>
      have lne := read_len e
      refine ⟨_, rfl, a, rfl, oa, ll, (fun i' k' hk => by rw [e] at hk; cases hk), (fun es' he H1 s1 => ?_)⟩
      refine ⟨hTb.ext s1, fun H2 e2 tb2 => ⟨_, rfl, .str a, rfl, .inl ⟨a, rfl, by omega, ll, (fun i' k' hk => by rw [e] at hk; cases hk), (fun es2 he2 H3 x s3 lg => ?_)⟩⟩⟩
      rw [e] at he2
      obtain rfl := Sum.inr.inj he2
      refine ⟨(by show 1 ≤ PySem.sizeLine; decide), fun p hp => ⟨_, _, rfl, ?_⟩⟩
      have y4 := Same.lay (o := .lst [V.ref x]) hp
      have hp4 : (upd H3 p (.lst [V.ref x])) p = some (.lst [V.ref x]) := upd_same
      have lg4 := lg.same y4
      generalize upd H3 p (.lst [V.ref x]) = H4 at y4 hp4 lg4 ⊢
      refine ⟨_, rfl, rfl, _, rfl, ite_nb (decide_eq_true rfl) ?_⟩
      obtain ⟨dx, po, rs, h1, h2, h3⟩ := id lg4
      refine ⟨_, rfl, _, _, _, _, _, rfl, .ty _, (Plain.lst (K := K) hp4).ty, rfl, _, rfl, iteT ?_⟩
      refine ⟨_, rfl, p, _, 0, .ref x, rfl, rfl, SqL.of hp4, atI_nat (j := 0) rfl, _, _, _, _, _, rfl, .own _, .base (.ins h1 RC.cl RC.ha RC.hn RC.ht RC.hm), RC.kC, _, rfl, iteT ?_⟩
      refine ⟨_, rfl, p, _, 0, .ref x, rfl, rfl, SqL.of hp4, atI_nat (j := 0) rfl, .ref x, rfl, .inl ⟨x, es, rfl, lg4, by omega, fun H5 s5 => ⟨_, rfl, rfl, ?_⟩⟩⟩
      rw [page_back e, show decide (V.str a = V.str a) = true from decide_eq_true rfl]
      exact k H5 ((ExtN.of s1).trans (e2.trans (ExtN.of fun _ _ z => s5 _ _ (y4 _ _ (s3 _ _ z))))) (tb2.ext fun _ _ z => s5 _ _ (y4 _ _ (s3 _ _ z)))
end
end Toy
set_option maxRecDepth 100000
namespace Toy
open PySem L2 TL LamX ClX StX
abbrev s__law_made : Stmt := top 40
def spMade (C : Addr) : Sp := fun vs H Q _ => ∃ (q : Addr) (rs : List V) (es : List Ent), vs = [.ref q] ∧ H q = some (.lst rs) ∧ EntsAt H rs es ∧ rs.length ≤ 900 ∧ ∀ H' x, Same H H' → LogAt C H' x es → Q (.ref x) H'
theorem keep_new {C : Addr} {H : Hp} {x dx q : Addr} {xs : List V} (nx : H x = none) (ndx : H dx = none) (nq : (upd (upd H dx (.own x)) x (.ins C dx [])) q = none) : Same H (upd (upd (upd H dx (.own x)) x (.ins C dx [])) q (.tup xs)) := fun c o e => by
  have g2 : (upd (upd H dx (.own x)) x (.ins C dx [])) c = some o := by
    rw [upd_ne (ne_of_none e nx), upd_ne (ne_of_none e ndx)]
    exact e
  rw [upd_ne (ne_of_none g2 nq)]
  exact g2
theorem seq_asg {ta : TE} {g : TG} {u : TS} {D : Ends} {σ : L2.St} {H : Hp} (h : ta σ H fun x H1 => g x σ H1 (u D)) : tSeq (tAsg ta g) u D σ H := h
/-- Log(*rs) -/
theorem make_log {C : Addr} {H : Hp} {rs : List V} {es : List Ent} {Q : VK} {E : XK} (he : EntsAt H rs es) (l : rs.length ≤ 1000) (k : ∀ H' x, Same H H' → LogAt C H' x es → Q (.ref x) H') :
    ∀ x dx, H x = none → H dx = none → dx ≠ x → spLMk C (.ref x :: rs) (upd (upd H dx (.own x)) x (.ins C dx [])) (fun v H2 => v = .non ∧ Q (.ref x) H2) E := fun x dx nx ndx hne => by
  have sz : PySem.sizeLine = 16777216 := rfl
  refine ⟨.ref x, rs, rfl, by omega, fun t nt => ⟨x, dx, t, rs, es, rfl, ?_, upd_same, he.keep (fun _ _ z => keep_new nx ndx nt _ _ z), l, fun H' bt lg => ⟨rfl, ?_⟩⟩⟩
  · rw [upd_ne (fun z => by rw [z, upd_same] at nt; cases nt)]
    exact upd_same
  · exact k H' x (fun b o e => bt b o (ne_of_none e nx) (keep_new nx ndx nt _ _ e)) lg
theorem mk_log0 {C : Addr} {σ : L2.St} {H : Hp} {Q : VK} {E : XK} (k : ∀ H' x, Same H H' → LogAt C H' x [] → Q (.ref x) H') : tMakeR0 C (spLMk C) E σ H Q := make_log .nil (by show 0 ≤ 1000; decide) k
theorem mk_log1 {C : Addr} {σ : L2.St} {H : Hp} {Q : VK} {E : XK} {i : Nat} {t : Addr} {e : Ent} (hi : σ[i]? = some (some (.ref t))) (ht : H t = some (.tup (entV e))) (o : EntOk e) (k : ∀ H' x, Same H H' → LogAt C H' x [e] → Q (.ref x) H') : tMakeR C (spLMk C) E (tCons (tVar i) tNil) σ H Q :=
  ⟨_, hi, make_log (.cons ht o .nil) (by show 1 ≤ 1000; decide) k⟩
theorem op_right {r : R2} {ta tb : TE} {σ : L2.St} {H : Hp} {Q : VK} (h : ta σ H fun x H1 => tb σ H1 fun y H2 => r x y H2 Q) : tOp r ta tb σ H Q := h
theorem asg_ {ta : TE} {g : TG} {D : Ends} {σ : L2.St} {H : Hp} (h : ta σ H fun x H1 => g x σ H1 D.nx) : tAsg ta g D σ H := h
section
variable {P : Program} {w : World} {K : PySem.W.Frag} {mg : Str → Option Value} {base : Heap} {C : Addr}
abbrev N__law_made : List Str := ["_law_entries", "_law_found", "_law_entry_here"]
theorem sc__law_made : FnScope N__law_made ["_law_entries"] (defScope s__law_made) := ⟨rfl, rfl, rfl, by decide +kernel, rfl, by decide +kernel, by decide +kernel⟩
theorem ok__law_made {f fPI fAd : Addr} {fd : FuncData} (F : Fun K "_law_made" "_law_made" s__law_made f fd) (T : TR mg) (TU : TLog K mg C)
    (oAd : OwnOp K C fAd "add") (GAd : FnR P w K mg base (L2.CX P w) 6 fAd (spLAdd C)) (MPI : Mk K C fPI) (GPI : FnR P w K mg base (L2.CX P w) 4 fPI (spLMk C)) : FnOk P w K mg base CX0 7 f fd ["_law_entries"] (spMade C) := by
  refine F.ok sc__law_made (fun vs H Q E h => ?_) (fun cdv A outer s H vs Q E hrO h => ?_)
  · obtain ⟨q, rs, es, rfl, _⟩ := h
    rfl
  · obtain ⟨q, rs, es, rfl, hq, he, ll, k⟩ := h
    have hrM : Room 5 _ := hrO.mono (by decide)
    refine ⟨_, (pss_cons (ps_set (i := 1) sc__law_made.nd rfl (Or.inl rfl) (by exact (pe_makeR0 MPI GPI hrM rfl TU.gC passL)))
 (pss_cons (ps_for PassesOwn.never rfl (pi_list (pv 0)) (pg_name (i := 2) sc__law_made.nd rfl (Or.inl rfl))
 (pss_one (ps_set (i := 1) sc__law_made.nd rfl (Or.inl rfl) (pe_op (op_own GAd oAd ot_add hrO passL) (pv 1) (StX.pe_makeR MPI GPI hrM rfl TU.gC passL (pa_cons (pv 2) pa_nil))))))
 (pss_one (ps_ret (pv 1))))), ?_⟩
    refine seq_asg (mk_log0 fun H1 x s1 lg => ?_)
    have lr := he.len
    refine ⟨_, rfl, q, rfl, ⟨_, SqL.of (s1 _ _ hq)⟩, for_it (walk_list (xs := rs)) (fun i σ G => ∃ x u, σ = [some (.ref q), some (.ref x), u] ∧ Same H G ∧ LogAt C G x (es.take i)) ⟨x, none, rfl, s1, lg⟩ ?_ ?_ ?_⟩
    · rintro i σ G _ ⟨x, u, rfl, sG, _⟩
      exact SqL.of (sG _ _ hq)
    · rintro i v σ G G' hi ⟨x, u, rfl, sG, lg⟩ ⟨rfl, hx⟩
      obtain ⟨t, e, rfl, hei, ht, o⟩ := he.get hx
      have lg1 := lg
      obtain ⟨dx, po, ts, h1, h2, h3⟩ := id lg
      have ht1 := sG _ _ ht
      have e1 : EntsAt G' [.ref t] [e] := .cons ht1 o .nil
      refine asg_ (op_right ⟨_, rfl, ?_⟩)
      refine mk_log1 rfl ht1 o fun H2 y s2 lgy => ?_
      obtain ⟨dy, qo, us, g1, g2, g3⟩ := id lgy
      refine ⟨x, dx, _, rfl, s2 _ _ h1, .inl ⟨y, dy, _, rfl, g1⟩, x, y, es.take i, [e], rfl, lg.same s2, lgy, by rw [List.length_take]; show _ + 1 ≤ 1000; omega, fun H3 z s3 lgz => ?_⟩
      refine ⟨z, _, rfl, fun _ _ q => s3 _ _ (s2 _ _ (sG _ _ q)), ?_⟩
      rw [List.take_add_one, hei]
      exact lgz
    · rintro σ G ⟨x, u, rfl, sG, lg⟩
      rw [lr, List.take_length] at lg
      exact ⟨_, rfl, k G x sG lg⟩
end
end Toy
set_option maxRecDepth 100000
namespace Toy
open PySem L2 TL LamX ClX StX
abbrev s__law_entry : Stmt := top 39
def spEntry : Sp := fun vs H Q _ => ∃ (p l : Addr) (ns : List Int) (a b : Int), vs = [.ref p] ∧ PenAt H p l ns a b ∧ a ≤ 900000 ∧
  ∀ (H' : Hp) (T t : Addr) (e : Ent) (a' b' : Int), But p H H' → PenAt H' p l ns a' b' → a ≤ a' → a' ≤ a + 5 → H T = none → H' T = some (.tup [.ref t, .str (lineT e)]) → H' t = some (.tup (entV e)) → EntOk e → Q (.ref T) H'
section
variable {P : Program} {w : World} {K : PySem.W.Frag} {mg : Str → Option Value} {base : Heap}
abbrev N__law_entry : List Str := ["_law_pen_here", "_law_near", "_law_far", "_law_pair", "_law_met"]
theorem sc__law_entry : FnScope N__law_entry ["_law_pen_here"] (defScope s__law_entry) := ⟨rfl, rfl, rfl, by decide +kernel, rfl, by decide +kernel, by decide +kernel⟩
theorem line_say (a b : Nat) (c : Bool) : ((numT a ++ Str.ofString " ") ++ numT b) ++ (if c then Str.ofString " met" else Str.ofString " apart") = lineT (a, b, c) := str_ext (by
  unfold lineT
  rw [tl_app, tl_app, tl_app, tl_app, tl_app, tl_app, tl_app, tl_app]
  cases c with
  | true =>
    show tl (numT a) ++ tl (Str.ofString " ") ++ tl (numT b) ++ tl (Str.ofString " met") = ([] ++ tl (numT a)) ++ tl (Str.ofString " ") ++ tl (numT b) ++ tl (Str.ofString " ") ++ tl (Str.ofString "met")
    rw [show tl (Str.ofString " met") = tl (Str.ofString " ") ++ tl (Str.ofString "met") from by decide +kernel]
    simp only [List.nil_append, List.append_assoc]
  | false =>
    show tl (numT a) ++ tl (Str.ofString " ") ++ tl (numT b) ++ tl (Str.ofString " apart") = ([] ++ tl (numT a)) ++ tl (Str.ofString " ") ++ tl (numT b) ++ tl (Str.ofString " ") ++ tl (Str.ofString "apart")
    rw [show tl (Str.ofString " apart") = tl (Str.ofString " ") ++ tl (Str.ofString "apart") from by decide +kernel]
    simp only [List.nil_append, List.append_assoc])
theorem ok__law_entry {f fD fPk : Addr} {fd fdD fdPk : FuncData} (F : Fun K "_law_entry" "_law_entry" s__law_entry f fd) (T : TR mg)
    (GD : FnOk P w K mg base CX0 1 fD fdD ["_law_pen_here", "_law_many"] spDraw) (gD : mg "_law_draw" = some (.ref fD)) (kD : PySem.W.keepIn K (.ref fD) = true) (bD : Binds K fdD ["_law_pen_here", "_law_many"] [])
    (GPk : FnOk P w K mg base CX0 2 fPk fdPk ["_law_pen_here", "_law_some"] (spPick K)) (gPk : mg "_law_pick" = some (.ref fPk)) (kPk : PySem.W.keepIn K (.ref fPk) = true) (bPk : Binds K fdPk ["_law_pen_here", "_law_some"] []) : FnOk P w K mg base CX0 3 f fd ["_law_pen_here"] spEntry := by
  refine F.ok sc__law_entry (fun vs H Q E h => ?_) (fun cdv A outer s H vs Q E hrD2 h => ?_)
  · obtain ⟨p, l, ns, a, b, rfl, _⟩ := h
    rfl
  · obtain ⟨p, l, ns, a, b, rfl, hP, ha, k⟩ := h
    have hrD1 : Room 1 _ := hrD2.mono (by decide)
    refine ⟨_, (pss_cons (ps_par (i := 1) (j := 2) rfl sc__law_entry.nd rfl rfl (by decide) rfl rfl (pa_cons (pe_call GD hrD1 rfl gD kD bD .nil pass0 (pa_cons (pv 0) (pa_cons pe_int pa_nil))) (pa_cons (pe_call GPk hrD2 rfl gPk kPk bPk .nil pass0 (pa_cons (pv 0) (pa_cons (pe_lst (pa_cons pe_int (pa_cons (pe_op op_pow pe_int pe_int) (pa_cons (pe_call GD hrD1 rfl gD kD bD .nil pass0 (pa_cons (pv 0) (pa_cons (pe_op op_pow pe_int pe_int) pa_nil))) (pa_cons pe_int pa_nil))))) pa_nil))) pa_nil)) rfl)
 (pss_cons (ps_par (i := 3) (j := 4) rfl sc__law_entry.nd rfl rfl (by decide) rfl rfl (pa_cons (pe_call GPk hrD2 rfl gPk kPk bPk .nil pass0 (pa_cons (pv 0) (pa_cons (pe_lst (pa_cons (pe_tup (pa_cons (pv 1) (pa_cons (pv 2) pa_nil))) (pa_cons (pe_tup (pa_cons (pv 2) (pa_cons (pv 1) pa_nil))) (pa_cons (pe_tup (pa_cons (pv 1) (pa_cons (pv 1) pa_nil))) pa_nil)))) pa_nil))) (pa_cons (pe_cmpR op_eq (pe_call GD hrD1 rfl gD kD bD .nil pass0 (pa_cons (pv 0) (pa_cons pe_int pa_nil))) pe_int (nomark _)) pa_nil)) rfl)
 (pss_one (ps_ret (pe_tup (pa_cons (pe_tup (pa_cons (pe_ix ix_tup (pv 3) pe_int (fun _ _ => rfl)) (pa_cons (pe_ix ix_tup (pv 3) pe_int (fun _ _ => rfl)) (pa_cons (pv 4) pa_nil)))) (pa_cons (pe_op op_add_str (pe_op op_add_str (pe_op op_add_str (pe_callTy call_str_int (by rfl) T.m_str (by decide +kernel) (pa_cons (pe_ix ix_tup (pv 3) pe_int (fun _ _ => rfl)) pa_nil)) pe_str) (pe_callTy call_str_int (by rfl) T.m_str (by decide +kernel) (pa_cons (pe_ix ix_tup (pv 3) pe_int (fun _ _ => rfl)) pa_nil))) (pe_ifExp (pt_val (pv 4)) pe_str pe_str)) pa_nil))))))), ?_⟩
    refine ⟨_, rfl, p, l, ns, a, b, 60, rfl, hP, by omega, by decide, by decide +kernel, fun H1 nr a1 b1 n0 n1 h10 h11 bt1 P1 => ?_⟩
    refine ⟨_, rfl, _, _, rfl, rfl, ⟨by decide, by decide, by decide⟩, _, rfl, _, _, rfl, rfl, ⟨by decide, by decide, by decide⟩, p, l, ns, a1, b1, _, rfl, P1, by omega, by decide, by decide +kernel, fun H2 dr a2 b2 d0 d1 h20 h21 bt2 P2 => ⟨(by show 4 ≤ PySem.sizeLine; decide), fun pk hpk => ?_⟩⟩
    have npk : pk ≠ p := (ne_of_none P2.pen hpk).symm
    refine ⟨p, l, pk, ns, a2, b2, _, rfl, P2.new hpk, by omega, SqL.of upd_same, npk, by show 0 < 4; decide, by show 4 ≤ 1000; decide, fun H3 ix v a3 b3 hv h30 h31 bt3 P3 => ⟨_, _, rfl, ?_⟩⟩
    obtain ⟨fr, rfl, fb⟩ : ∃ n : Nat, v = .int ((n : Nat) : Int) ∧ n ≤ 10 ^ 30 := by
      rcases ix with _ | _ | _ | _ | ix
      · obtain rfl := Option.some.inj hv; exact ⟨0, rfl, by decide⟩
      · obtain rfl := Option.some.inj hv; exact ⟨10 ^ 30, rfl, Nat.le_refl _⟩
      · obtain rfl := Option.some.inj hv; exact ⟨dr.toNat, by rw [Int.toNat_of_nonneg d0], by have d2 : dr < 10 ^ 9 := d1; omega⟩
      · obtain rfl := Option.some.inj hv; exact ⟨7, rfl, by decide⟩
      · cases hv
    obtain ⟨nn, rfl⟩ : ∃ n : Nat, nr = ((n : Nat) : Int) := ⟨nr.toNat, (Int.toNat_of_nonneg n0).symm⟩
    have nb : nn ≤ 10 ^ 30 := by omega
    have btH3 : But p H H3 := fun c o n e => bt3 _ _ n (Same.lay hpk _ _ (bt2 _ _ n (bt1 _ _ n e)))
    refine ⟨_, rfl, _, rfl, _, rfl, (by show 2 ≤ PySem.sizeLine; decide), fun t1 ht1 => ⟨_, rfl, _, rfl, (by show 2 ≤ PySem.sizeLine; decide), fun t2 ht2 => ⟨_, rfl, _, rfl, (by show 2 ≤ PySem.sizeLine; decide), fun t3 ht3 => ⟨(by show 3 ≤ PySem.sizeLine; decide), fun pk2 hpk2 => ?_⟩⟩⟩⟩
    have sz : PySem.sizeLine = 16777216 := rfl
    have z1 := Same.lay (o := .tup [V.int (nn : Nat), V.int (fr : Nat)]) ht1
    have z2 := Same.lay (o := .tup [V.int (fr : Nat), V.int (nn : Nat)]) ht2
    have z3 := Same.lay (o := .tup [V.int (nn : Nat), V.int (nn : Nat)]) ht3
    have z4 := Same.lay (o := .lst [V.ref t1, V.ref t2, V.ref t3]) hpk2
    have m1 : t1 ≠ p := (ne_of_none P3.pen ht1).symm
    have m2 : t2 ≠ p := (ne_of_none (z1 _ _ P3.pen) ht2).symm
    have m3 : t3 ≠ p := (ne_of_none (z2 _ _ (z1 _ _ P3.pen)) ht3).symm
    have m4 : pk2 ≠ p := (ne_of_none (z3 _ _ (z2 _ _ (z1 _ _ P3.pen))) hpk2).symm
    refine ⟨p, l, pk2, ns, a3, b3, _, rfl, ((P3.new ht1).new ht2).new ht3 |>.new hpk2, by omega, SqL.of upd_same, m4, by show 0 < 3; decide, by show 3 ≤ 1000; decide, fun H5 ix2 v2 a5 b5 hv2 h50 h51 bt5 P5 => ?_⟩
    have btH5 : But p H H5 := fun c o n e => bt5 _ _ n (z4 _ _ (z3 _ _ (z2 _ _ (z1 _ _ (btH3 _ _ n e)))))
    obtain ⟨t, x, y, rfl, htt, xb, yb⟩ : ∃ (t : Addr) (x y : Nat), v2 = .ref t ∧ H5 t = some (.tup [.int (x : Nat), .int (y : Nat)]) ∧ x ≤ 10 ^ 30 ∧ y ≤ 10 ^ 30 := by
      rcases ix2 with _ | _ | _ | ix2
      · obtain rfl := Option.some.inj hv2; exact ⟨t1, nn, fr, rfl, bt5 _ _ m1 (z4 _ _ (z3 _ _ (z2 _ _ upd_same))), nb, fb⟩
      · obtain rfl := Option.some.inj hv2; exact ⟨t2, fr, nn, rfl, bt5 _ _ m2 (z4 _ _ (z3 _ _ upd_same)), fb, nb⟩
      · obtain rfl := Option.some.inj hv2; exact ⟨t3, nn, nn, rfl, bt5 _ _ m3 (z4 _ _ upd_same), nb, nb⟩
      · cases hv2
    refine ⟨_, rfl, p, l, ns, a5, b5, 2, rfl, P5, by omega, by decide, by decide +kernel, fun H6 bit a6 b6 c0 c1 h60 h61 bt6 P6 => ⟨rfl, _, _, rfl, ?_⟩⟩
    have mt : t ≠ p := fun z => by
      rw [z, P5.pen] at htt
      cases htt
    have ht6 := bt6 _ _ mt htt
    generalize hc : decide (V.int bit = V.int 0) = c
    have l1 := num31 xb
    have l2 := num31 yb
    refine ⟨_, rfl, t, _, 0, _, rfl, rfl, SqT.of ht6, atI_nat (j := 0) rfl, _, rfl, t, _, 1, _, rfl, rfl, SqT.of ht6, atI_nat (j := 1) rfl, _, rfl, (by show 3 ≤ PySem.sizeLine; decide), fun q hq => ?_⟩
    have z7 := Same.lay (o := .tup [V.int (x : Nat), V.int (y : Nat), V.bl c]) hq
    have ht7 := z7 _ _ ht6
    have hq7 : (upd H6 q (.tup [V.int (x : Nat), V.int (y : Nat), V.bl c])) q = some (.tup (entV (x, y, c))) := upd_same
    have P7 := P6.new (o := .tup [V.int (x : Nat), V.int (y : Nat), V.bl c]) hq
    have btH7 : But p H (upd H6 q (.tup [V.int (x : Nat), V.int (y : Nat), V.bl c])) := fun c' o n e => z7 _ _ (bt6 _ _ n (btH5 _ _ n e))
    have sl : (numT x ++ Str.ofString " ").length ≤ 32 := by
      rw [PySem.Str.length_append, sp1]
      omega
    have sl2 : ((numT x ++ Str.ofString " ") ++ numT y).length ≤ 63 := by
      rw [PySem.Str.length_append]
      omega
    refine ⟨_, rfl, t, _, 0, _, rfl, rfl, SqT.of ht7, atI_nat (j := 0) rfl, _, rfl, log_small' xb, _, _, rfl, rfl, ?_, _, rfl, t, _, 1, _, rfl, rfl, SqT.of ht7, atI_nat (j := 1) rfl, _, rfl, log_small' yb, _, _, rfl, rfl, ?_, _, rfl, c, rfl, ?_⟩
    · show (numT x).length + (Str.ofString " ").length ≤ _
      rw [sp1]
      omega
    · show (numT x ++ Str.ofString " ").length + (numT y).length ≤ _
      omega
    have fin : ∀ T, (upd H6 q (.tup [V.int (x : Nat), V.int (y : Nat), V.bl c])) T = none → Q (.ref T) (upd (upd H6 q (.tup [V.int (x : Nat), V.int (y : Nat), V.bl c])) T (.tup [.ref q, .str (((numT x ++ Str.ofString " ") ++ numT y) ++ (if c then Str.ofString " met" else Str.ofString " apart"))])) := fun T hT => by
      have y8 := Same.lay (o := .tup [V.ref q, V.str (((numT x ++ Str.ofString " ") ++ numT y) ++ (if c then Str.ofString " met" else Str.ofString " apart"))]) hT
      refine k _ T q (x, y, c) a6 b6 (fun c' o n e => y8 _ _ (btH7 _ _ n e)) (P7.new hT) (by omega) (by omega) ?_ (by rw [upd_same, line_say]) (y8 _ _ hq7) ⟨xb, yb⟩
      cases eT : H T with
      | none => rfl
      | some o =>
        by_cases nT : T = p
        · rw [nT, P7.pen] at hT
          cases hT
        · rw [btH7 T o nT eT] at hT
          cases hT
    cases c with
    | true => exact iteT ⟨_, _, rfl, rfl, Nat.le_trans (Nat.add_le_add_right sl2 _) (by decide +kernel), (by show 2 ≤ PySem.sizeLine; decide), fun T hT => fin T hT⟩
    | false => exact iteF ⟨_, _, rfl, rfl, Nat.le_trans (Nat.add_le_add_right sl2 _) (by decide +kernel), (by show 2 ≤ PySem.sizeLine; decide), fun T hT => fin T hT⟩
end
end Toy
set_option maxRecDepth 100000
/-! z * n of a text; lists of texts of which something holds -/
namespace L2
open PySem PySem.Spec PyProof.Rows TL
def rMulS : R2 := fun x y H Q => ∃ (z : Str) (n : Int), x = .str z ∧ y = .int n ∧ MulOk z n ∧ Q (.str (Txt.mul z n)) H
theorem op_mulS {X : Cx} : OpR X (binaryOp .Mult) rMulS := by
  intro pins s σ H x y v u Q I rx ry h
  obtain ⟨z, n, rfl, rfl, ok, q⟩ := h
  obtain ⟨t, rfl⟩ := rx
  obtain ⟨t2, rfl⟩ := ry
  exact SB.mul ok fun t' k => ⟨.str (Txt.mul z n), H, I.tok _, ⟨t', rfl⟩, q⟩
/-- texts, of each of which P holds -/
def Sts (P : Str → Prop) (xs : List V) : Prop := ∀ x ∈ xs, ∃ y : Str, x = .str y ∧ P y
theorem Sts.nil {P : Str → Prop} : Sts P [] := fun _ z => nomatch z
theorem Sts.one {P : Str → Prop} {y : Str} (h : P y) : Sts P [.str y] := fun x hx => ⟨y, List.mem_singleton.mp hx, h⟩
theorem Sts.cons {P : Str → Prop} {y : Str} {xs : List V} (h : P y) (r : Sts P xs) : Sts P (.str y :: xs) := fun x hx => by
  rcases List.mem_cons.mp hx with e | hx
  · exact ⟨y, e, h⟩
  · exact r x hx
theorem Sts.append {P : Str → Prop} {xs ys : List V} (h : Sts P xs) (k : Sts P ys) : Sts P (xs ++ ys) := fun x hx => (List.mem_append.mp hx).elim (h x) (k x)
theorem Sts.reverse {P : Str → Prop} {xs : List V} (h : Sts P xs) : Sts P xs.reverse := fun x hx => h x (List.mem_reverse.mp hx)
theorem Sts.of {P : Str → Prop} {ws : List Str} (h : ∀ w ∈ ws, P w) : Sts P (ws.map V.str) := fun x hx => by
  obtain ⟨w, hw, rfl⟩ := List.mem_map.mp hx
  exact ⟨w, rfl, h w hw⟩
theorem mem_cutV {xs : List V} {lo hi : Option Int} {x : V} (h : x ∈ cutV xs lo hi) : x ∈ xs := List.mem_of_mem_drop (List.mem_of_mem_take h)
theorem len_cutV (xs : List V) (lo hi : Option Int) : (cutV xs lo hi).length ≤ xs.length := by
  unfold cutV
  rw [List.length_take, List.length_drop]
  omega
theorem Sts.cut {P : Str → Prop} {xs : List V} {lo hi : Option Int} (h : Sts P xs) : Sts P (cutV xs lo hi) := fun x hx => h x (mem_cutV hx)
theorem Sts.texts {P : Str → Prop} : ∀ {xs : List V}, Sts P xs → ∃ ws : List Str, xs = ws.map V.str ∧ ∀ w ∈ ws, P w
  | [], _ => ⟨[], rfl, fun _ z => nomatch z⟩
  | x :: r, h => by
    obtain ⟨y, rfl, hy⟩ := h x List.mem_cons_self
    obtain ⟨ws, e, hw⟩ := Sts.texts fun z hz => h z (List.mem_cons_of_mem _ hz)
    refine ⟨y :: ws, by rw [e]; rfl, fun w m => ?_⟩
    rcases List.mem_cons.mp m with rfl | m
    · exact hy
    · exact hw w m
end L2
set_option maxRecDepth 100000
/-! texts that are bent: their lengths and signs, by their words -/
namespace L2
open PySem PySem.Spec PyProof.Rows TL
/-- all signs are signs -/
def ChOk (w : Str) : Prop := ∀ c ∈ tl w, c < 1114112
theorem ch_mem_joinL {S : List Nat} : ∀ {ps : List (List Nat)} {c : Nat}, c ∈ joinL S ps → c ∈ S ∨ ∃ p ∈ ps, c ∈ p
  | [], c, h => nomatch h
  | [q], c, h => .inr ⟨q, List.mem_singleton.mpr rfl, h⟩
  | q :: r :: t, c, h => by
    have h' : c ∈ q ++ (S ++ joinL S (r :: t)) := h
    rcases List.mem_append.mp h' with h1 | h1
    · exact .inr ⟨q, List.mem_cons_self, h1⟩
    · rcases List.mem_append.mp h1 with h2 | h2
      · exact .inl h2
      · rcases ch_mem_joinL h2 with h3 | ⟨p, hp, hc⟩
        · exact .inl h3
        · exact .inr ⟨p, List.mem_cons_of_mem _ hp, hc⟩
theorem ch_mem_of {S : List Nat} : ∀ {ps : List (List Nat)} {p : List Nat} {c : Nat}, p ∈ ps → c ∈ p → c ∈ joinL S ps
  | [q], p, c, hp, hc => by
    rw [List.mem_singleton.mp hp] at hc
    exact hc
  | q :: r :: t, p, c, hp, hc => by
    show c ∈ q ++ (S ++ joinL S (r :: t))
    rcases List.mem_cons.mp hp with rfl | hp
    · exact List.mem_append_left _ hc
    · exact List.mem_append_right _ (List.mem_append_right _ (ch_mem_of hp hc))
theorem ch_join {sep : Str} {ws : List Str} (hs : ChOk sep) (h : ∀ w ∈ ws, ChOk w) : ChOk (Txt.join sep ws) := fun c hc => by
  rw [TL.join_eq, TL.tl_join] at hc
  rcases ch_mem_joinL hc with h1 | ⟨p, hp, h2⟩
  · exact hs c h1
  · obtain ⟨w, hw, rfl⟩ := List.mem_map.mp hp
    exact h w hw c h2
theorem txt_join_split (a sep : Str) : Txt.join sep (Txt.split a sep) = a := by
  rw [TL.join_eq]
  exact StrLaws.join_split a sep
theorem ch_split {a sep : Str} (h : ChOk a) : ∀ w ∈ Txt.split a sep, ChOk w := fun w hw c hc => h c (by
  have e := txt_join_split a sep
  rw [TL.join_eq] at e
  have e2 := congrArg tl e
  rw [TL.tl_join] at e2
  rw [← e2]
  exact ch_mem_of (List.mem_map.mpr ⟨w, hw, rfl⟩) hc)
theorem ch_app {x y : Str} (hx : ChOk x) (hy : ChOk y) : ChOk (x ++ y) := fun c hc => by
  have e : tl (x ++ y) = tl x ++ tl y := by
    show (x ++ y).cps.toList = x.cps.toList ++ y.cps.toList
    rw [PySem.Str.cps_append, Array.toList_append]
  rw [e] at hc
  exact (List.mem_append.mp hc).elim (hx c) (hy c)
def chB (w : Str) : Bool := (tl w).all fun c => decide (c < 1114112)
theorem ch_of {w : Str} (h : chB w = true) : ChOk w := fun c hc => of_decide_eq_true (List.all_eq_true.mp h c hc)
/-- the signs of lines, one behind each -/
def wt (ws : List Str) : Nat := (ws.map fun w => w.length + 1).sum
theorem wt_nil : wt [] = 0 := rfl
theorem wt_one (w : Str) : wt [w] = w.length + 1 := by simp [wt]
theorem wt_app (a b : List Str) : wt (a ++ b) = wt a + wt b := by simp [wt]
theorem wt_cut (a : List Str) (n : Nat) : wt (a.take n) + wt (a.drop n) = wt a := by rw [← wt_app, List.take_append_drop]
theorem wt_drop (a : List Str) (n : Nat) : wt (a.drop n) ≤ wt a := by
  have := wt_cut a n
  omega
theorem wt_step (a : List Str) (n : Nat) : wt (a.drop (n + 1)) ≤ wt (a.drop n) := by
  have := wt_drop (a.drop n) 1
  rw [List.drop_drop] at this
  exact this
theorem wt_rev (a : List Str) : wt a.reverse = wt a := by
  unfold wt
  rw [List.map_reverse, List.sum_reverse]
theorem wt_set {a : List Str} {i : Nat} {x : Str} (h : a[i]? = some x) (w : Str) : wt (a.set i w) + x.length = wt a + w.length := by
  induction a generalizing i with
  | nil => cases h
  | cons y r ih =>
    cases i with
    | zero =>
      obtain rfl := Option.some.inj h
      simp [wt]
      omega
    | succ i =>
      have z := ih (i := i) h
      simp only [wt, List.set_cons_succ, List.map_cons, List.sum_cons] at z ⊢
      omega
theorem wt_len (a : List Str) : a.length ≤ wt a := by
  induction a with
  | nil => exact Nat.zero_le _
  | cons x r ih =>
    simp only [wt, List.map_cons, List.sum_cons, List.length_cons] at ih ⊢
    omega
theorem wt_mem {a : List Str} {w : Str} (h : w ∈ a) : w.length + 1 ≤ wt a := by
  induction a with
  | nil => cases h
  | cons x r ih =>
    simp only [wt, List.map_cons, List.sum_cons] at ih ⊢
    rcases List.mem_cons.mp h with rfl | h
    · omega
    · have := ih h
      omega
theorem wt_sum (a : List Str) : (a.map (·.length)).sum + a.length = wt a := by
  induction a with
  | nil => rfl
  | cons x r ih =>
    simp only [wt, List.map_cons, List.sum_cons, List.length_cons] at ih ⊢
    omega
theorem joinL_len (s : Nat) : ∀ ps : List (List Nat), ps ≠ [] → (joinL [s] ps).length + 1 = (ps.map fun p => p.length + 1).sum
  | [], h => absurd rfl h
  | [p], _ => by simp [joinL]
  | p :: q :: r, _ => by
    have ih := joinL_len s (q :: r) (by simp)
    show (p ++ ([s] ++ joinL [s] (q :: r))).length + 1 = _
    rw [List.length_append, List.length_append, List.map_cons, List.sum_cons]
    simp only [List.length_cons, List.length_nil] at ih ⊢
    omega
theorem str_len (w : Str) : w.length = (tl w).length := Array.length_toList.symm
theorem join_len {sep : Str} {s : Nat} {ws : List Str} (hs : tl sep = [s]) (h : ws ≠ []) : (Txt.join sep ws).length + 1 = wt ws := by
  rw [str_len, TL.join_eq, TL.tl_join, hs, joinL_len s _ (by simpa using h), List.map_map]
  unfold wt
  congr 1
theorem join_le {sep : Str} {s : Nat} {ws : List Str} (hs : tl sep = [s]) : (Txt.join sep ws).length ≤ wt ws - 1 := by
  cases ws with
  | nil => exact Nat.le_of_eq rfl
  | cons x r =>
    have := join_len (ws := x :: r) hs (by simp)
    omega
theorem split_wt {a sep : Str} {s : Nat} (hs : tl sep = [s]) : wt (Txt.split a sep) = a.length + 1 := by
  have ne : Txt.split a sep ≠ [] := fun z => by
    have := PyProof.Rows.split_pos a sep
    rw [z] at this
    cases this
  have e := join_len (ws := Txt.split a sep) hs ne
  rw [txt_join_split] at e
  exact e.symm
theorem cutS_to (ws : List Str) (k : Nat) : cutV (ws.map V.str) none (some (k : Int)) = (ws.take k).map V.str := by
  unfold cutV
  rw [HT.sIx_none, HT.sIx_nat, List.drop_zero, List.length_map, Nat.sub_zero, ← List.map_take]
  congr 1
  rcases Nat.le_total k ws.length with c | c
  · rw [Nat.min_eq_left c]
  · rw [Nat.min_eq_right c, List.take_length, List.take_of_length_le c]
theorem cutS_from (ws : List Str) (k : Nat) : cutV (ws.map V.str) (some (k : Int)) none = (ws.drop k).map V.str := by
  unfold cutV
  rw [HT.sIx_none, HT.sIx_nat, List.length_map, ← List.map_drop, ← List.map_take]
  congr 1
  rcases Nat.le_total k ws.length with c | c
  · rw [Nat.min_eq_left c]
    exact List.take_of_length_le (by rw [List.length_drop]; exact Nat.le_refl _)
  · rw [Nat.min_eq_right c, List.drop_length, List.drop_of_length_le c]
    simp
theorem cutS_two (ws : List Str) (k : Nat) : cutV (ws.map V.str) (some (k : Int)) (some ((k + 2 : Nat) : Int)) = ((ws.drop k).take 2).map V.str := by
  unfold cutV
  rw [HT.sIx_nat, HT.sIx_nat, List.length_map, ← List.map_drop, ← List.map_take]
  congr 1
  rcases Nat.le_total k ws.length with c | c
  · rw [Nat.min_eq_left c]
    rcases Nat.le_total (k + 2) ws.length with d | d
    · rw [Nat.min_eq_left d, show k + 2 - k = 2 by omega]
    · rw [Nat.min_eq_right d, List.take_of_length_le (by rw [List.length_drop]; exact Nat.le_refl _), List.take_of_length_le (by rw [List.length_drop]; omega)]
  · rw [Nat.min_eq_right c, List.drop_length, List.drop_of_length_le c]
    simp
theorem wt_two (ws : List Str) (k : Nat) : wt (ws.take k) + wt ((ws.drop k).take 2).reverse + wt (ws.drop (k + 2)) = wt ws := by
  have h1 := wt_cut ws k
  have h2 := wt_cut (ws.drop k) 2
  rw [List.drop_drop] at h2
  rw [wt_rev]
  omega
theorem map_cat (a b : List Str) : a.map V.str ++ b.map V.str = (a ++ b).map V.str := (List.map_append ..).symm
end L2
set_option maxRecDepth 100000
namespace Toy
open PySem L2 TL LamX ClX StX
abbrev s__law_bent : Stmt := top 43
theorem ite_no {c : Bool} {A B : Prop} (h : c = false) (b : B) : if c = true then A else B := by
  rw [h]
  exact iteF b
def spBent : Sp := fun vs H Q _ => ∃ (p l q : Addr) (ns : List Int) (a b : Int) (pg : Str) (some : List Str), vs = [.ref p, .str pg, .ref q] ∧ PenAt H p l ns a b ∧ a ≤ 900000 ∧ ChOk pg ∧ pg.length ≤ 5000 ∧ H q = .some (.lst (some.map V.str)) ∧ q ≠ p ∧ 0 < some.length ∧ some.length ≤ 1000 ∧ (∀ w ∈ some, ChOk w ∧ w.length ≤ 40) ∧
  ∀ (H' : Hp) (pg' : Str) (a' b' : Int), But p H H' → PenAt H' p l ns a' b' → a ≤ a' → a' ≤ a + 10 → ChOk pg' → pg'.length ≤ pg.length + 41 → Q (.str pg') H'
section
variable {P : Program} {w : World} {K : PySem.W.Frag} {mg : Str → Option Value} {base : Heap}
abbrev N__law_bent : List Str := ["_law_pen_here", "_law_page", "_law_some", "_law_lines", "_law_way", "_law_at", "_law_words", "_law_spot_so", "_law_word"]
theorem sc__law_bent : FnScope N__law_bent ["_law_pen_here", "_law_page", "_law_some"] (defScope s__law_bent) := ⟨rfl, rfl, rfl, by decide +kernel, rfl, by decide +kernel, by decide +kernel⟩
set_option maxHeartbeats 4000000 in
theorem ok__law_bent {f fD fPk : Addr} {fd fdD fdPk : FuncData} (F : Fun K "_law_bent" "_law_bent" s__law_bent f fd) (T : TR mg)
    (GD : FnOk P w K mg base CX0 1 fD fdD ["_law_pen_here", "_law_many"] spDraw) (gD : mg "_law_draw" = some (.ref fD)) (kD : PySem.W.keepIn K (.ref fD) = true) (bD : Binds K fdD ["_law_pen_here", "_law_many"] [])
    (GPk : FnOk P w K mg base CX0 2 fPk fdPk ["_law_pen_here", "_law_some"] (spPick K)) (gPk : mg "_law_pick" = some (.ref fPk)) (kPk : PySem.W.keepIn K (.ref fPk) = true) (bPk : Binds K fdPk ["_law_pen_here", "_law_some"] []) :
    FnOk P w K mg base CX0 3 f fd ["_law_pen_here", "_law_page", "_law_some"] spBent := by
  refine F.ok sc__law_bent (fun vs H Q E h => ?_) (fun cdv A outer s H vs Q E hrD2 h => ?_)
  · obtain ⟨p, l, q, ns, a, b, pg, some, rfl, _⟩ := h
    rfl
  · obtain ⟨p, l, q, ns, a, b, pg, som, rfl, hP, ha, cp, lp, hq, nq, som0, soml, somw, k⟩ := h
    have hrD1 : Room 1 _ := hrD2.mono (by decide)
    refine ⟨_, (pss_cons (ps_par (i := 3) (j := 4) rfl sc__law_bent.nd rfl rfl (by decide) rfl rfl (pa_cons (pe_split (pv 1) pe_str) (pa_cons (pe_call GD hrD1 rfl gD kD bD .nil pass0 (pa_cons (pv 0) (pa_cons pe_int pa_nil))) pa_nil)) rfl)
 (pss_cons (ps_set (i := 5) sc__law_bent.nd rfl (Or.inl rfl) (by exact (pe_call GD hrD1 rfl gD kD bD .nil pass0 (pa_cons (pv 0) (pa_cons (pe_callB call_len_seq (by rfl) T.m_len (by decide +kernel) (pa_cons (pv 3) pa_nil)) pa_nil)))))
 (pss_cons (ps_set (i := 6) sc__law_bent.nd rfl (Or.inl rfl) (pe_split (pe_ix ix_list (pv 3) (pv 5) (fun _ _ => rfl)) pe_str))
 (pss_cons (ps_par (i := 7) (j := 8) rfl sc__law_bent.nd rfl rfl (by decide) rfl rfl (pa_cons (pe_call GD hrD1 rfl gD kD bD .nil pass0 (pa_cons (pv 0) (pa_cons (pe_callB call_len_seq (by rfl) T.m_len (by decide +kernel) (pa_cons (pv 6) pa_nil)) pa_nil))) (pa_cons (pe_call GPk hrD2 rfl gPk kPk bPk .nil pass0 (pa_cons (pv 0) (pa_cons (pv 2) pa_nil))) pa_nil)) rfl)
 (pss_cons (ps_if (pt_cmpR op_lt (pv 4) pe_int (nomark _)) (pss_one (ps_asg (pe_m1 PySem.F.slot_str_join PySem.F.type_str_join mt_join pe_str (pe_op op_cat (pe_op op_cat (pe_slice sl_list (pv 6) po_none (po_some (pv 7))) (pe_lst (pa_cons (pv 8) pa_nil))) (pe_slice sl_list (pv 6) (po_some (pe_op op_add (pv 7) pe_int)) po_none))) (pg_sub (pv 3) (pv 5) set_list))) pss_nil)
 (pss_cons (ps_if (pt_cmpR op_eq (pv 4) pe_int (nomark _)) (pss_one (ps_asg (pe_m1 PySem.F.slot_str_join PySem.F.type_str_join mt_join pe_str (pe_op op_cat (pe_op op_cat (pe_slice sl_list (pv 6) po_none (po_some (pv 7))) (pe_lst (pa_cons (pv 8) pa_nil))) (pe_slice sl_list (pv 6) (po_some (pv 7)) po_none))) (pg_sub (pv 3) (pv 5) set_list))) pss_nil)
 (pss_cons (ps_if (pt_cmpR op_eq (pv 4) pe_int (nomark _)) (pss_one (ps_asg (pe_m1 PySem.F.slot_str_join PySem.F.type_str_join mt_join pe_str (pe_op op_cat (pe_slice sl_list (pv 6) po_none (po_some (pv 7))) (pe_slice sl_list (pv 6) (po_some (pe_op op_add (pv 7) pe_int)) po_none))) (pg_sub (pv 3) (pv 5) set_list))) pss_nil)
 (pss_cons (ps_if (pt_cmpR op_eq (pv 4) pe_int (nomark _)) (pss_one (ps_set (i := 3) sc__law_bent.nd rfl (Or.inl rfl) (pe_op op_cat (pe_slice sl_list (pv 3) po_none (po_some (pv 5))) (pe_slice sl_list (pv 3) (po_some (pe_op op_add (pv 5) pe_int)) po_none)))) pss_nil)
 (pss_cons (ps_if (pt_cmpR op_eq (pv 4) pe_int (nomark _)) (pss_one (ps_set (i := 3) sc__law_bent.nd rfl (Or.inl rfl) (pe_op op_cat (pe_op op_cat (pe_slice sl_list (pv 3) po_none (po_some (pe_op op_add (pv 5) pe_int))) (pe_lst (pa_cons (pv 8) pa_nil))) (pe_slice sl_list (pv 3) (po_some (pe_op op_add (pv 5) pe_int)) po_none)))) pss_nil)
 (pss_cons (ps_if (pt_cmpR op_eq (pv 4) pe_int (nomark _)) (pss_one (ps_asg (pe_op op_add_str (pe_op op_add_str (pe_ix ix_list (pv 3) (pv 5) (fun _ _ => rfl)) pe_str) (pv 8)) (pg_sub (pv 3) (pv 5) set_list))) pss_nil)
 (pss_cons (ps_if (pt_cmpR op_eq (pv 4) pe_int (nomark _)) (pss_one (ps_set (i := 3) sc__law_bent.nd rfl (Or.inl rfl) (pe_op op_cat (pe_op op_cat (pe_slice sl_list (pv 3) po_none (po_some (pv 5))) (pe_revL (pe_slice sl_list (pv 3) (po_some (pv 5)) (po_some (pe_op op_add (pv 5) pe_int))))) (pe_slice sl_list (pv 3) (po_some (pe_op op_add (pv 5) pe_int)) po_none)))) pss_nil)
 (pss_one (ps_ret (pe_m1 PySem.F.slot_str_join PySem.F.type_str_join mt_join pe_str (pv 3))))))))))))))), ?_⟩
    have sz : PySem.sizeLine = 16777216 := rfl
    have sw : ∀ w ∈ som, w.length ≤ 40 := fun w h => (somw w h).2
    refine ⟨_, rfl, ⟨_, rfl⟩, pg, "\n", rfl, rfl, rfl, by omega, fun L hL => ?_⟩
    have nL : L ≠ p := (ne_of_none hP.pen hL).symm
    have nqL : q ≠ L := ne_of_none hq hL
    have y0 := Same.lay (o := .lst ((Txt.split pg "\n").map V.str)) hL
    have P0 := hP.new (o := .lst ((Txt.split pg "\n").map V.str)) hL
    have hL0 : (upd H L (.lst ((Txt.split pg "\n").map V.str))) L = some (.lst ((Txt.split pg "\n").map V.str)) := upd_same
    have hq0 := y0 _ _ hq
    have lwt : wt (Txt.split pg "\n") = pg.length + 1 := split_wt (s := 10) rfl
    have lch : ∀ w ∈ Txt.split pg "\n", ChOk w := ch_split cp
    have lne : Txt.split pg "\n" ≠ [] := fun z => by
      rw [z] at lwt
      cases lwt
    have bt0 : But p H (upd H L (.lst ((Txt.split pg "\n").map V.str))) := fun c o _ e => y0 _ _ e
    change tCons _ _ _ (upd H L (.lst ((Txt.split pg "\n").map V.str))) _
    generalize upd H L (.lst ((Txt.split pg "\n").map V.str)) = H0 at P0 hL0 hq0 bt0 ⊢
    generalize Txt.split pg "\n" = ls at hL0 lwt lch lne ⊢
    have hLn := hL
    clear y0
    have nLl : l ≠ L := ne_of_none hP.cells hLn
    have lll := wt_len ls
    have lpos : 0 < ls.length := List.length_pos_iff.mpr lne
    refine ⟨_, rfl, p, l, ns, a, b, 8, rfl, P0, by omega, by decide, by decide +kernel, fun H1 way a1 b1 w0 w1 h10 h11 bt1 P1 => ⟨_, _, rfl, ?_⟩⟩
    have hL1 := bt1 _ _ nL hL0
    have hq1 := bt1 _ _ nq hq0
    refine ⟨_, rfl, _, rfl, L, _, rfl, .inl (SqL.of hL1), p, l, ns, a1, b1, _, rfl, P1, by omega, by rw [List.length_map]; omega, ?_, fun H2 at_ a2 b2 t0 t1 h20 h21 bt2 P2 => ?_⟩
    · rw [List.length_map]
      exact Nat.lt_of_le_of_lt (Nat.log2_le_self _) (by omega)
    rw [List.length_map] at t1
    obtain ⟨j, rfl⟩ : ∃ j : Nat, at_ = ((j : Nat) : Int) := ⟨at_.toNat, (Int.toNat_of_nonneg t0).symm⟩
    have jl : j < ls.length := by omega
    obtain ⟨l0, hl0⟩ : ∃ l0, ls[j]? = some l0 := ⟨_, List.getElem?_eq_getElem jl⟩
    have hL2 := bt2 _ _ nL hL1
    have hq2 := bt2 _ _ nq hq1
    have ml0 : l0 ∈ ls := List.mem_of_getElem? hl0
    have wl0 := wt_mem ml0
    refine ⟨_, rfl, _, rfl, L, _, _, .str l0, rfl, rfl, SqL.of hL2, atI_nat (by rw [List.getElem?_map, hl0]; rfl), ⟨_, rfl⟩, l0, " ", rfl, rfl, rfl, by omega, fun W hW => ?_⟩
    have nW : W ≠ p := (ne_of_none P2.pen hW).symm
    have nLW : L ≠ W := ne_of_none hL2 hW
    have y3 := Same.lay (o := .lst ((Txt.split l0 " ").map V.str)) hW
    have P3 := P2.new (o := .lst ((Txt.split l0 " ").map V.str)) hW
    have hW3 : (upd H2 W (.lst ((Txt.split l0 " ").map V.str))) W = some (.lst ((Txt.split l0 " ").map V.str)) := upd_same
    have hL3 := y3 _ _ hL2
    have hq3 := y3 _ _ hq2
    have wwt : wt (Txt.split l0 " ") = l0.length + 1 := split_wt (s := 32) rfl
    have wch : ∀ w ∈ Txt.split l0 " ", ChOk w := ch_split (lch l0 ml0)
    have bt3 : But p H (upd H2 W (.lst ((Txt.split l0 " ").map V.str))) := fun c o n e => y3 _ _ (bt2 _ _ n (bt1 _ _ n (bt0 _ _ n e)))
    change gName 6 (V.ref W) _ (upd H2 W (.lst ((Txt.split l0 " ").map V.str))) _
    generalize upd H2 W (.lst ((Txt.split l0 " ").map V.str)) = H3 at P3 hW3 hL3 hq3 bt3 ⊢
    generalize Txt.split l0 " " = ws at hW3 wwt wch ⊢
    clear hW y3
    have wll := wt_len ws
    have wpos : 0 < ws.length := by
      rcases ws with _ | ⟨x, r⟩
      · cases wwt
      · exact Nat.succ_pos _
    refine ⟨_, rfl, _, rfl, W, _, rfl, .inl (SqL.of hW3), p, l, ns, a2, b2, _, rfl, P3, by omega, by rw [List.length_map]; omega, ?_, fun H4 sp a4 b4 s0 s1 h40 h41 bt4 P4 => ?_⟩
    · rw [List.length_map]
      exact Nat.lt_of_le_of_lt (Nat.log2_le_self _) (by omega)
    rw [List.length_map] at s1
    obtain ⟨i, rfl⟩ : ∃ i : Nat, sp = ((i : Nat) : Int) := ⟨sp.toNat, (Int.toNat_of_nonneg s0).symm⟩
    have hL4 := bt4 _ _ nL hL3
    have hq4 := bt4 _ _ nq hq3
    have hW4 := bt4 _ _ nW hW3
    refine ⟨_, rfl, _, rfl, p, l, q, ns, a4, b4, _, rfl, P4, by omega, SqL.of hq4, nq, by rw [List.length_map]; exact som0, by rw [List.length_map]; omega, fun H5 pi v a5 b5 hv h50 h51 bt5 P5 => ⟨_, _, rfl, ?_⟩⟩
    rw [List.getElem?_map] at hv
    obtain ⟨x, hx, rfl⟩ := Option.map_eq_some_iff.mp hv
    have mx : x ∈ som := List.mem_of_getElem? hx
    have xc := (somw x mx).1
    have xl := (somw x mx).2
    have hL5 := bt5 _ _ nL hL4
    have hW5 := bt5 _ _ nW hW4
    have bt : But p H H5 := fun c o n e => bt5 _ _ n (bt4 _ _ n (bt3 _ _ n e))
    -- the end
    have fin : ∀ (G : Hp) (ys : List Str), Same H5 G → (∀ w ∈ ys, ChOk w) → wt ys ≤ pg.length + 42 → ((ys.map (·.length)).sum + ys.length * (Str.ofString "\n").length ≤ 16777216) ∧ Q (.str (Txt.join "\n" ys)) G := fun G ys s hc hw => by
      have z1 := wt_sum ys
      have z2 := join_le (sep := "\n") (s := 10) (ws := ys) rfl
      refine ⟨?_, k G _ a5 b5 (fun c o n e => s _ _ (bt _ _ n e)) ⟨s _ _ P5.pen, s _ _ P5.cells, P5.few, P5.bits, P5.low⟩ (by omega) (by omega) (ch_join (ch_of (by decide +kernel)) hc) (by omega)⟩
      rw [show (Str.ofString "\n").length = 1 from rfl]
      omega
    have finL : ∀ (G : Hp) (n : Str), (∀ c o, c ≠ L → H5 c = some o → G c = some o) → ChOk n → n.length ≤ l0.length + 41 → (((ls.set j n).map (·.length)).sum + (ls.set j n).length * (Str.ofString "\n").length ≤ 16777216) ∧ Q (.str (Txt.join "\n" (ls.set j n))) G := fun G n s hc hn => by
      have z0 := wt_set hl0 n
      have z1 := wt_sum (ls.set j n)
      have z2 := join_le (sep := "\n") (s := 10) (ws := ls.set j n) rfl
      have nH : ∀ {c o}, H c = some o → c ≠ L := fun {c o} e z => by
        rw [z] at e
        exact (ne_of_none e hLn) rfl
      refine ⟨?_, k G _ a5 b5 (fun c o n e => s _ _ (nH e) (bt _ _ n e)) ⟨s _ _ nL.symm P5.pen, s _ _ nLl P5.cells, P5.few, P5.bits, P5.low⟩ (by omega) (by omega) (ch_join (ch_of (by decide +kernel)) fun w hw => ?_) (by omega)⟩
      · rw [show (Str.ofString "\n").length = 1 from rfl]
        omega
      · rcases List.mem_or_eq_of_mem_set hw with h | rfl
        · exact lch w h
        · exact hc
    have ixj : ixN (ls.map V.str).length ((j : Nat) : Int) = some j := by
      unfold ixN
      rw [List.length_map, if_pos (by omega), if_pos (by omega)]
      rfl
    have w2 : wt (ws.take i) + wt (ws.drop i) = l0.length + 1 := by rw [wt_cut, wwt]
    have w3 := wt_step ws i
    have w4 := wt_two ls j
    have w5 := wt_cut ls j
    have w6 := wt_step ls j
    have w7 := wt_cut ls (j + 1)
    have lt1 := wt_len (ws.take i)
    have lt2 := wt_len (ws.drop i)
    have lt3 := wt_len (ws.drop (i + 1))
    have lt4 := wt_len (ls.take j)
    have lt5 := wt_len (ls.drop j)
    have lt6 := wt_len (ls.drop (j + 1))
    have lt7 := wt_len (ls.take (j + 1))
    have lt8 := wt_len ((ls.drop j).take 2).reverse
    have lt9 := wt_len (ls.drop (j + 2))
    have xone := wt_one x
    have cTo : ∀ n : Nat, cutV (ws.map V.str) none (some ((n : Nat) : Int)) = (ws.take n).map V.str := cutS_to ws
    have cFr : ∀ n : Nat, cutV (ws.map V.str) (some ((n : Nat) : Int)) none = (ws.drop n).map V.str := cutS_from ws
    have cFr1 : cutV (ws.map V.str) (some (((i : Nat) : Int) + 1)) none = (ws.drop (i + 1)).map V.str := cutS_from ws (i + 1)
    have dTo : ∀ n : Nat, cutV (ls.map V.str) none (some ((n : Nat) : Int)) = (ls.take n).map V.str := cutS_to ls
    have dTo1 : cutV (ls.map V.str) none (some (((j : Nat) : Int) + 1)) = (ls.take (j + 1)).map V.str := cutS_to ls (j + 1)
    have dFr1 : cutV (ls.map V.str) (some (((j : Nat) : Int) + 1)) none = (ls.drop (j + 1)).map V.str := cutS_from ls (j + 1)
    have dFr2 : cutV (ls.map V.str) (some (((j : Nat) : Int) + 2)) none = (ls.drop (j + 2)).map V.str := cutS_from ls (j + 2)
    have dMid : cutV (ls.map V.str) (some ((j : Nat) : Int)) (some (((j : Nat) : Int) + 2)) = ((ls.drop j).take 2).map V.str := cutS_two ls j
    have m1 : [V.str x] = [x].map V.str := rfl
    have mc := map_cat
    have cj : ∀ {ys : List Str}, (∀ w ∈ ys, ChOk w) → ChOk (Txt.join " " ys) := fun h => ch_join (ch_of (by decide +kernel)) h
    have jle : ∀ ys : List Str, (Txt.join " " ys).length ≤ wt ys - 1 := fun ys => join_le (s := 32) rfl
    have ct : ∀ n, ∀ w ∈ ws.take n, ChOk w := fun n w h => wch w (List.mem_of_mem_take h)
    have cd : ∀ n, ∀ w ∈ ws.drop n, ChOk w := fun n w h => wch w (List.mem_of_mem_drop h)
    have et : ∀ n, ∀ w ∈ ls.take n, ChOk w := fun n w h => lch w (List.mem_of_mem_take h)
    have ed : ∀ n, ∀ w ∈ ls.drop n, ChOk w := fun n w h => lch w (List.mem_of_mem_drop h)
    have em : ∀ w ∈ ((ls.drop j).take 2).reverse, ChOk w := fun w h => lch w (List.mem_of_mem_drop (List.mem_of_mem_take (List.mem_reverse.mp h)))
    have ca : ∀ {u v : List Str}, (∀ w ∈ u, ChOk w) → (∀ w ∈ v, ChOk w) → ∀ w ∈ u ++ v, ChOk w := fun hu hv w h => (List.mem_append.mp h).elim (hu w) (hv w)
    have c1 : ∀ w ∈ [x], ChOk w := fun w h => by rw [List.mem_singleton.mp h]; exact xc
    have no : ∀ {n m : Int} {A B : Prop}, n ≠ m → B → (if decide (V.int n = V.int m) = true then A else B) := fun hne hb => by
      rw [decide_eq_false (fun z => hne (V.int.inj z))]
      exact iteF hb
    have ya : ∀ {n : Int} {A B : Prop}, A → (if decide (V.int n = V.int n) = true then A else B) := fun hb => by
      rw [decide_eq_true rfl]
      exact iteT hb
    have wcase : way = 0 ∨ way = 1 ∨ way = 2 ∨ way = 3 ∨ way = 4 ∨ way = 5 ∨ way = 6 ∨ way = 7 := by omega
    have pl1 : ∀ n : Str, (ls.map V.str).set j (.str n) = (ls.set j n).map V.str := fun n => List.map_set.symm
    rcases wcase with rfl | rfl | rfl | rfl | rfl | rfl | rfl | rfl
    · refine ⟨_, rfl, _, _, rfl, rfl, _, rfl, ite_yes (decide_eq_true (by decide)) ?_⟩
      refine ⟨⟨_, rfl⟩, _, rfl, _, rfl, _, rfl, W, _, rfl, SqL.of hW5, fun r1 hr1 => ?_⟩
      rw [cTo]
      have z1 := Same.lay (o := .lst ((ws.take i).map V.str)) hr1
      refine ⟨_, rfl, (by show 1 ≤ PySem.sizeLine; decide), fun r2 hr2 => ?_⟩
      have z2 := Same.lay (o := .lst [V.str x]) hr2
      refine ⟨r1, r2, _, _, rfl, rfl, z2 _ _ upd_same, upd_same, by rw [List.length_map]; show _ + 1 ≤ _; omega, fun r3 hr3 => ?_⟩
      rw [m1, mc]
      have z3 := Same.lay (o := .lst ((ws.take i ++ [x]).map V.str)) hr3
      refine ⟨_, rfl, _, rfl, _, _, rfl, rfl, _, rfl, W, _, rfl, SqL.of (z3 _ _ (z2 _ _ (z1 _ _ hW5))), fun r4 hr4 => ?_⟩
      rw [cFr1]
      have z4 := Same.lay (o := .lst ((ws.drop (i + 1)).map V.str)) hr4
      refine ⟨r3, r4, _, _, rfl, rfl, z4 _ _ upd_same, upd_same, ?_, fun r5 hr5 => ?_⟩
      · rw [List.length_map, List.length_map, List.length_append]
        show _ + 1 + _ ≤ _
        omega
      rw [mc]
      have z5 := Same.lay (o := .lst ((ws.take i ++ [x] ++ (ws.drop (i + 1))).map V.str)) hr5
      have S : Same H5 _ := fun _ _ z => z5 _ _ (z4 _ _ (z3 _ _ (z2 _ _ (z1 _ _ z))))
      have wY : wt (ws.take i ++ [x] ++ (ws.drop (i + 1))) ≤ l0.length + 42 := by
        rw [wt_app, wt_app]
        omega
      have sY := wt_sum (ws.take i ++ [x] ++ (ws.drop (i + 1)))
      have jY := jle (ws.take i ++ [x] ++ (ws.drop (i + 1)))
      refine ⟨" ", r5, (ws.take i ++ [x] ++ (ws.drop (i + 1))), rfl, rfl, .inl (SqL.of upd_same), ?_, ?_⟩
      · rw [show (Str.ofString " ").length = 1 from rfl]
        omega
      refine ⟨_, rfl, _, rfl, L, _, _, j, rfl, rfl, S _ _ hL5, ixj, ?_⟩
      rw [pl1]
      refine ⟨_, rfl, rfl, _, rfl, no (by decide) ?_⟩
      refine ⟨_, rfl, rfl, _, rfl, no (by decide) ?_⟩
      refine ⟨_, rfl, rfl, _, rfl, no (by decide) ?_⟩
      refine ⟨_, rfl, rfl, _, rfl, no (by decide) ?_⟩
      refine ⟨_, rfl, rfl, _, rfl, no (by decide) ?_⟩
      refine ⟨_, rfl, rfl, _, rfl, no (by decide) ?_⟩
      have f := finL (upd _ L (.lst ((ls.set j (Txt.join " " (ws.take i ++ [x] ++ (ws.drop (i + 1))))).map V.str))) (Txt.join " " (ws.take i ++ [x] ++ (ws.drop (i + 1)))) (fun c o nc e => by rw [upd_ne nc]; exact S _ _ e) (cj (ca (ca (ct i) c1) (cd (i + 1)))) (by omega)
      exact ⟨⟨_, rfl⟩, _, rfl, "\n", L, _, rfl, rfl, .inl (SqL.of upd_same), f.1, f.2⟩
    · refine ⟨_, rfl, _, _, rfl, rfl, _, rfl, ite_yes (decide_eq_true (by decide)) ?_⟩
      refine ⟨⟨_, rfl⟩, _, rfl, _, rfl, _, rfl, W, _, rfl, SqL.of hW5, fun r1 hr1 => ?_⟩
      rw [cTo]
      have z1 := Same.lay (o := .lst ((ws.take i).map V.str)) hr1
      refine ⟨_, rfl, (by show 1 ≤ PySem.sizeLine; decide), fun r2 hr2 => ?_⟩
      have z2 := Same.lay (o := .lst [V.str x]) hr2
      refine ⟨r1, r2, _, _, rfl, rfl, z2 _ _ upd_same, upd_same, by rw [List.length_map]; show _ + 1 ≤ _; omega, fun r3 hr3 => ?_⟩
      rw [m1, mc]
      have z3 := Same.lay (o := .lst ((ws.take i ++ [x]).map V.str)) hr3
      refine ⟨_, rfl, _, rfl, _, _, rfl, rfl, _, rfl, W, _, rfl, SqL.of (z3 _ _ (z2 _ _ (z1 _ _ hW5))), fun r4 hr4 => ?_⟩
      rw [cFr1]
      have z4 := Same.lay (o := .lst ((ws.drop (i + 1)).map V.str)) hr4
      refine ⟨r3, r4, _, _, rfl, rfl, z4 _ _ upd_same, upd_same, ?_, fun r5 hr5 => ?_⟩
      · rw [List.length_map, List.length_map, List.length_append]
        show _ + 1 + _ ≤ _
        omega
      rw [mc]
      have z5 := Same.lay (o := .lst ((ws.take i ++ [x] ++ (ws.drop (i + 1))).map V.str)) hr5
      have S : Same H5 _ := fun _ _ z => z5 _ _ (z4 _ _ (z3 _ _ (z2 _ _ (z1 _ _ z))))
      have wY : wt (ws.take i ++ [x] ++ (ws.drop (i + 1))) ≤ l0.length + 42 := by
        rw [wt_app, wt_app]
        omega
      have sY := wt_sum (ws.take i ++ [x] ++ (ws.drop (i + 1)))
      have jY := jle (ws.take i ++ [x] ++ (ws.drop (i + 1)))
      refine ⟨" ", r5, (ws.take i ++ [x] ++ (ws.drop (i + 1))), rfl, rfl, .inl (SqL.of upd_same), ?_, ?_⟩
      · rw [show (Str.ofString " ").length = 1 from rfl]
        omega
      refine ⟨_, rfl, _, rfl, L, _, _, j, rfl, rfl, S _ _ hL5, ixj, ?_⟩
      rw [pl1]
      refine ⟨_, rfl, rfl, _, rfl, no (by decide) ?_⟩
      refine ⟨_, rfl, rfl, _, rfl, no (by decide) ?_⟩
      refine ⟨_, rfl, rfl, _, rfl, no (by decide) ?_⟩
      refine ⟨_, rfl, rfl, _, rfl, no (by decide) ?_⟩
      refine ⟨_, rfl, rfl, _, rfl, no (by decide) ?_⟩
      refine ⟨_, rfl, rfl, _, rfl, no (by decide) ?_⟩
      have f := finL (upd _ L (.lst ((ls.set j (Txt.join " " (ws.take i ++ [x] ++ (ws.drop (i + 1))))).map V.str))) (Txt.join " " (ws.take i ++ [x] ++ (ws.drop (i + 1)))) (fun c o nc e => by rw [upd_ne nc]; exact S _ _ e) (cj (ca (ca (ct i) c1) (cd (i + 1)))) (by omega)
      exact ⟨⟨_, rfl⟩, _, rfl, "\n", L, _, rfl, rfl, .inl (SqL.of upd_same), f.1, f.2⟩
    · refine ⟨_, rfl, _, _, rfl, rfl, _, rfl, ite_no (decide_eq_false (by decide)) ?_⟩
      refine ⟨_, rfl, rfl, _, rfl, ya ?_⟩
      refine ⟨⟨_, rfl⟩, _, rfl, _, rfl, _, rfl, W, _, rfl, SqL.of hW5, fun r1 hr1 => ?_⟩
      rw [cTo]
      have z1 := Same.lay (o := .lst ((ws.take i).map V.str)) hr1
      refine ⟨_, rfl, (by show 1 ≤ PySem.sizeLine; decide), fun r2 hr2 => ?_⟩
      have z2 := Same.lay (o := .lst [V.str x]) hr2
      refine ⟨r1, r2, _, _, rfl, rfl, z2 _ _ upd_same, upd_same, by rw [List.length_map]; show _ + 1 ≤ _; omega, fun r3 hr3 => ?_⟩
      rw [m1, mc]
      have z3 := Same.lay (o := .lst ((ws.take i ++ [x]).map V.str)) hr3
      refine ⟨_, rfl, _, rfl, _, rfl, W, _, rfl, SqL.of (z3 _ _ (z2 _ _ (z1 _ _ hW5))), fun r4 hr4 => ?_⟩
      rw [cFr]
      have z4 := Same.lay (o := .lst ((ws.drop i).map V.str)) hr4
      refine ⟨r3, r4, _, _, rfl, rfl, z4 _ _ upd_same, upd_same, ?_, fun r5 hr5 => ?_⟩
      · rw [List.length_map, List.length_map, List.length_append]
        show _ + 1 + _ ≤ _
        omega
      rw [mc]
      have z5 := Same.lay (o := .lst ((ws.take i ++ [x] ++ (ws.drop i)).map V.str)) hr5
      have S : Same H5 _ := fun _ _ z => z5 _ _ (z4 _ _ (z3 _ _ (z2 _ _ (z1 _ _ z))))
      have wY : wt (ws.take i ++ [x] ++ (ws.drop i)) ≤ l0.length + 42 := by
        rw [wt_app, wt_app]
        omega
      have sY := wt_sum (ws.take i ++ [x] ++ (ws.drop i))
      have jY := jle (ws.take i ++ [x] ++ (ws.drop i))
      refine ⟨" ", r5, (ws.take i ++ [x] ++ (ws.drop i)), rfl, rfl, .inl (SqL.of upd_same), ?_, ?_⟩
      · rw [show (Str.ofString " ").length = 1 from rfl]
        omega
      refine ⟨_, rfl, _, rfl, L, _, _, j, rfl, rfl, S _ _ hL5, ixj, ?_⟩
      rw [pl1]
      refine ⟨_, rfl, rfl, _, rfl, no (by decide) ?_⟩
      refine ⟨_, rfl, rfl, _, rfl, no (by decide) ?_⟩
      refine ⟨_, rfl, rfl, _, rfl, no (by decide) ?_⟩
      refine ⟨_, rfl, rfl, _, rfl, no (by decide) ?_⟩
      refine ⟨_, rfl, rfl, _, rfl, no (by decide) ?_⟩
      have f := finL (upd _ L (.lst ((ls.set j (Txt.join " " (ws.take i ++ [x] ++ (ws.drop i)))).map V.str))) (Txt.join " " (ws.take i ++ [x] ++ (ws.drop i))) (fun c o nc e => by rw [upd_ne nc]; exact S _ _ e) (cj (ca (ca (ct i) c1) (cd i))) (by omega)
      exact ⟨⟨_, rfl⟩, _, rfl, "\n", L, _, rfl, rfl, .inl (SqL.of upd_same), f.1, f.2⟩
    · refine ⟨_, rfl, _, _, rfl, rfl, _, rfl, ite_no (decide_eq_false (by decide)) ?_⟩
      refine ⟨_, rfl, rfl, _, rfl, no (by decide) ?_⟩
      refine ⟨_, rfl, rfl, _, rfl, ya ?_⟩
      refine ⟨⟨_, rfl⟩, _, rfl, _, rfl, _, rfl, W, _, rfl, SqL.of hW5, fun r1 hr1 => ?_⟩
      rw [cTo]
      have z1 := Same.lay (o := .lst ((ws.take i).map V.str)) hr1
      refine ⟨_, rfl, _, rfl, _, _, rfl, rfl, _, rfl, W, _, rfl, SqL.of (z1 _ _ hW5), fun r4 hr4 => ?_⟩
      rw [cFr1]
      have z4 := Same.lay (o := .lst ((ws.drop (i + 1)).map V.str)) hr4
      refine ⟨r1, r4, _, _, rfl, rfl, z4 _ _ upd_same, upd_same, ?_, fun r5 hr5 => ?_⟩
      · rw [List.length_map, List.length_map]
        omega
      rw [mc]
      have z5 := Same.lay (o := .lst ((ws.take i ++ ws.drop (i + 1)).map V.str)) hr5
      have S : Same H5 _ := fun _ _ z => z5 _ _ (z4 _ _ (z1 _ _ z))
      have wY : wt (ws.take i ++ ws.drop (i + 1)) ≤ l0.length + 42 := by
        rw [wt_app]
        omega
      have sY := wt_sum (ws.take i ++ ws.drop (i + 1))
      have jY := jle (ws.take i ++ ws.drop (i + 1))
      refine ⟨" ", r5, (ws.take i ++ ws.drop (i + 1)), rfl, rfl, .inl (SqL.of upd_same), ?_, ?_⟩
      · rw [show (Str.ofString " ").length = 1 from rfl]
        omega
      refine ⟨_, rfl, _, rfl, L, _, _, j, rfl, rfl, S _ _ hL5, ixj, ?_⟩
      rw [pl1]
      refine ⟨_, rfl, rfl, _, rfl, no (by decide) ?_⟩
      refine ⟨_, rfl, rfl, _, rfl, no (by decide) ?_⟩
      refine ⟨_, rfl, rfl, _, rfl, no (by decide) ?_⟩
      refine ⟨_, rfl, rfl, _, rfl, no (by decide) ?_⟩
      have f := finL (upd _ L (.lst ((ls.set j (Txt.join " " (ws.take i ++ ws.drop (i + 1)))).map V.str))) (Txt.join " " (ws.take i ++ ws.drop (i + 1))) (fun c o nc e => by rw [upd_ne nc]; exact S _ _ e) (cj (ca (ct i) (cd (i + 1)))) (by omega)
      exact ⟨⟨_, rfl⟩, _, rfl, "\n", L, _, rfl, rfl, .inl (SqL.of upd_same), f.1, f.2⟩
    · refine ⟨_, rfl, _, _, rfl, rfl, _, rfl, ite_no (decide_eq_false (by decide)) ?_⟩
      refine ⟨_, rfl, rfl, _, rfl, no (by decide) ?_⟩
      refine ⟨_, rfl, rfl, _, rfl, no (by decide) ?_⟩
      refine ⟨_, rfl, rfl, _, rfl, ya ?_⟩
      refine ⟨_, rfl, _, rfl, _, rfl, L, _, rfl, SqL.of hL5, fun r1 hr1 => ?_⟩
      rw [dTo]
      have z1 := Same.lay (o := .lst ((ls.take j).map V.str)) hr1
      refine ⟨_, rfl, _, rfl, _, _, rfl, rfl, _, rfl, L, _, rfl, SqL.of (z1 _ _ hL5), fun r2 hr2 => ?_⟩
      rw [dFr1]
      have z2 := Same.lay (o := .lst ((ls.drop (j + 1)).map V.str)) hr2
      refine ⟨r1, r2, _, _, rfl, rfl, z2 _ _ upd_same, upd_same, ?_, fun r3 hr3 => ?_⟩
      · rw [List.length_map, List.length_map]
        omega
      rw [mc]
      have z3 := Same.lay (o := .lst ((ls.take j ++ ls.drop (j + 1)).map V.str)) hr3
      have f := fin _ (ls.take j ++ ls.drop (j + 1)) (fun _ _ z => z3 _ _ (z2 _ _ (z1 _ _ z))) (ca (et j) (ed (j + 1))) (by rw [wt_app]; omega)
      refine ⟨_, rfl, rfl, _, rfl, no (by decide) ?_⟩
      refine ⟨_, rfl, rfl, _, rfl, no (by decide) ?_⟩
      refine ⟨_, rfl, rfl, _, rfl, no (by decide) ?_⟩
      exact ⟨⟨_, rfl⟩, _, rfl, "\n", r3, _, rfl, rfl, .inl (SqL.of upd_same), f.1, f.2⟩
    · refine ⟨_, rfl, _, _, rfl, rfl, _, rfl, ite_no (decide_eq_false (by decide)) ?_⟩
      refine ⟨_, rfl, rfl, _, rfl, no (by decide) ?_⟩
      refine ⟨_, rfl, rfl, _, rfl, no (by decide) ?_⟩
      refine ⟨_, rfl, rfl, _, rfl, no (by decide) ?_⟩
      refine ⟨_, rfl, rfl, _, rfl, ya ?_⟩
      refine ⟨_, rfl, _, rfl, _, _, rfl, rfl, _, rfl, L, _, rfl, SqL.of hL5, fun r1 hr1 => ?_⟩
      rw [dTo1]
      have z1 := Same.lay (o := .lst ((ls.take (j + 1)).map V.str)) hr1
      refine ⟨_, rfl, (by show 1 ≤ PySem.sizeLine; decide), fun r2 hr2 => ?_⟩
      have z2 := Same.lay (o := .lst [V.str x]) hr2
      refine ⟨r1, r2, _, _, rfl, rfl, z2 _ _ upd_same, upd_same, by rw [List.length_map]; show _ + 1 ≤ _; omega, fun r3 hr3 => ?_⟩
      rw [m1, mc]
      have z3 := Same.lay (o := .lst ((ls.take (j + 1) ++ [x]).map V.str)) hr3
      refine ⟨_, rfl, _, rfl, _, _, rfl, rfl, _, rfl, L, _, rfl, SqL.of (z3 _ _ (z2 _ _ (z1 _ _ hL5))), fun r4 hr4 => ?_⟩
      rw [dFr1]
      have z4 := Same.lay (o := .lst ((ls.drop (j + 1)).map V.str)) hr4
      refine ⟨r3, r4, _, _, rfl, rfl, z4 _ _ upd_same, upd_same, ?_, fun r5 hr5 => ?_⟩
      · rw [List.length_map, List.length_map, List.length_append]
        show _ + 1 + _ ≤ _
        omega
      rw [mc]
      have z5 := Same.lay (o := .lst ((ls.take (j + 1) ++ [x] ++ ls.drop (j + 1)).map V.str)) hr5
      have f := fin _ (ls.take (j + 1) ++ [x] ++ ls.drop (j + 1)) (fun _ _ z => z5 _ _ (z4 _ _ (z3 _ _ (z2 _ _ (z1 _ _ z))))) (ca (ca (et (j + 1)) c1) (ed (j + 1))) (by rw [wt_app, wt_app]; omega)
      refine ⟨_, rfl, rfl, _, rfl, no (by decide) ?_⟩
      refine ⟨_, rfl, rfl, _, rfl, no (by decide) ?_⟩
      exact ⟨⟨_, rfl⟩, _, rfl, "\n", r5, _, rfl, rfl, .inl (SqL.of upd_same), f.1, f.2⟩
    · refine ⟨_, rfl, _, _, rfl, rfl, _, rfl, ite_no (decide_eq_false (by decide)) ?_⟩
      refine ⟨_, rfl, rfl, _, rfl, no (by decide) ?_⟩
      refine ⟨_, rfl, rfl, _, rfl, no (by decide) ?_⟩
      refine ⟨_, rfl, rfl, _, rfl, no (by decide) ?_⟩
      refine ⟨_, rfl, rfl, _, rfl, no (by decide) ?_⟩
      refine ⟨_, rfl, rfl, _, rfl, ya ?_⟩
      refine ⟨_, rfl, _, rfl, L, _, _, .str l0, rfl, rfl, SqL.of hL5, atI_nat (by rw [List.getElem?_map, hl0]; rfl), l0, " ", rfl, rfl, by rw [sp1]; omega, _, rfl, _, x, rfl, rfl, by rw [PySem.Str.length_append, sp1]; omega, ?_⟩
      refine ⟨_, rfl, _, rfl, L, _, _, j, rfl, rfl, hL5, ixj, ?_⟩
      rw [pl1]
      have S : Same H5 H5 := Same.refl _
      refine ⟨_, rfl, rfl, _, rfl, no (by decide) ?_⟩
      have f := finL (upd _ L (.lst ((ls.set j (l0 ++ Str.ofString " " ++ x)).map V.str))) (l0 ++ Str.ofString " " ++ x) (fun c o nc e => by rw [upd_ne nc]; exact S _ _ e) (ch_app (ch_app (lch l0 ml0) (ch_of (by decide +kernel))) xc) (by rw [PySem.Str.length_append, PySem.Str.length_append, sp1]; omega)
      exact ⟨⟨_, rfl⟩, _, rfl, "\n", L, _, rfl, rfl, .inl (SqL.of upd_same), f.1, f.2⟩
    · refine ⟨_, rfl, _, _, rfl, rfl, _, rfl, ite_no (decide_eq_false (by decide)) ?_⟩
      refine ⟨_, rfl, rfl, _, rfl, no (by decide) ?_⟩
      refine ⟨_, rfl, rfl, _, rfl, no (by decide) ?_⟩
      refine ⟨_, rfl, rfl, _, rfl, no (by decide) ?_⟩
      refine ⟨_, rfl, rfl, _, rfl, no (by decide) ?_⟩
      refine ⟨_, rfl, rfl, _, rfl, no (by decide) ?_⟩
      refine ⟨_, rfl, rfl, _, rfl, ya ?_⟩
      refine ⟨_, rfl, _, rfl, _, rfl, L, _, rfl, SqL.of hL5, fun r1 hr1 => ?_⟩
      rw [dTo]
      have z1 := Same.lay (o := .lst ((ls.take j).map V.str)) hr1
      refine ⟨_, rfl, _, rfl, _, rfl, _, rfl, _, _, rfl, rfl, _, rfl, L, _, rfl, SqL.of (z1 _ _ hL5), fun r2 hr2 => ?_⟩
      rw [dMid]
      have z2 := Same.lay (o := .lst (((ls.drop j).take 2).map V.str)) hr2
      refine ⟨r2, _, rfl, SqL.of upd_same, fun r3 hr3 => ?_⟩
      rw [← List.map_reverse]
      have z3 := Same.lay (o := .lst ((((ls.drop j).take 2).reverse).map V.str)) hr3
      refine ⟨r1, r3, _, _, rfl, rfl, z3 _ _ (z2 _ _ upd_same), upd_same, ?_, fun r4 hr4 => ?_⟩
      · rw [List.length_map, List.length_map]
        omega
      rw [mc]
      have z4 := Same.lay (o := .lst ((ls.take j ++ ((ls.drop j).take 2).reverse).map V.str)) hr4
      refine ⟨_, rfl, _, rfl, _, _, rfl, rfl, _, rfl, L, _, rfl, SqL.of (z4 _ _ (z3 _ _ (z2 _ _ (z1 _ _ hL5)))), fun r5 hr5 => ?_⟩
      rw [dFr2]
      have z5 := Same.lay (o := .lst ((ls.drop (j + 2)).map V.str)) hr5
      refine ⟨r4, r5, _, _, rfl, rfl, z5 _ _ upd_same, upd_same, ?_, fun r6 hr6 => ?_⟩
      · rw [List.length_map, List.length_map, List.length_append]
        omega
      rw [mc]
      have z6 := Same.lay (o := .lst ((ls.take j ++ ((ls.drop j).take 2).reverse ++ ls.drop (j + 2)).map V.str)) hr6
      have f := fin _ (ls.take j ++ ((ls.drop j).take 2).reverse ++ ls.drop (j + 2)) (fun _ _ z => z6 _ _ (z5 _ _ (z4 _ _ (z3 _ _ (z2 _ _ (z1 _ _ z)))))) (ca (ca (et j) em) (ed (j + 2))) (by rw [wt_app, wt_app]; omega)
      exact ⟨⟨_, rfl⟩, _, rfl, "\n", r6, _, rfl, rfl, .inl (SqL.of upd_same), f.1, f.2⟩
end
end Toy
set_option maxRecDepth 100000
namespace Toy
open PySem L2 TL LamX ClX StX
abbrev s_law : Stmt := top 45
def spTabs (K : PySem.W.Frag) (ts : List (Addr × Addr)) : Sp := fun vs H Q _ => ∃ (a : Addr) (ns : List Int), vs = [.ref a] ∧ SqL K H a (ns.map V.int) ∧ ns.length ≤ 63 ∧ (∀ z ∈ ns, Builtin.Int.intBits z ≤ 1048576) ∧ (∀ p ∈ ts, H p.2 = some (.tbl #[])) ∧ ∀ H', Q (.bl true) H'
/-! what is written is read -/
theorem met_free (b : Bool) {s : Nat} (h : s = 10 ∨ s = 32) : s ∉ tl (metT b) := by
  rcases h with rfl | rfl <;> cases b <;> decide +kernel
theorem words_line {e : Ent} : wordsT (lineT e) = [numT e.1, numT e.2.1, metT e.2.2] := by
  rw [line_join]
  refine TL.split_join (y := (" " : Str)) (s := 32) (S := []) (by decide +kernel) (by decide +kernel) (by simp) fun p hp => ?_
  simp only [List.mem_cons, List.not_mem_nil, or_false] at hp
  rcases hp with rfl | rfl | rfl
  · rw [tl_numT]
    exact numL_free (.inl (by decide))
  · rw [tl_numT]
    exact numL_free (.inl (by decide))
  · exact met_free _ (.inr rfl)
theorem line_free (e : Ent) : 10 ∉ tl (lineT e) := by
  rw [line_join, TL.join_eq, TL.tl_join]
  intro h
  rcases ch_mem_joinL h with h1 | ⟨p, hp, h2⟩
  · exact absurd h1 (by decide +kernel)
  · obtain ⟨w, hw, rfl⟩ := List.mem_map.mp hp
    simp only [List.mem_cons, List.not_mem_nil, or_false] at hw
    rcases hw with rfl | rfl | rfl
    · rw [tl_numT] at h2
      exact numL_free (.inl (by decide)) h2
    · rw [tl_numT] at h2
      exact numL_free (.inl (by decide)) h2
    · exact met_free _ (.inl rfl) h2
theorem lines_page {es : List Ent} (h : es ≠ []) : linesT (pageT es) = es.map lineT := by
  unfold pageT
  rw [show es.isEmpty = false from by cases es with | nil => exact absurd rfl h | cons _ _ => rfl]
  refine TL.split_join (y := ("\n" : Str)) (s := 10) (S := []) (by decide +kernel) (by decide +kernel) (fun z => h (List.map_eq_nil_iff.mp z)) fun p hp => ?_
  obtain ⟨e, _, rfl⟩ := List.mem_map.mp hp
  exact line_free e
theorem entry_line {e : Ent} (o : EntOk e) : entryW (wordsT (lineT e)) = .inr e := by
  rw [words_line]
  unfold entryW
  show (match numW (10 ^ 30) (numT e.1), numW (10 ^ 30) (numT e.2.1) with | none, _ => _ | some _, none => _ | some a, some b => _) = _
  rw [numW_num o.1, numW_num o.2]
  obtain ⟨a, b, c⟩ := e
  cases c <;> rfl
theorem rows_page : ∀ {es acc : List Ent}, (∀ e ∈ es, EntOk e) → rowsA acc (es.map lineT) = .inr (acc ++ es)
  | [], acc, _ => by rw [List.append_nil]; rfl
  | e :: r, acc, h => by
    show (match entryW (wordsT (lineT e)) with | .inl k => Sum.inl (acc.length, k) | .inr e => rowsA (acc ++ [e]) (r.map lineT)) = _
    rw [entry_line (h e List.mem_cons_self)]
    show rowsA (acc ++ [e]) (r.map lineT) = _
    rw [rows_page fun x hx => h x (List.mem_cons_of_mem _ hx), List.append_assoc]
    rfl
theorem read_page {es : List Ent} (h : ∀ e ∈ es, EntOk e) : readP (pageT es) = .inr es := by
  by_cases ne : es = []
  · subst ne
    decide +kernel
  · unfold readP
    rw [lines_page ne]
    cases es with
    | nil => exact absurd rfl ne
    | cons e r =>
      rw [if_neg, rows_page h]
      · rfl
      · show ¬ (wordsT (lineT e)).head? = _
        rw [words_line]
        intro z
        have z1 := congrArg tl (Option.some.inj z)
        rw [tl_numT] at z1
        have := numL_digits e.1 45 (by rw [z1]; decide +kernel)
        omega
theorem page_len {es : List Ent} (h : ∀ e ∈ es, EntOk e) : (pageT es).length ≤ 101 * es.length + 1 := by
  by_cases ne : es = []
  · subst ne
    decide +kernel
  · have e1 := split_wt (a := pageT es) (sep := "\n") (s := 10) rfl
    have e2 : Txt.split (pageT es) "\n" = es.map lineT := lines_page ne
    rw [e2] at e1
    have e3 := wt_sum (es.map lineT)
    have e4 := lines_sum h
    rw [List.length_map] at e3
    omega
theorem page_ch (es : List Ent) : ChOk (pageT es) := by
  have hl : ∀ e : Ent, ChOk (lineT e) := fun e => by
    rw [line_join]
    refine ch_join (ch_of (by decide +kernel)) fun w hw => ?_
    have hn : ∀ n, ChOk (numT n) := fun n c hc => by
      rw [tl_numT] at hc
      have := numL_digits n c hc
      omega
    simp only [List.mem_cons, List.not_mem_nil, or_false] at hw
    rcases hw with rfl | rfl | rfl
    · exact hn _
    · exact hn _
    · cases e.2.2 <;> exact ch_of (by decide +kernel)
  unfold pageT
  split
  · exact ch_of (by decide +kernel)
  · refine ch_join (ch_of (by decide +kernel)) fun w hw => ?_
    obtain ⟨e, _, rfl⟩ := List.mem_map.mp hw
    exact hl e
theorem lines_le (a : Str) : (linesT a).length ≤ a.length + 1 := by
  have e1 := split_wt (a := a) (sep := "\n") (s := 10) rfl
  have e2 := wt_len (Txt.split a "\n")
  show (Txt.split a "\n").length ≤ _
  omega
/-! what stays -/
def Fut (p : Addr) (H G : Hp) : Prop := ∀ b o, b ≠ p → H b = some o → (∀ ps, o ≠ .tbl ps) → G b = some o
theorem Fut.refl (p : Addr) (H : Hp) : Fut p H H := fun _ _ _ h _ => h
theorem Fut.of {p : Addr} {H G : Hp} (s : Same H G) : Fut p H G := fun b o _ h _ => s b o h
theorem Fut.but {p : Addr} {H G : Hp} (s : But p H G) : Fut p H G := fun b o n h _ => s b o n h
theorem Fut.ext {p : Addr} {H G : Hp} (s : ExtN H G) : Fut p H G := fun b o _ h z => s b o h z
theorem Fut.trans {p : Addr} {H G J : Hp} (f : Fut p H G) (g : Fut p G J) : Fut p H J := fun b o n h z => g b o n (f b o n h z) z
theorem Fut.tup {p : Addr} {H G : Hp} {xs ys : List V} {t : Addr} (f : Fut p H G) (hp : H p = some (.lst xs)) (h : H t = some (.tup ys)) : G t = some (.tup ys) := f t _ (fun z => by rw [z, hp] at h; cases h) h fun _ z => by cases z
theorem Fut.ins {p : Addr} {H G : Hp} {xs : List V} {t C dx : Addr} {fs : List (Str × V)} (f : Fut p H G) (hp : H p = some (.lst xs)) (h : H t = some (.ins C dx fs)) : G t = some (.ins C dx fs) := f t _ (fun z => by rw [z, hp] at h; cases h) h fun _ z => by cases z
theorem Fut.lst {p : Addr} {H G : Hp} {ys : List V} {t : Addr} (f : Fut p H G) (n : t ≠ p) (h : H t = some (.lst ys)) : G t = some (.lst ys) := f t _ n h fun _ z => by cases z
theorem Fut.dk {p : Addr} {H G : Hp} {kv : List (Key × V)} {t : Addr} (f : Fut p H G) (n : t ≠ p) (h : H t = some (.dK kv)) : G t = some (.dK kv) := f t _ n h fun _ z => by cases z
theorem pen_ext {H H' : Hp} {p l : Addr} {ns : List Int} {a b : Int} (e : ExtN H H') (P : PenAt H p l ns a b) : PenAt H' p l ns a b := ⟨e _ _ P.pen (fun _ z => by cases z), e _ _ P.cells (fun _ z => by cases z), P.few, P.bits, P.low⟩
theorem pen_same {H H' : Hp} {p l : Addr} {ns : List Int} {a b : Int} (s : Same H H') (P : PenAt H p l ns a b) : PenAt H' p l ns a b := ⟨s _ _ P.pen, s _ _ P.cells, P.few, P.bits, P.low⟩
theorem tabs_but {p : Addr} {T : List (Addr × Str)} {G G' : Hp} {xs : List V} (hp : G p = some (.lst xs)) (bt : But p G G') (t : Tabs T G) : Tabs T G' := fun y hy => by
  obtain ⟨ps, h1, h2, h3⟩ := t y hy
  refine ⟨ps, bt _ _ (fun z => ?_) h1, h2, fun pos cv hc => ?_⟩
  · rw [z, hp] at h1
    cases h1
  · obtain ⟨c, e1, e2⟩ := h3 pos cv hc
    refine ⟨c, e1, bt _ _ (fun z => ?_) e2⟩
    rw [z, hp] at e2
    have e3 : HO.lst xs = HO.ext _ := Option.some.inj e2
    cases e3
theorem log_fut {C p m : Addr} {H G : Hp} {xs : List V} {es : List Ent} (hp : H p = some (.lst xs)) (f : Fut p H G) (h : LogAt C H m es) : LogAt C G m es :=
  let ⟨dx, po, rs, h1, h2, h3⟩ := h
  ⟨dx, po, rs, f.ins hp h1, f.tup hp h2, h3.keep fun _ _ z => f.tup hp z⟩
/-- pairs of an entry and its line -/
inductive PrsAt (G : Hp) : List V → List Ent → Prop where
  | nil : PrsAt G [] []
  | cons {T t : Addr} {e : Ent} {r : List V} {es : List Ent} (h : G T = some (.tup [.ref t, .str (lineT e)])) (h2 : G t = some (.tup (entV e))) (o : EntOk e) (k : PrsAt G r es) : PrsAt G (.ref T :: r) (e :: es)
theorem PrsAt.keep {G G' : Hp} {rs : List V} {es : List Ent} (k : ∀ t xs, G t = some (.tup xs) → G' t = some (.tup xs)) (h : PrsAt G rs es) : PrsAt G' rs es := by
  induction h with
  | nil => exact .nil
  | cons h h2 o _ ih => exact .cons (k _ _ h) (k _ _ h2) o ih
theorem PrsAt.append {G : Hp} {rs rs' : List V} {es es' : List Ent} (h : PrsAt G rs es) (k : PrsAt G rs' es') : PrsAt G (rs ++ rs') (es ++ es') := by
  induction h with
  | nil => exact k
  | cons h h2 o _ ih => exact .cons h h2 o ih
theorem PrsAt.len {G : Hp} {rs : List V} {es : List Ent} (h : PrsAt G rs es) : rs.length = es.length := by
  induction h with
  | nil => rfl
  | cons h h2 o _ ih => rw [List.length_cons, List.length_cons, ih]
theorem PrsAt.oks {G : Hp} {rs : List V} {es : List Ent} (h : PrsAt G rs es) : ∀ e ∈ es, EntOk e := by
  induction h with
  | nil => exact fun _ z => nomatch z
  | cons h h2 o _ ih => exact fun e he => (List.mem_cons.mp he).elim (fun z => by rw [z]; exact o) (ih e)
theorem PrsAt.get {G : Hp} {rs : List V} {es : List Ent} (h : PrsAt G rs es) {i : Nat} {v : V} (hv : rs[i]? = some v) : ∃ T t e, v = .ref T ∧ es[i]? = some e ∧ G T = some (.tup [.ref t, .str (lineT e)]) ∧ G t = some (.tup (entV e)) ∧ EntOk e := by
  induction h generalizing i with
  | nil => cases hv
  | cons h h2 o _ ih =>
    cases i with
    | zero =>
      cases hv
      exact ⟨_, _, _, rfl, rfl, h, h2, o⟩
    | succ i => exact ih hv
def prD (e : Ent) : PyData := .tuple [entD e, .str (lineT e)]
theorem PrsAt.dp {K : PySem.W.Frag} {G : Hp} {rs : List V} {es : List Ent} (h : PrsAt G rs es) : DpAll K G rs (es.map prD) := by
  induction h with
  | nil => exact .nil
  | cons h h2 o _ ih => exact .cons (.tup (SqT.of h) (.cons (.tup (SqT.of h2) (.cons (.int _) (.cons (.int _) (.cons (.bl _) .nil)))) (.cons (.str _) .nil))) ih
theorem ch_str {w : Str} (h : ChOk w) : PyData.strOk w = true := by
  unfold PyData.strOk
  rw [← Array.all_toList]
  exact List.all_eq_true.mpr fun c hc => decide_eq_true (h c hc)
theorem ch_line (e : Ent) : ChOk (lineT e) := by
  have h := page_ch [e]
  exact h
theorem prs_shaped (es : List Ent) : SeqAt.shaped (.list (es.map prD)) = true := by
  have z : ∀ es : List Ent, PyData.canLayAll0 (es.map prD) = true ∧ PyData.depthAll (es.map prD) ≤ 2 := by
    intro es
    induction es with
    | nil => exact ⟨rfl, Nat.zero_le _⟩
    | cons x r ih =>
      obtain ⟨i1, i2⟩ := ih
      have s := ch_str (ch_line x)
      refine ⟨?_, ?_⟩
      · simp [prD, entD, PyData.canLayAll0, PyData.canLay0, i1, s]
      · have : PyData.depthAll ((x :: r).map prD) = max (prD x).depth (PyData.depthAll (r.map prD)) := by simp [PyData.depthAll]
        rw [this]
        have e : (prD x).depth = 2 := by simp [prD, entD, PyData.depth, PyData.depthAll]
        omega
  obtain ⟨z1, z2⟩ := z es
  have e : (PyData.list (es.map prD)).depth = 1 + PyData.depthAll (es.map prD) := by simp [PyData.depth, Nat.add_comm]
  have c : (PyData.list (es.map prD)).canLay0 = true := by simp [PyData.canLay0, z1]
  unfold SeqAt.shaped
  rw [c, e]
  exact decide_eq_true (by omega)
def someW : List Str := ["", "-", "0", "1", "met", "apart", "01", "-1", "a", Str.ofString (toString ((10 : Int) ^ (30 : Int).toNat)), Str.ofString (toString ((10 : Int) ^ (30 : Int).toNat + 1)), "0 0 met", "met met"]
theorem some_ok : ∀ w ∈ someW, ChOk w ∧ w.length ≤ 40 := by
  have h : someW.all (fun w => chB w && decide (w.length ≤ 40)) = true := by decide +kernel
  intro w hw
  obtain ⟨h1, h2⟩ := Bool.and_eq_true_iff.mp (List.all_eq_true.mp h w hw)
  exact ⟨ch_of h1, of_decide_eq_true h2⟩
def fixE (n : Nat) : List Ent := (List.range n).map fun i => (i, i + 4, true)
def dblE : Nat → List Ent
  | 0 => fixE 24
  | j + 1 => dblE j ++ dblE j
theorem dbl_len : ∀ j, (dblE j).length = 24 * 2 ^ j
  | 0 => rfl
  | j + 1 => by
    show (dblE j ++ dblE j).length = _
    rw [List.length_append, dbl_len j, Nat.pow_succ]
    omega
def fixW : List Str := ["", "-", "- ", "-\n", "- -", "0 1 met\n", "0 1", "0 1 met 0", "0 1 met\n-", "0 1 true"]
theorem fix_ok : ∀ w ∈ fixW, OkS w ∧ w.length ≤ 40 := by
  have h : fixW.all (fun w => chB w && decide (w.length ≤ 40)) = true := by decide +kernel
  intro w hw
  obtain ⟨h1, h2⟩ := Bool.and_eq_true_iff.mp (List.all_eq_true.mp h w hw)
  have h3 := of_decide_eq_true h2
  exact ⟨⟨ch_of h1, by omega⟩, h3⟩
def isRead (a : Str) : Bool := match readP a with
  | .inr _ => true
  | .inl _ => false
def accR (i : Nat) : List Int := ((List.range i).filter fun j => isRead (fixW.getD j "")).map fun j => ((j : Nat) : Int)
theorem acc10 : accR 10 = [1] := by decide +kernel
theorem acc_succ (i : Nat) : accR (i + 1) = if isRead (fixW.getD i "") = true then accR i ++ [((i : Nat) : Int)] else accR i := by
  unfold accR
  rw [List.range_succ, List.filter_append, List.map_append]
  by_cases c : isRead (fixW.getD i "") = true
  · rw [if_pos c, show List.filter (fun j => isRead (fixW.getD j "")) [i] = [i] from by simp only [List.filter, c]]
    rfl
  · have c := Bool.not_eq_true _ ▸ c
    rw [if_neg (by rw [c]; exact Bool.false_ne_true), show List.filter (fun j => isRead (fixW.getD j "")) [i] = [] from by simp only [List.filter, c], List.map_nil, List.append_nil]
theorem acc_len (i : Nat) : (accR i).length ≤ i := by
  unfold accR
  rw [List.length_map]
  exact Nat.le_trans (List.length_filter_le ..) (by rw [List.length_range]; exact Nat.le_refl _)
def dueD : PyData := .list [.tuple [.str "log", .str "log"], .tuple [.str "text", .str "0", .str "0"]]
theorem due_shaped : SeqAt.shaped dueD = true := by decide +kernel
theorem due_eqv : PyData.eqv dueD dueD = true := by decide +kernel
theorem LogAt.oks {C m : Addr} {H : Hp} {es : List Ent} (h : LogAt C H m es) : ∀ e ∈ es, EntOk e :=
  let ⟨_, _, _, _, _, h3⟩ := h
  h3.oks
theorem ite_ndf {α : Type} [DecidableEq α] {a : α} {A B : Prop} (b : B) : if (!decide (a = a)) = true then A else B := ite_nb (decide_eq_true rfl) b
/-- the page of pairs -/
theorem page_if {K : PySem.W.Frag} {r : V → List V → Hp → VK → Prop} (hr : ∀ (H : Hp) (p : Addr) (ys : List Str) (Q : VK), H p = some (.lst (ys.map V.str)) → (ys.map (·.length)).sum + ys.length * 1 ≤ 16777216 → Q (.str (Txt.join "\n" ys)) H → r (.str "\n") [.ref p] H Q)
    {x0 x1 x2 x3 x5 x6 x7 x8 x9 x10 x11 x12 x13 x14 x15 x16 : Option V} {D : Addr} {rs : List V} {es : List Ent} {H : Hp} {Q : VK} (hD : H D = some (.lst rs)) (hE : PrsAt H rs es) (le : es.length ≤ 100) (k : ∀ G, Same H G → Q (.str (pageT es)) G) :
    tIf (tTest (tOp (rNeD K) (tVar 4) (tLst tNil))) (tM1 r (tC (V.str (Str.ofString "\n"))) (tLc (iList K (tVar 4)) (gTup K 2 (gCons (gName 8) (gCons (gName 9) gNil))) tYes (tVar 9) (List.map (fun x => x.snd) [(Str.ofString "_law_entry_here", 8), (Str.ofString "_law_line", 9)]))) (tC (V.str (Str.ofString "-")))
      [x0, x1, x2, x3, some (.ref D), x5, x6, x7, x8, x9, x10, x11, x12, x13, x14, x15, x16] H Q := by
  refine ⟨_, rfl, (by show 0 ≤ PySem.sizeLine; decide), fun e0 he0 => ?_⟩
  have y0 := Same.lay (o := .lst []) he0
  refine ⟨.list (es.map prD), .list [], .lst (SqL.of (y0 _ _ hD)) (hE.keep fun _ _ z => y0 _ _ z).dp, .lst (SqL.of upd_same) .nil, prs_shaped es, rfl, _, rfl, ?_⟩
  generalize upd H e0 (.lst []) = H1 at y0 ⊢
  cases es with
  | nil => exact iteF (k _ y0)
  | cons e r' =>
    refine iteT ⟨⟨_, rfl⟩, _, rfl, D, rfl, ⟨_, SqL.of (y0 _ _ hD)⟩, fun D4 hD4 => ?_⟩
    refine lc_it (walk_list (xs := rs)) (fun i G => G = upd H1 D4 (.lst ((((e :: r').take i).map lineT).map V.str))) rfl (fun i G _ z => by rw [z]; exact SqL.of (Same.lay hD4 _ _ (y0 _ _ hD))) ?_ ?_
    · rintro i x G G' hi rfl ⟨rfl, hx⟩
      obtain ⟨T, t, e', rfl, he, hT1, hT2, o⟩ := hE.get hx
      refine ⟨T, _, rfl, SqT.of (Same.lay hD4 _ _ (y0 _ _ hT1)), rfl, _, _, rfl, _, _, rfl, rfl, rfl, _, rfl, _, upd_same, small_n (by rw [List.length_map, List.length_map, List.length_take]; omega), ?_⟩
      rw [upd_upd, List.take_add_one, he, List.map_append, List.map_append]
      rfl
    · rintro G rfl
      rw [hE.len, List.take_length]
      refine hr _ D4 _ _ upd_same ?_ ?_
      · have := lines_sum hE.oks
        rw [List.length_map]
        omega
      · have kk := k _ (fun _ _ z => Same.lay (o := .lst (((e :: r').map lineT).map V.str)) hD4 _ _ (y0 _ _ z))
        exact kk
section
variable {P : Program} {w : World} {K : PySem.W.Frag} {mg : Str → Option Value} {base : Heap} {CW CG CR CU CS B C : Addr}
abbrev N_law : List Str := ["_law_script", "_law_pen_here", "_law_some", "_law_turn_so", "_law_pairs", "_law_lap_so", "_law_made_here", "_law_page", "_law_entry_here", "_law_line", "_law_bent_here", "_law_odd", "_law_strange", "_law_heard_here", "_law_fixed", "_law_many", "_law_at"]
theorem sc_law : FnScope N_law ["_law_script"] (defScope s_law) := ⟨rfl, rfl, rfl, by decide +kernel, rfl, by decide +kernel, by decide +kernel⟩
set_option maxHeartbeats 8000000 in
theorem ok_law {f fPn fD fPk fEn fMa fBe fOr fDu fRl fLt fHe fEq fLn fAd c TR_ TL cR cL : Addr} {fdPn fdD fdPk fdEn fdMa fdBe fdOr fdDu fdRl fdLt fdEq : FuncData} {gK1 gK2 : List Value → List Value → List Value} {oc kV doc pm ct : Value} {od an : Option Addr} {osl : Array (Option Value)} {och kVh doch pmh cdvh cth : Value} {odh anh : Option Addr} {oslh : Array (Option Value)}
    (lk : K.lookup f = some ⟨oc, od, .func (PySem.W.fnOf "law" "law" (defArgs s_law) (defBody s_law) (defScope s_law) .none kV doc pm an (.ref c) ct), osl⟩) (hcd : PySem.W.codeIn K (.ref c) "law" = true) (TBl : TabB base mg c TL) (dis : TR_ ≠ TL)
    (T : TR mg) (TU : TLog K mg C) (RC : LogCls K C) (THd : THeard K mg CW CG CR CU CS B) (kCs : PySem.W.kitOne K (.ref C) (.type "str") = some false)
    (GPn : FnOk P w K mg base CX0 1 fPn fdPn ["_law_script"] (spPen K)) (gPn : mg "_law_pen" = some (.ref fPn)) (kPn : PySem.W.keepIn K (.ref fPn) = true) (bPn : Binds K fdPn ["_law_script"] [])
    (GD : FnOk P w K mg base CX0 1 fD fdD ["_law_pen_here", "_law_many"] spDraw) (gD : mg "_law_draw" = some (.ref fD)) (kD : PySem.W.keepIn K (.ref fD) = true) (bD : Binds K fdD ["_law_pen_here", "_law_many"] [])
    (GPk : FnOk P w K mg base CX0 2 fPk fdPk ["_law_pen_here", "_law_some"] (spPick K)) (gPk : mg "_law_pick" = some (.ref fPk)) (kPk : PySem.W.keepIn K (.ref fPk) = true) (bPk : Binds K fdPk ["_law_pen_here", "_law_some"] [])
    (GEn : FnOk P w K mg base CX0 3 fEn fdEn ["_law_pen_here"] spEntry) (gEn : mg "_law_entry" = some (.ref fEn)) (kEn : PySem.W.keepIn K (.ref fEn) = true) (bEn : Binds K fdEn ["_law_pen_here"] [])
    (GMa : FnOk P w K mg base CX0 7 fMa fdMa ["_law_entries"] (spMade C)) (gMa : mg "_law_made" = some (.ref fMa)) (kMa : PySem.W.keepIn K (.ref fMa) = true) (bMa : Binds K fdMa ["_law_entries"] [])
    (GBe : FnOk P w K mg base CX0 3 fBe fdBe ["_law_pen_here", "_law_page", "_law_some"] spBent) (gBe : mg "_law_bent" = some (.ref fBe)) (kBe : PySem.W.keepIn K (.ref fBe) = true) (bBe : Binds K fdBe ["_law_pen_here", "_law_page", "_law_some"] [])
    (GOr : FnG P w K mg base CX0 9 fOr fdOr ["_law_page"] (spOne TR_ TL)) (gOr : mg "_law_one_right" = some (.ref fOr)) (kOr : PySem.W.keepIn K (.ref fOr) = true) (bOr : Binds K fdOr ["_law_page"] [])
    (GDu : FnOk P w K mg base CX0 3 fDu fdDu ["_law_page"] spLDue) (gDu : mg "_law_due" = some (.ref fDu)) (kDu : PySem.W.keepIn K (.ref fDu) = true) (bDu : Binds K fdDu ["_law_page"] [])
    (GRl : FnOk P w K mg base (L2.CX P w) 6 fRl fdRl ["text"] (spReadLog CW C K)) (gRl : mg "read_log" = some (.ref fRl)) (kRl : PySem.W.keepIn K (.ref fRl) = true) (bRl : Binds K fdRl ["text"] []) (kRlK : KBn K fdRl ["text"] 0 ["text"] gK1 (fun vs zs => vs ++ zs))
    (GLt : FnOk P w K mg base (L2.CX P w) 4 fLt fdLt ["log"] (spLogText CG C K)) (gLt : mg "log_text" = some (.ref fLt)) (kLt : PySem.W.keepIn K (.ref fLt) = true) (bLt : Binds K fdLt ["log"] []) (kLtK : KBn K fdLt ["log"] 0 ["log"] gK2 (fun vs zs => vs ++ zs))
    (OC : OwnCmp K C fEq) (GEq : FnOk P w K mg base CX0 1 fEq fdEq ["self", "other"] (spLEq C K)) (bEq : Binds K fdEq ["self", "other"] [])
    (nLn : PySem.W.findIn K (.ref C) "__len__" = some (some (.ref fLn))) (nLn2 : PySem.W.isFn K (.ref fLn) = true) (GLn : FnR P w K mg base CX0 1 fLn (spLLen C))
    (oAd : OwnOp K C fAd "add") (GAd : FnR P w K mg base (L2.CX P w) 6 fAd (spLAdd C))
    (gHe : mg "_law_heard" = some (.ref fHe)) (kHe : PySem.W.keepIn K (.ref fHe) = true) (lkHe : K.lookup fHe = some ⟨och, odh, .func (PySem.W.fnOf "_law_heard" "_law_heard" (defArgs s__law_heard) (defBody s__law_heard) (defScope s__law_heard) .none kVh doch pmh anh cdvh cth), oslh⟩) (hcHe : PySem.W.codeIn K cdvh "_law_heard" = true)
    (bHe : L2.Binds K (PySem.W.fnOf "_law_heard" "_law_heard" (defArgs s__law_heard) (defBody s__law_heard) (defScope s__law_heard) .none kVh doch pmh anh cdvh cth) ["_law_ask"] []) :
    FnG P w K mg base CX0 10 f (PySem.W.fnOf "law" "law" (defArgs s_law) (defBody s_law) (defScope s_law) .none kV doc pm an (.ref c) ct) ["_law_script"] (spTabs K [(cR, TR_), (cL, TL)]) := by
  refine fnG_of lk hcd sc_law (fun vs H Q E h => ?_) (fun A outer s H vs Q E hgd hr h => ?_)
  · obtain ⟨a, ns, rfl, _⟩ := h
    rfl
  · obtain ⟨a, ns, rfl, hS, hl, hb, hTs, k⟩ := h
    have hrH : Room 8 _ := hr.mono (by decide)
    have hrMa : Room 7 _ := hr.mono (by decide)
    have hrR : Room 6 _ := hr.mono (by decide)
    have hrO : Room 6 _ := hr.mono (by decide)
    have hrLt : Room 4 _ := hr.mono (by decide)
    have hrD3 : Room 3 _ := hr.mono (by decide)
    have hrD2 : Room 2 _ := hr.mono (by decide)
    have hrD1 : Room 1 _ := hr.mono (by decide)
    refine ⟨_, (pss_cons (ps_set (i := 1) sc_law.nd rfl (Or.inr rfl) (by exact (pe_call GPn hrD1 rfl gPn kPn bPn .nil pass0 (pa_cons (pv 0) pa_nil))))
 (pss_cons (ps_set (i := 2) sc_law.nd rfl (Or.inl rfl) (pe_lst (pa_cons pe_str (pa_cons pe_str (pa_cons pe_str (pa_cons pe_str (pa_cons pe_str (pa_cons pe_str (pa_cons pe_str (pa_cons pe_str (pa_cons pe_str (pa_cons (pe_callTy call_str_int (by rfl) T.m_str (by decide +kernel) (pa_cons (pe_op op_pow pe_int pe_int) pa_nil)) (pa_cons (pe_callTy call_str_int (by rfl) T.m_str (by decide +kernel) (pa_cons (pe_op op_add (pe_op op_pow pe_int pe_int) pe_int) pa_nil)) (pa_cons pe_str (pa_cons pe_str pa_nil)))))))))))))))
 (pss_cons (ps_for PassesOwn.never rfl (pi_range1 rfl T.m_range (pa_cons pe_int pa_nil)) (pg_name (i := 3) sc_law.nd rfl (Or.inl rfl))
 (pss_cons (ps_setLc (i := 4) (own := [("_law_lap_so", 5)]) (g := (gName 5)) (tt := tYes) rfl sc_law.nd rfl rfl (sw_true rfl rfl rfl (by decide +kernel)) (pi_range1 rfl T.m_range (pa_cons (pe_call GD hrD1 rfl gD kD bD .nil pass0 (pa_cons (pv 1) (pa_cons pe_int pa_nil))) pa_nil)) (blkOk_by (N := N_law) (sc := defScope s_law) (by decide +kernel)) (fun _ _ _ _ _ => (pg_name (i := 5) sc_law.nd rfl (Or.inl rfl))) (fun _ _ _ _ _ => pts_nil) (fun _ _ _ _ _ => (pe_call GEn hrD3 rfl gEn kEn bEn .nil pass0 (pa_cons (pv 1) pa_nil))))
 (pss_cons (ps_par (i := 6) (j := 7) rfl sc_law.nd rfl rfl (by decide) rfl rfl (pa_cons (pe_call GMa hrMa rfl gMa kMa bMa .nil pass0 (pa_cons (pe_lc (own := [("_law_entry_here", 8), ("_law_line", 9)]) (g := (gTup K 2 (gCons (gName 8) (gCons (gName 9) gNil)))) (tt := tYes) rfl sc_law.nd (pi_list (pv 4)) (blkOk_by (N := N_law) (sc := defScope s_law) (by decide +kernel)) (fun _ _ _ _ _ => (pg_tup rfl (pgs_cons (pg_name (i := 8) sc_law.nd rfl (Or.inl rfl)) (pgs_cons (pg_name (i := 9) sc_law.nd rfl (Or.inl rfl)) pgs_nil)))) (fun _ _ _ _ _ => pts_nil) (fun _ _ _ _ _ => (pv 8))) pa_nil)) (pa_cons (pe_ifExp (pt_cmpR (op_neD hr.units) (pv 4) (pe_lst pa_nil) (nomark _)) (pe_m1 PySem.F.slot_str_join PySem.F.type_str_join mt_join pe_str (pe_lc (own := [("_law_entry_here", 8), ("_law_line", 9)]) (g := (gTup K 2 (gCons (gName 8) (gCons (gName 9) gNil)))) (tt := tYes) rfl sc_law.nd (pi_list (pv 4)) (blkOk_by (N := N_law) (sc := defScope s_law) (by decide +kernel)) (fun _ _ _ _ _ => (pg_tup rfl (pgs_cons (pg_name (i := 8) sc_law.nd rfl (Or.inl rfl)) (pgs_cons (pg_name (i := 9) sc_law.nd rfl (Or.inl rfl)) pgs_nil)))) (fun _ _ _ _ _ => pts_nil) (fun _ _ _ _ _ => (pv 9)))) pe_str) pa_nil)) rfl)
 (pss_cons (ps_if (PW.pt (pw_or (pt_cmpR op_ne (pe_call GLt hrLt rfl gLt kLt bLt .nil passL (pa_cons (pv 6) pa_nil)) (pv 7) (nomark _)) (pw_or (pt_cmpR op_ne (pe_callK0 GLt hrLt rfl gLt kLt kLtK passL (pk_cons (pv 6) pk_nil)) (pv 7) (nomark _)) (pw_or (pt_cmpR (op_neOwn GEq OC bEq hrD2 pass0) (pe_callK0 GRl hrR rfl gRl kRl kRlK passL (pk_cons (pv 7) pk_nil)) (pv 6) (nomark _)) (pw_or1 (pt_not (pt_val (pe_callG GOr hgd hr rfl gOr kOr bOr .nil pass0 (pa_cons (pv 7) pa_nil))))))))) (pss_one (ps_ret pe_bl)) pss_nil)
 (pss_cons (ps_for PassesOwn.never rfl (pi_range1 rfl T.m_range (pa_cons pe_int pa_nil)) (pg_name (i := 5) sc_law.nd rfl (Or.inl rfl))
 (pss_cons (ps_set (i := 10) sc_law.nd rfl (Or.inl rfl) (by exact (pe_call GBe hrD3 rfl gBe kBe bBe .nil pass0 (pa_cons (pv 1) (pa_cons (pv 7) (pa_cons (pv 2) pa_nil))))))
 (pss_one (ps_if (PW.pt (pw_or (pt_not (pt_val (pe_callG GOr hgd hr rfl gOr kOr bOr .nil pass0 (pa_cons (pv 10) pa_nil)))) (pw_or1 (pt_not (pt_val (pe_callG GOr hgd hr rfl gOr kOr bOr .nil pass0 (pa_cons (pe_call GBe hrD3 rfl gBe kBe bBe .nil pass0 (pa_cons (pv 1) (pa_cons (pv 10) (pa_cons (pv 2) pa_nil)))) pa_nil))))))) (pss_one (ps_ret pe_bl)) pss_nil))))
 (pss_cons (ps_asg (pe_tup (pa_cons (pe_call GPk hrD2 rfl gPk kPk bPk .nil pass0 (pa_cons (pv 1) (pa_cons (pe_lst (pa_cons pe_non (pa_cons pe_int (pa_cons (pv 7) (pa_cons pe_dnewK (pa_cons (pe_lst pa_nil) (pa_cons (pe_tup pa_nil) (pa_cons pe_bl (pa_cons (pe_lst (pa_cons (pe_tup (pa_cons pe_int (pa_cons pe_int (pa_cons pe_bl pa_nil)))) pa_nil)) pa_nil))))))))) pa_nil))) (pa_cons (pe_call GPk hrD2 rfl gPk kPk bPk .nil pass0 (pa_cons (pv 1) (pa_cons (pe_lst (pa_cons pe_non (pa_cons pe_int (pa_cons pe_bl (pa_cons (pe_tup pa_nil) (pa_cons (pe_lst (pa_cons pe_str pa_nil)) (pa_cons pe_dnewK (pa_cons (pv 6) pa_nil)))))))) pa_nil))) pa_nil))) (pg_tup rfl (pgs_cons (pg_name (i := 11) sc_law.nd rfl (Or.inr rfl)) (pgs_cons (pg_name (i := 12) sc_law.nd rfl (Or.inr rfl)) pgs_nil))))
 (pss_cons (ps_set (i := 13) sc_law.nd rfl (Or.inl rfl) (pe_lst (pa_cons (pe_lamcall (T := T2 TR_ TL) (TT := TTH CW CG) (k := 6) (t := (fun E => (tCall (spLogText CG C K) [] E (tCons (tVar 11) tNil)))) rfl gHe kHe lkHe hcHe bHe sc__law_heard rfl (Or.inl rfl) (heard_gives THd hrH hgd) TBl rfl t2_l (t2u_l dis) hrH (lamS_by (show lamSB (defScope s_law) _ = true by decide +kernel)) rfl (fun _ _ _ _ _ => rfl) (fun A outer s H E f c' hr => (pe_call GLt (hr.mono (by decide)) rfl gLt kLt bLt .nil (passes_call (takes_of rfl rfl rfl rfl) fun _ _ _ _ h => h) (pa_cons (pv 11) pa_nil)))) pa_nil)))
 (pss_cons (ps_expr (pe_bm PySem.F.plainAttrs_list PySem.F.slot_list_append PySem.F.type_list_append mt_append (pv 13) (pa_cons (pe_lamcall (T := T2 TR_ TL) (TT := TTH CW CG) (k := 6) (t := (fun E => (tCall (spReadLog CW C K) [] E (tCons (tVar 12) tNil)))) rfl gHe kHe lkHe hcHe bHe sc__law_heard rfl (Or.inl rfl) (heard_gives THd hrH hgd) TBl rfl t2_l (t2u_l dis) hrH (lamS_by (show lamSB (defScope s_law) _ = true by decide +kernel)) rfl (fun _ _ _ _ _ => rfl) (fun A outer s H E f c' hr => (pe_call GRl hr rfl gRl kRl bRl .nil (passes_call (takes_of rfl rfl rfl rfl) fun _ _ _ _ h => h) (pa_cons (pv 12) pa_nil)))) pa_nil)))
 (pss_one (ps_if (pt_cmpR (op_neD hr.units) (pv 13) (pe_lst (pa_cons (pe_tup (pa_cons pe_str (pa_cons pe_str pa_nil))) (pa_cons (pe_tup (pa_cons pe_str (pa_cons pe_str (pa_cons pe_str pa_nil)))) pa_nil))) (nomark _)) (pss_one (ps_ret pe_bl)) pss_nil))))))))))
 (pss_cons (ps_set (i := 14) sc_law.nd rfl (Or.inr rfl) (pe_lst (pa_cons pe_str (pa_cons pe_str (pa_cons pe_str (pa_cons pe_str (pa_cons pe_str (pa_cons pe_str (pa_cons pe_str (pa_cons pe_str (pa_cons pe_str (pa_cons pe_str pa_nil))))))))))))
 (pss_cons (ps_set (i := 15) sc_law.nd rfl (Or.inl rfl) (by exact (pe_call GMa hrMa rfl gMa kMa bMa .nil pass0 (pa_cons (pe_lc (own := [("_law_at", 16)]) (g := (gName 16)) (tt := tYes) rfl sc_law.nd (pi_range1 rfl T.m_range (pa_cons pe_int pa_nil)) (blkOk_by (N := N_law) (sc := defScope s_law) (by decide +kernel)) (fun _ _ _ _ _ => (pg_name (i := 16) sc_law.nd rfl (Or.inl rfl))) (fun _ _ _ _ _ => pts_nil) (fun _ _ _ _ _ => (pe_tup (pa_cons (pv 16) (pa_cons (pe_op op_add (pv 16) pe_int) (pa_cons pe_bl pa_nil)))))) pa_nil))))
 (pss_cons (ps_for PassesOwn.never rfl (pi_range1 rfl T.m_range (pa_cons pe_int pa_nil)) (pg_name (i := 5) sc_law.nd rfl (Or.inl rfl))
 (pss_one (ps_set (i := 15) sc_law.nd rfl (Or.inl rfl) (pe_op (op_own GAd oAd ot_add hrO passL) (pv 15) (pv 15)))))
 (pss_cons (ps_set (i := 7) sc_law.nd rfl (Or.inl rfl) (by exact (pe_call GLt hrLt rfl gLt kLt bLt .nil passL (pa_cons (pv 15) pa_nil))))
 (pss_cons (ps_if (PW.pt (pw_or (pt_cmpR op_ne (pe_callB (call_lenI GLn hrD2 nLn nLn2 pass0) (by rfl) T.m_len (by decide +kernel) (pa_cons (pv 15) pa_nil)) pe_int (nomark _)) (pw_or (pt_cmpR op_ne (pe_callB call_len_seq (by rfl) T.m_len (by decide +kernel) (pa_cons (pe_split (pv 7) pe_str) pa_nil)) pe_int (nomark _)) (pw_or1 (pt_cmpR (op_neOwn GEq OC bEq hrD2 pass0) (pe_call GRl hrR rfl gRl kRl bRl .nil passL (pa_cons (pv 7) pa_nil)) (pv 15) (nomark _)))))) (pss_one (ps_ret pe_bl)) pss_nil)
 (pss_one (ps_ret (pe_and (pe_cmpR (op_eqD hr.units) (pe_lc (own := [("_law_page", 7)]) (g := (gName 7)) rfl sc_law.nd (pi_list (pv 14)) (blkOk_by (N := N_law) (sc := defScope s_law) (by decide +kernel)) (fun _ _ _ _ _ => (pg_name (i := 7) sc_law.nd rfl (Or.inl rfl))) (fun _ _ _ _ _ => (pts_one (pt_not (pt_val (pe_callG GOr hgd hr rfl gOr kOr bOr .nil pass0 (pa_cons (pv 7) pa_nil)))))) (fun _ _ _ _ _ => (pv 7))) (pe_lst pa_nil) (nomark _)) (pe_one (pe_cmpR (op_eqD hr.units) (pe_lc (own := [("_law_at", 16)]) (g := (gName 16)) rfl sc_law.nd (pi_range1 rfl T.m_range (pa_cons pe_int pa_nil)) (blkOk_by (N := N_law) (sc := defScope s_law) (by decide +kernel)) (fun _ _ _ _ _ => (pg_name (i := 16) sc_law.nd rfl (Or.inl rfl))) (fun _ _ _ _ _ => (pts_one (pt_cmpR op_isN (pe_call GDu hrD3 rfl gDu kDu bDu .nil pass0 (pa_cons (pe_ix (show IxR _ (rIxL K) from ix_list) (pv 14) (pv 16) (fun _ _ => rfl)) pa_nil)) pe_non (nomark _)))) (fun _ _ _ _ _ => (pv 16))) (pe_lst (pa_cons pe_int pa_nil)) (nomark _)))))))))))))), ?_⟩
    have sz : PySem.sizeLine = 16777216 := rfl
    refine ⟨_, rfl, a, ns, rfl, hS, hl, hb, fun H1 p l s1 np P1 => ?_⟩
    refine ⟨_, _, rfl, rfl, ⟨by decide, by decide, by decide⟩, _, rfl, by decide +kernel, _, _, rfl, rfl, ⟨by decide, by decide, by decide⟩, _, _, rfl, rfl, _, rfl, by decide +kernel, (by show 13 ≤ PySem.sizeLine; decide), fun q hq0 => ?_⟩
    have nq : q ≠ p := (ne_of_none P1.pen hq0).symm
    have y1 := Same.lay (o := .lst (someW.map V.str)) hq0
    have P2 := P1.new (o := .lst (someW.map V.str)) hq0
    have s2 : Same H _ := fun _ _ z => y1 _ _ (s1 _ _ z)
    have hq2 : (upd H1 q (.lst (someW.map V.str))) q = some (.lst (someW.map V.str)) := upd_same
    change gName 2 (V.ref q) _ (upd H1 q (.lst (someW.map V.str))) _
    generalize upd H1 q (.lst (someW.map V.str)) = H2 at P2 s2 hq2 ⊢
    clear y1 P1 s1 np hq0
    refine ⟨7, rfl, by decide, by decide, for_it walk_range (fun i σ G => ∃ (a' b' : Int) (u3 u4 u5 u6 u7 u8 u9 u10 u11 u12 u13 u14 u15 u16 : Option V), σ = [some (.ref a), some (.ref p), some (.ref q), u3, u4, u5, u6, u7, u8, u9, u10, u11, u12, u13, u14, u15, u16] ∧ PenAt G p l ns a' b' ∧ a' ≤ 140 * (i : Int) ∧ Tabs (T2 TR_ TL) G ∧ G q = some (.lst (someW.map V.str))) ?_ (fun _ _ _ _ _ => trivial) ?_ ?_⟩
    · refine ⟨0, 0, none, none, none, none, none, none, none, none, none, none, none, none, none, none, rfl, P2, by omega, fun y hy => ?_, hq2⟩
      have h1 := hTs _ List.mem_cons_self
      have h2 := hTs _ (List.mem_cons_of_mem _ List.mem_cons_self)
      rcases t2_cases hy with rfl | rfl
      · exact TabS.nil (s2 _ _ h1)
      · exact TabS.nil (s2 _ _ h2)
    · rintro i v σ G G' hi ⟨a', b', u3, u4, u5, u6, u7, u8, u9, u10, u11, u12, u13, u14, u15, u16, rfl, PG, ha, tb, hqG⟩ ⟨rfl, rfl⟩
      have hi2 : i < 7 := hi
      refine ⟨_, rfl, p, l, ns, a', b', 10, rfl, PG, by omega, by decide, by decide +kernel, fun G1 n a1 b1 n0 n1 h10 h11 bt1 P1 => ⟨n, rfl, by omega, by omega, fun D hD => ?_⟩⟩
      have tb1 := tabs_but PG.pen bt1 tb
      have hq1 := bt1 _ _ nq hqG
      have nD : D ≠ p := (ne_of_none P1.pen hD).symm
      refine lc_it walk_range (fun i G => ∃ (a2 b2 : Int) (rs : List V) (es : List Ent), PenAt G p l ns a2 b2 ∧ a2 ≤ a1 + 5 * (i : Int) ∧ But p G1 G ∧ G D = some (.lst rs) ∧ PrsAt G rs es ∧ es.length = i) ⟨a1, b1, [], [], P1.new hD, by omega, But.of (Same.lay hD), upd_same, .nil, rfl⟩ (fun _ _ _ _ => trivial) ?_ ?_
      · rintro i x G G' hi ⟨a2, b2, rs, es, PG, ha2, bG, hDG, hE, le⟩ ⟨rfl, rfl⟩
        have hi3 : (i : Int) < n := by omega
        refine ⟨rfl, _, rfl, p, l, ns, a2, b2, rfl, PG, by omega, fun G2 T t e a3 b3 bt2 P3 h30 h31 hT hT2 ht o => ⟨rs, bt2 _ _ nD hDG, small_n (by rw [hE.len]; omega), ?_⟩⟩
        have nl : l ≠ D := ne_of_none P1.cells hD
        refine ⟨a3, b3, rs ++ [.ref T], es ++ [e], ⟨by rw [upd_ne nD.symm]; exact P3.pen, by rw [upd_ne nl]; exact P3.cells, P3.few, P3.bits, P3.low⟩, by omega, fun c o' n1 e1 => ?_, upd_same, ?_, by rw [List.length_append, le]; rfl⟩
        · rw [upd_ne (ne_of_none e1 hD)]
          exact bt2 _ _ n1 (bG _ _ n1 e1)
        · have kt : ∀ t' xs, G2 t' = some (.tup xs) → (upd G2 D (.lst (rs ++ [.ref T]))) t' = some (.tup xs) := fun t' xs z => by
            rw [upd_ne (fun y => by rw [y, bt2 _ _ nD hDG] at z; cases z)]
            exact z
          exact ((hE.keep fun t' xs z => bt2 _ _ (fun y => by rw [y, PG.pen] at z; cases z) z).append (.cons hT2 ht o .nil)).keep kt
      rintro G ⟨a2, b2, rs, es, P2', ha2, bG, hDG, hE, le⟩
      have le9 : es.length ≤ 9 := by omega
      have tb2 := tabs_but P1.pen bG tb1
      have hq3 := bG _ _ nq hq1
      have ha3 : a2 ≤ 140 * (i : Int) + 46 := by omega
      clear bG hD hq1 tb1 bt1
      generalize G = G0 at *
      refine ⟨_, rfl, D, rfl, ⟨_, SqL.of hDG⟩, fun D2 hD2 => ?_⟩
      refine lc_it (walk_list (xs := rs)) (fun i G => ∃ ts, Same G0 G ∧ G D2 = some (.lst ts) ∧ EntsAt G ts (es.take i)) ⟨[], Same.lay hD2, upd_same, .nil⟩ (fun i G _ ⟨_, s, _⟩ => SqL.of (s _ _ hDG)) ?_ ?_
      · rintro i x G G' hi ⟨ts, sG, hG2, hT⟩ ⟨rfl, hx⟩
        obtain ⟨T, t, e, rfl, he, hT1, hT2, o⟩ := hE.get hx
        have lt := hT.len
        refine ⟨T, _, rfl, SqT.of (sG _ _ hT1), rfl, _, _, rfl, _, _, rfl, rfl, rfl, _, rfl, ts, hG2, small_n (by rw [lt, List.length_take]; omega), ts ++ [.ref t], fun c o' e1 => ?_, upd_same, ?_⟩
        · rw [upd_ne (ne_of_none e1 hD2)]
          exact sG _ _ e1
        · have kt : ∀ t' xs, G' t' = some (.tup xs) → (upd G' D2 (.lst (ts ++ [.ref t]))) t' = some (.tup xs) := fun t' xs z => by
            rw [upd_ne (fun y => by rw [y, hG2] at z; cases z)]
            exact z
          rw [List.take_add_one, he]
          exact (hT.append (.cons (sG _ _ hT2) o .nil)).keep kt
      rintro G3 ⟨ts, s3, hD3, hts⟩
      rw [hE.len, List.take_length] at hts
      refine ⟨D2, ts, es, rfl, hD3, hts, by rw [hts.len]; omega, fun G4 m s4 lg => ?_⟩
      have s04 : Same G0 G4 := fun _ _ z => s4 _ _ (s3 _ _ z)
      refine page_if (fun H p ys Q h1 h2 h3 => ⟨"\n", p, ys, rfl, rfl, .inl (SqL.of h1), h2, h3⟩) (s04 _ _ hDG) (hE.keep fun _ _ z => s04 _ _ z) (by omega) fun G5 s5 => ⟨_, _, rfl, ?_⟩
      have s05 : Same G0 G5 := fun _ _ z => s5 _ _ (s04 _ _ z)
      have P5 := pen_same s05 P2'
      have tb5 := tb2.ext s05
      have hq5 := s05 _ _ hq3
      have lg5 := lg.same s5
      have oks := hE.oks
      have pl := page_len oks
      have pc := page_ch es
      have lp := lines_le (pageT es)
      have okp : OkS (pageT es) := ⟨pc, by omega⟩
      have rp := read_page oks
      clear s05 s04 s5 s4 s3 hD3 hts hDG hE lg hD2 tb2 hq3 P2' P1
      -- written and read
      refine ⟨_, rfl, .ref m, rfl, .inl ⟨m, es, rfl, lg5, by omega, fun G6 s6 => ⟨_, rfl, rfl, _, rfl, ite_ndf ?_⟩⟩⟩
      have lg6 := lg5.same s6
      refine ⟨_, rfl, rfl, .ref m, rfl, .inl ⟨m, es, rfl, lg6, by omega, fun G7 s7 => ⟨_, rfl, rfl, _, rfl, ite_ndf ?_⟩⟩⟩
      have lg7 := lg6.same s7
      refine ⟨_, rfl, rfl, .str (pageT es), rfl, .inl ⟨pageT es, rfl, by omega, by omega, (fun i' k' hk => by rw [rp] at hk; cases hk), (fun es' he G8 x s8 lgx => ?_)⟩⟩
      rw [rp] at he
      obtain rfl := Sum.inr.inj he
      have lg8 := lg7.same s8
      obtain ⟨dx, po, rx, x1, x2, x3⟩ := id lgx
      obtain ⟨dm, mo, rm, m1, m2, m3⟩ := id lg8
      refine ⟨_, rfl, x, dx, _, rfl, x1, .ins m1, x, es, .ref m, rfl, lgx, m, es, rfl, lg8, _, rfl, _, rfl, ite_ndf ?_⟩
      have s58 : Same G5 G8 := fun _ _ z => s8 _ _ (s7 _ _ (s6 _ _ z))
      refine ⟨_, rfl, pageT es, rfl, okp, by omega, tb5.ext s58, fun G9 e9 tb9 => ⟨_, rfl, iteF ?_⟩⟩
      have nqs : ∀ c o, c ≠ p → G5 c = some o → (∀ ps, o ≠ .tbl ps) → G9 c = some o := fun c o n h z => e9 _ _ (s58 _ _ h) z
      have P9 := pen_ext e9 (pen_same s58 P5)
      have hq9 : G9 q = some (.lst (someW.map V.str)) := nqs _ _ nq hq5 fun _ z => by cases z
      have lg9 := log_fut (pen_same s58 P5).pen (Fut.ext e9) lg8
      clear nqs e9 s58 s8 s7 s6 x1 x2 x3 m1 m2 m3 lgx lg8 lg7 lg6 lg5 tb5 hq5 P5
      -- bent
      refine ⟨3, rfl, by decide, by decide, for_it walk_range (fun j σ G => ∃ (a5 b5 : Int) (v5 v10 : Option V), σ = [some (.ref a), some (.ref p), some (.ref q), some (.int (0 + (i : Int))), some (.ref D), v5, some (.ref m), some (.str (pageT es)), u8, u9, v10, u11, u12, u13, u14, u15, u16] ∧ PenAt G p l ns a5 b5 ∧ a5 ≤ 140 * (i : Int) + 46 + 20 * (j : Int) ∧ Tabs (T2 TR_ TL) G ∧ G q = some (.lst (someW.map V.str)) ∧ LogAt C G m es) ⟨a2, b2, u5, u10, rfl, P9, by omega, tb9, hq9, lg9⟩ (fun _ _ _ _ _ => trivial) ?_ ?_⟩
      · rintro j v σ G G' hj ⟨a5, b5, v5, v10, rfl, PG, ha5, tbG, hqG, lgG⟩ ⟨rfl, rfl⟩
        have hj2 : j < 3 := hj
        refine ⟨_, rfl, _, rfl, _, rfl, p, l, q, ns, a5, b5, pageT es, someW, rfl, PG, by omega, pc, by omega, hqG, nq, by decide, by decide, some_ok, fun G2 pg a6 b6 bt6 P6 h60 h61 c6 l6 => ?_⟩
        have tb6 := tabs_but PG.pen bt6 tbG
        have lp6 := lines_le pg
        refine ⟨_, rfl, pg, rfl, ⟨c6, by omega⟩, by omega, tb6, fun G3 e3 tb3 => ⟨_, rfl, iteF ?_⟩⟩
        have P7 := pen_ext e3 P6
        have f7 : Fut p G' G3 := (Fut.but bt6).trans (Fut.ext e3)
        have hq7 := f7.lst nq hqG
        refine ⟨_, rfl, _, rfl, _, rfl, p, l, q, ns, a6, b6, pg, someW, rfl, P7, by omega, c6, by omega, hq7, nq, by decide, by decide, some_ok, fun G4 pg2 a8 b8 bt8 P8 h80 h81 c8 l8 => ?_⟩
        have tb8 := tabs_but P7.pen bt8 tb3
        have lp8 := lines_le pg2
        refine ⟨pg2, rfl, ⟨c8, by omega⟩, by omega, tb8, fun G5 e5 tb5 => ⟨_, rfl, iteF ?_⟩⟩
        have f9 : Fut p G' G5 := (f7.trans (Fut.but bt8)).trans (Fut.ext e5)
        exact ⟨a8, b8, _, _, rfl, pen_ext e5 P8, by omega, tb5, f9.lst nq hqG, log_fut PG.pen f9 lgG⟩
      rintro σ G ⟨a5, b5, v5, v10, rfl, PG, ha5, tbG, hqG, lgG⟩
      clear lg9 hq9 P9 tb9 ha3 ha2
      -- odd ones
      refine ⟨_, rfl, _, rfl, fun od hod => ⟨(by show 0 ≤ PySem.sizeLine; decide), fun oe hoe => ⟨(by show 0 ≤ PySem.sizeLine; decide), fun ot hot => ⟨(by show 3 ≤ PySem.sizeLine; decide), fun ou hou => ⟨(by show 1 ≤ PySem.sizeLine; decide), fun ow how => ⟨(by show 8 ≤ PySem.sizeLine; decide), fun oL hoL => ?_⟩⟩⟩⟩⟩⟩
      have P1 := PG.new (o := .dK []) hod
      have P2' := P1.new (o := .lst []) hoe
      have P3 := P2'.new (o := .tup []) hot
      have P4 := P3.new (o := .tup [V.int 0, V.int 1, V.bl true]) hou
      have P5 := P4.new (o := .lst [V.ref ou]) how
      have P6 := P5.new (o := .lst [V.non, V.int 0, V.str (pageT es), V.ref od, V.ref oe, V.ref ot, V.bl true, V.ref ow]) hoL
      have z1 := Same.lay (o := .dK []) hod
      have z2 := Same.lay (o := .lst []) hoe
      have z3 := Same.lay (o := .tup []) hot
      have z4 := Same.lay (o := .tup [V.int 0, V.int 1, V.bl true]) hou
      have z5 := Same.lay (o := .lst [V.ref ou]) how
      have z6 := Same.lay (o := .lst [V.non, V.int 0, V.str (pageT es), V.ref od, V.ref oe, V.ref ot, V.bl true, V.ref ow]) hoL
      have n1 : od ≠ p := (ne_of_none PG.pen hod).symm
      have n2 : oe ≠ p := (ne_of_none P1.pen hoe).symm
      have n5 : ow ≠ p := (ne_of_none P4.pen how).symm
      have n6 : oL ≠ p := (ne_of_none P5.pen hoL).symm
      have S06 : Same G _ := fun _ _ z => z6 _ _ (z5 _ _ (z4 _ _ (z3 _ _ (z2 _ _ (z1 _ _ z)))))
      have f1 := z6 _ _ (z5 _ _ (z4 _ _ (z3 _ _ (z2 _ _ (upd_same (a := od) (H := G) (o := .dK []))))))
      have f2 := z6 _ _ (z5 _ _ (z4 _ _ (z3 _ _ (upd_same (a := oe) (o := .lst [])))))
      have f3 := z6 _ _ (z5 _ _ (z4 _ _ (upd_same (a := ot) (o := .tup []))))
      have f5 := z6 _ _ (upd_same (a := ow) (o := .lst [V.ref ou]))
      have f6 : (upd (upd (upd (upd (upd (upd G od (.dK [])) oe (.lst [])) ot (.tup [])) ou (.tup [V.int 0, V.int 1, V.bl true])) ow (.lst [V.ref ou])) oL (.lst [V.non, V.int 0, V.str (pageT es), V.ref od, V.ref oe, V.ref ot, V.bl true, V.ref ow])) oL = some (.lst [V.non, V.int 0, V.str (pageT es), V.ref od, V.ref oe, V.ref ot, V.bl true, V.ref ow]) := upd_same
      clear z1 z2 z3 z4 z5 z6 P1 P2' P3 P4 P5
      change tNil _ (upd (upd (upd (upd (upd (upd G od (.dK [])) oe (.lst [])) ot (.tup [])) ou (.tup [V.int 0, V.int 1, V.bl true])) ow (.lst [V.ref ou])) oL (.lst [V.non, V.int 0, V.str (pageT es), V.ref od, V.ref oe, V.ref ot, V.bl true, V.ref ow])) _
      generalize (upd (upd (upd (upd (upd (upd G od (.dK [])) oe (.lst [])) ot (.tup [])) ou (.tup [V.int 0, V.int 1, V.bl true])) ow (.lst [V.ref ou])) oL (.lst [V.non, V.int 0, V.str (pageT es), V.ref od, V.ref oe, V.ref ot, V.bl true, V.ref ow])) = J at *
      clear hod hoe hot hou how hoL
      refine ⟨p, l, oL, ns, a5, b5, _, rfl, P6, by omega, SqL.of f6, n6, (by show 0 < 8; decide), (by show 8 ≤ 1000; decide), fun J1 ix v a6 b6 hv h60 h61 bt6 P7 => ?_⟩
      have ov : ∀ J', Fut p J1 J' → ∃ S, Plain K J' v S := fun J' fj => by
        have fu := (Fut.but bt6).trans fj
        have mem := List.mem_of_getElem? hv
        simp only [List.mem_cons, List.not_mem_nil, or_false] at mem
        rcases mem with rfl | rfl | rfl | rfl | rfl | rfl | rfl | rfl
        · exact ⟨_, .non⟩
        · exact ⟨_, .int _⟩
        · exact ⟨_, .str _⟩
        · exact ⟨_, .dK (fu.dk n1 f1)⟩
        · exact ⟨_, .lst (fu.lst n2 f2)⟩
        · exact ⟨_, .tup (fu.tup P6.pen f3)⟩
        · exact ⟨_, .bl _⟩
        · exact ⟨_, .lst (fu.lst n5 f5)⟩
      have tb7 := tabs_but P6.pen bt6 (tbG.ext S06)
      have fG7 : Fut p G J1 := (Fut.of S06).trans (Fut.but bt6)
      have hq7 := fG7.lst nq hqG
      have lg7 := log_fut PG.pen fG7 lgG
      clear bt6 f1 f2 f3 f5 f6 S06 n1 n2 n5 n6 hv fG7 lgG hqG tbG PG P6
      clear J G od oe ot ou ow oL
      refine ⟨_, rfl, (by show 0 ≤ PySem.sizeLine; decide), fun rt hrt => ⟨(by show 1 ≤ PySem.sizeLine; decide), fun rl hrl rd hrd => ⟨_, rfl, (by show 7 ≤ PySem.sizeLine; decide), fun rL hrL => ?_⟩⟩⟩
      have P1 := P7.new (o := .tup []) hrt
      have P2' := P1.new (o := .lst [V.str "-"]) hrl
      have P3 := P2'.new (o := .dK []) hrd
      have P4 := P3.new (o := .lst [V.non, V.int 0, V.bl true, V.ref rt, V.ref rl, V.ref rd, V.ref m]) hrL
      have z1 := Same.lay (o := .tup []) hrt
      have z2 := Same.lay (o := .lst [V.str "-"]) hrl
      have z3 := Same.lay (o := .dK []) hrd
      have z4 := Same.lay (o := .lst [V.non, V.int 0, V.bl true, V.ref rt, V.ref rl, V.ref rd, V.ref m]) hrL
      have n2 : rl ≠ p := (ne_of_none P1.pen hrl).symm
      have n3 : rd ≠ p := (ne_of_none P2'.pen hrd).symm
      have n4 : rL ≠ p := (ne_of_none P3.pen hrL).symm
      have S04 : Same J1 _ := fun _ _ z => z4 _ _ (z3 _ _ (z2 _ _ (z1 _ _ z)))
      have f1 := z4 _ _ (z3 _ _ (z2 _ _ (upd_same (a := rt) (H := J1) (o := .tup []))))
      have f2 := z4 _ _ (z3 _ _ (upd_same (a := rl) (o := .lst [V.str "-"])))
      have f3 := z4 _ _ (upd_same (a := rd) (o := .dK []))
      have f4 : (upd (upd (upd (upd J1 rt (.tup [])) rl (.lst [V.str "-"])) rd (.dK [])) rL (.lst [V.non, V.int 0, V.bl true, V.ref rt, V.ref rl, V.ref rd, V.ref m])) rL = some (.lst [V.non, V.int 0, V.bl true, V.ref rt, V.ref rl, V.ref rd, V.ref m]) := upd_same
      clear z1 z2 z3 z4 P1 P2' P3
      change tNil _ (upd (upd (upd (upd J1 rt (.tup [])) rl (.lst [V.str "-"])) rd (.dK [])) rL (.lst [V.non, V.int 0, V.bl true, V.ref rt, V.ref rl, V.ref rd, V.ref m])) _
      generalize (upd (upd (upd (upd J1 rt (.tup [])) rl (.lst [V.str "-"])) rd (.dK [])) rL (.lst [V.non, V.int 0, V.bl true, V.ref rt, V.ref rl, V.ref rd, V.ref m])) = J at *
      clear hrt hrl hrd hrL
      refine ⟨p, l, rL, ns, a6, b6, _, rfl, P4, by omega, SqL.of f4, n4, (by show 0 < 7; decide), (by show 7 ≤ 1000; decide), fun J2 ix2 v2 a8 b8 hv2 h80 h81 bt8 P8 => ⟨(by show 2 ≤ PySem.sizeLine; decide), fun tq htq => ⟨tq, _, rfl, SqT.of upd_same, rfl, _, _, rfl, _, _, rfl, rfl, ?_⟩⟩⟩
      have lgJ := lg7.same S04
      have sv : ∀ J', Fut p J2 J' → NotStr K J' v2 := fun J' fj => by
        have fu := (Fut.but bt8).trans fj
        have mem := List.mem_of_getElem? hv2
        have pl : ∀ {x : V} {S : String}, Plain K J' x S → isS x = false → NotStr K J' x := fun {x S} py h => ⟨.type S, py.ty, by rw [py.kStr, h]⟩
        simp only [List.mem_cons, List.not_mem_nil, or_false] at mem
        rcases mem with rfl | rfl | rfl | rfl | rfl | rfl | rfl
        · exact pl .non rfl
        · exact pl (.int _) rfl
        · exact pl (.bl _) rfl
        · exact pl (.tup (fu.tup P4.pen f1)) rfl
        · exact pl (.lst (fu.lst n2 f2)) rfl
        · exact pl (.dK (fu.dk n3 f3)) rfl
        · obtain ⟨dx, po, rs', h1, _, _⟩ := log_fut P4.pen fu lgJ
          exact ⟨.ref C, .base (.ins h1 RC.cl RC.ha RC.hn RC.ht RC.hm), kCs⟩
      have fJ : Fut p J1 J2 := (Fut.of S04).trans (Fut.but bt8)
      have sq := Same.lay (o := .tup [v, v2]) htq
      have tb9 := (tabs_but P4.pen bt8 (tb7.ext S04)).ext sq
      have P9 := pen_same sq P8
      have f19 : Fut p J1 (upd J2 tq (.tup [v, v2])) := fJ.trans (Fut.of sq)
      have f29 : Fut p J2 (upd J2 tq (.tup [v, v2])) := Fut.of sq
      have hq9 := f19.lst nq hq7
      change tSeq _ _ _ _ (upd J2 tq (.tup [v, v2]))
      generalize upd J2 tq (.tup [v, v2]) = J3 at *
      clear bt8 f1 f2 f3 f4 n2 n3 n4 hv2 lgJ fJ S04 P4 tb7 lg7 htq sq hq7
      clear J
      obtain ⟨S, py⟩ : ∃ S, Plain K J3 v S := ov _ f19
      refine ⟨tb9, fun G1 e1 tb1 => ?_⟩
      obtain ⟨S, py⟩ : ∃ S, Plain K G1 v S := ov _ (f19.trans (Fut.ext e1))
      refine ⟨_, rfl, v, rfl, .inr ⟨S, py, fun d G2 hd s2 hx => ⟨[.str "log", .str "log"], ⟨d, rfl, .inr ⟨rfl, _, hx, rfl⟩⟩, fun G3 t s3 ht => ⟨(by show 1 ≤ PySem.sizeLine; decide), fun hh hhh => ?_⟩⟩⟩⟩
      have y4 := Same.lay (o := .lst [V.ref t]) hhh
      have s14 : Same G1 _ := fun _ _ z => y4 _ _ (s3 _ _ (s2 _ _ z))
      have P4 := pen_same s14 (pen_ext e1 P9)
      have tb4 := tb1.ext s14
      have hh4 : (upd G3 hh (.lst [V.ref t])) hh = some (.lst [V.ref t]) := upd_same
      have ht4 := y4 _ _ ht
      have nh : hh ≠ p := (ne_of_none (s3 _ _ (s2 _ _ (pen_ext e1 P9).pen)) hhh).symm
      have nhl : hh ≠ l := (ne_of_none (s3 _ _ (s2 _ _ (pen_ext e1 P9).cells)) hhh).symm
      have nhq : hh ≠ q := (ne_of_none (s3 _ _ (s2 _ _ (e1 _ _ hq9 (fun _ z => by cases z)))) hhh).symm
      have f24 : Fut p J2 _ := (f29.trans (Fut.ext e1)).trans (Fut.of s14)
      have hq4 := s14 _ _ (e1 _ _ hq9 (fun _ z => by cases z))
      change tSeq _ _ _ _ (upd G3 hh (.lst [V.ref t]))
      generalize upd G3 hh (.lst [V.ref t]) = G4 at *
      clear y4 s14 s3 s2 ht hx hd hhh
      refine ⟨_, rfl, .inl ⟨rfl, _, SqL.of hh4⟩, tb4, fun G5 e5 tb5 => ?_⟩
      refine ⟨_, rfl, v2, rfl, .inr ⟨sv _ (f24.trans (Fut.ext e5)), fun d2 G6 hd2 s6 hx2 => ⟨[.str "text", .str (numT 0), .str (numT 0)], ⟨d2, rfl, .inl ⟨rfl, _, _, _, _, hx2, shows_num (k := 0) (by decide), shows_num (k := 0) (by decide), rfl⟩⟩, fun G7 t2 s7 ht2 => ?_⟩⟩⟩
      have s57 : Same G5 G7 := fun _ _ z => s7 _ _ (s6 _ _ z)
      have hh7 : G7 hh = some (.lst [V.ref t]) := s57 _ _ (e5 _ _ hh4 (fun _ z => by cases z))
      have ht7 : G7 t = some (.tup [.str "log", .str "log"]) := s57 _ _ (e5 _ _ ht4 (fun _ z => by cases z))
      have P8' := pen_same s57 (pen_ext e5 P4)
      have hq8 := s57 _ _ (e5 _ _ hq4 (fun _ z => by cases z))
      have tb8 := tb5.ext s57
      refine ⟨hh, [V.ref t], .ref t2, rfl, rfl, hh7, small_n (by show 1 ≤ 10000; decide), ?_⟩
      have kt : ∀ t' xs, G7 t' = some (.tup xs) → (upd G7 hh (.lst ([V.ref t] ++ [V.ref t2]))) t' = some (.tup xs) := fun t' xs z => by
        rw [upd_ne (fun y => by rw [y, hh7] at z; cases z)]
        exact z
      have ht8 := kt _ _ ht7
      have ht9 := kt _ _ ht2
      have hh8 : (upd G7 hh (.lst ([V.ref t] ++ [V.ref t2]))) hh = some (.lst [V.ref t, V.ref t2]) := upd_same
      have P9' : PenAt (upd G7 hh (.lst ([V.ref t] ++ [V.ref t2]))) p l ns a8 b8 := ⟨by rw [upd_ne nh.symm]; exact P8'.pen, by rw [upd_ne nhl.symm]; exact P8'.cells, P8'.few, P8'.bits, P8'.low⟩
      have hq9' : (upd G7 hh (.lst ([V.ref t] ++ [V.ref t2]))) q = some (.lst (someW.map V.str)) := by rw [upd_ne nhq.symm]; exact hq8
      have tb9' := tabs_but hh7 (But.put (p := hh) (o := .lst ([V.ref t] ++ [V.ref t2])) (But.refl _ _)) tb8
      generalize upd G7 hh (.lst ([V.ref t] ++ [V.ref t2])) = G8 at *
      refine ⟨_, rfl, (by show 2 ≤ PySem.sizeLine; decide), fun t3 ht3 => ⟨(by show 3 ≤ PySem.sizeLine; decide), fun t4 ht4' => ⟨(by show 2 ≤ PySem.sizeLine; decide), fun L5 hL5 => ?_⟩⟩⟩
      have q3 := Same.lay (o := .tup [V.str "log", V.str "log"]) ht3
      have q4 := Same.lay (o := .tup [V.str "text", V.str "0", V.str "0"]) ht4'
      have q5 := Same.lay (o := .lst [V.ref t3, V.ref t4]) hL5
      rw [Toy.n0] at ht9
      have S85 : Same G8 _ := fun _ _ z => q5 _ _ (q4 _ _ (q3 _ _ z))
      refine ⟨dueD, dueD, .lst (SqL.of (S85 _ _ hh8)) (.cons (.tup (SqT.of (S85 _ _ ht8)) (.cons (.str _) (.cons (.str _) .nil))) (.cons (.tup (SqT.of (S85 _ _ ht9)) (.cons (.str _) (.cons (.str _) (.cons (.str _) .nil)))) .nil)), .lst (SqL.of upd_same) (.cons (.tup (SqT.of (q5 _ _ (q4 _ _ upd_same))) (.cons (.str _) (.cons (.str _) .nil))) (.cons (.tup (SqT.of (q5 _ _ upd_same)) (.cons (.str _) (.cons (.str _) (.cons (.str _) .nil)))) .nil)), due_shaped, due_shaped, _, rfl, ite_nb due_eqv ?_⟩
      exact ⟨a8, b8, _, _, _, _, _, _, _, _, _, _, _, _, _, _, rfl, pen_same S85 P9', by omega, tb9'.ext S85, S85 _ _ hq9'⟩
    rintro σ G ⟨a', b', u3, u4, u5, u6, u7, u8, u9, u10, u11, u12, u13, u14, u15, u16, rfl, PG, ha, tb, hqG⟩
    refine ⟨(by show 10 ≤ PySem.sizeLine; decide), fun F hF => ?_⟩
    have yF := Same.lay (o := .lst (fixW.map V.str)) hF
    have tbF := tb.ext yF
    have hF1 : (upd G F (.lst (fixW.map V.str))) F = some (.lst (fixW.map V.str)) := upd_same
    change gName 14 (V.ref F) _ (upd G F (.lst (fixW.map V.str))) _
    generalize upd G F (.lst (fixW.map V.str)) = G1 at *
    clear yF hF hqG PG tb
    refine ⟨24, rfl, by decide, by decide, fun D hD => ?_⟩
    refine lc_it walk_range (fun i J => ∃ ts, Same G1 J ∧ J D = some (.lst ts) ∧ EntsAt J ts (fixE i)) ⟨[], Same.lay hD, upd_same, .nil⟩ (fun _ _ _ _ => trivial) ?_ ?_
    · rintro i x J J' hi ⟨ts, sJ, hJD, hT⟩ ⟨rfl, rfl⟩
      have hi2 : i < 24 := hi
      have lt := hT.len
      have lf : (fixE i).length = i := by unfold fixE; rw [List.length_map, List.length_range]
      refine ⟨rfl, _, rfl, _, rfl, _, _, rfl, rfl, (by show 3 ≤ PySem.sizeLine; decide), fun t ht => ⟨ts, Same.lay ht _ _ hJD, small_n (by omega), ts ++ [.ref t], fun c o' e1 => ?_, upd_same, ?_⟩⟩
      · rw [upd_ne (ne_of_none e1 hD)]
        exact Same.lay ht _ _ (sJ _ _ e1)
      · have nt : t ≠ D := fun z => by rw [z, hJD] at ht; cases ht
        have kt : ∀ t' xs, J' t' = some (.tup xs) → (upd (upd J' t (.tup [V.int (0 + (i : Int)), V.int (0 + (i : Int) + 4), V.bl true])) D (.lst (ts ++ [.ref t]))) t' = some (.tup xs) := fun t' xs z => by
          rw [upd_ne (fun y => by rw [y, hJD] at z; cases z)]
          exact Same.lay ht _ _ z
        rw [show fixE (i + 1) = fixE i ++ [(i, i + 4, true)] from by unfold fixE; rw [List.range_succ, List.map_append]; rfl]
        refine (hT.keep kt).append (.cons ?_ ⟨by show i ≤ 10 ^ 30; omega, by show i + 4 ≤ 10 ^ 30; omega⟩ .nil)
        rw [upd_ne nt, upd_same, Int.zero_add]
        rfl
    rintro J ⟨ts, sJ, hJD, hT⟩
    have lf : (fixE 24).length = 24 := rfl
    have ltt : ts.length = 24 := hT.len
    replace hT : EntsAt J ts (fixE 24) := hT
    refine ⟨D, ts, fixE 24, rfl, hJD, hT, by omega, fun G2 m s2 lg2 => ?_⟩
    have s12 : Same G1 G2 := fun _ _ z => s2 _ _ (sJ _ _ z)
    refine ⟨5, rfl, by decide, by decide, for_it walk_range (fun j σ J => ∃ (v5 : Option V) (m : Addr), σ = [some (.ref a), some (.ref p), some (.ref q), u3, u4, v5, u6, u7, u8, u9, u10, u11, u12, u13, some (.ref F), some (.ref m), u16] ∧ Same G1 J ∧ LogAt C J m (dblE j)) ⟨u5, m, rfl, s12, lg2⟩ (fun _ _ _ _ _ => trivial) ?_ ?_⟩
    · rintro j v σ J J' hj ⟨v5, m, rfl, sJ, lg⟩ ⟨rfl, rfl⟩
      have hj2 : j < 5 := hj
      obtain ⟨dm, mo, rm, m1, m2, m3⟩ := id lg
      have ld := dbl_len j
      have pw : 2 ^ j ≤ 16 := Nat.le_trans (Nat.pow_le_pow_right (by decide) (show j ≤ 4 by omega)) (by decide)
      exact ⟨_, rfl, _, rfl, m, dm, _, rfl, m1, .inl ⟨m, dm, _, rfl, m1⟩, m, m, dblE j, dblE j, rfl, lg, lg, by omega, fun J2 z s3 lgz => ⟨_, z, rfl, fun _ _ y => s3 _ _ (sJ _ _ y), lgz⟩⟩
    rintro σ J3 ⟨v5, m', rfl, s13, lg⟩
    have ld : (dblE 5).length = 768 := dbl_len 5
    replace lg : LogAt C J3 m' (dblE 5) := lg
    have oks := lg.oks
    have pl := page_len oks
    have rp := read_page oks
    have nE : dblE 5 ≠ [] := fun z => by rw [z] at ld; cases ld
    have lip := lines_page nE
    generalize dblE 5 = es at *
    refine ⟨_, rfl, .ref m', rfl, .inl ⟨m', es, rfl, lg, by omega, fun G4 s4 => ?_⟩⟩
    have lg4 := lg.same s4
    obtain ⟨dm, mo, rm, m1, m2, m3⟩ := id lg4
    have ll : (linesT (pageT es)).length = 768 := by rw [lip, List.length_map, ld]
    refine ⟨_, rfl, m', dm, _, rfl, m1, m', es, rfl, lg4, _, rfl, by omega, by omega, rfl, _, rfl, ite_nb (decide_eq_true (by rw [ld]; rfl)) ?_⟩
    refine ⟨_, rfl, ⟨_, rfl⟩, pageT es, "\n", rfl, rfl, rfl, by omega, fun L hL => ?_⟩
    have yL := Same.lay (o := .lst ((linesT (pageT es)).map V.str)) hL
    have hL1 : (upd G4 L (.lst ((linesT (pageT es)).map V.str))) L = some (.lst ((linesT (pageT es)).map V.str)) := upd_same
    have lg5 := lg4.same yL
    have s15 : Same G1 (upd G4 L (.lst ((linesT (pageT es)).map V.str))) := fun _ _ z => yL _ _ (s4 _ _ (s13 _ _ z))
    change tNil _ (upd G4 L (.lst ((linesT (pageT es)).map V.str))) _
    generalize upd G4 L (.lst ((linesT (pageT es)).map V.str)) = G5 at *
    refine ⟨L, _, rfl, .inl (SqL.of hL1), rfl, _, rfl, ite_nb (decide_eq_true (by rw [List.length_map, ll]; rfl)) ?_⟩
    refine ⟨_, rfl, .str (pageT es), rfl, .inl ⟨pageT es, rfl, by omega, by omega, (fun i' k' hk => by rw [rp] at hk; cases hk), (fun es' he G8 x s8 lgx => ?_)⟩⟩
    rw [rp] at he
    obtain rfl := Sum.inr.inj he
    obtain ⟨dx, po, rx, x1, x2, x3⟩ := id lgx
    obtain ⟨dm', mo', rm', m1', m2', m3'⟩ := id (lg5.same s8)
    refine ⟨_, rfl, x, dx, _, rfl, x1, .ins m1', x, es, .ref m', rfl, lgx, m', es, rfl, lg5.same s8, _, rfl, _, rfl, ite_ndf ?_⟩
    have s18 : Same G1 G8 := fun _ _ z => s8 _ _ (s15 _ _ z)
    have tb8 := tbF.ext s18
    have hF8 := s18 _ _ hF1
    refine ⟨_, rfl, F, rfl, ⟨_, SqL.of hF8⟩, fun D1 hD1 => ?_⟩
    have nF : F ≠ D1 := ne_of_none hF8 hD1
    refine lc_it (walk_list (xs := fixW.map V.str)) (fun i J => J F = some (.lst (fixW.map V.str)) ∧ J D1 = some (.lst []) ∧ Tabs (T2 TR_ TL) J) ⟨Same.lay hD1 _ _ hF8, upd_same, tb8.ext (Same.lay hD1)⟩ (fun i J _ z => SqL.of z.1) ?_ ?_
    · rintro i x J J' hi ⟨h1, h2, h3⟩ ⟨rfl, hx⟩
      rw [List.getElem?_map] at hx
      obtain ⟨w, hw, rfl⟩ := Option.map_eq_some_iff.mp hx
      obtain ⟨ow, lw⟩ := fix_ok w (List.mem_of_getElem? hw)
      have lwl := lines_le w
      exact ⟨rfl, _, rfl, w, rfl, ow, by omega, h3, fun J2 e2 tb2 => ⟨_, rfl, iteF ⟨e2 _ _ h1 (fun _ z => by cases z), e2 _ _ h2 (fun _ z => by cases z), tb2⟩⟩⟩
    rintro J ⟨h1, h2, h3⟩
    refine ⟨(by show 0 ≤ PySem.sizeLine; decide), fun E1 hE1 => ⟨.list [], .list [], .lst (SqL.of (Same.lay hE1 _ _ h2)) .nil, .lst (SqL.of upd_same) .nil, rfl, rfl, _, rfl, ?_⟩⟩
    rw [show PyData.eqv (.list []) (.list []) = true from by decide +kernel]
    refine iteT ?_
    have hF9 := Same.lay (o := .lst []) hE1 _ _ h1
    generalize upd J E1 (.lst []) = J9 at hF9 ⊢
    refine ⟨10, rfl, by decide, by decide, fun D2 hD2 => ?_⟩
    have nF2 : F ≠ D2 := ne_of_none hF9 hD2
    refine lc_it walk_range (fun i J => J F = some (.lst (fixW.map V.str)) ∧ J D2 = some (.lst ((accR i).map V.int))) ⟨Same.lay hD2 _ _ hF9, upd_same⟩ (fun _ _ _ _ => trivial) ?_ ?_
    · rintro i x J J' hi ⟨h1, h2⟩ ⟨rfl, rfl⟩
      have hi2 : i < 10 := hi
      obtain ⟨w, hw⟩ : ∃ w, fixW[i]? = some w := ⟨_, List.getElem?_eq_getElem (show i < fixW.length from hi2)⟩
      obtain ⟨ow, lw⟩ := fix_ok w (List.mem_of_getElem? hw)
      have lwl := lines_le w
      have gd : fixW.getD i "" = w := by rw [List.getD_eq_getElem?_getD, hw]; rfl
      have as := acc_succ i
      rw [gd] at as
      have al := acc_len i
      refine ⟨rfl, _, rfl, _, rfl, F, _, _, .str w, rfl, rfl, SqL.of h1, (by rw [Int.zero_add]; exact atI_nat (by rw [List.getElem?_map, hw]; rfl)), w, rfl, ow, by omega, (fun i' k' hk J2 t s2 ht => ?_), (fun es' he J2 s2 => ?_)⟩
      · rw [show isRead w = false from by unfold isRead; rw [hk]] at as
        refine ⟨rfl, _, rfl, iteF ?_⟩
        rw [as]
        exact ⟨s2 _ _ h1, s2 _ _ h2⟩
      · rw [show isRead w = true from by unfold isRead; rw [he]] at as
        refine ⟨rfl, _, rfl, iteT ⟨_, rfl, _, s2 _ _ h2, small_n (by rw [List.length_map]; omega), ?_, ?_⟩⟩
        · rw [upd_ne nF2]
          exact s2 _ _ h1
        · rw [upd_same, as, if_pos rfl, List.map_append]
          show some (HO.lst (_ ++ [V.int (0 + ((i : Nat) : Int))])) = _
          rw [Int.zero_add]
          rfl
    rintro J4 ⟨h14, h24⟩
    refine ⟨(by show 1 ≤ PySem.sizeLine; decide), fun E2 hE2 => ⟨.list ((accR 10).map .int), .list ([1].map .int), .lst (SqL.of (Same.lay hE2 _ _ h24)) (dp_ints _), .lst (SqL.of upd_same) (dp_ints [1]), ?_, ?_, ?_⟩⟩
    · rw [acc10]; rfl
    · rfl
    · rw [acc10, show PyData.eqv (.list ([1].map .int)) (.list ([1].map .int)) = true from by decide +kernel]
      exact k _
end
end Toy
/-! isinstance of an own class: what the top has written of it -/
namespace L2
open PySem
structure OCls (K : PySem.W.Frag) (C : Addr) : Prop where
  cl : Cls K C
  ha : PySem.W.findIn K (.ref C) "__class__" = some (some (.builtin "object.__class__"))
  hn : PySem.W.specialIn K (.builtin "object.__class__") "__get__" = some (some (.builtin "getset_descriptor.__get__"))
  ht : PySem.W.takesIn K (.builtin "object.__class__") = some true
  hm : PySem.W.mroIn K C (.type "object") = some true
  kC : PySem.W.kitOne K (.ref C) (.ref C) = some true
  kT : PySem.W.kitOne K (.type "tuple") (.ref C) = some false
  kS : ∀ S ∈ plainTys, PySem.W.kitOne K (.type S) (.ref C) = some false
def oclsB (K : PySem.W.Frag) (C : Addr) : Bool := decide (PySem.W.findIn K (.ref C) "__class__" = some (some (.builtin "object.__class__"))) && (decide (PySem.W.specialIn K (.builtin "object.__class__") "__get__" = some (some (.builtin "getset_descriptor.__get__"))) && (decide (PySem.W.takesIn K (.builtin "object.__class__") = some true) &&
  (decide (PySem.W.mroIn K C (.type "object") = some true) && (decide (PySem.W.kitOne K (.ref C) (.ref C) = some true) && (decide (PySem.W.kitOne K (.type "tuple") (.ref C) = some false) && plainTys.all fun S => decide (PySem.W.kitOne K (.type S) (.ref C) = some false))))))
theorem ocls_of {K : PySem.W.Frag} {C : Addr} (cl : Cls K C) (q : oclsB K C = true) : OCls K C := by
  unfold oclsB at q
  simp only [Bool.and_eq_true, decide_eq_true_eq] at q
  obtain ⟨h1, h2, h3, h4, h5, h6, h7⟩ := q
  exact ⟨cl, h1, h2, h3, h4, h5, h6, fun S hS => of_decide_eq_true (List.all_eq_true.mp h7 S hS)⟩
end L2
set_option maxRecDepth 100000
namespace L2
open PySem PySem.Spec PyProof.Rows
/-- what the written part says of an own error class below B, itself right below ValueError -/
def XL (K : PySem.W.Frag) (C B : Addr) : Prop := ∃ nm q N bs sn sub ab col dd k0 k1 k2 k3 k5, K.lookup C = some (excClassObj nm q C N bs (.ref B :: PySem.HandSPX.veTail) true sn sub ab col dd k0 k1 k2 k3 k5 "ValueError.__new__")
theorem XL.cls {K : PySem.W.Frag} {C B : Addr} (h : XL K C B) : ∃ cd : ClassData, PySem.W.clsIn K C = some cd ∧ cd.mro = .ref C :: .ref B :: PySem.HandSPX.veTail ∧ cd.hasDict = true := by
  obtain ⟨nm, q, N, bs, sn, sub, ab, col, dd, k0, k1, k2, k3, k5, e⟩ := h
  refine ⟨_, by unfold PySem.W.clsIn; rw [e] <;> rfl, rfl, rfl⟩
theorem XL.ty {K : PySem.W.Frag} {C B : Addr} (h : XL K C B) : PySem.W.typeIn K (.ref C) = some (.type "type") := by
  obtain ⟨nm, q, N, bs, sn, sub, ab, col, dd, k0, k1, k2, k3, k5, e⟩ := h
  show (K.lookup C).map (·.cls) = _
  rw [e]
  rfl
theorem XL.mro {K : PySem.W.Frag} {C B : Addr} (h : XL K C B) (x : Value) : PySem.W.mroIn K C x = some ((.ref C :: .ref B :: PySem.HandSPX.veTail).contains x) := by
  obtain ⟨cd, e, m, _⟩ := h.cls
  unfold PySem.W.mroIn
  rw [e, Option.bind_some, m]
  rfl
theorem XL.isC {K : PySem.W.Frag} {C B : Addr} (h : XL K C B) : (PySem.W.clsIn K C).isSome = true := by
  obtain ⟨cd, e, _⟩ := h.cls
  rw [e]
  rfl
theorem XL.dict {K : PySem.W.Frag} {C B : Addr} (h : XL K C B) : PySem.W.hasDictIn K C = true := by
  obtain ⟨cd, e, _, d⟩ := h.cls
  unfold PySem.W.hasDictIn
  rw [e]
  exact d
theorem XL.x {K : PySem.W.Frag} {C B : Addr} (h : XL K C B) (sa : PySem.W.findIn K (.ref C) "__setattr__" = some (some (.builtin "object.__setattr__"))) (ga : PySem.W.findIn K (.ref C) "__getattribute__" = some (some (.builtin "BaseException.__getattribute__")))
    (gg : PySem.W.findIn K (.ref C) "__getattr__" = some none) (ca : PySem.W.findIn K (.ref C) "__class__" = some (some (.builtin "object.__class__"))) (kC : PySem.W.keepIn K (.ref C) = true)
    (gs : PySem.W.specialIn K (.builtin "object.__class__") "__get__" = some (some (.builtin "getset_descriptor.__get__"))) (tk : PySem.W.takesIn K (.builtin "object.__class__") = some true) : XvC K C where
  oex := {
    cls := by
      obtain ⟨nm, q, N, bs, sn, sub, ab, col, dd, k0, k1, k2, k3, k5, e⟩ := h
      exact ⟨nm, q, N, bs, _, sn, sub, ab, col, dd, k0, k1, k2, k3, k5, e, by show PySem.HandSPX.refsVE PySem.HandSPX.veTail = true; decide +kernel⟩
    sa := sa
    exC := (h.mro _).trans (by simp)
    tyC := h.ty
    kC := kC }
  ga := ga
  gg := gg
  dd := h.dict
  ic := h.isC
  ca := ca
  gs := gs
  tk := tk
  mo := (h.mro _).trans (by simp)
theorem kit_own {K : PySem.W.Frag} {C B D : Addr} (h : XL K C B) (hd : (PySem.W.clsIn K D).isSome = true) (ht : PySem.W.typeIn K (.ref D) = some (.type "type")) : PySem.W.kitOne K (.ref C) (.ref D) = some (decide (C = D) || decide (B = D)) := by
  unfold PySem.W.kitOne
  by_cases e : C = D
  · subst e
    simp
  · have e1 : (Value.ref C == Value.ref D) = false := by simpa using e
    rw [e1, if_neg Bool.false_ne_true]
    unfold PySem.W.kitCls
    have e2 : ((PySem.W.clsIn K D).isSome && PySem.W.typeIn K (.ref D) == some (.type "type")) = true := by rw [hd, ht]; rfl
    show (if ((PySem.W.clsIn K D).isSome && PySem.W.typeIn K (.ref D) == some (.type "type")) = true then PySem.W.mroIn K C (.ref D) else none) = _
    rw [if_pos e2, h.mro]
    have e3 : (Value.ref D == Value.ref C) = false := by simpa using fun z => e z.symm
    by_cases e4 : B = D
    · subst e4
      simp [e]
    · have e5 : ¬ D = B := fun z => e4 z.symm
      have e7 : (Value.ref D == Value.ref B) = false := by simpa using e5
      rw [decide_eq_false e, decide_eq_false e4]
      rw [List.contains_cons, e3, List.contains_cons, e7]
      rfl
theorem kit_ve {K : PySem.W.Frag} {C B : Addr} (h : XL K C B) : PySem.W.kitOne K (.ref C) (.type "ValueError") = some true := by
  unfold PySem.W.kitOne
  have e1 : (Value.ref C == Value.type "ValueError") = false := rfl
  rw [e1, if_neg Bool.false_ne_true]
  show (if PySem.W.kitMeta "ValueError" = true then PySem.W.mroIn K C (.type "ValueError") else none) = _
  rw [if_pos (by decide +kernel), h.mro]
  simp
end L2
set_option maxRecDepth 100000
namespace L2
open PySem PySem.Spec PyProof.Rows
/-! facts of the top as Bools of the written part -/
/-- an own error class right below B, itself right below ValueError -/
def xlB (K : PySem.W.Frag) (C B : Addr) : Bool := match K.lookup C with
  | some ⟨.type "type", _, .cls cd, sl⟩ => (match cd.mro, sl.toList with
    | .ref C' :: .ref B' :: rest, [_, _, _, _, some (.builtin n), _] => decide (C' = C) && (decide (B' = B) && (decide (n = "ValueError.__new__") && (!cd.hasDel && (cd.hasDict && decide (rest = PySem.HandSPX.veTail)))))
    | _, _ => false)
  | _ => false
theorem xl_of {K : PySem.W.Frag} {C B : Addr} (q : xlB K C B = true) : XL K C B := by
  unfold xlB at q
  split at q
  · rename_i dd cd sl ho
    split at q
    · rename_i C' B' rest k0 k1 k2 k3 n k5 hm hs
      simp only [Bool.and_eq_true, decide_eq_true_eq, Bool.not_eq_true'] at q
      obtain ⟨rfl, rfl, rfl, hdel, hdict, rfl⟩ := q
      obtain ⟨nm, bs, mro, ns, qn, hd, sn, sub, ab, col, del⟩ := cd
      dsimp only at hm hdel hdict
      subst hm hdel hdict
      have hsl : sl = #[k0, k1, k2, k3, some (.builtin "ValueError.__new__"), k5] := by
        obtain ⟨l⟩ := sl
        simp only at hs
        rw [hs]
      subst hsl
      exact ⟨nm, qn, ns, bs, sn, sub, ab, col, dd, k0, k1, k2, k3, k5, ho⟩
    · cases q
  · cases q
/-- what is asked of such a class beside -/
def xcB (K : PySem.W.Frag) (C : Addr) : Bool := decide (PySem.W.findIn K (.ref C) "__setattr__" = some (some (.builtin "object.__setattr__"))) && (decide (PySem.W.findIn K (.ref C) "__getattribute__" = some (some (.builtin "BaseException.__getattribute__"))) &&
  (decide (PySem.W.findIn K (.ref C) "__getattr__" = some none) && (decide (PySem.W.findIn K (.ref C) "__class__" = some (some (.builtin "object.__class__"))) && (PySem.W.keepIn K (.ref C) &&
  (decide (PySem.W.specialIn K (.builtin "object.__class__") "__get__" = some (some (.builtin "getset_descriptor.__get__"))) && decide (PySem.W.takesIn K (.builtin "object.__class__") = some true))))))
theorem xc_of {K : PySem.W.Frag} {C B : Addr} (l : XL K C B) (q : xcB K C = true) : XvC K C := by
  unfold xcB at q
  simp only [Bool.and_eq_true, decide_eq_true_eq] at q
  obtain ⟨h1, h2, h3, h4, h5, h6, h7⟩ := q
  exact l.x h1 h2 h3 h4 h5 h6 h7
/-- a property's getter -/
def getterOf (K : PySem.W.Frag) (p : Addr) : Addr := match PySem.W.recIn K p "property" with
  | some (.ref g :: _) => g
  | _ => 0
def propB (K : PySem.W.Frag) (C : Addr) (f : Str) : Bool := decide (PySem.W.findIn K (.ref C) f = some (some (.ref (He.ma K C f)))) && (decide (PySem.W.specialIn K (.ref (He.ma K C f)) "__get__" = some (some (.builtin "property.__get__"))) &&
  (decide (PySem.W.takesIn K (.ref (He.ma K C f)) = some true) && (match PySem.W.recIn K (He.ma K C f) "property" with
    | some (.ref _ :: _) => true
    | _ => false)))
theorem prop_of {K : PySem.W.Frag} {C : Addr} {f : Str} (q : propB K C f = true) : PropOf K C f (He.ma K C f) (getterOf K (He.ma K C f)) := by
  unfold propB at q
  simp only [Bool.and_eq_true, decide_eq_true_eq] at q
  obtain ⟨h1, h2, h3, h4⟩ := q
  refine ⟨h1, h2, h3, ?_⟩
  split at h4
  · rename_i g rest e
    exact ⟨rest, by unfold getterOf; rw [e]⟩
  · cases h4
/-- a def without defaults -/
theorem fun_of {K : PySem.W.Frag} {x qual : Str} {st : Stmt} {f : Addr} {fd : FuncData} (F : FunD K x qual (defArgs st) (defBody st) (defScope st) [] [] f fd) : Fun K x qual st f fd := by
  obtain ⟨oc, od, dV, kV, doc, pm, an, cdv, ct, osl, rfl, lk, hc, hd, _⟩ := F.ex
  rcases hd with ⟨_, rfl⟩ | ⟨n, _⟩
  · exact ⟨⟨oc, od, kV, doc, pm, an, cdv, ct, osl, rfl, lk, hc⟩, F.kp⟩
  · exact absurd rfl n
end L2
set_option maxRecDepth 100000
namespace L2
open PySem PySem.Spec PyProof.Rows He
/-! a head by defs at told places, one Bool, and the table of one def that makes lambdas -/
structure DefA where
  at_ : PySem.W.Frag → Addr
  name : Str
  qual : Str
  st : Stmt
def fnA (K : PySem.W.Frag) (d : DefA) : FnW := match K.lookup (d.at_ K) with
  | some ⟨_, _, .func fd, _⟩ => some (fd.name, fd.qualname, fd.params, fd.body, fd.scope, fd.globals, fd.closure, fd.builtins)
  | _ => none
def DefA.val (d : DefA) : FnW := some (d.name, d.qual, defArgs d.st, .stmts (defBody d.st), defScope d.st, mainGlobals, [], builtinsNs)
def DefA.ok (K : PySem.W.Frag) (d : DefA) : Bool := PySem.W.keepIn K (.ref (d.at_ K)) && (match K.lookup (d.at_ K) with
  | some ⟨_, _, .func fd, _⟩ => PySem.W.codeIn K fd.code d.qual && decide (fd.defaults = .none)
  | _ => false)
theorem DefA.to {K : PySem.W.Frag} {d : DefA} (e : fnA K d = d.val) (c : d.ok K = true) : ∃ fd, Fun K d.name d.qual d.st (d.at_ K) fd := by
  obtain ⟨kp, c2⟩ := ba c
  unfold fnA at e
  split at e
  · rename_i oc od fd osl q
    rw [q] at c2
    obtain ⟨m1, m2, m3, m4, m5, m6, m7, m8, m9, m10, m11, m12, m13, m14, m15⟩ := fd
    have e2 := Option.some.inj e
    simp only [Prod.mk.injEq] at e2
    obtain ⟨h1, h2, h3, h4, h5, h6, h7, h8⟩ := e2
    subst h1 h2 h3 h4 h5 h6 h7 h8
    obtain ⟨k1, k2⟩ := ba c2
    have k3 := of_decide_eq_true k2
    dsimp only at k3
    subst k3
    exact ⟨_, ⟨oc, od, _, _, _, _, _, _, osl, rfl, q, k1⟩, kp⟩
  · cases e
structure SaysH (ds : List DefA) (p : Defn) (ex : PySem.W.Frag → Bool) (h : Heap) (K : PySem.W.Frag) : Prop where
  more : ex K = true
  defs : ∀ d ∈ ds, ∃ fd, Fun K d.name d.qual d.st (d.at_ K) fd
  hd : PySem.W.codeHdIn K (cT K p).1 (cT K p).2 = true
  out : K.lookup (cT K p).2 = none
  empty : h.get? (cT K p).2 = some { cls := .none, data := .fields #[] }
def obsH (n : Nat) (ds : List DefA) (p : Defn) (ex : PySem.W.Frag → Bool) (g : Addr → Option Obj) : Bool × List FnW :=
  (ex (frT g (asD g n)) && ((ds.all fun d => d.ok (frT g (asD g n))) && tabsB g [p] (frT g (asD g n))), ds.map (fnA (frT g (asD g n))))
theorem says_of {n : Nat} {ds : List DefA} {p : Defn} {ex : PySem.W.Frag → Bool} {h : Heap} (e : obsH n ds p ex h.get? = (true, ds.map DefA.val)) : SaysH ds p ex h (frT h.get? (asD h.get? n)) := by
  have e1 : (ex (frT h.get? (asD h.get? n)) && ((ds.all fun d => d.ok (frT h.get? (asD h.get? n))) && tabsB h.get? [p] (frT h.get? (asD h.get? n)))) = true := congrArg (·.1) e
  have e2 : ds.map (fnA (frT h.get? (asD h.get? n))) = ds.map DefA.val := congrArg (·.2) e
  obtain ⟨x1, x2⟩ := ba e1
  obtain ⟨x3, x4⟩ := ba x2
  obtain ⟨y1, y2⟩ := ba (List.all_eq_true.mp x4 p (List.mem_singleton.mpr rfl))
  obtain ⟨o, o1, o2⟩ : ∃ o, h.get? (cT (frT h.get? (asD h.get? n)) p).2 = some o ∧ emptyTab o = true := by
    split at y2
    · rename_i o q
      exact ⟨o, q, y2⟩
    · cases y2
  refine ⟨x1, fun d hd => ?_, y1, frT_none o1 o2, by rw [o1, emptyTab_eq o2]⟩
  obtain ⟨i, hi, ei⟩ := List.mem_iff_getElem.mp hd
  refine DefA.to ?_ (List.all_eq_true.mp x3 d hd)
  have z : (ds.map (fnA (frT h.get? (asD h.get? n))))[i]? = (ds.map DefA.val)[i]? := by rw [e2]
  rw [List.getElem?_map, List.getElem?_map, List.getElem?_eq_getElem hi, ei] at z
  exact Option.some.inj z
def hookH (n : Nat) (ds : List DefA) (p : Defn) (ex : PySem.W.Frag → Bool) : PySem.W.Hook where
  α := Bool × List FnW
  obs := fun s => obsH n ds p ex s.heap.get?
  val := fun _ => (true, ds.map DefA.val)
  says := fun _ h => ∃ K : PySem.W.Frag, K.In h ∧ SaysH ds p ex h K
  of := fun _ _ e => ⟨_, frT_in, says_of e⟩
  keeps := fun _ _ _ ⟨K, hK, c⟩ k => ⟨K, PySem.W.Frag.In.keeps hK k, ⟨c.more, c.defs, c.hd, c.out, k _ _ c.empty⟩⟩
theorem obsH_eq {n : Nat} {ds : List DefA} {p : Defn} {ex : PySem.W.Frag → Bool} {g : Addr → Option Obj} {s : Shared} (h : ∀ a, g a = s.heap.get? a) : obsH n ds p ex g = (hookH n ds p ex).obs s := by
  obtain rfl : g = s.heap.get? := funext h
  rfl
end L2
set_option maxRecDepth 100000
namespace L2
open PySem PySem.Spec PyProof.Rows He
/-! a head by defs at told places, one Bool, and the tables of several defs that make lambdas -/
structure SaysHs (ds : List DefA) (ps : List Defn) (ex : PySem.W.Frag → Bool) (h : Heap) (K : PySem.W.Frag) : Prop where
  more : ex K = true
  defs : ∀ d ∈ ds, ∃ fd, Fun K d.name d.qual d.st (d.at_ K) fd
  hd : ∀ p ∈ ps, PySem.W.codeHdIn K (cT K p).1 (cT K p).2 = true
  out : ∀ p ∈ ps, K.lookup (cT K p).2 = none
  empty : ∀ p ∈ ps, h.get? (cT K p).2 = some { cls := .none, data := .fields #[] }
def obsHs (n : Nat) (ds : List DefA) (ps : List Defn) (ex : PySem.W.Frag → Bool) (g : Addr → Option Obj) : Bool × List FnW :=
  (ex (frT g (asD g n)) && ((ds.all fun d => d.ok (frT g (asD g n))) && tabsB g ps (frT g (asD g n))), ds.map (fnA (frT g (asD g n))))
theorem saysHs_of {n : Nat} {ds : List DefA} {ps : List Defn} {ex : PySem.W.Frag → Bool} {h : Heap} (e : obsHs n ds ps ex h.get? = (true, ds.map DefA.val)) : SaysHs ds ps ex h (frT h.get? (asD h.get? n)) := by
  have e1 : (ex (frT h.get? (asD h.get? n)) && ((ds.all fun d => d.ok (frT h.get? (asD h.get? n))) && tabsB h.get? ps (frT h.get? (asD h.get? n)))) = true := congrArg (·.1) e
  have e2 : ds.map (fnA (frT h.get? (asD h.get? n))) = ds.map DefA.val := congrArg (·.2) e
  obtain ⟨x1, x2⟩ := ba e1
  obtain ⟨x3, x4⟩ := ba x2
  have one : ∀ p ∈ ps, PySem.W.codeHdIn (frT h.get? (asD h.get? n)) (cT (frT h.get? (asD h.get? n)) p).1 (cT (frT h.get? (asD h.get? n)) p).2 = true ∧ ∃ o, h.get? (cT (frT h.get? (asD h.get? n)) p).2 = some o ∧ emptyTab o = true := fun p hp => by
    obtain ⟨y1, y2⟩ := ba (List.all_eq_true.mp x4 p hp)
    refine ⟨y1, ?_⟩
    split at y2
    · rename_i o q
      exact ⟨o, q, y2⟩
    · cases y2
  refine ⟨x1, fun d hd => ?_, fun p hp => (one p hp).1, fun p hp => ?_, fun p hp => ?_⟩
  · obtain ⟨i, hi, ei⟩ := List.mem_iff_getElem.mp hd
    refine DefA.to ?_ (List.all_eq_true.mp x3 d hd)
    have z : (ds.map (fnA (frT h.get? (asD h.get? n))))[i]? = (ds.map DefA.val)[i]? := by rw [e2]
    rw [List.getElem?_map, List.getElem?_map, List.getElem?_eq_getElem hi, ei] at z
    exact Option.some.inj z
  · obtain ⟨_, o, o1, o2⟩ := one p hp
    exact frT_none o1 o2
  · obtain ⟨_, o, o1, o2⟩ := one p hp
    rw [o1, emptyTab_eq o2]
def hookHs (n : Nat) (ds : List DefA) (ps : List Defn) (ex : PySem.W.Frag → Bool) : PySem.W.Hook where
  α := Bool × List FnW
  obs := fun s => obsHs n ds ps ex s.heap.get?
  val := fun _ => (true, ds.map DefA.val)
  says := fun _ h => ∃ K : PySem.W.Frag, K.In h ∧ SaysHs ds ps ex h K
  of := fun _ _ e => ⟨_, frT_in, saysHs_of e⟩
  keeps := fun _ _ _ ⟨K, hK, c⟩ k => ⟨K, PySem.W.Frag.In.keeps hK k, ⟨c.more, c.defs, c.hd, c.out, fun p hp => k _ _ (c.empty p hp)⟩⟩
theorem obsHs_eq {n : Nat} {ds : List DefA} {ps : List Defn} {ex : PySem.W.Frag → Bool} {g : Addr → Option Obj} {s : Shared} (h : ∀ a, g a = s.heap.get? a) : obsHs n ds ps ex g = (hookHs n ds ps ex).obs s := by
  obtain rfl : g = s.heap.get? := funext h
  rfl
end L2
set_option maxRecDepth 100000
namespace L2
open PySem PySem.Spec PyProof.Rows He
/-! the head once more: defs with defaults besides, and the interpreter's own statics -/
def frC (g : Addr → Option Obj) (n : Nat) : PySem.W.Frag := frT g (He5.asA g n)
structure SaysHc (ds : List DefA) (dd : List He5.DefA) (ps : List Defn) (ex : PySem.W.Frag → Bool) (h : Heap) (K : PySem.W.Frag) : Prop where
  more : ex K = true
  defs : ∀ d ∈ ds, ∃ fd, Fun K d.name d.qual d.st (d.at_ K) fd
  defd : ∀ d ∈ dd, ∃ fd, FunD K d.name d.qual d.params d.body d.scope (d.dvs K) (d.kws K) (d.at_ K) fd
  hd : ∀ p ∈ ps, PySem.W.codeHdIn K (cT K p).1 (cT K p).2 = true
  out : ∀ p ∈ ps, K.lookup (cT K p).2 = none
  empty : ∀ p ∈ ps, h.get? (cT K p).2 = some { cls := .none, data := .fields #[] }
def obsHc (n : Nat) (ds : List DefA) (dd : List He5.DefA) (ps : List Defn) (ex : PySem.W.Frag → Bool) (g : Addr → Option Obj) : Bool × List FnW :=
  (ex (frC g n) && ((ds.all fun d => d.ok (frC g n)) && ((dd.all fun d => d.ok (frC g n)) && tabsB g ps (frC g n))), ds.map (fnA (frC g n)) ++ dd.map fun d => He5.fnA (frC g n) (d.at_ (frC g n)))
def valHc (ds : List DefA) (dd : List He5.DefA) : Bool × List FnW := (true, ds.map DefA.val ++ dd.map He5.DefA.val)
theorem saysHc_of {n : Nat} {ds : List DefA} {dd : List He5.DefA} {ps : List Defn} {ex : PySem.W.Frag → Bool} {h : Heap} (e : obsHc n ds dd ps ex h.get? = valHc ds dd) : SaysHc ds dd ps ex h (frC h.get? n) := by
  have e1 : (ex (frC h.get? n) && ((ds.all fun d => d.ok (frC h.get? n)) && ((dd.all fun d => d.ok (frC h.get? n)) && tabsB h.get? ps (frC h.get? n)))) = true := congrArg (·.1) e
  have e2 : ds.map (fnA (frC h.get? n)) ++ (dd.map fun d => He5.fnA (frC h.get? n) (d.at_ (frC h.get? n))) = ds.map DefA.val ++ dd.map He5.DefA.val := congrArg (·.2) e
  obtain ⟨x1, x2⟩ := ba e1
  obtain ⟨x3, x4⟩ := ba x2
  obtain ⟨x5, x6⟩ := ba x4
  obtain ⟨e3, e4⟩ := List.append_inj e2 (by rw [List.length_map, List.length_map])
  have one : ∀ p ∈ ps, PySem.W.codeHdIn (frC h.get? n) (cT (frC h.get? n) p).1 (cT (frC h.get? n) p).2 = true ∧ ∃ o, h.get? (cT (frC h.get? n) p).2 = some o ∧ emptyTab o = true := fun p hp => by
    obtain ⟨y1, y2⟩ := ba (List.all_eq_true.mp x6 p hp)
    refine ⟨y1, ?_⟩
    split at y2
    · rename_i o q
      exact ⟨o, q, y2⟩
    · cases y2
  refine ⟨x1, fun d hd => ?_, fun d hd => ?_, fun p hp => (one p hp).1, fun p hp => ?_, fun p hp => ?_⟩
  · obtain ⟨i, hi, ei⟩ := List.mem_iff_getElem.mp hd
    refine DefA.to ?_ (List.all_eq_true.mp x3 d hd)
    have z : (ds.map (fnA (frC h.get? n)))[i]? = (ds.map DefA.val)[i]? := by rw [e3]
    rw [List.getElem?_map, List.getElem?_map, List.getElem?_eq_getElem hi, ei] at z
    exact Option.some.inj z
  · obtain ⟨i, hi, ei⟩ := List.mem_iff_getElem.mp hd
    refine He5.DefA.funD ?_ (List.all_eq_true.mp x5 d hd)
    have z : (dd.map fun d => He5.fnA (frC h.get? n) (d.at_ (frC h.get? n)))[i]? = (dd.map He5.DefA.val)[i]? := by rw [e4]
    rw [List.getElem?_map, List.getElem?_map, List.getElem?_eq_getElem hi, ei] at z
    exact Option.some.inj z
  · obtain ⟨_, o, o1, o2⟩ := one p hp
    exact frT_none o1 o2
  · obtain ⟨_, o, o1, o2⟩ := one p hp
    rw [o1, emptyTab_eq o2]
def hookHc (n : Nat) (ds : List DefA) (dd : List He5.DefA) (ps : List Defn) (ex : PySem.W.Frag → Bool) : PySem.W.Hook where
  α := Bool × List FnW
  obs := fun s => obsHc n ds dd ps ex s.heap.get?
  val := fun _ => valHc ds dd
  says := fun _ h => ∃ K : PySem.W.Frag, K.In h ∧ SaysHc ds dd ps ex h K
  of := fun _ _ e => ⟨_, frT_in, saysHc_of e⟩
  keeps := fun _ _ _ ⟨K, hK, c⟩ k => ⟨K, PySem.W.Frag.In.keeps hK k, ⟨c.more, c.defs, c.defd, c.hd, c.out, fun p hp => k _ _ (c.empty p hp)⟩⟩
theorem obsHc_eq {n : Nat} {ds : List DefA} {dd : List He5.DefA} {ps : List Defn} {ex : PySem.W.Frag → Bool} {g : Addr → Option Obj} {s : Shared} (h : ∀ a, g a = s.heap.get? a) : obsHc n ds dd ps ex g = (hookHc n ds dd ps ex).obs s := by
  obtain rfl : g = s.heap.get? := funext h
  rfl
/-- a class's attributes are read as a type's are -/
def creadB (K : PySem.W.Frag) (C : Addr) : Bool := PySem.W.readsIn K C (.type "type") && eqO (PySem.W.specialIn K (.ref C) "__getattribute__") (some (some (.builtin "type.__getattribute__")))
theorem cread_of {K : PySem.W.Frag} {C : Addr} (h : creadB K C = true) : ClX.CRead K C (.type "type") := by
  obtain ⟨h1, h2⟩ := ba h
  exact ⟨h1, eqO_ok h2⟩
def cmB (K : PySem.W.Frag) (C : Addr) (m : Str) : Bool := He5.wrapB K C "classmethod" "classmethod.__get__" m && PySem.W.fnIn K (He5.wf K C "classmethod" m)
theorem cm_of {K : PySem.W.Frag} {C : Addr} {m : Str} (h : cmB K C m = true) : ClX.CMet K C (.type "type") m (He.ma K C m) (He5.wf K C "classmethod" m) := by
  obtain ⟨h1, h2⟩ := ba h
  exact He5.cmet_of h1 h2
end L2
set_option maxRecDepth 100000
namespace Toy
open PySem L2 LamX
/-! the head: what the top leaves, by one run -/
abbrev R : PySem.W.OpenRow := PySem.W.OpenLaw.row PySem.Challenge.rw_lanebanks_k85_texts_of_logs
def fa : List He.Fa := [.glo "is_integer", .glo "is_within", .glo "whole_in", .glo "lines_of", .glo "words_at", .glo "check_no_line", .glo "check_no_word", .glo "word_in", .glo "number_in", .glo "is_entry", .glo "check_log", .glo "log_text", .glo "entry_line", .glo "read_log", .glo "entry_in", .glo "_law_pen", .glo "_law_draw", .glo "_law_pick", .glo "_law_heard", .glo "_law_is_number", .glo "_law_entry", .glo "_law_made", .glo "_law_wrong", .glo "_law_due", .glo "_law_bent", .glo "_law_one_right", .glo "law", .glo "BankError", .glo "BadText", .glo "BadLog", .glo "BadRule", .glo "BadUnit", .glo "BadSet", .glo "Log", .free "isinstance", .free "int", .free "bool", .free "len", .free "all", .free "str", .free "list", .free "tuple", .free "range", .free "set", .free "sorted", .free "iter", .free "repr", .free "enumerate", .free "abs", .int "GREATEST" (10 ^ 30), .int "ENTRY_PARTS" 3, .str "DIGITS" "0123456789", .cls "Log", .noat "Log" "entries", .noat "BadText" "line", .noat "BadText" "word", .noat "BadLog" "at", .mkr "Log", .exm "BadText" "BankError" true, .exm "BadLog" "BankError" true]
def initB (K : PySem.W.Frag) (x : Str) : Bool := decide (PySem.W.findIn K (.ref (He.ga K x)) "__init__" = some (some (.ref (He.ma K (He.ga K x) "__init__")))) && decide (PySem.W.typeIn K (.ref (He.ma K (He.ga K x) "__init__")) = some (.type "function"))
def kitB' (K : PySem.W.Frag) (x y : Str) (b : Bool) : Bool := decide (PySem.W.kitOne K (.ref (He.ga K x)) (.ref (He.ga K y)) = some b)
def ex (K : PySem.W.Frag) : Bool := (fa.all fun f => f.ok K) && (xlB K (He.ga K "BadText") (He.ga K "BankError") && (xlB K (He.ga K "BadLog") (He.ga K "BankError") && (xcB K (He.ga K "BadText") && (xcB K (He.ga K "BadLog") && (initB K "BadText" && (initB K "BadLog" && (kitB' K "BadText" "BadText" true && (kitB' K "BadText" "BadLog" false && (kitB' K "BadLog" "BadText" false && (kitB' K "BadLog" "BadLog" true && (ownB K (He.ga K "Log") && (oclsB K (He.ga K "Log") && (methB K (He.ga K "Log") "__len__" && (ownOpB K (He.ga K "Log") "add" "__add__" "__radd__" && (decide (PySem.W.kitOne K (.ref (He.ga K "Log")) (.type "str") = some false) && (kitB' K "BadLog" "BadRule" false && (kitB' K "BadLog" "BadUnit" false && (decide ((He.cT K ("_law_one_right", none)).2 ≠ (He.cT K ("law", none)).2)))))))))))))))))))
def ds : List DefA := [
⟨fun K => He.ga K "is_integer", "is_integer", "is_integer", s_is_integer⟩,
  ⟨fun K => He.ga K "is_within", "is_within", "is_within", s_is_within⟩,
  ⟨fun K => He.ga K "whole_in", "whole_in", "whole_in", s_whole_in⟩,
  ⟨fun K => He.ga K "lines_of", "lines_of", "lines_of", s_lines_of⟩,
  ⟨fun K => He.ga K "words_at", "words_at", "words_at", s_words_at⟩,
  ⟨fun K => He.ga K "check_no_line", "check_no_line", "check_no_line", s_check_no_line⟩,
  ⟨fun K => He.ga K "check_no_word", "check_no_word", "check_no_word", s_check_no_word⟩,
  ⟨fun K => He.ga K "word_in", "word_in", "word_in", s_word_in⟩,
  ⟨fun K => He.ga K "number_in", "number_in", "number_in", s_number_in⟩,
  ⟨fun K => He.ga K "is_entry", "is_entry", "is_entry", s_is_entry⟩,
  ⟨fun K => He.ga K "check_log", "check_log", "check_log", s_check_log⟩,
  ⟨fun K => He.ga K "log_text", "log_text", "log_text", s_log_text⟩,
  ⟨fun K => He.ga K "entry_line", "entry_line", "entry_line", s_entry_line⟩,
  ⟨fun K => He.ga K "read_log", "read_log", "read_log", s_read_log⟩,
  ⟨fun K => He.ga K "entry_in", "entry_in", "entry_in", s_entry_in⟩,
  ⟨fun K => He.ga K "_law_pen", "_law_pen", "_law_pen", s__law_pen⟩,
  ⟨fun K => He.ga K "_law_draw", "_law_draw", "_law_draw", s__law_draw⟩,
  ⟨fun K => He.ga K "_law_pick", "_law_pick", "_law_pick", s__law_pick⟩,
  ⟨fun K => He.ga K "_law_heard", "_law_heard", "_law_heard", s__law_heard⟩,
  ⟨fun K => He.ga K "_law_is_number", "_law_is_number", "_law_is_number", s__law_is_number⟩,
  ⟨fun K => He.ga K "_law_entry", "_law_entry", "_law_entry", s__law_entry⟩,
  ⟨fun K => He.ga K "_law_made", "_law_made", "_law_made", s__law_made⟩,
  ⟨fun K => He.ga K "_law_wrong", "_law_wrong", "_law_wrong", s__law_wrong⟩,
  ⟨fun K => He.ga K "_law_due", "_law_due", "_law_due", s__law_due⟩,
  ⟨fun K => He.ga K "_law_bent", "_law_bent", "_law_bent", s__law_bent⟩,
  ⟨fun K => He.ga K "_law_one_right", "_law_one_right", "_law_one_right", s__law_one_right⟩,
  ⟨fun K => He.ga K "law", "law", "law", s_law⟩,
  ⟨fun K => He.ma K (He.ga K "BadText") "__init__", "__init__", "BadText.__init__", s_BadText⟩,
  ⟨fun K => He.ma K (He.ga K "BadLog") "__init__", "__init__", "BadLog.__init__", s_BadLog⟩,
  ⟨fun K => He.ma K (He.ga K "Log") "__init__", "__init__", "Log.__init__", s_Log___init__⟩,
  ⟨fun K => He.ma K (He.ga K "Log") "__eq__", "__eq__", "Log.__eq__", s_Log___eq__⟩,
  ⟨fun K => He.ma K (He.ga K "Log") "__len__", "__len__", "Log.__len__", s_Log___len__⟩,
  ⟨fun K => He.ma K (He.ga K "Log") "__add__", "__add__", "Log.__add__", s_Log___add__⟩]
def tabsOf : List He.Defn := [("_law_one_right", none), ("law", none)]
def dd : List He5.DefA := []
abbrev hk : PySem.W.Hook := hookHc 6 ds dd tabsOf ex
def ob (s : PySem.W.SharedT) : Bool × List He.FnW := obsHc 6 ds dd tabsOf ex (HandSHeadRun.getT s)
theorem ob_eq (s : PySem.W.SharedT) : ob s = hk.obs s.abs := obsHc_eq (HandSHeadRun.getT_eq s)
def names : List Str := ["_wall", "__name__", "is_integer", "is_within", "BankError", "BadSet", "BadRule", "BadUnit", "BadLog", "BadText", "DIGITS", "whole_in", "GREATEST", "lines_of", "words_at", "check_no_line", "word_in", "number_in", "check_no_word"]
def names2 : List Str := ["ENTRY_PARTS", "is_entry", "Log", "check_log", "log_text", "entry_line", "read_log", "entry_in", "_law_pen", "_law_draw", "_law_pick", "_law_heard", "_law_is_number", "_law_entry", "_law_made", "_law_wrong", "_law_due", "_law_bent", "_law_one_right"]
set_option maxHeartbeats 0 in
theorem run (w : World) : HandSHeadRun.RunEqI R (PySem.W.view R.prog [45]) hk ob 4000 (names ++ names2) w := by
  unfold HandSHeadRun.RunEqI
  kernel_rfl
end Toy
set_option maxRecDepth 100000
namespace Toy
open PySem L2 LamX
set_option maxHeartbeats 4000000 in
theorem facts {P : Program} {w : World} {K : PySem.W.Frag} {h : Heap} {mg : Str → Option Value} {f : Addr} (X : K.In h) (G : h.Ns mainGlobals mg) (hfa : mg ("law" : Str) = some (.ref f)) (c : SaysHc ds dd tabsOf ex h K) :
    ∃ fd : FuncData, (∀ (s : Shared) (v : Value), BindsTo s fd ⟨[v], []⟩ [("_law_script", v)]) ∧ ∀ base : Heap, K.In base → base.Ns mainGlobals mg → (∀ p ∈ tabsOf.map (He.cT K), TabB base mg p.1 p.2) →
      FnG P w K mg base CX0 10 f fd ["_law_script"] (spTabs K (tabsOf.map (He.cT K))) := by
  have z0 := c.more
  unfold ex at z0
  obtain ⟨f0, z1⟩ := He.ba z0
  obtain ⟨xBadText, z2⟩ := He.ba z1
  obtain ⟨xBadLog, z3⟩ := He.ba z2
  obtain ⟨yBadText, z4⟩ := He.ba z3
  obtain ⟨yBadLog, z5⟩ := He.ba z4
  obtain ⟨iBadText, z6⟩ := He.ba z5
  obtain ⟨iBadLog, z7⟩ := He.ba z6
  obtain ⟨kBadTextBadText, z8⟩ := He.ba z7
  obtain ⟨kBadTextBadLog, z9⟩ := He.ba z8
  obtain ⟨kBadLogBadText, z10⟩ := He.ba z9
  obtain ⟨kBadLogBadLog, z11⟩ := He.ba z10
  obtain ⟨ow, z12⟩ := He.ba z11
  obtain ⟨rc, z13⟩ := He.ba z12
  obtain ⟨ln, z14⟩ := He.ba z13
  obtain ⟨oa, z15⟩ := He.ba z14
  obtain ⟨kcs, z16⟩ := He.ba z15
  obtain ⟨kgr, z17⟩ := He.ba z16
  obtain ⟨kgu, z18⟩ := He.ba z17
  have pp01 := z18
  have fi : ∀ (i : Nat) (q : He.Fa), fa[i]? = some q → q.ok K = true := fun i q hq => List.all_eq_true.mp f0 q (List.mem_of_getElem? hq)
  have di : ∀ (i : Nat) (d : DefA), ds[i]? = some d → ∃ fd, Fun K d.name d.qual d.st (d.at_ K) fd := fun i d hd => c.defs d (List.mem_of_getElem? hd)
  obtain ⟨fd_is_integer, F_is_integer'⟩ := di 0 _ rfl
  have F_is_integer : Fun K "is_integer" "is_integer" s_is_integer (He.ga K "is_integer") fd_is_integer := F_is_integer'
  have b_is_integer : Binds K fd_is_integer ["value"] [] := F_is_integer.binds (ps := ["value"]) fun _ _ _ _ _ _ us hl => match us, hl with | [_], _ => rfl
  obtain ⟨fd_is_within, F_is_within'⟩ := di 1 _ rfl
  have F_is_within : Fun K "is_within" "is_within" s_is_within (He.ga K "is_within") fd_is_within := F_is_within'
  have b_is_within : Binds K fd_is_within ["value", "least", "most"] [] := F_is_within.binds (ps := ["value", "least", "most"]) fun _ _ _ _ _ _ us hl => match us, hl with | [_, _, _], _ => rfl
  obtain ⟨fd_whole_in, F_whole_in'⟩ := di 2 _ rfl
  have F_whole_in : Fun K "whole_in" "whole_in" s_whole_in (He.ga K "whole_in") fd_whole_in := F_whole_in'
  have b_whole_in : Binds K fd_whole_in ["word", "most"] [] := F_whole_in.binds (ps := ["word", "most"]) fun _ _ _ _ _ _ us hl => match us, hl with | [_, _], _ => rfl
  obtain ⟨fd_lines_of, F_lines_of'⟩ := di 3 _ rfl
  have F_lines_of : Fun K "lines_of" "lines_of" s_lines_of (He.ga K "lines_of") fd_lines_of := F_lines_of'
  have b_lines_of : Binds K fd_lines_of ["text"] [] := F_lines_of.binds (ps := ["text"]) fun _ _ _ _ _ _ us hl => match us, hl with | [_], _ => rfl
  obtain ⟨fd_words_at, F_words_at'⟩ := di 4 _ rfl
  have F_words_at : Fun K "words_at" "words_at" s_words_at (He.ga K "words_at") fd_words_at := F_words_at'
  have b_words_at : Binds K fd_words_at ["lines", "line"] [] := F_words_at.binds (ps := ["lines", "line"]) fun _ _ _ _ _ _ us hl => match us, hl with | [_, _], _ => rfl
  obtain ⟨fd_check_no_line, F_check_no_line'⟩ := di 5 _ rfl
  have F_check_no_line : Fun K "check_no_line" "check_no_line" s_check_no_line (He.ga K "check_no_line") fd_check_no_line := F_check_no_line'
  have b_check_no_line : Binds K fd_check_no_line ["lines", "line"] [] := F_check_no_line.binds (ps := ["lines", "line"]) fun _ _ _ _ _ _ us hl => match us, hl with | [_, _], _ => rfl
  obtain ⟨fd_check_no_word, F_check_no_word'⟩ := di 6 _ rfl
  have F_check_no_word : Fun K "check_no_word" "check_no_word" s_check_no_word (He.ga K "check_no_word") fd_check_no_word := F_check_no_word'
  have b_check_no_word : Binds K fd_check_no_word ["words", "line", "at"] [] := F_check_no_word.binds (ps := ["words", "line", "at"]) fun _ _ _ _ _ _ us hl => match us, hl with | [_, _, _], _ => rfl
  obtain ⟨fd_word_in, F_word_in'⟩ := di 7 _ rfl
  have F_word_in : Fun K "word_in" "word_in" s_word_in (He.ga K "word_in") fd_word_in := F_word_in'
  have b_word_in : Binds K fd_word_in ["words", "line", "at", "choices"] [] := F_word_in.binds (ps := ["words", "line", "at", "choices"]) fun _ _ _ _ _ _ us hl => match us, hl with | [_, _, _, _], _ => rfl
  obtain ⟨fd_number_in, F_number_in'⟩ := di 8 _ rfl
  have F_number_in : Fun K "number_in" "number_in" s_number_in (He.ga K "number_in") fd_number_in := F_number_in'
  have b_number_in : Binds K fd_number_in ["words", "line", "at", "least", "most"] [] := F_number_in.binds (ps := ["words", "line", "at", "least", "most"]) fun _ _ _ _ _ _ us hl => match us, hl with | [_, _, _, _, _], _ => rfl
  obtain ⟨fd_is_entry, F_is_entry'⟩ := di 9 _ rfl
  have F_is_entry : Fun K "is_entry" "is_entry" s_is_entry (He.ga K "is_entry") fd_is_entry := F_is_entry'
  have b_is_entry : Binds K fd_is_entry ["value"] [] := F_is_entry.binds (ps := ["value"]) fun _ _ _ _ _ _ us hl => match us, hl with | [_], _ => rfl
  obtain ⟨fd_check_log, F_check_log'⟩ := di 10 _ rfl
  have F_check_log : Fun K "check_log" "check_log" s_check_log (He.ga K "check_log") fd_check_log := F_check_log'
  have b_check_log : Binds K fd_check_log ["log"] [] := F_check_log.binds (ps := ["log"]) fun _ _ _ _ _ _ us hl => match us, hl with | [_], _ => rfl
  obtain ⟨fd_log_text, F_log_text'⟩ := di 11 _ rfl
  have F_log_text : Fun K "log_text" "log_text" s_log_text (He.ga K "log_text") fd_log_text := F_log_text'
  have b_log_text : Binds K fd_log_text ["log"] [] := F_log_text.binds (ps := ["log"]) fun _ _ _ _ _ _ us hl => match us, hl with | [_], _ => rfl
  obtain ⟨fd_entry_line, F_entry_line'⟩ := di 12 _ rfl
  have F_entry_line : Fun K "entry_line" "entry_line" s_entry_line (He.ga K "entry_line") fd_entry_line := F_entry_line'
  have b_entry_line : Binds K fd_entry_line ["first", "second", "met"] [] := F_entry_line.binds (ps := ["first", "second", "met"]) fun _ _ _ _ _ _ us hl => match us, hl with | [_, _, _], _ => rfl
  obtain ⟨fd_read_log, F_read_log'⟩ := di 13 _ rfl
  have F_read_log : Fun K "read_log" "read_log" s_read_log (He.ga K "read_log") fd_read_log := F_read_log'
  have b_read_log : Binds K fd_read_log ["text"] [] := F_read_log.binds (ps := ["text"]) fun _ _ _ _ _ _ us hl => match us, hl with | [_], _ => rfl
  obtain ⟨fd_entry_in, F_entry_in'⟩ := di 14 _ rfl
  have F_entry_in : Fun K "entry_in" "entry_in" s_entry_in (He.ga K "entry_in") fd_entry_in := F_entry_in'
  have b_entry_in : Binds K fd_entry_in ["words", "line"] [] := F_entry_in.binds (ps := ["words", "line"]) fun _ _ _ _ _ _ us hl => match us, hl with | [_, _], _ => rfl
  obtain ⟨fd__law_pen, F__law_pen'⟩ := di 15 _ rfl
  have F__law_pen : Fun K "_law_pen" "_law_pen" s__law_pen (He.ga K "_law_pen") fd__law_pen := F__law_pen'
  have b__law_pen : Binds K fd__law_pen ["_law_script"] [] := F__law_pen.binds (ps := ["_law_script"]) fun _ _ _ _ _ _ us hl => match us, hl with | [_], _ => rfl
  obtain ⟨fd__law_draw, F__law_draw'⟩ := di 16 _ rfl
  have F__law_draw : Fun K "_law_draw" "_law_draw" s__law_draw (He.ga K "_law_draw") fd__law_draw := F__law_draw'
  have b__law_draw : Binds K fd__law_draw ["_law_pen_here", "_law_many"] [] := F__law_draw.binds (ps := ["_law_pen_here", "_law_many"]) fun _ _ _ _ _ _ us hl => match us, hl with | [_, _], _ => rfl
  obtain ⟨fd__law_pick, F__law_pick'⟩ := di 17 _ rfl
  have F__law_pick : Fun K "_law_pick" "_law_pick" s__law_pick (He.ga K "_law_pick") fd__law_pick := F__law_pick'
  have b__law_pick : Binds K fd__law_pick ["_law_pen_here", "_law_some"] [] := F__law_pick.binds (ps := ["_law_pen_here", "_law_some"]) fun _ _ _ _ _ _ us hl => match us, hl with | [_, _], _ => rfl
  obtain ⟨fd__law_heard, F__law_heard'⟩ := di 18 _ rfl
  have F__law_heard : Fun K "_law_heard" "_law_heard" s__law_heard (He.ga K "_law_heard") fd__law_heard := F__law_heard'
  have b__law_heard : Binds K fd__law_heard ["_law_ask"] [] := F__law_heard.binds (ps := ["_law_ask"]) fun _ _ _ _ _ _ us hl => match us, hl with | [_], _ => rfl
  obtain ⟨fd__law_is_number, F__law_is_number'⟩ := di 19 _ rfl
  have F__law_is_number : Fun K "_law_is_number" "_law_is_number" s__law_is_number (He.ga K "_law_is_number") fd__law_is_number := F__law_is_number'
  have b__law_is_number : Binds K fd__law_is_number ["_law_word", "_law_least", "_law_most"] [] := F__law_is_number.binds (ps := ["_law_word", "_law_least", "_law_most"]) fun _ _ _ _ _ _ us hl => match us, hl with | [_, _, _], _ => rfl
  obtain ⟨fd__law_entry, F__law_entry'⟩ := di 20 _ rfl
  have F__law_entry : Fun K "_law_entry" "_law_entry" s__law_entry (He.ga K "_law_entry") fd__law_entry := F__law_entry'
  have b__law_entry : Binds K fd__law_entry ["_law_pen_here"] [] := F__law_entry.binds (ps := ["_law_pen_here"]) fun _ _ _ _ _ _ us hl => match us, hl with | [_], _ => rfl
  obtain ⟨fd__law_made, F__law_made'⟩ := di 21 _ rfl
  have F__law_made : Fun K "_law_made" "_law_made" s__law_made (He.ga K "_law_made") fd__law_made := F__law_made'
  have b__law_made : Binds K fd__law_made ["_law_entries"] [] := F__law_made.binds (ps := ["_law_entries"]) fun _ _ _ _ _ _ us hl => match us, hl with | [_], _ => rfl
  obtain ⟨fd__law_wrong, F__law_wrong'⟩ := di 22 _ rfl
  have F__law_wrong : Fun K "_law_wrong" "_law_wrong" s__law_wrong (He.ga K "_law_wrong") fd__law_wrong := F__law_wrong'
  have b__law_wrong : Binds K fd__law_wrong ["_law_words"] [] := F__law_wrong.binds (ps := ["_law_words"]) fun _ _ _ _ _ _ us hl => match us, hl with | [_], _ => rfl
  obtain ⟨fd__law_due, F__law_due'⟩ := di 23 _ rfl
  have F__law_due : Fun K "_law_due" "_law_due" s__law_due (He.ga K "_law_due") fd__law_due := F__law_due'
  have b__law_due : Binds K fd__law_due ["_law_page"] [] := F__law_due.binds (ps := ["_law_page"]) fun _ _ _ _ _ _ us hl => match us, hl with | [_], _ => rfl
  obtain ⟨fd__law_bent, F__law_bent'⟩ := di 24 _ rfl
  have F__law_bent : Fun K "_law_bent" "_law_bent" s__law_bent (He.ga K "_law_bent") fd__law_bent := F__law_bent'
  have b__law_bent : Binds K fd__law_bent ["_law_pen_here", "_law_page", "_law_some"] [] := F__law_bent.binds (ps := ["_law_pen_here", "_law_page", "_law_some"]) fun _ _ _ _ _ _ us hl => match us, hl with | [_, _, _], _ => rfl
  obtain ⟨fd__law_one_right, F__law_one_right'⟩ := di 25 _ rfl
  have F__law_one_right : Fun K "_law_one_right" "_law_one_right" s__law_one_right (He.ga K "_law_one_right") fd__law_one_right := F__law_one_right'
  have b__law_one_right : Binds K fd__law_one_right ["_law_page"] [] := F__law_one_right.binds (ps := ["_law_page"]) fun _ _ _ _ _ _ us hl => match us, hl with | [_], _ => rfl
  obtain ⟨fd_law, F_law'⟩ := di 26 _ rfl
  have F_law : Fun K "law" "law" s_law (He.ga K "law") fd_law := F_law'
  have b_law : Binds K fd_law ["_law_script"] [] := F_law.binds (ps := ["_law_script"]) fun _ _ _ _ _ _ us hl => match us, hl with | [_], _ => rfl
  obtain ⟨fd_BadText___init__, F_BadText___init__'⟩ := di 27 _ rfl
  have F_BadText___init__ : Fun K "__init__" "BadText.__init__" s_BadText (He.ma K (He.ga K "BadText") "__init__") fd_BadText___init__ := F_BadText___init__'
  have b_BadText___init__ : Binds K fd_BadText___init__ ["self", "line", "word"] [] := F_BadText___init__.binds (ps := ["self", "line", "word"]) fun _ _ _ _ _ _ us hl => match us, hl with | [_, _, _], _ => rfl
  obtain ⟨fd_BadLog___init__, F_BadLog___init__'⟩ := di 28 _ rfl
  have F_BadLog___init__ : Fun K "__init__" "BadLog.__init__" s_BadLog (He.ma K (He.ga K "BadLog") "__init__") fd_BadLog___init__ := F_BadLog___init__'
  have b_BadLog___init__ : Binds K fd_BadLog___init__ ["self", "at"] [] := F_BadLog___init__.binds (ps := ["self", "at"]) fun _ _ _ _ _ _ us hl => match us, hl with | [_, _], _ => rfl
  obtain ⟨fd_Log___init__, F_Log___init__'⟩ := di 29 _ rfl
  have F_Log___init__ : Fun K "__init__" "Log.__init__" s_Log___init__ (He.ma K (He.ga K "Log") "__init__") fd_Log___init__ := F_Log___init__'
  skip
  obtain ⟨fd_Log___eq__, F_Log___eq__'⟩ := di 30 _ rfl
  have F_Log___eq__ : Fun K "__eq__" "Log.__eq__" s_Log___eq__ (He.ma K (He.ga K "Log") "__eq__") fd_Log___eq__ := F_Log___eq__'
  have b_Log___eq__ : Binds K fd_Log___eq__ ["self", "other"] [] := F_Log___eq__.binds (ps := ["self", "other"]) fun _ _ _ _ _ _ us hl => match us, hl with | [_, _], _ => rfl
  obtain ⟨fd_Log___len__, F_Log___len__'⟩ := di 31 _ rfl
  have F_Log___len__ : Fun K "__len__" "Log.__len__" s_Log___len__ (He.ma K (He.ga K "Log") "__len__") fd_Log___len__ := F_Log___len__'
  have b_Log___len__ : Binds K fd_Log___len__ ["self"] [] := F_Log___len__.binds (ps := ["self"]) fun _ _ _ _ _ _ us hl => match us, hl with | [_], _ => rfl
  obtain ⟨fd_Log___add__, F_Log___add__'⟩ := di 32 _ rfl
  have F_Log___add__ : Fun K "__add__" "Log.__add__" s_Log___add__ (He.ma K (He.ga K "Log") "__add__") fd_Log___add__ := F_Log___add__'
  have b_Log___add__ : Binds K fd_Log___add__ ["self", "other"] [] := F_Log___add__.binds (ps := ["self", "other"]) fun _ _ _ _ _ _ us hl => match us, hl with | [_, _], _ => rfl
  have ddi : ∀ (i : Nat) (d : He5.DefA), dd[i]? = some d → ∃ fd, FunD K d.name d.qual d.params d.body d.scope (d.dvs K) (d.kws K) (d.at_ K) fd := fun i d hd => c.defd d (List.mem_of_getElem? hd)
  have g_is_integer := He.glo_ok X G (fi 0 (.glo "is_integer") rfl)
  have g_is_within := He.glo_ok X G (fi 1 (.glo "is_within") rfl)
  have g_whole_in := He.glo_ok X G (fi 2 (.glo "whole_in") rfl)
  have g_lines_of := He.glo_ok X G (fi 3 (.glo "lines_of") rfl)
  have g_words_at := He.glo_ok X G (fi 4 (.glo "words_at") rfl)
  have g_check_no_line := He.glo_ok X G (fi 5 (.glo "check_no_line") rfl)
  have g_check_no_word := He.glo_ok X G (fi 6 (.glo "check_no_word") rfl)
  have g_word_in := He.glo_ok X G (fi 7 (.glo "word_in") rfl)
  have g_number_in := He.glo_ok X G (fi 8 (.glo "number_in") rfl)
  have g_is_entry := He.glo_ok X G (fi 9 (.glo "is_entry") rfl)
  have g_check_log := He.glo_ok X G (fi 10 (.glo "check_log") rfl)
  have g_log_text := He.glo_ok X G (fi 11 (.glo "log_text") rfl)
  have g_entry_line := He.glo_ok X G (fi 12 (.glo "entry_line") rfl)
  have g_read_log := He.glo_ok X G (fi 13 (.glo "read_log") rfl)
  have g_entry_in := He.glo_ok X G (fi 14 (.glo "entry_in") rfl)
  have g__law_pen := He.glo_ok X G (fi 15 (.glo "_law_pen") rfl)
  have g__law_draw := He.glo_ok X G (fi 16 (.glo "_law_draw") rfl)
  have g__law_pick := He.glo_ok X G (fi 17 (.glo "_law_pick") rfl)
  have g__law_heard := He.glo_ok X G (fi 18 (.glo "_law_heard") rfl)
  have g__law_is_number := He.glo_ok X G (fi 19 (.glo "_law_is_number") rfl)
  have g__law_entry := He.glo_ok X G (fi 20 (.glo "_law_entry") rfl)
  have g__law_made := He.glo_ok X G (fi 21 (.glo "_law_made") rfl)
  have g__law_wrong := He.glo_ok X G (fi 22 (.glo "_law_wrong") rfl)
  have g__law_due := He.glo_ok X G (fi 23 (.glo "_law_due") rfl)
  have g__law_bent := He.glo_ok X G (fi 24 (.glo "_law_bent") rfl)
  have g__law_one_right := He.glo_ok X G (fi 25 (.glo "_law_one_right") rfl)
  have g_law := He.glo_ok X G (fi 26 (.glo "law") rfl)
  have g_BankError := He.glo_ok X G (fi 27 (.glo "BankError") rfl)
  have g_BadText := He.glo_ok X G (fi 28 (.glo "BadText") rfl)
  have g_BadLog := He.glo_ok X G (fi 29 (.glo "BadLog") rfl)
  have g_BadRule := He.glo_ok X G (fi 30 (.glo "BadRule") rfl)
  have g_BadUnit := He.glo_ok X G (fi 31 (.glo "BadUnit") rfl)
  have g_BadSet := He.glo_ok X G (fi 32 (.glo "BadSet") rfl)
  have g_Log := He.glo_ok X G (fi 33 (.glo "Log") rfl)
  have m_isinstance := He.free_ok X G (fi 34 (.free "isinstance") rfl)
  have m_int := He.free_ok X G (fi 35 (.free "int") rfl)
  have m_bool := He.free_ok X G (fi 36 (.free "bool") rfl)
  have m_len := He.free_ok X G (fi 37 (.free "len") rfl)
  have m_all := He.free_ok X G (fi 38 (.free "all") rfl)
  have m_str := He.free_ok X G (fi 39 (.free "str") rfl)
  have m_list := He.free_ok X G (fi 40 (.free "list") rfl)
  have m_tuple := He.free_ok X G (fi 41 (.free "tuple") rfl)
  have m_range := He.free_ok X G (fi 42 (.free "range") rfl)
  have m_set := He.free_ok X G (fi 43 (.free "set") rfl)
  have m_sorted := He.free_ok X G (fi 44 (.free "sorted") rfl)
  have m_iter := He.free_ok X G (fi 45 (.free "iter") rfl)
  have m_repr := He.free_ok X G (fi 46 (.free "repr") rfl)
  have m_enumerate := He.free_ok X G (fi 47 (.free "enumerate") rfl)
  have m_abs := He.free_ok X G (fi 48 (.free "abs") rfl)
  have c_GREATEST := He.int_ok X G (fi 49 (.int "GREATEST" (10 ^ 30)) rfl)
  have c_ENTRY_PARTS := He.int_ok X G (fi 50 (.int "ENTRY_PARTS" 3) rfl)
  have e := hfa.symm.trans g_law
  cases e
  have xl_BadText := xl_of xBadText
  have xc_BadText := xc_of xl_BadText yBadText
  obtain ⟨n_BadText, t_BadText⟩ := He.ba iBadText
  have n_BadText' := of_decide_eq_true n_BadText
  have t_BadText' := of_decide_eq_true t_BadText
  have xl_BadLog := xl_of xBadLog
  have xc_BadLog := xc_of xl_BadLog yBadLog
  obtain ⟨n_BadLog, t_BadLog⟩ := He.ba iBadLog
  have n_BadLog' := of_decide_eq_true n_BadLog
  have t_BadLog' := of_decide_eq_true t_BadLog
  have T : TR mg := ⟨m_isinstance, m_int, m_bool, m_len, m_all, m_str, m_list, m_tuple, m_range, m_set, m_sorted, m_iter, m_repr, m_enumerate, He.str_ok X G (fi 51 (.str "DIGITS" "0123456789") rfl), c_GREATEST⟩
  have TBo : TB mg := ⟨m_int, m_abs, m_len, m_list⟩
  have TE : TErr K mg (He.ga K "BadText") (He.ga K "BadLog") (He.ma K (He.ga K "BadText") "__init__") (He.ma K (He.ga K "BadLog") "__init__") fd_BadText___init__ fd_BadLog___init__ := ⟨g_BadText, ⟨xc_BadText, n_BadText', t_BadText'⟩, F_BadText___init__, He.noat_ok (fi 54 (.noat "BadText" "line") rfl), He.noat_ok (fi 55 (.noat "BadText" "word") rfl), b_BadText___init__, g_BadLog, ⟨xc_BadLog, n_BadLog', t_BadLog'⟩, F_BadLog___init__, He.noat_ok (fi 56 (.noat "BadLog" "at") rfl), b_BadLog___init__⟩
  have TU : TLog K mg (He.ga K "Log") := ⟨He.cls_ok (fi 52 (.cls "Log") rfl), He.noat_ok (fi 53 (.noat "Log" "entries") rfl), g_Log⟩
  have MPI := He.mkr_ok (fi 57 (.mkr "Log") rfl)
  have OC := own_of ow
  have RC0 := ocls_of TU.cl rc
  have RC : LogCls K (He.ga K "Log") := ⟨RC0.cl, RC0.ha, RC0.hn, RC0.ht, RC0.hm, RC0.kC, RC0.kS⟩
  obtain ⟨nLn, nLn2⟩ := meth_of ln
  have oAd := ownOp_of (nm := "add") (m := "__add__") (r := "__radd__") (by decide +kernel) (by decide +kernel) oa
  have kCs := of_decide_eq_true kcs
  have bvI : BindV fd_Log___init__ "self" "entries" PySem.sizeLine := by
    obtain ⟨oc, od, kV, doc, pm, an, cdv, ct, osl, e, _, _⟩ := F_Log___init__.ex
    subst e
    exact bindV_any (fun _ => rfl) (fun _ _ => rfl) (fun _ _ _ _ => rfl) _
  obtain ⟨och, odh, kVh, doch, pmh, anh, cdvh, cth, oslh, eh, lkHe, hcHe⟩ := id F__law_heard.ex
  subst eh
  have THd : THeard K mg (He.ga K "BadText") (He.ga K "BadLog") (He.ga K "BadRule") (He.ga K "BadUnit") (He.ga K "BadSet") (He.ga K "BankError") := ⟨g_BankError, TE.gBadText, TE.gBadLog, g_BadRule, g_BadUnit, g_BadSet, xc_BadText, TE.nWord, TE.nLine, He.exm_ok (fi 58 (.exm "BadText" "BankError" true) rfl), xc_BadLog, TE.nAt, He.exm_ok (fi 59 (.exm "BadLog" "BankError" true) rfl), of_decide_eq_true kBadTextBadText, of_decide_eq_true kBadLogBadText, of_decide_eq_true kgr, of_decide_eq_true kgu, of_decide_eq_true kBadLogBadLog, m_isinstance, m_repr⟩
  have kRlK : KBn K fd_read_log ["text"] 0 ["text"] (fun us ws => us ++ ws) (fun vs zs => vs ++ zs) := F_read_log.kbn 0 ["text"] _ _ (fun _ _ _ _ _ _ us ws l1 l2 => match us, ws, l1, l2 with | [], [_], _, _ => rfl) fun r q => r.append q
  have kLtK : KBn K fd_log_text ["log"] 0 ["log"] (fun us ws => us ++ ws) (fun vs zs => vs ++ zs) := F_log_text.kbn 0 ["log"] _ _ (fun _ _ _ _ _ _ us ws l1 l2 => match us, ws, l1, l2 with | [], [_], _, _ => rfl) fun r q => r.append q
  obtain ⟨ocM, odM, kVM, docM, pmM, anM, cdvM, ctM, oslM, eM, lkM, hcM⟩ := id F__law_one_right.ex
  obtain ⟨ocl, odl, kVl, docl, pml, anl, cdvl, ctl, osll, el, lkL, hcL⟩ := id F_law.ex
  subst eM el
  obtain ⟨c0, rfl⟩ := He.codeIn_ref hcM
  obtain ⟨c1, rfl⟩ := He.codeIn_ref hcL
  have ec0 : He.codeOf K ("_law_one_right", none) = c0 := He.codeOf_eq lkM rfl
  have ec1 : He.codeOf K ("law", none) = c1 := He.codeOf_eq lkL rfl
  have dis := of_decide_eq_true pp01
  refine ⟨PySem.W.fnOf "law" "law" (defArgs s_law) (defBody s_law) (defScope s_law) .none kVl docl pml anl (.ref c1) ctl, fun s v => .of_eq rfl, fun base _ _ tb => ?_⟩
  have TBR : TabB base mg c0 (He.cT K ("_law_one_right", none)).2 := by
    rw [← ec0]
    exact tb _ List.mem_cons_self
  have TBl : TabB base mg c1 (He.cT K ("law", none)).2 := by
    rw [← ec1]
    exact tb _ (List.mem_cons_of_mem _ List.mem_cons_self)
  have GD : FnOk P w K mg base CX0 1 _ fd__law_draw ["_law_pen_here", "_law_many"] spDraw := ok__law_draw F__law_draw TBo
  have GPk : FnOk P w K mg base CX0 2 _ fd__law_pick ["_law_pen_here", "_law_some"] (spPick K) := ok__law_pick F__law_pick TBo F__law_draw g__law_draw b__law_draw
  have GPn : FnOk P w K mg base CX0 1 _ fd__law_pen ["_law_script"] (spPen K) := ok__law_pen F__law_pen TBo
  have GW := ok_is_within (P := P) (w := w) (base := base) F_is_within T F_is_integer g_is_integer b_is_integer
  have GWh := ok_whole_in (P := P) (w := w) (base := base) F_whole_in T
  have GIe := ok_is_entry (P := P) (w := w) (base := base) F_is_entry T c_ENTRY_PARTS GW g_is_within F_is_within.kp b_is_within
  have GPI := ok_Log_init (P := P) (w := w) (base := base) F_Log___init__ bvI T TE TU GIe g_is_entry F_is_entry.kp b_is_entry
  have GEq := ok_Log_eq (P := P) (w := w) (base := base) F_Log___eq__ T TU RC
  have GLn : FnR P w K mg base CX0 1 _ (spLLen (He.ga K "Log")) := (FnOk.raw (ok_Log_len (P := P) (w := w) (base := base) F_Log___len__ T TU) b_Log___len__ .nil).imp fun vs H Q E h => by rw [List.append_nil]; exact h
  have GAd : FnR P w K mg base (L2.CX P w) 6 _ (spLAdd (He.ga K "Log")) := (FnOk.raw (ok_Log_add (P := P) (w := w) (base := base) F_Log___add__ T TE TU RC MPI GPI) b_Log___add__ .nil).imp fun vs H Q E h => by rw [List.append_nil]; exact h
  have GCl := ok_check_log (P := P) (w := w) (base := base) F_check_log T TE TU RC
  have GEl := ok_entry_line (P := P) (w := w) (base := base) F_entry_line T
  have GLt := ok_log_text (P := P) (w := w) (base := base) F_log_text T TE TU GCl g_check_log F_check_log.kp b_check_log GEl g_entry_line F_entry_line.kp b_entry_line
  have GLo := ok_lines_of (P := P) (w := w) (base := base) F_lines_of T TE
  have GWa := ok_words_at (P := P) (w := w) (base := base) F_words_at T TE
  have GCn := ok_check_no_line (P := P) (w := w) (base := base) F_check_no_line T TE
  have GCw := ok_check_no_word (P := P) (w := w) (base := base) F_check_no_word T TE
  have GWi := ok_word_in (P := P) (w := w) (base := base) F_word_in T TE
  have GNu := ok_number_in (P := P) (w := w) (base := base) F_number_in T TE GWh g_whole_in F_whole_in.kp b_whole_in
  have GEi := ok_entry_in (P := P) (w := w) (base := base) F_entry_in T TE GNu g_number_in F_number_in.kp b_number_in GWi g_word_in F_word_in.kp b_word_in GCw g_check_no_word F_check_no_word.kp b_check_no_word
  have GRl := ok_read_log (P := P) (w := w) (base := base) F_read_log T TU GLo g_lines_of F_lines_of.kp b_lines_of GWa g_words_at F_words_at.kp b_words_at GCw g_check_no_word F_check_no_word.kp b_check_no_word GCn g_check_no_line F_check_no_line.kp b_check_no_line GEi g_entry_in F_entry_in.kp b_entry_in MPI GPI
  have GIn := ok__law_is_number (P := P) (w := w) (base := base) F__law_is_number T
  have GWr := ok__law_wrong (P := P) (w := w) (base := base) F__law_wrong T GIn g__law_is_number F__law_is_number.kp b__law_is_number
  have GDu := ok__law_due (P := P) (w := w) (base := base) F__law_due T GWr g__law_wrong F__law_wrong.kp b__law_wrong
  have GMa := ok__law_made (P := P) (w := w) (base := base) F__law_made T TU oAd GAd MPI GPI
  have GEn := ok__law_entry (P := P) (w := w) (base := base) F__law_entry T GD g__law_draw F__law_draw.kp b__law_draw GPk g__law_pick F__law_pick.kp b__law_pick
  have GBe := ok__law_bent (P := P) (w := w) (base := base) F__law_bent T GD g__law_draw F__law_draw.kp b__law_draw GPk g__law_pick F__law_pick.kp b__law_pick
  have GOr := ok__law_one_right (P := P) (w := w) (base := base) lkM hcM TBR dis T TU RC THd GDu g__law_due F__law_due.kp b__law_due GRl g_read_log F_read_log.kp b_read_log GLt g_log_text F_log_text.kp b_log_text g__law_heard F__law_heard.kp lkHe hcHe b__law_heard
  exact ok_law lkL hcL TBl dis T TU RC THd kCs GPn g__law_pen F__law_pen.kp b__law_pen GD g__law_draw F__law_draw.kp b__law_draw GPk g__law_pick F__law_pick.kp b__law_pick GEn g__law_entry F__law_entry.kp b__law_entry GMa g__law_made F__law_made.kp b__law_made GBe g__law_bent F__law_bent.kp b__law_bent GOr g__law_one_right F__law_one_right.kp b__law_one_right GDu g__law_due F__law_due.kp b__law_due GRl g_read_log F_read_log.kp b_read_log kRlK GLt g_log_text F_log_text.kp b_log_text kLtK OC GEq b_Log___eq__ nLn nLn2 GLn oAd GAd g__law_heard F__law_heard.kp lkHe hcHe b__law_heard

end Toy
open PySem PySem.W PySem.Calls PyProof.Rows
set_option maxRecDepth 100000 in
set_option maxHeartbeats 0 in
theorem PySem.Challenge.cw_lanebanks_k85_texts_of_logs_holds : PySem.Challenge.rw_lanebanks_k85_texts_of_logs.Holds := by
  w_on; o_law
  refine HandSHeadRun.head_imp (r := OpenLaw.row PySem.Challenge.rw_lanebanks_k85_texts_of_logs) (q := view (OpenLaw.row PySem.Challenge.rw_lanebanks_k85_texts_of_logs).prog [45]) (H := Toy.hk) (ob := Toy.ob) (M := 4000) (loose := Toy.names ++ Toy.names2) (d := HandSHeadRun.topDef (OpenLaw.row PySem.Challenge.rw_lanebanks_k85_texts_of_logs).prog 45) (kwd := []) Toy.ob_eq
    Toy.run (by kernel_rfl) (by kernel_rfl) (by kernel_rfl) (by rfl) (by first | assumption | decide +kernel) (by decide +kernel) ⟨rfl, rfl, rfl, rfl, rfl, by decide +kernel⟩ ?hw ?hc
  case hw => w_witness2
  case hc =>
    refine L2.walk_tabs (l := PySem.Challenge.rw_lanebanks_k85_texts_of_logs) (n := 63) (k := 10) (x := "_law_script") (sp := fun K ts => Toy.spTabs K ts) rfl (by decide) (by kernel_rfl) ⟨rfl, by decide, by decide⟩ ?F (fun K ts H a ns hl hb hT hS => ⟨a, ns, rfl, hS, hl, hb, hT, fun _ => rfl⟩)
    intro w mg fa h Y G hmg0
    obtain ⟨K, KX, c⟩ := Y
    have hmg : mg ("law" : PySem.Str) = some (.ref fa) := by
      have e : (HandSHeadRun.topDef (OpenLaw.row PySem.Challenge.rw_lanebanks_k85_texts_of_logs).prog 45).name = ("law" : PySem.Str) := by kernel_rfl
      rw [← e]
      exact hmg0
    obtain ⟨fd, hb, hF⟩ := Toy.facts (P := (PySem.Challenge.rw_lanebanks_k85_texts_of_logs).prog) (w := w) KX G hmg c
    refine ⟨K, Toy.tabsOf.map (He.cT K), fd, KX, fun p hp => ?_, fun p hp => ?_, fun p hp => ?_, hb, hF⟩
    all_goals
      obtain ⟨d, hd, rfl⟩ := List.mem_map.mp hp
    · exact c.empty d hd
    · exact c.out d hd
    · exact PySem.W.codeHd_of_K KX (c.hd d hd)
