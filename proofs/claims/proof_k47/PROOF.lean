import PyProof.Rows.All
import Wide.All
import OpenK.AllK
import Wide.FinOn
import HandS.ForMost
import HandS.ForExc
import HandS.ExcInit
import HandS.IsInst
import HandS.Wide
import HandS.EndBits
import HandS.Conv
import HandS.Defaults
import KE.KExcIs
import HandS.MakeKw
import HandS.Codes
import HandS.ExcValue
import HandS.Walk
import HandS.Style
import HandS.TupMul
import HandS.TupAny
import HandS.ExcOwn
import HandS.WordsExc
import HandS.Property
import KE.KAssignIn
import HandS.OwnEq
import HandS.More
import HandS.HeadHook2
import KE.GoesEnum
import KE.KDictZip
import HandS.Zip
import HandS.ListItems
import HandS.Star
import HandS.Words
import PyProof.FString
import PyProof.FString3
import HandS.Small
import PyProof.Rows.StrIntSpec
import HandS.FStr
import HandS.Text
import PyProof.Rows.StrStep
import KE.KOpsOwn
import KE.KMathGC
import HandS.Gcd
import KE.KCallOwn
import HandS.ClsMeth
import HandS.IterVal
import KE.KOwnIter
import OpenK.KOps
import OpenK.KMeth
import HandS.SetFor
import HandS.Strs
import PyProof.Rows.StrSplitAre
import HandS.HeadNt
import KE.KTupTruth
import HandS.Comp
import HandS.Lambda
import HandS.Deep
import HandS.EndTab
import HandS.HeadHook4
import KE.KStateDown
import Lean
import HandS.Head0
import HandS.Head1
import HandS.Head2
import HandS.Head3
import HandS.HeadEnd
import PySem.Challenge.RW_lanebanks_k47_patterns_made
set_option Elab.async false
set_option linter.all false
set_option maxRecDepth 100000
namespace L2
open PySem PySem.Spec PyProof.Rows
/-! exceptions of the program's own as values -/
structure XvC (K : PySem.W.Frag) (C : Addr) : Prop where
  oex : OexC K C
  ga : PySem.W.findIn K (.ref C) "__getattribute__" = some (some (.builtin "BaseException.__getattribute__"))
  gg : PySem.W.findIn K (.ref C) "__getattr__" = some none
  dd : PySem.W.hasDictIn K C = true
  ic : (PySem.W.clsIn K C).isSome = true
  ca : PySem.W.findIn K (.ref C) "__class__" = some (some (.builtin "object.__class__"))
  gs : PySem.W.specialIn K (.builtin "object.__class__") "__get__" = some (some (.builtin "getset_descriptor.__get__"))
  tk : PySem.W.takesIn K (.builtin "object.__class__") = some true
  mo : PySem.W.mroIn K C (.type "object") = some true
/-- an exception object with (some) dict -/
def XvD (H : Hp) (d : Option Addr) : Prop := ∀ b, d = some b → ∃ fs, H b = some (exd b fs)
section
variable {X : Cx} {pins : List (Addr × Obj)} {σ : St} {H : Hp} {s : Shared}
theorem xv_inst {a C : Addr} {d : Option Addr} (I : Inv X pins σ H s) (e : H a = some (exo a C d)) (hd : XvD H d) : ∃ oe od, PySem.W.InstAt s.heap a oe C od := by
  obtain ⟨t1, ho⟩ := exo_at I.hok e
  cases d with
  | none => exact ⟨_, none, ho, rfl, rfl, trivial⟩
  | some b =>
    obtain ⟨fs, eb⟩ := hd b rfl
    obtain ⟨mA, hns, hr⟩ := exd_at I.hok eb
    obtain ⟨od, hod, hl⟩ := lookIn_ns hns
    exact ⟨_, some od, ho, rfl, rfl, hod⟩
/-- e.f off such a value -/
def tXat (K : PySem.W.Frag) (te : TE) (f : Str) : TE := fun σ H Q => te σ H fun x H1 => ∃ (a C d : Addr) (fs : List (Str × V)) (v : V), x = .ref a ∧ H1 a = some (exo a C (some d)) ∧ H1 d = some (exd d fs) ∧ XvC K C ∧ PySem.W.findIn K (.ref C) f = some none ∧ fs.lookup f = some v ∧ Q v H1
theorem pe_xat {e : Expr} {te : TE} {f : Str} {pos : Pos} (he : PE X e te) (hb : attributeBase e f X.env (eval e X.env) = eval e X.env := by rfl) : PE X (.Attribute e f pos) (tXat X.K te f) := by
  refine ⟨fun pins s σ H Q I h => ?_⟩
  refine attr_of hb (thn (he.run pins s σ H _ I h) fun u s1 hh => ?_)
  obtain ⟨x, H1, I1, rx, a, C, d, fs, v, ex, ea, ed, T, no, l, q⟩ := hh
  subst ex
  obtain rfl : u = Value.ref a := rx
  obtain ⟨t1, ho⟩ := exo_at I1.hok ea
  obtain ⟨mA, hns, hr⟩ := exd_at I1.hok ed
  obtain ⟨od, hod, hl⟩ := lookIn_ns hns
  obtain ⟨u, hu, ru⟩ := RelO.some_of (v := v) (o := mA f) (by rw [← l]; exact hr f)
  have J : PySem.W.InstAt s1.heap a _ C (some od) := ⟨ho, rfl, rfl, hod⟩
  exact HandSPX.exc_get I1.kIn J T.ga T.gg T.oex.exC (PySem.W.findObj_own T.dd no rfl (by rw [hl, hu])) (handed_of ru) ⟨v, H1, I1.tok _, ru, q⟩
/-- isinstance(e, c) -/
def rIsX (K : PySem.W.Frag) : List V → Hp → VK → Prop := fun xs H Q => ∃ (a C : Addr) (d : Option Addr) (c : V) (cv : Value) (b : Bool), xs = [.ref a, c] ∧ H a = some (exo a C d) ∧ XvD H d ∧ XvC K C ∧ ClsV c cv ∧ PySem.W.kitOne K (.ref C) cv = some b ∧ Q (.bl b) H
theorem call_isx : CallR X (.builtin "isinstance") (rIsX X.K) := by
  intro pins s σ H xs us Q I r h
  obtain ⟨a, C, d, c, cv, b, rfl, ea, hd, T, k, e, q⟩ := h
  obtain ⟨u1, u2, rfl, r1, r2⟩ := vals2 r
  have e2 := k.eq r2
  subst e2
  obtain rfl : u1 = Value.ref a := r1
  obtain ⟨oe, od, J⟩ := xv_inst I ea hd
  exact PySem.W.kia_one (PySem.W.kitx_exc T.ic T.ga T.gg T.oex.exC T.ca T.gs T.tk T.mo) I.kIn J e (fun z => nomatch z) fun tk => ⟨.bl b, H, I.tok tk, rfl, q⟩
end
end L2
set_option maxRecDepth 100000
namespace PySem
namespace XKw
open Builtin Builtin.ObjectAttr PySem.HandSPX
section
variable {M : Model} {A : Around} {E : Value → Shared → Prop} {hh : Heap} {gg : Array GenState} {dr : Drawn} {tt : Nat} {oss : OsState}
variable {nm q : Str} {C N : Addr} {bs bm bmB : List Value} {hdct : Bool} {sn : List Str} {sub : List Value} {ab : Bool} {col : Option Bool} {dd : Option Addr} {k0 k1 k2 k3 k5 : Option Value} {B nid iid : String}
theorem chk_new (FF : ExcBaseFacts B nid iid bmB) (hT : ∀ Y : String, bm.contains (.type Y) = bmB.contains (.type Y)) {us : List Value} {kw : List (Str × Value)} {Q : Unit → Shared → Prop}
    (hC : hh.get? C = some (excClassObj nm q C N bs bm hdct sn sub ab col dd k0 k1 k2 k3 k5 nid))
    (hq : Q () ⟨hh, gg, dr, tt, oss⟩) : wpAny M A (checkBuiltinCall nid ⟨.ref C :: us, kw⟩) Q E ⟨hh, gg, dr, tt, oss⟩ := by
  have hc : (Value.ref C :: bm).contains (.type B) = true := by rw [List.contains_cons, hT, FF.hasB]; exact Bool.or_true _
  have hs := FF.noStar
  simp only [checkBuiltinCall, FF.newKind, FF.newSplit, FF.newRow]
  repeat (first
    | refine wpAny_loadPart_at hC ?_
    | (refine wpAny_isSubtype_exc hC ?_; rw [hc])
    | refine wpAny_staticBase_exc hC ?_
    | refine wpAny_madeBy_exc hC ?_
    | simp only [bne_self_eq_false, Bool.false_eq_true, if_false]
    | wp_step)
  exact hq
end
section
variable {prog : Program} {w : World} {A : Around} {E : Value → Shared → Prop} {R : Result → Shared → Prop} {hh : Heap} {gg : Array GenState} {dr : Drawn} {tt : Nat} {oss : OsState}
variable {nm q : Str} {C N : Addr} {bs bm bmB : List Value} {hdct : Bool} {sn : List Str} {sub : List Value} {ab : Bool} {col : Option Bool} {dd : Option Addr} {k0 k1 k2 k3 k5 : Option Value} {B nid iid : String} {kw : List (Str × Value)}
theorem mk_new (FF : ExcBaseFacts B nid iid bmB) (hT : ∀ Y : String, bm.contains (.type Y) = bmB.contains (.type Y)) {us : List Value}
    (hC : hh.get? C = some (excClassObj nm q C N bs bm hdct sn sub ab col dd k0 k1 k2 k3 k5 nid))
    (hq : R (.ok (.ret (.ref (hh.objs.size + 1)))) ⟨(hh.push (W.kdv_tup us)).push (excO C hh.objs.size), gg, dr, tt, oss⟩) (hu : us.length ≤ sizeLine) :
    codeAny (model prog w) A (.builtin nid ⟨.ref C :: us, kw⟩) R ⟨hh, gg, dr, tt, oss⟩ := by
  have he := FF.ends
  have c1 : (Value.ref C :: bm).contains (.type B) = true := by rw [List.contains_cons, hT, FF.hasB]; exact Bool.or_true _
  have c2 : (Value.ref C :: bm).contains (.type "AttributeError") = false := by rw [List.contains_cons, hT, FF.noAttr]; exact Bool.or_false _
  have c3 : (Value.ref C :: bm).contains (.type "NameError") = false := by rw [List.contains_cons, hT, FF.noName]; exact Bool.or_false _
  refine codeAny_builtinAt FF.entry ?_
  unfold Builtin.«BaseException.__new__»
  refine wpAt_bind ?_
  show wpAt _ _ _ (PySem.stack >>= _) _ _ _
  refine wpAt_bind (wpAt_stack fun _ _ => wpAt_of_wpAny ?_)
  wp_walk
  refine wpAt_of_wpAny ?_
  rw [FF.owner]
  repeat (first
    | with_reducible refine wpAny_madeHere_exc FF.canon hC ?_
    | with_reducible refine wpAny_loadPart_at hC ?_
    | (with_reducible refine wpAny_isSubtype_exc hC ?_; first | rw [c1] | rw [c2] | rw [c3])
    | wp_step)
  show R _ _
  rw [Heap.size_push]
  exact hq
theorem mk_type (FF : ExcBaseFacts B nid iid bmB) (hT : ∀ Y : String, bm.contains (.type Y) = bmB.contains (.type Y)) {us : List Value} {fI : Addr} {Q : Fin → Shared → Prop}
    (hC : hh.get? C = some (excClassObj nm q C N bs bm hdct sn sub ab col dd k0 k1 k2 k3 k5 nid))
    (hi : W.Looks (model prog w) hh (typeLookup (.ref C) "__init__") (some (.ref fI)))
    (hb : ∀ y, W.Looks (model prog w) hh (bindSpecial (.ref fI) y) (.ref fI, [y])) (hu : us.length ≤ sizeLine)
    (hq : codeAny (model prog w) A (.call (.ref fI) ⟨.ref (hh.objs.size + 1) :: us, kw⟩)
      (fun r z => match r with
        | .ok (.ret v) => v = .none ∧ Q (.done (.ret (.ref (hh.objs.size + 1)))) z
        | .ok _ => False
        | .error e => E e z)
      ⟨(hh.push (W.kdv_tup us)).push (excO C hh.objs.size), gg, dr, tt, oss⟩) :
    wpAny (model prog w) A (Builtin.«type.__call__» ⟨.ref C :: us, kw⟩) Q E ⟨hh, gg, dr, tt, oss⟩ := by
  repeat (first
    | with_reducible refine wpAny_loadPart_at hC ?_
    | with_reducible refine wpAny_madeBy_exc hC ?_
    | wp_step)
  refine codeAny_call_builtin_code (Code.quiet_builtin _ FF.quiet) (chk_new FF hT hC ?_)
  refine mk_new FF hT hC ?_ hu
  show wpAny _ _ _ _ _ _
  have k : ∀ b o, hh.get? b = some o → ((hh.push (W.kdv_tup us)).push (excO C hh.objs.size)).get? b = some o :=
    fun _ _ e => Heap.get?_push_of_some _ (Heap.get?_push_of_some _ e)
  have hC1 := k _ _ hC
  have hg : ((hh.push (W.kdv_tup us)).push (excO C hh.objs.size)).get? (hh.objs.size + 1) = some (excO C hh.objs.size) := by
    heap_get
  have cC : (Value.ref C :: bm).contains (.ref C) = true := by simp
  have i1 := hi.keeps k
  have b1 := (hb (.ref (hh.objs.size + 1))).keeps k
  unfold isInstance
  repeat (first
    | with_reducible refine wpAny_loadPart_at hg ?_
    | (with_reducible refine wpAny_isSubtype_exc hC1 ?_; rw [cC])
    | wp_step)
  show wpAny _ _ (typeLookup (.ref C) _) _ _ _
  refine i1.at ?_
  refine wpAny_holding (wpAny_bind (b1.at ?_))
  refine wpAny_bind (wpAny_call (codeAny_mono hq fun r z y => ?_))
  cases r with
  | error e => exact y
  | ok fl =>
    cases fl with
    | ret v =>
      obtain ⟨rfl, y⟩ := y
      first
        | exact wpAny_pure (wpAny_pure y)
        | (wp_walk; done)
        | (wp_walk; exact y)
    | next => exact y.elim
    | brk => exact y.elim
    | cont => exact y.elim
theorem mk_call (FF : ExcBaseFacts B nid iid bmB) (hT : ∀ Y : String, bm.contains (.type Y) = bmB.contains (.type Y)) {us : List Value} {fI : Addr}
    (hC : hh.get? C = some (excClassObj nm q C N bs bm hdct sn sub ab col dd k0 k1 k2 k3 k5 nid))
    (hi : W.Looks (model prog w) hh (typeLookup (.ref C) "__init__") (some (.ref fI)))
    (hb : ∀ y, W.Looks (model prog w) hh (bindSpecial (.ref fI) y) (.ref fI, [y])) (hu : us.length ≤ sizeLine)
    (hq : codeAny (model prog w) (A.under (.builtin "type.__call__" ⟨.ref C :: us, kw⟩)) (.call (.ref fI) ⟨.ref (hh.objs.size + 1) :: us, kw⟩) (W.InitBack (hh.objs.size + 1) R)
      ⟨(hh.push (W.kdv_tup us)).push (excO C hh.objs.size), gg, dr, tt, oss⟩) :
    codeAny (model prog w) A (.call (.ref C) ⟨us, kw⟩) R ⟨hh, gg, dr, tt, oss⟩ := by
  have f1 := tc_lookup
  have f2 := tc_bind (.ref C)
  have hTy : (⟨hh, gg, dr, tt, oss⟩ : Shared).TypeIs (.ref C) "type" := ⟨_, hC, rfl⟩
  refine codeAny_of_tree ?_
  show wpAny _ _ (callAny (.ref C) _) _ _ _
  repeat (any_goals (first
    | assumption
    | with_reducible refine wpAny_loadPart_at hC ?_
    | wp_step))
  refine ⟨rfl, ?_⟩
  refine codeAny_call_builtin_at (Code.quiet_builtin _ (by decide +kernel)) entry_typeCall (wpAny_check_type_call_sub hC (mk_type FF hT hC hi hb hu ?_))
  refine codeAny_mono hq fun r z y => ?_
  rcases r with e | (v | _ | _ | _) <;> exact y
end
end XKw
end PySem
set_option maxRecDepth 100000
namespace L2
open PySem PySem.Spec PyProof.Rows
/-- a def's promise where nothing is being shown around it (repr asks that) -/
structure FnG (P : Program) (w : World) (K : PySem.W.Frag) (mg : Str → Option Value) (base : Heap) (CX : CXT) (k : Nat) (f : Addr) (fd : FuncData) (ps : List Str) (sp : Sp) : Prop where
  len : ∀ vs H Q E, sp vs H Q E → vs.length = ps.length
  run : ∀ (A : Around) (outer : List Env) (s : Shared) (H : Hp) (args : Args) (us : List Value) (vs : List V) (Q : VK) (E : XK), A.guards = some [] → Room k A →
    Env0 P w K mg base A outer s H → BindsTo s fd args (ps.zip us) → Vals vs us → sp vs H Q E →
    codeAny (model P w) A (.call (.ref f) args) (CR CX outer P w H s Q E) s
section
variable {P : Program} {w : World} {K : PySem.W.Frag} {mg : Str → Option Value} {base : Heap} {CX : CXT} {k : Nat} {f : Addr} {fd : FuncData} {ps : List Str} {sp : Sp}
theorem FnOk.g (F : FnOk P w K mg base CX k f fd ps sp) : FnG P w K mg base CX k f fd ps sp :=
  ⟨F.len, fun A o s H a us vs Q E _ => F.run A o s H a us vs Q E⟩
theorem FnG.mono {j : Nat} (F : FnG P w K mg base CX j f fd ps sp) (h : j ≤ k) : FnG P w K mg base CX k f fd ps sp :=
  ⟨F.len, fun A o s H a us vs Q E g r => F.run A o s H a us vs Q E g (r.mono h)⟩
end
/-- a def by its body -/
theorem Fun.okG {P : Program} {w : World} {K : PySem.W.Frag} {mg : Str → Option Value} {base : Heap} {x qual : Str} {st : Stmt} {f : Addr} {fd : FuncData} {N ps : List Str} {k : Nat} {sp : Sp}
    (F : Fun K x qual st f fd) (S : FnScope N ps (defScope st)) (len : ∀ vs H Q E, sp vs H Q E → vs.length = ps.length)
    (body : ∀ (cdv : Value) (A : Around) (outer : List Env) (s : Shared) (H : Hp) (vs : List V) (Q : VK) (E : XK), A.guards = some [] →
      Room k (A.deeper (envOfC qual (defScope st) s.heap.objs.size f cdv)) → sp vs H Q E →
      ∃ t, PSs (cxOf CX0 P w K mg base N qual (defScope st) f cdv A outer s H E).nox (defBody st) t ∧
        t { nx := fun _ H' => Q .non H', rt := Q } (start N vs) H) :
    FnG P w K mg base CX0 (k + 1) f fd ps sp := by
  obtain ⟨oc, od, kV, doc, pm, an, cdv, ct, osl, rfl, lk, hcd⟩ := F.ex
  refine ⟨len, fun A outer s H args us vs Q E hgd hr e0 hb r hsp => ?_⟩
  have hn := len _ _ _ _ hsp
  have bk : ∀ b o, base.get? b = some o → s.heap.get? b = some o := fun b o e => (e0.bs b o e).1
  have kin := e0.mod.kin.keeps bk
  have lim := e0.mod.nolimit.keeps bk
  have kinds : ∀ y ∈ ps.zip us, (defScope st).names.lookup y.1 = some .local ∨
      ((defScope st).names.lookup y.1 = some .cell ∧ ((cellsFrom (s.heap.objs.size + 1) (defScope st).names []).lookup y.1).isSome = true) := by
    rintro ⟨n, v⟩ hy
    cases S.par n (List.of_mem_zip hy).1 with
    | inl q => exact .inl q
    | inr q => exact .inr ⟨q, PySem.W.cellsFrom_some _ _ _ (.inl q)⟩
  refine codeAny_call_function hr.depth (kin _ _ lk) rfl S.co S.gen rfl (PySem.W.codeRec_of kin hcd) (hb _ _ _ _ ?_)
  refine wpAny_newFunctionEnv_cells S.kind kinds fun env he s1 x => ?_
  subst he
  refine ⟨lim.keeps x.toInCall.keep, codeAny_func ?_⟩
  obtain ⟨t, ht, hq⟩ := body cdv A outer s H vs Q E hgd (hr.deeper _) hsp
  have I := inv_start (CX := CX0) (P := P) (w := w) (K := K) (mg := mg) (base := base) (E := E) S hr.hd e0 hn r x
  refine wpAny_mono (ht.nox.run [] s1 (start N vs) H _ I hq) (fun fl s' hs => ?_) fun _ _ hs => hs
  cases fl with
  | brk =>
    obtain ⟨_, _, _, q⟩ := hs
    exact q.elim
  | cont =>
    obtain ⟨_, _, _, q⟩ := hs
    exact q.elim
  | next =>
    obtain ⟨σ', H', J, q⟩ := hs
    exact ⟨V.non, H', J.os, J.bare, J.base, J.hok, rfl, q⟩
  | ret u =>
    obtain ⟨v, σ', H', J, rv, q⟩ := hs
    exact ⟨v, H', J.os, J.bare, J.base, J.hok, rv, q⟩
section
variable {X : Cx} {CX : CXT} {k : Nat} {f : Addr} {fd : FuncData} {ps ks : List Str} {sp : Sp} {dvs : List V} {ds : List Value} {E : XK} {x : Str} {p pos : Pos} {e : Expr} {es : List Expr} {t : TA}
theorem run_g {pins : List (Addr × Obj)} {σ : St} {H : Hp} {s : Shared} {Q : VK} {us : List Value} {vs : List V} (F : FnG X.prog X.w X.K X.mg X.base CX k f fd ps sp) (gd : X.A.guards = some []) (hr : Room k X.A)
    (hb : Binds X.K fd ps ds) (hd : Vals dvs ds) (hx : Passes CX X E) (I : Inv X pins σ H s) (r : Vals vs us) (h : sp (vs ++ dvs) H Q E) :
    wpAny (model X.prog X.w) X.A (call (.ref f) us) (EP X pins σ Q) X.xe s := by
  have rr := Vals.append r hd
  have hl : (us ++ ds).length = ps.length := (rr.length.symm).trans (F.len _ _ _ _ h)
  refine wpAny_call (codeAny_mono (F.run X.A X.stack s H _ _ _ Q E gd hr I.env0 (hb s us I.kIn hl) rr h) fun r s' hq => ?_)
  cases r with
  | error er => exact hx pins σ H s er s' I hq
  | ok fl =>
    cases fl with
    | ret u => exact I.after hq
    | next => exact hq.elim
    | brk => exact hq.elim
    | cont => exact hq.elim
theorem pe_callG (F : FnG X.prog X.w X.K X.mg X.base CX k f fd ps sp) (gd : X.A.guards = some []) (hr : Room k X.A) (hg : Gl X x) (hm : X.mg x = some (.ref f)) (hk : PySem.W.keepIn X.K (.ref f) = true)
    (hb : Binds X.K fd ps ds) (hd : Vals dvs ds) (hx : Passes CX X E) (ha : PA X (e :: es) t) (hdb : (x == ("__debug__" : Str)) = false := by decide)
    (he : starEach (e :: es) X.env = (false, eval e X.env) :: starEach es X.env := by rfl) (hpl : (backTo pos (starEach es X.env)).any (·.1) = false := by rfl) :
    PE X (.Call (.Name x p) (e :: es) [] pos) (tCall sp dvs E t) := by
  refine ⟨fun pins s σ H Q I h => wpAny_Call_Name_kw (ld_glob I hg hm ?_ hdb)⟩
  refine PySem.W.callWith_K (h₀ := X.base) I.ok.mod.kin hk (thn (ha.run pos pins s σ H _ I h) fun us s1 hh => ?_) he hpl
  obtain ⟨vs, H1, I1, r, q⟩ := hh
  exact ⟨I1.kIn, run_g F gd hr hb hd hx I1 r q⟩
/-! repr -/
/-- x reads as d, in every state over H -/
def RdV (X : Cx) (H : Hp) (x : V) (d : PyData) : Prop := ∀ (pins : List (Addr × Obj)) (σ : St) (s : Shared) (u : Value), Inv X pins σ H s → RelV x u → ∃ as, Reads s.heap u d as ∧ (d.hasDict = true → sysModules ∉ as)
def rRepr (X : Cx) : List V → Hp → VK → Prop := fun xs H Q => ∃ (x : V) (d : PyData), xs = [x] ∧ RdV X H x d ∧ d.showable = true ∧ d.depth ≤ 20 ∧ d.shown.length ≤ sizeLine ∧ Q (.str d.shown) H
theorem call_reprG (gd : X.A.guards = some []) (hu : X.A.units + 64 < cLine) : CallR X (.builtin "repr") (rRepr X) := by
  intro pins s σ H xs us Q I r h
  obtain ⟨x, d, rfl, rd, sh, dp, sz, q⟩ := h
  obtain ⟨u, rfl, ru⟩ : ∃ u, us = [u] ∧ RelV x u := by
    cases r with
    | cons a b =>
      cases b
      exact ⟨_, rfl, a⟩
  obtain ⟨as, rr, hsm⟩ := rd pins σ s u I ru
  have fin : ∀ (h' : Heap) (t : Tok) (tk : Nat), (∀ b o, s.heap.get? b = some o → h'.get? b = some o) → EP X pins σ Q (.str d.shown t) { s with heap := h', toks := tk } :=
    fun h' t tk k => ⟨.str d.shown, H, I.kept (t' := tk) k, ⟨t, rfl⟩, q⟩
  cases rr with
  | none => exact PySem.P.repr_of_none (fin s.heap s.toks _ fun _ _ z => z)
  | bool b => exact PySem.P.repr_of_bool (fin s.heap s.toks _ fun _ _ z => z)
  | int i t =>
    have hb : i.natAbs.log2 < 1920 := by simpa [PyData.showable] using sh
    exact PySem.P.repr_of_int hb (fin s.heap s.toks _ fun _ _ z => z)
  | str y t => exact PySem.P.repr_of_str (fin s.heap s.toks _ fun _ _ z => z) sz
  | list h1 h2 h3 h4 => exact repr_of_reads' (.list h1 h2 h3 h4) sh hsm gd (by omega) (fun _ _ z => z) (fun h' u tk k => fin h' u tk k) sz
  | tuple h1 h2 h3 h4 => exact repr_of_reads' (.tuple h1 h2 h3 h4) sh hsm gd (by omega) (fun _ _ z => z) (fun h' u tk k => fin h' u tk k) sz
  | dict h1 h2 h3 h4 h5 => exact repr_of_reads' (.dict h1 h2 h3 h4 h5) sh hsm gd (by omega) (fun _ _ z => z) (fun h' u tk k => fin h' u tk k) sz
end
end L2
set_option maxRecDepth 100000
namespace L2
open PySem PySem.Spec PyProof.Rows
/-- the law's call, by a promise that holds where nothing is being shown -/
theorem end_core {P : Program} {w : World} {K : PySem.W.Frag} {mg mb : Str → Option Value} {k : Nat} {fa a : Addr} {fd : FuncData} {x : Str} {sp : Sp} {s₁ : Shared} {vs : List Value} {H : Hp}
    (KX : K.In s₁.heap) (hns : s₁.heap.Ns mainGlobals mg) (hb : s₁.heap.Ns builtinsNs mb) (hbb : ∀ y : Str, y ≠ "__name__" → mb y = bootBuiltins y)
    (lim : s₁.heap.NoLimit) (hg : s₁.gens = #[]) (ha : s₁.heap.get? a = some { cls := .type "list", data := .seq vs.toArray }) (hr : Room k callerA)
    (F : ∀ base : Heap, K.In base → base.Ns mainGlobals mg → FnG P w K mg base CX0 k fa fd [x] sp) (bind : ∀ (s : Shared) (u : Value), BindsTo s fd ⟨[u], []⟩ [(x, u)])
    (hO : Only H) (hok : HOk P w H s₁.heap) (hA : ∀ b, H b ≠ none → b = a) (hK : H a ≠ none → K.lookup a = none)
    (hsp : sp [.ref a] H (fun v _ => v = .bl true) fun _ _ _ => False) :
    codeAny (model P w) callerA (.call (.ref fa) ⟨[.ref a], []⟩) (fun r s' => r = .ok (.ret (.bool true)) ∧ OldK s₁.heap s'.heap ∧ s'.os = s₁.os ∧ AllBare s'.gens) s₁ := by
  have free : ∀ {b : Addr} {o : Obj} {es : Array DictEntry} {ep : Nat}, s₁.heap.get? b = some o → o.data = .dict es ep → H b = none := by
    intro b o es ep e d
    refine Classical.byContradiction fun n => ?_
    have eb := hA b n
    subst eb
    have eo := Option.some.inj (e.symm.trans ha)
    subst eo
    cases d
  have ns' : ∀ {b : Addr} {m : Str → Option Value}, s₁.heap.Ns b m → (hidT s₁.heap H).Ns b m := by
    rintro b m ⟨o, es, ep, e, d, r⟩
    exact ⟨o, es, ep, hidT_get e (free e d), d, r⟩
  have kb : K.In (hidT s₁.heap H) := by
    intro b o e
    refine hidT_get (KX b o e) (Classical.byContradiction fun n => ?_)
    have eb := hA b n
    subst eb
    rw [hK n] at e
    cases e
  have md : Mod K mg (hidT s₁.heap H) := by
    obtain ⟨mc, h1, h2⟩ := lim
    exact ⟨kb, ns' hns, ⟨mb, ns' hb, hbb⟩, ⟨mc, ns' h1, h2⟩⟩
  have ev : Env0 P w K mg (hidT s₁.heap H) callerA [] s₁ H :=
    ⟨rfl, md, fun b o e => of_hidT e, Nat.le_of_eq (hidT_size _ _), trivial, fun b hb => (nomatch hb), hok, .of_eq hg⟩
  refine codeAny_mono ((F _ kb (ns' hns)).run callerA [] s₁ H _ [.ref a] [.ref a] _ _ rfl hr ev (bind s₁ (.ref a)) (.cons rfl .nil) hsp) fun r s' h => ?_
  cases r with
  | error e => exact (h : False).elim
  | ok fl =>
    cases fl with
    | next => exact (h : False).elim
    | brk => exact (h : False).elim
    | cont => exact (h : False).elim
    | ret u =>
      obtain ⟨v, H', os, bare, un, hok', r', q⟩ := h
      have q' : v = .bl true := q
      subst q'
      obtain rfl : u = Value.bool true := r'
      refine ⟨rfl, OldK.of_keep fun b o e => ?_, os, bare⟩
      rcases hO b with z | ⟨ob, xs, z⟩
      · exact un.keep b o e z (fun m => nomatch m) (fun m => nomatch m)
      · have e1 := (hok b _ z).1
        have e2 := (hok' b _ (un.frzs b ob _ z)).1
        exact (Option.some.inj (e.symm.trans e1)) ▸ e2
theorem end_call {P : Program} {w : World} {K : PySem.W.Frag} {mg mb : Str → Option Value} {k : Nat} {fa a : Addr} {fd : FuncData} {x : Str} {sp : Sp} {s₁ : Shared} {vs : List Value} {ns : List Int}
    (KX : K.In s₁.heap) (hns : s₁.heap.Ns mainGlobals mg) (hb : s₁.heap.Ns builtinsNs mb) (hbb : ∀ y : Str, y ≠ "__name__" → mb y = bootBuiltins y)
    (lim : s₁.heap.NoLimit) (hg : s₁.gens = #[]) (ha : s₁.heap.get? a = some { cls := .type "list", data := .seq vs.toArray }) (hi : IntsAre vs ns) (hl : ns.length ≤ sizeLine) (hr : Room k callerA)
    (F : ∀ base : Heap, K.In base → base.Ns mainGlobals mg → FnG P w K mg base CX0 k fa fd [x] sp) (bind : ∀ (s : Shared) (u : Value), BindsTo s fd ⟨[u], []⟩ [(x, u)])
    (hsp : ∀ H : Hp, Only H → SqL K H a (ns.map V.int) → sp [.ref a] H (fun v _ => v = .bl true) fun _ _ _ => False) :
    codeAny (model P w) callerA (.call (.ref fa) ⟨[.ref a], []⟩) (fun r s' => r = .ok (.ret (.bool true)) ∧ OldK s₁.heap s'.heap ∧ s'.os = s₁.os ∧ AllBare s'.gens) s₁ := by
  have rv := vals_ints hi
  cases hk : K.lookup a with
  | some o =>
    have eo := Option.some.inj ((KX a o hk).symm.trans ha)
    subst eo
    refine end_core (H := fun _ => none) KX hns hb hbb lim hg ha hr F bind (fun _ => .inl rfl) (fun _ _ z => nomatch z) (fun _ z => (z rfl).elim) (fun z => (z rfl).elim) (hsp _ (fun _ => .inl rfl) ?_)
    exact .inr ⟨_, vs.toArray, _, hk, rfl, rfl, rfl, by rw [List.size_toArray, hi.length]; exact hl, by simpa using rv⟩
  | none =>
    have at_ : ∀ b, (if b = a then some (HO.frz { cls := .type "list", data := .seq vs.toArray } (.lst (ns.map V.int))) else none) ≠ none → b = a := by
      intro b n
      refine Classical.byContradiction fun z => n (if_neg z)
    have on : Only (fun b => if b = a then some (HO.frz { cls := .type "list", data := .seq vs.toArray } (.lst (ns.map V.int))) else none) := by
      intro b
      by_cases eb : b = a
      · exact .inr ⟨_, _, if_pos eb⟩
      · exact .inl (if_neg eb)
    refine end_core KX hns hb hbb lim hg ha hr F bind on (fun b u z => ?_) at_ (fun _ => hk) (hsp _ on (.inl (.inr ⟨_, if_pos rfl⟩)))
    have eb := at_ b (fun n => nomatch z.symm.trans n)
    subst eb
    have eu := Option.some.inj ((if_pos rfl).symm.trans z)
    subst eu
    exact ⟨ha, by rw [List.length_map]; exact hl, vs, _, rv, ha⟩
theorem walk_ofG {l : PySem.W.OpenLaw} {n k : Nat} {q : Program} {loose : List Str} {XP : (Str → Option Value) → Heap → Prop} {YP : World → Heap → Prop} {d : DefRec} {K : Params → PySem.W.Frag} {sp : World → Sp} {x : Str}
    (hn : l.most = some n) (hn2 : n ≤ sizeLine) (hdf : d.params.defaults = []) (hr : Room k callerA)
    (hY : ∀ (w : World) (h : Heap), YP w h → (K w.params).In h)
    (F : ∀ (w : World) (mg : Str → Option Value) (fa : Addr) (h : Heap), (K w.params).In h → h.Ns mainGlobals mg → mg d.name = some (.ref fa) →
      ∃ fd : FuncData, (∀ (s : Shared) (u : Value), BindsTo s fd ⟨[u], []⟩ [(x, u)]) ∧
        ∀ base : Heap, (K w.params).In base → base.Ns mainGlobals mg → FnG l.prog w (K w.params) mg base CX0 k fa fd [x] (sp w))
    (hsp : ∀ (w : World) (H : Hp) (a : Addr) (ns : List Int), ns.length ≤ n → (∀ z ∈ ns, Builtin.Int.intBits z ≤ 1048576) → Only H → SqL (K w.params) H a (ns.map V.int) →
      sp w [.ref a] H (fun v _ => v = .bl true) fun _ _ _ => False) :
    PySem.W.WalkO q loose XP YP l.row.toRowW d [] (fun f vs => PySem.call f vs) := by
  refine Att.attach_callB hn hdf fun w s₀ s₁ mg mb fa o pm cd doc a vs ns G Y ho hd hcd hmg hobj hints hlen hbits hg => ?_
  obtain ⟨fd, b, f⟩ := F w mg fa _ (hY w _ Y) G.T.g hmg
  exact end_call (hY w _ Y) G.T.g G.T.b G.T.builtins G.T.nolimit hg hobj hints (Nat.le_trans hlen hn2) hr f b fun H hO hS => hsp w H a ns hlen hbits hO hS
end L2
set_option maxRecDepth 100000
namespace L2
open PySem PySem.Spec PyProof.Rows
/-- an own exception class with an own __init__ -/
structure XvI (K : PySem.W.Frag) (C fI : Addr) : Prop where
  cls : XvC K C
  ini : PySem.W.findIn K (.ref C) "__init__" = some (some (.ref fI))
  ty : PySem.W.typeIn K (.ref fI) = some (.type "function")
theorem Vals.rev : ∀ {xs : List V} {us : List Value}, Vals xs us → Vals xs.reverse us.reverse
  | _, _, .nil => .nil
  | _, _, .cons r t => by
    rw [List.reverse_cons, List.reverse_cons]
    exact Vals.append (Vals.rev t) (.cons r .nil)
theorem Fun.kbn {K : PySem.W.Frag} {x qual : Str} {st : Stmt} {f : Addr} {fd : FuncData} {ps : List Str} (F : Fun K x qual st f fd) (n : Nat) (ks : List Str) (g : List Value → List Value → List Value) (gV : List V → List V → List V)
    (h : ∀ (kV doc pm : Value) (an : Option Addr) (cdv ct : Value) (us ws : List Value), us.length = n → ws.length = ks.length →
      bindArgs (PySem.W.fnOf x qual (defArgs st) (defBody st) (defScope st) .none kV doc pm an cdv ct) ⟨us, ks.zip ws⟩ = pure (ps.zip (g us ws)))
    (rel : ∀ {vs : List V} {us : List Value} {zs : List V} {ws : List Value}, Vals vs us → Vals zs ws → Vals (gV vs zs) (g us ws)) : KBn K fd ps n ks g gV := by
  obtain ⟨oc, od, kV, doc, pm, an, cdv, ct, osl, rfl, lk, hcd⟩ := F.ex
  exact ⟨fun s us ws _ l1 l2 => BindsTo.of_eq (h kV doc pm an cdv ct us ws l1 l2), rel⟩
section
variable {X : Cx} {k n : Nat} {fI C : Addr} {fd : FuncData} {ps ks : List Str} {sp : Sp} {x : Str} {p pos : Pos} {e : Expr} {es : List Expr} {kws : List Keyword} {t tk : TA} {g : List Value → List Value → List Value} {gV : List V → List V → List V}
theorem run_mkx {pins : List (Addr × Obj)} {σ : St} {H : Hp} {s : Shared} {Q : VK} {us ws : List Value} {vs zs : List V} (T : XvI X.K C fI) (F : FnOk X.prog X.w X.K X.mg X.base CX0 k fI fd ps sp) (hr : Room (k + 1) X.A)
    (hb : KBn X.K fd ps (n + 1) ks g gV) (hn : n ≤ 1000) (I : Inv X pins σ H s) (r : Vals vs us) (rz : Vals zs ws) (l1 : vs.length = n) (l2 : zs.length = ks.length)
    (h : ∀ a, H a = none → sp (gV (.ref a :: vs) zs) (upd H a (exo a C none)) (fun v H2 => v = .non ∧ Q (.ref a) H2) E0) :
    wpAny (model X.prog X.w) X.A (call (.ref C) us (ks.zip ws)) (EP X pins σ Q) X.xe s := by
  obtain ⟨nm, q, N, bs, bm, sn, sub, ab, col, dd, k0, k1, k2, k3, k5, hC, hbm⟩ := T.cls.oex.cls
  obtain ⟨hp, gn, dr, tt, oss⟩ := s
  have sz : hp.objs.size ≤ hp.objs.size + 1 := Nat.le_succ _
  have keep : ∀ b o, hp.get? b = some o → ((hp.push (PySem.W.kdv_tup us)).push (PySem.HandSPX.excO C hp.objs.size)).get? b = some o :=
    fun _ _ e => Heap.get?_push_of_some _ (Heap.get?_push_of_some _ e)
  have at_ : ((hp.push (PySem.W.kdv_tup us)).push (PySem.HandSPX.excO C hp.objs.size)).get? (hp.objs.size + 1) = some (PySem.HandSPX.excO C hp.objs.size) := by
    heap_get
  have I2 := I.laid (t' := tt) (a := hp.objs.size + 1) (o := exo (hp.objs.size + 1) C none) keep sz (exo_ok at_)
  have hq := h (hp.objs.size + 1) (I.hok.fresh sz)
  have rs : Vals (V.ref (hp.objs.size + 1) :: vs) (Value.ref (hp.objs.size + 1) :: us) := .cons rfl r
  have ln : (Value.ref (hp.objs.size + 1) :: us).length = n + 1 := by rw [List.length_cons, ← r.length, l1]
  have hus : us.length ≤ sizeLine := by
    rw [← r.length, l1, sizeLine_eq]
    omega
  refine wpAny_call (PySem.XKw.mk_call PySem.F.excBase_ValueError (fun Y => PySem.HandSPX.refsVE_contains Y bm hbm) (I.kIn _ _ hC) (PySem.W.looks_findIn I.kIn T.ini)
    (fun y => PySem.W.bind_fn I.kIn y T.ty) hus ?_)
  refine codeAny_mono (F.run _ X.stack _ _ _ _ _ _ _ (hr.make C us (ks.zip ws)) (I2.env0.make C us (ks.zip ws)) (hb.to _ _ ws I2.kIn ln (rz.length.symm.trans l2)) (hb.rel rs rz) hq) fun r s' hq' => ?_
  cases r with
  | error er => exact (hq' : False).elim
  | ok fl =>
    cases fl with
    | ret u =>
      obtain ⟨v, H3, I3, rv, ev, q3⟩ := I2.after hq'
      subst ev
      exact ⟨rv, V.ref (hp.objs.size + 1), H3, I3, rfl, q3⟩
    | next => exact (hq' : False).elim
    | brk => exact (hq' : False).elim
    | cont => exact (hq' : False).elim
/-- C(e, ..) -/
def tMkX (C : Addr) (n : Nat) (sp : Sp) (gV : List V → List V → List V) (t : TA) : TE := fun σ H Q => t σ H fun vs H1 => vs.length = n ∧ ∀ a, H1 a = none → sp (gV (.ref a :: vs) []) (upd H1 a (exo a C none)) (fun v H2 => v = .non ∧ Q (.ref a) H2) E0
theorem pe_mkx (T : XvI X.K C fI) (F : FnOk X.prog X.w X.K X.mg X.base CX0 k fI fd ps sp) (hr : Room (k + 1) X.A) (hb : KBn X.K fd ps (n + 1) [] g gV) (hg : Gl X x) (hm : X.mg x = some (.ref C)) (ha : PA X (e :: es) t)
    (hn : n ≤ 1000 := by decide) (hdb : (x == ("__debug__" : Str)) = false := by decide)
    (he : starEach (e :: es) X.env = (false, eval e X.env) :: starEach es X.env := by rfl) (hpl : (backTo pos (starEach es X.env)).any (·.1) = false := by rfl) :
    PE X (.Call (.Name x p) (e :: es) [] pos) (tMkX C n sp gV t) := by
  refine ⟨fun pins s σ H Q I h => wpAny_Call_Name_kw (ld_glob I hg hm ?_ hdb)⟩
  refine PySem.W.callWith_K (h₀ := X.base) I.ok.mod.kin T.cls.oex.kC (thn (ha.run pos pins s σ H _ I h) fun us s1 hh => ?_) he hpl
  obtain ⟨vs, H1, I1, r, l1, q⟩ := hh
  exact ⟨I1.kIn, run_mkx (ws := []) (zs := []) T F hr hb hn I1 r .nil l1 rfl q⟩
/-- C(k = v, ..) -/
def tMkXK (C : Addr) (m : Nat) (sp : Sp) (gV : List V → List V → List V) (tk : TA) : TE := fun σ H Q => tk σ H fun zs H1 => zs.length = m ∧ ∀ a, H1 a = none → sp (gV [.ref a] zs) (upd H1 a (exo a C none)) (fun v H2 => v = .non ∧ Q (.ref a) H2) E0
theorem pe_mkxK (T : XvI X.K C fI) (F : FnOk X.prog X.w X.K X.mg X.base CX0 k fI fd ps sp) (hr : Room (k + 1) X.A) (hb : KBn X.K fd ps 1 ks g gV) (hg : Gl X x) (hm : X.mg x = some (.ref C)) (hkw : PK X kws tk)
    (hall : (backToKw pos (keywordEach kws X.env)).all (·.1.isSome) = true := by rfl) (hks : (backToKw pos (keywordEach kws X.env)).filterMap (·.1) = ks := by rfl) (hdb : (x == ("__debug__" : Str)) = false := by decide)
    (hpl : ((backTo pos (starEach [] X.env)).any (·.1) || (backToKw pos (keywordEach kws X.env)).any (·.1.isNone)) = false := by rfl) :
    PE X (.Call (.Name x p) [] kws pos) (tMkXK C ks.length sp gV tk) := by
  refine ⟨fun pins s σ H Q I h => wpAny_Call_Name_kw (ld_glob I hg hm ?_ hdb)⟩
  refine PySem.W.callWith_KW0 (h₀ := X.base) I.ok.mod.kin T.cls.oex.kC hall ?_ hpl
  refine thn (hkw.run pos pins s σ H _ I h) fun ws s2 hh => ?_
  obtain ⟨zs, H2, I2, rz, l2, q2⟩ := hh
  refine ⟨I2.kIn, ?_⟩
  rw [hks]
  exact run_mkx (n := 0) (us := []) (vs := []) T F hr hb (Nat.zero_le _) I2 .nil rz rfl l2 q2
/-- C(), no __init__ of its own -/
theorem pe_mkx0 {bmB : List Value} {B newId initId : String} (FF : ExcBaseFacts B newId initId bmB) (q : PySem.W.excIn X.K C bmB newId = true) (kC : PySem.W.keepIn X.K (.ref C) = true) (hg : Gl X x) (hm : X.mg x = some (.ref C))
    (hdb : (x == ("__debug__" : Str)) = false := by decide) : PE X (.Call (.Name x p) [] [] pos) (fun _ H Q => ∀ a, H a = none → Q (.ref a) (upd H a (exo a C none))) := by
  refine ⟨fun pins s σ H Q I h => wpAny_Call_Name_kw (ld_glob I hg hm ?_ hdb)⟩
  refine PySem.W.callWith_K0 I.kIn kC ?_
  obtain ⟨bm, N, nm, qn, bs, hdct, sn, sub, ab, col, dd, k0, k1, k2, k3, k5, mN, hC, hN, hni, T⟩ := exc_obj I.kIn q
  refine wpAny_call_exc_subT FF T hC hN hni (fun h' a hm => ?_) (Nat.zero_le _)
  have hn : H a = none := I.hok.gone hm.new
  obtain ⟨t, ht, _⟩ := hm.there
  exact ⟨V.ref a, upd H a (exo a C none), I.laidN hm.keeps hm.new hn (exo_ok ht), rfl, h a hn⟩
end
end L2
set_option maxRecDepth 100000
namespace Toy
open PySem L2
def top (i : Nat) : Stmt := PySem.Challenge.pw_lanebanks_k47_patterns_made.main.body.getD i (.Pass ⟨0, 0, 0, 0⟩)
abbrev s__law_pen : Stmt := top 18
abbrev s__law_draw : Stmt := top 19
abbrev s__law_pick : Stmt := top 20
/-- the built-ins' names stand for themselves -/
structure TB (mg : Str → Option Value) : Prop where
  m_int : mg "int" = none
  m_abs : mg "abs" = none
  m_len : mg "len" = none
  m_list : mg "list" = none
/-- the pen at p: the cells ns at l, how many were drawn, what is left of a great one -/
structure PenAt (H : Hp) (p l : Addr) (ns : List Int) (at_ left : Int) : Prop where
  pen : H p = some (.lst [.ref l, .int at_, .int left])
  cells : H l = some (.lst (ns.map V.int))
  few : ns.length ≤ 63
  bits : ∀ z ∈ ns, Builtin.Int.intBits z ≤ 1048576
  low : 0 ≤ at_
theorem PenAt.ne {H : Hp} {p l : Addr} {ns : List Int} {a b : Int} (P : PenAt H p l ns a b) : l ≠ p := fun e => by
  have h1 := P.cells
  rw [e, P.pen] at h1
  cases ns with
  | nil => cases h1
  | cons z r => cases r with
    | nil => cases h1
    | cons y r => cases h1
theorem PenAt.put {H : Hp} {p l : Addr} {ns : List Int} {a b : Int} (P : PenAt H p l ns a b) (c d : Int) (h : 0 ≤ c) : PenAt (upd H p (.lst [.ref l, .int c, .int d])) p l ns c d :=
  ⟨upd_same, by rw [upd_ne P.ne]; exact P.cells, P.few, P.bits, h⟩
/-- all that was tracked but p is as it was -/
def But (p : Addr) (H H' : Hp) : Prop := ∀ b o, b ≠ p → H b = some o → H' b = some o
theorem But.refl (p : Addr) (H : Hp) : But p H H := fun _ _ _ h => h
theorem But.of {p : Addr} {H H' : Hp} (h : Same H H') : But p H H' := fun b o _ e => h b o e
theorem But.trans {p : Addr} {H H1 H2 : Hp} (a : But p H H1) (b : But p H1 H2) : But p H H2 := fun c o n h => b c o n (a c o n h)
theorem But.put {p : Addr} {H H1 : Hp} {o : HO} (a : But p H H1) : But p H (upd H1 p o) := fun c u n h => by
  rw [upd_ne n]
  exact a c u n h
theorem But.new {p q : Addr} {H H1 : Hp} {o : HO} (a : But p H H1) (hq : H1 q = none) : But p H (upd H1 q o) := fun c u n h => by
  rw [upd_ne (ne_of_none (a c u n h) hq)]
  exact a c u n h
theorem But.free {p q : Addr} {H H1 : Hp} (a : But p H H1) (hq : H1 q = none) (n : q ≠ p) : H q = none := by
  cases e : H q with
  | none => rfl
  | some o =>
    rw [a q o n e] at hq
    cases hq
theorem PenAt.new {H : Hp} {p l q : Addr} {ns : List Int} {a b : Int} {o : HO} (P : PenAt H p l ns a b) (hq : H q = none) : PenAt (upd H q o) p l ns a b :=
  ⟨by rw [upd_ne (ne_of_none P.pen hq)]; exact P.pen, by rw [upd_ne (ne_of_none P.cells hq)]; exact P.cells, P.few, P.bits, P.low⟩
theorem atI_of {α : Type} {xs : List α} {i : Int} {v : α} (h0 : 0 ≤ i) (h : xs[i.toNat]? = some v) : atI xs i = some v := by
  have e : i = ((i.toNat : Nat) : Int) := (Int.toNat_of_nonneg h0).symm
  rw [e]
  exact atI_nat h
theorem dp_ints {K : PySem.W.Frag} {H : Hp} : ∀ ns : List Int, DpAll K H (ns.map V.int) (ns.map PyData.int)
  | [] => .nil
  | z :: r => .cons (.int z) (dp_ints r)
theorem shaped_ints (ns : List Int) : SeqAt.shaped (.list (ns.map PyData.int)) = true := by
  have h : ∀ ns : List Int, PyData.canLayAll0 (ns.map PyData.int) = true ∧ PyData.depthAll (ns.map PyData.int) = 0 := by
    intro ns
    induction ns with
    | nil => exact ⟨rfl, rfl⟩
    | cons z r ih => exact ⟨by simp [PyData.canLayAll0, PyData.canLay0, ih.1], by simp [PyData.depthAll, PyData.depth, ih.2]⟩
  simp [SeqAt.shaped, PyData.canLay0, PyData.depth, h ns]
/-- _law_pen(script) -/
def spPen (K : PySem.W.Frag) : Sp := fun vs H Q _ => ∃ (a : Addr) (ns : List Int), vs = [.ref a] ∧ SqL K H a (ns.map V.int) ∧ ns.length ≤ 63 ∧ (∀ z ∈ ns, Builtin.Int.intBits z ≤ 1048576) ∧
  ∀ (H' : Hp) (p l : Addr), Same H H' → H p = none → PenAt H' p l ns 0 0 → Q (.ref p) H'
/-- _law_draw(pen, many): some digit below many; the pen goes on -/
def spDraw : Sp := fun vs H Q _ => ∃ (p l : Addr) (ns : List Int) (a b many : Int), vs = [.ref p, .int many] ∧ PenAt H p l ns a b ∧ a ≤ 1000000 ∧ 0 < many ∧ many.natAbs.log2 < 9000 ∧
  ∀ (H' : Hp) (d a' b' : Int), 0 ≤ d → d < many → a ≤ a' → a' ≤ a + 1 → But p H H' → PenAt H' p l ns a' b' → Q (.int d) H'
/-- _law_pick(pen, some): one of a list's items -/
def spPick (K : PySem.W.Frag) : Sp := fun vs H Q _ => ∃ (p l q : Addr) (ns : List Int) (a b : Int) (xs : List V), vs = [.ref p, .ref q] ∧ PenAt H p l ns a b ∧ a ≤ 1000000 ∧ SqL K H q xs ∧ q ≠ p ∧ 0 < xs.length ∧ xs.length ≤ 1000 ∧
  ∀ (H' : Hp) (i : Nat) (v : V) (a' b' : Int), xs[i]? = some v → a ≤ a' → a' ≤ a + 1 → But p H H' → PenAt H' p l ns a' b' → Q v H'
theorem sq_lt {a : Int} (h0 : 0 ≤ a) (h : a ≤ 1000000) : 0 ≤ a * a ∧ a * a ≤ 1000000000000 := by
  refine ⟨Int.mul_nonneg h0 h0, ?_⟩
  have := Int.mul_le_mul h h h0 (by decide)
  omega
theorem mul_lt_of {x y m n : Int} (h0 : 0 ≤ x) (h1 : x ≤ m) (h2 : 0 ≤ y) (h3 : y ≤ n) : 0 ≤ x * y ∧ x * y ≤ m * n :=
  ⟨Int.mul_nonneg h0 h2, Int.mul_le_mul h1 h3 h2 (Int.le_trans h0 h1)⟩
theorem mix_ok {x a c d : Int} (h0 : 0 ≤ x) (h1 : x < 2147483543) (a0 : 0 ≤ a) (a1 : a ≤ 1000000) (c0 : 0 ≤ c) (c1 : c ≤ 1000000) (d0 : 0 ≤ d) (d1 : d ≤ 1000000) :
    0 ≤ x * (2 * a + c) + d * a * a + 7941 ∧ x * (2 * a + c) + d * a * a + 7941 < 18446744073709551616 := by
  have h2 := mul_lt_of (m := 2147483543) (n := 3000000) h0 (by omega) (show 0 ≤ 2 * a + c by omega) (by omega)
  have h3 := mul_lt_of (m := 1000000) (n := 1000000000000) d0 d1 (sq_lt a0 a1).1 (sq_lt a0 a1).2
  rw [Int.mul_assoc d a a]
  omega
theorem natAbs_lt_of {x : Int} (h0 : 0 ≤ x) (h : x < 18446744073709551616) : x.natAbs < 2 ^ 64 := by
  have e : (2 : Nat) ^ 64 = 18446744073709551616 := by decide
  rw [e]
  omega
section
variable {P : Program} {w : World} {K : PySem.W.Frag} {mg : Str → Option Value} {base : Heap}
abbrev N__law_pen : List Str := ["_law_script"]
theorem sc__law_pen : FnScope N__law_pen ["_law_script"] (defScope s__law_pen) := ⟨rfl, rfl, rfl, by decide +kernel, rfl, by decide +kernel, by decide +kernel⟩
theorem ok__law_pen {f : Addr} {fd : FuncData} (F : Fun K "_law_pen" "_law_pen" s__law_pen f fd) (T : TB mg) : FnOk P w K mg base CX0 1 f fd ["_law_script"] (spPen K) := by
  refine F.ok sc__law_pen (fun vs H Q E h => ?_) (fun cdv A outer s H vs Q E hr h => ?_)
  · obtain ⟨a, ns, rfl, _⟩ := h
    rfl
  · obtain ⟨a, ns, rfl, hS, hl, hb, k⟩ := h
    refine ⟨_, (pss_one (ps_ret (pe_lst (pa_cons (pe_callTy call_list_of (by rfl) T.m_list (by decide +kernel) (pa_cons (pe_slice sl_list (pv 0) po_none (po_some pe_int)) pa_nil)) (pa_cons pe_int (pa_cons pe_int pa_nil)))))), ?_⟩
    refine ⟨_, rfl, _, rfl, _, _, rfl, hS, fun q hq => ?_⟩
    have e : cutV (ns.map V.int) none (some 63) = ns.map V.int := by
      show ((ns.map V.int).drop 0).take (HT.sIx _ _ _ - 0) = _
      have h2 : (ns.map V.int).length ≤ HT.sIx (ns.map V.int).length (ns.map V.int).length (some 63) - 0 := by
        rw [List.length_map]
        simp [HT.sIx]
        omega
      rw [List.drop_zero, List.take_of_length_le h2]
    refine ⟨q, _, rfl, .inl (SqL.of upd_same), fun l hl2 => ?_⟩
    have nlq : l ≠ q := fun e => by
      rw [e, upd_same] at hl2
      cases hl2
    refine ⟨(by show 3 ≤ sizeLine; decide), fun p hp => ?_⟩
    have npl : p ≠ l := fun e => by
      rw [e, upd_same] at hp
      cases hp
    rw [upd_ne npl] at hp
    have npq : p ≠ q := fun e => by
      rw [e, upd_same] at hp
      cases hp
    rw [upd_ne npq] at hp
    refine k _ p l (fun b o e2 => ?_) hp ⟨upd_same, ?_, hl, hb, Int.le_refl 0⟩
    · rw [upd_ne (ne_of_none e2 hp)]
      have hl3 := hl2
      rw [upd_ne nlq] at hl3
      rw [upd_ne (ne_of_none e2 hl3), upd_ne (ne_of_none e2 hq)]
      exact e2
    · rw [upd_ne npl.symm, upd_same, e]
abbrev N__law_draw : List Str := ["_law_pen_here", "_law_many", "_law_digit", "_law_spot", "_law_cell", "_law_great", "_law_mixed"]
theorem sc__law_draw : FnScope N__law_draw ["_law_pen_here", "_law_many"] (defScope s__law_draw) := ⟨rfl, rfl, rfl, by decide +kernel, rfl, by decide +kernel, by decide +kernel⟩
set_option maxHeartbeats 4000000 in
theorem ok__law_draw {f : Addr} {fd : FuncData} (F : Fun K "_law_draw" "_law_draw" s__law_draw f fd) (T : TB mg) : FnOk P w K mg base CX0 1 f fd ["_law_pen_here", "_law_many"] spDraw := by
  refine F.ok sc__law_draw (fun vs H Q E h => ?_) (fun cdv A outer s H vs Q E hr h => ?_)
  · obtain ⟨p, l, ns, a, b, m, rfl, _⟩ := h
    rfl
  · obtain ⟨p, l, ns, a, b, m, rfl, hP, ha, hm, hml, k⟩ := h
    have hp := hP.pen
    have hc := hP.cells
    have h0 := hP.low
    refine ⟨_, (pss_cons (ps_if (pt_cmpR op_gt (pe_ix ix_list (pv 0) pe_int (fun _ _ => rfl)) pe_int (nomark _)) (pss_cons (ps_set (i := 2) sc__law_draw.nd rfl (Or.inl rfl) (pe_op op_mod (pe_callTy call_int1 (by rfl) T.m_int (by decide +kernel) (pa_cons (pe_ix ix_list (pv 0) pe_int (fun _ _ => rfl)) pa_nil)) (pv 1)))
 (pss_cons (ps_asg (pe_op op_fdivW (pe_callTy call_int1 (by rfl) T.m_int (by decide +kernel) (pa_cons (pe_ix ix_list (pv 0) pe_int (fun _ _ => rfl)) pa_nil)) (pv 1)) (pg_sub (pv 0) pe_int set_list))
 (pss_one (ps_ret (pv 2))))) pss_nil)
 (pss_cons (ps_set (i := 3) sc__law_draw.nd rfl (Or.inl rfl) (pe_ix ix_list (pv 0) pe_int (fun _ _ => rfl)))
 (pss_cons (ps_asg (pe_op op_add (pv 3) pe_int) (pg_sub (pv 0) pe_int set_list))
 (pss_cons (ps_set (i := 4) sc__law_draw.nd rfl (Or.inl rfl) (pe_op op_add (pe_op op_mul pe_int (pv 3)) pe_int))
 (C8.pss_cut (ps_if (pt_cmpR (op_neD hr.units) (pe_ix ix_list (pv 0) pe_int (fun _ _ => rfl)) (pe_lst pa_nil) (nomark _)) (pss_one (ps_set (i := 4) sc__law_draw.nd rfl (Or.inl rfl) (pe_ix ix_list (pe_ix ix_list (pv 0) pe_int (fun _ _ => rfl)) (pe_op op_mod (pe_callTy call_int1 (by rfl) T.m_int (by decide +kernel) (pa_cons (pv 3) pa_nil)) (pe_callB call_len_seq (by rfl) T.m_len (by decide +kernel) (pa_cons (pe_ix ix_list (pv 0) pe_int (fun _ _ => rfl)) pa_nil))) (fun _ _ => rfl)))) pss_nil)
 (C8.pss_cut (ps_if (PW.pt (pw_and (pt_cmpR op_lt (pv 3) (pe_callB call_len_seq (by rfl) T.m_len (by decide +kernel) (pa_cons (pe_ix ix_list (pv 0) pe_int (fun _ _ => rfl)) pa_nil)) (nomark _)) (pw_and1 (pt_cmpR op_ge (pe_callB call_abs (by rfl) T.m_abs (by decide +kernel) (pa_cons (pv 4) pa_nil)) (pe_op op_pow pe_int pe_int) (nomark _))))) (pss_cons (ps_set (i := 5) sc__law_draw.nd rfl (Or.inl rfl) (pe_op op_add (pe_op op_mul pe_int (pe_op op_sub (pe_callB call_abs (by rfl) T.m_abs (by decide +kernel) (pa_cons (pv 4) pa_nil)) (pe_op op_pow pe_int pe_int))) (pe_callTy call_int1 (by rfl) T.m_int (by decide +kernel) (pa_cons (pe_cmpR op_lt (pv 4) pe_int (nomark _)) pa_nil))))
 (pss_cons (ps_asg (pe_op op_fdivW (pe_callTy call_int1 (by rfl) T.m_int (by decide +kernel) (pa_cons (pv 5) pa_nil)) (pv 1)) (pg_sub (pv 0) pe_int set_list))
 (pss_one (ps_ret (pe_op op_mod (pe_callTy call_int1 (by rfl) T.m_int (by decide +kernel) (pa_cons (pv 5) pa_nil)) (pv 1)))))) pss_nil)
 (pss_cons (ps_set (i := 6) sc__law_draw.nd rfl (Or.inl rfl) (pe_op op_mod (pe_callTy call_int1 (by rfl) T.m_int (by decide +kernel) (pa_cons (pe_op op_pow (pe_op op_add (pe_op op_add (pe_op op_mod (pe_callTy call_int1 (by rfl) T.m_int (by decide +kernel) (pa_cons (pv 4) pa_nil)) pe_int) (pe_op op_mul pe_int (pv 3))) pe_int) pe_int) pa_nil)) pe_int))
 (pss_cons (ps_set (i := 6) sc__law_draw.nd rfl (Or.inl rfl) (pe_op op_mod (pe_callTy call_int1 (by rfl) T.m_int (by decide +kernel) (pa_cons (pe_op op_pow (pe_op op_add (pe_op op_add (pe_op op_mul (pv 6) (pe_op op_add (pe_op op_mul pe_int (pv 3)) pe_int)) (pe_op op_mul (pe_op op_mul pe_int (pv 3)) (pv 3))) pe_int) pe_int) pa_nil)) pe_int))
 (pss_one (ps_ret (pe_op op_mod (pe_callTy call_int1 (by rfl) T.m_int (by decide +kernel) (pa_cons (pe_op op_fdivW (pv 6) pe_int) pa_nil)) (pv 1)))))))))))), ?_⟩
    refine ⟨_, rfl, p, _, _, _, rfl, rfl, SqL.of hp, rfl, _, _, rfl, rfl, _, rfl, ?_⟩
    refine ite2 (fun c1 => ?_) (fun c1 => ?_)
    · -- a digit of what is left
      refine ⟨_, rfl, p, _, _, _, rfl, rfl, SqL.of hp, rfl, .inl ⟨_, rfl, _, rfl, _, _, rfl, rfl, hm, ?_⟩⟩
      refine ⟨_, rfl, p, _, _, _, rfl, rfl, SqL.of hp, rfl, .inl ⟨_, rfl, _, rfl, _, _, rfl, rfl, ⟨hm, hml⟩, ?_⟩⟩
      refine ⟨_, rfl, p, _, _, _, rfl, rfl, hp, rfl, ?_⟩
      refine ⟨_, rfl, ?_⟩
      exact k _ _ _ _ (Int.emod_nonneg _ (Int.ne_of_gt hm)) (Int.emod_lt_of_pos _ hm) (Int.le_refl _) (by omega) (But.refl _ _).put (hP.put _ _ h0)
    · refine ⟨_, rfl, p, _, _, _, rfl, rfl, SqL.of hp, rfl, ?_⟩
      refine ⟨_, rfl, _, _, rfl, rfl, _, rfl, p, _, _, _, rfl, rfl, hp, rfl, ?_⟩
      have hP1 : PenAt (upd H p (.lst [.ref l, .int (a + 1), .int b])) p l ns (a + 1) b := hP.put _ _ (by omega)
      have hB1 : But p H (upd H p (.lst [.ref l, .int (a + 1), .int b])) := (But.refl _ _).put
      refine ⟨_, rfl, _, _, rfl, rfl, .inl ⟨by omega, by omega⟩, _, _, rfl, rfl, ?_⟩
      refine ⟨fun σ H' => ∃ cell : Int, σ = [some (.ref p), some (.int m), none, some (.int a), some (.int cell), none, none] ∧ PenAt H' p l ns (a + 1) b ∧ But p H H', ?_, ?_⟩
      · refine ⟨_, rfl, p, _, _, _, rfl, rfl, SqL.of hP1.pen, rfl, Nat.zero_le _, fun q hq => ?_⟩
        have hP2 := hP1.new (o := .lst []) hq
        have hB2 := hB1.new (o := .lst []) hq
        refine ⟨.list (ns.map .int), .list [], .lst (SqL.of hP2.cells) (dp_ints ns), .lst (SqL.of upd_same) .nil, shaped_ints ns, rfl, _, rfl, ?_⟩
        refine ite2 (fun c2 => ?_) (fun c2 => ?_)
        · have hne : ns ≠ [] := by
            rintro rfl
            exact absurd c2 (by decide +kernel)
          have hpos : 0 < ns.length := List.length_pos_iff.mpr hne
          have hm1 := Int.emod_nonneg a (b := (ns.length : Int)) (by omega)
          have hm2 := Int.emod_lt_of_pos a (b := (ns.length : Int)) (by omega)
          have hi : (a % (ns.length : Int)).toNat < ns.length := by omega
          have hat : atI (ns.map V.int) (a % (ns.length : Int)) = some (.int ns[(a % (ns.length : Int)).toNat]) := atI_of hm1 (by
            rw [List.getElem?_map, List.getElem?_eq_getElem hi]
            rfl)
          refine ⟨_, rfl, p, _, _, _, rfl, rfl, SqL.of hP2.pen, rfl, ?_⟩
          refine ⟨_, rfl, .inl ⟨_, rfl, _, rfl, p, _, _, _, rfl, rfl, SqL.of hP2.pen, rfl, l, _, rfl, .inl (SqL.of hP2.cells), _, _, rfl, rfl, by rw [List.length_map]; omega, ?_⟩⟩
          refine ⟨l, _, _, _, rfl, rfl, SqL.of hP2.cells, by rw [List.length_map]; exact hat, ?_⟩
          exact ⟨_, rfl, hP2, hB2⟩
        · exact ⟨_, rfl, hP2, hB2⟩
      · rintro σ H' ⟨cell, rfl, hQ, hB⟩
        have hpw : CPow 10 18 := ⟨by decide, by decide, by decide⟩
        refine ⟨fun σ H3 => σ = [some (.ref p), some (.int m), none, some (.int a), some (.int cell), none, none] ∧ PenAt H3 p l ns (a + 1) b ∧ But p H H3, ?_, ?_⟩
        rotate_left
        · rintro σ H3 ⟨rfl, hR, hC⟩
          have b1 := Int.emod_nonneg cell (b := 2147483563) (by decide)
          have b2 := Int.emod_lt_of_pos cell (b := 2147483563) (by decide)
          refine ⟨_, rfl, .inl ⟨_, rfl, _, _, rfl, rfl, (by show (0 : Int) < 2147483563; decide), _, rfl, _, _, rfl, rfl, .inl ⟨by decide, by decide⟩, _, _, rfl, rfl, _, _, rfl, rfl, _, _, rfl, rfl, ⟨by decide, by decide, natAbs_lt_of (by omega) (by omega)⟩, ?_⟩⟩
          refine .inl ⟨_, rfl, _, _, rfl, rfl, (by show (0 : Int) < 2147483543; decide), ?_⟩
          have x1 := Int.emod_nonneg ((cell % 2147483563 + 120391 * a + 14195) ^ 5) (b := 2147483543) (by decide)
          have x2 := Int.emod_lt_of_pos ((cell % 2147483563 + 120391 * a + 14195) ^ 5) (b := 2147483543) (by decide)
          have mx := mix_ok (c := 1117) (d := 104847) x1 x2 h0 ha (by decide) (by decide) (by decide) (by decide)
          refine ⟨_, rfl, _, rfl, _, _, rfl, rfl, .inl ⟨by decide, by decide⟩, _, _, rfl, rfl, _, _, rfl, rfl, .inl ⟨Int.lt_of_lt_of_le (by decide) x1, Int.lt_trans x2 (by decide)⟩, ?_⟩
          refine ⟨_, rfl, _, _, rfl, rfl, .inl ⟨by decide, by decide⟩, _, rfl, _, _, rfl, rfl, .inl ⟨by omega, by omega⟩, _, _, rfl, rfl, _, _, rfl, rfl, _, _, rfl, rfl, ⟨by decide, by decide, natAbs_lt_of mx.1 mx.2⟩, ?_⟩
          refine .inl ⟨_, rfl, _, _, rfl, rfl, (by show (0 : Int) < 2147483629; decide), ?_⟩
          refine ⟨_, rfl, _, _, rfl, rfl, ⟨by decide, by decide⟩, .inl ⟨_, rfl, _, rfl, _, _, rfl, rfl, hm, ?_⟩⟩
          exact k _ _ _ _ (Int.emod_nonneg _ (Int.ne_of_gt hm)) (Int.emod_lt_of_pos _ hm) (by omega) (Int.le_refl _) hC hR
        refine ⟨_, rfl, _, rfl, p, _, _, _, rfl, rfl, SqL.of hQ.pen, rfl, l, _, rfl, .inl (SqL.of hQ.cells), _, _, rfl, rfl, _, rfl, ?_⟩
        refine ite2 (fun c2 => ?_) (fun c2 => ?_)
        · refine ⟨_, rfl, _, rfl, _, _, rfl, rfl, hpw, _, _, rfl, rfl, _, rfl, ?_⟩
          refine ite2 (fun c3 => ?_) (fun c3 => ?_)
          · refine ⟨_, rfl, _, rfl, _, _, rfl, rfl, hpw, _, _, rfl, rfl, _, _, rfl, rfl, .inl ⟨by decide, by decide⟩, _, rfl, _, _, rfl, rfl, .inr ⟨_, rfl, _, _, rfl, rfl, ?_⟩⟩
            refine ⟨_, rfl, .inl ⟨_, rfl, _, rfl, _, _, rfl, rfl, ⟨hm, hml⟩, _, rfl, p, _, _, _, rfl, rfl, hQ.pen, rfl, ?_⟩⟩
            refine ⟨_, rfl, .inl ⟨_, rfl, _, rfl, _, _, rfl, rfl, hm, ?_⟩⟩
            exact k _ _ _ _ (Int.emod_nonneg _ (Int.ne_of_gt hm)) (Int.emod_lt_of_pos _ hm) (by omega) (Int.le_refl _) hB.put (hQ.put _ _ (by omega))
          · exact ⟨rfl, hQ, hB⟩
        · exact ⟨rfl, hQ, hB⟩
abbrev N__law_pick : List Str := ["_law_pen_here", "_law_some"]
theorem sc__law_pick : FnScope N__law_pick ["_law_pen_here", "_law_some"] (defScope s__law_pick) := ⟨rfl, rfl, rfl, by decide +kernel, rfl, by decide +kernel, by decide +kernel⟩
theorem ok__law_pick {f fD : Addr} {fd fdD : FuncData} (F : Fun K "_law_pick" "_law_pick" s__law_pick f fd) (T : TB mg) (FD : Fun K "_law_draw" "_law_draw" s__law_draw fD fdD) (gD : mg "_law_draw" = some (.ref fD)) (bD : Binds K fdD ["_law_pen_here", "_law_many"] []) :
    FnOk P w K mg base CX0 2 f fd ["_law_pen_here", "_law_some"] (spPick K) := by
  have GD : FnOk P w K mg base CX0 1 fD fdD ["_law_pen_here", "_law_many"] spDraw := ok__law_draw FD T
  have kD := FD.kp
  refine F.ok sc__law_pick (fun vs H Q E h => ?_) (fun cdv A outer s H vs Q E hr h => ?_)
  · obtain ⟨p, l, q, ns, a, b, xs, rfl, _⟩ := h
    rfl
  · obtain ⟨p, l, q, ns, a, b, xs, rfl, hP, ha, hq, nq, x0, x1, k⟩ := h
    refine ⟨_, (pss_one (ps_ret (pe_ix ix_list (pv 1) (pe_call GD hr rfl gD kD bD .nil pass0 (pa_cons (pv 0) (pa_cons (pe_callB call_len_seq (by rfl) T.m_len (by decide +kernel) (pa_cons (pv 1) pa_nil)) pa_nil))) (fun _ _ => rfl)))), ?_⟩
    refine ⟨_, rfl, _, rfl, _, rfl, q, _, rfl, .inl hq, p, l, ns, a, b, _, rfl, hP, ha, by omega, ?_, fun H' d a' b' d0 d1 e1 e2 hB hR => ?_⟩
    · have h2 : (xs.length : Int).natAbs < 2 ^ 10 := by
        have e : (2 : Nat) ^ 10 = 1024 := by decide
        rw [e]
        omega
      exact Nat.lt_of_lt_of_le (PySem.Flt.log2_lt_of (by decide) h2) (by decide)
    · have hi : d.toNat < xs.length := by omega
      refine ⟨q, xs, d, xs[d.toNat], rfl, rfl, ?_, atI_of d0 (List.getElem?_eq_getElem hi), k H' d.toNat _ a' b' (List.getElem?_eq_getElem hi) e1 e2 hB hR⟩
      rcases hq with (h | ⟨o, h⟩) | h
      · exact .inl (.inl (hB _ _ nq h))
      · exact .inl (.inr ⟨o, hB _ _ nq h⟩)
      · exact .inr h
end
end Toy
set_option maxRecDepth 100000
namespace L2
open PySem PySem.Spec PyProof.Rows
section
variable {X : Cx} {CX : CXT} {k n : Nat} {f : Addr} {fd : FuncData} {ps ks : List Str} {sp : Sp} {E : XK} {x : Str} {p pos : Pos} {kws : List Keyword} {tk : TA} {g : List Value → List Value → List Value} {gV : List V → List V → List V}
/-- f(k = v, ..) -/
def tCallK0 (m : Nat) (sp : Sp) (gV : List V → List V → List V) (E : XK) (tk : TA) : TE := fun σ H Q => tk σ H fun zs H1 => zs.length = m ∧ sp (gV [] zs) H1 Q E
theorem pe_callK0 (F : FnOk X.prog X.w X.K X.mg X.base CX k f fd ps sp) (hr : Room k X.A) (hg : Gl X x) (hm : X.mg x = some (.ref f)) (hk : PySem.W.keepIn X.K (.ref f) = true) (hb : KBn X.K fd ps 0 ks g gV) (hx : Passes CX X E) (hkw : PK X kws tk)
    (hall : (backToKw pos (keywordEach kws X.env)).all (·.1.isSome) = true := by rfl) (hks : (backToKw pos (keywordEach kws X.env)).filterMap (·.1) = ks := by rfl) (hdb : (x == ("__debug__" : Str)) = false := by decide)
    (hpl : ((backTo pos (starEach [] X.env)).any (·.1) || (backToKw pos (keywordEach kws X.env)).any (·.1.isNone)) = false := by rfl) :
    PE X (.Call (.Name x p) [] kws pos) (tCallK0 ks.length sp gV E tk) := by
  refine ⟨fun pins s σ H Q I h => wpAny_Call_Name_kw (ld_glob I hg hm ?_ hdb)⟩
  refine PySem.W.callWith_KW0 (h₀ := X.base) I.ok.mod.kin hk hall ?_ hpl
  refine thn (hkw.run pos pins s σ H _ I h) fun ws s2 hh => ?_
  obtain ⟨zs, H2, I2, rz, l2, q2⟩ := hh
  refine ⟨I2.kIn, ?_⟩
  rw [hks]
  exact run_fnN (n := 0) (us := []) (vs := []) F hr hb hx I2 .nil rz rfl l2 q2
end
/-- kinds of plain values -/
inductive Plain (K : PySem.W.Frag) (H : Hp) : V → String → Prop where
  | non : Plain K H .non "NoneType"
  | bl (b : Bool) : Plain K H (.bl b) "bool"
  | int (i : Int) : Plain K H (.int i) "int"
  | str (z : Str) : Plain K H (.str z) "str"
  | lst {a : Addr} {xs : List V} (e : H a = some (.lst xs)) : Plain K H (.ref a) "list"
  | tup {a : Addr} {xs : List V} (e : H a = some (.tup xs)) : Plain K H (.ref a) "tuple"
  | dK {a : Addr} {kvs : List (Key × V)} (e : H a = some (.dK kvs)) : Plain K H (.ref a) "dict"
theorem Plain.ty {K : PySem.W.Frag} {H : Hp} {x : V} {T : String} (h : Plain K H x T) : TyX K H x (.type T) := by
  cases h with
  | non => exact .base .non
  | bl b => exact .base (.bl b)
  | int i => exact .base (.int i)
  | str z => exact .base (.str z)
  | lst e => exact .base (.lst e)
  | tup e => exact .base (.tup e)
  | dK e => exact .base (.dK e)
def isI : V → Bool
  | .int _ => true
  | _ => false
def isB : V → Bool
  | .bl _ => true
  | _ => false
def isS : V → Bool
  | .str _ => true
  | _ => false
theorem Plain.kInt {K : PySem.W.Frag} {H : Hp} {x : V} {T : String} (h : Plain K H x T) : PySem.W.kitOne K (.type T) (.type "int") = some (isI x || isB x) := by
  cases h <;> first
    | exact kit_ty (show kitB _ _ = some true by decide +kernel)
    | exact kit_ty (show kitB _ _ = some false by decide +kernel)
theorem Plain.kBool {K : PySem.W.Frag} {H : Hp} {x : V} {T : String} (h : Plain K H x T) : PySem.W.kitOne K (.type T) (.type "bool") = some (isB x) := by
  cases h <;> first
    | exact kit_ty (show kitB _ _ = some true by decide +kernel)
    | exact kit_ty (show kitB _ _ = some false by decide +kernel)
theorem Plain.kStr {K : PySem.W.Frag} {H : Hp} {x : V} {T : String} (h : Plain K H x T) : PySem.W.kitOne K (.type T) (.type "str") = some (isS x) := by
  cases h <;> first
    | exact kit_ty (show kitB _ _ = some true by decide +kernel)
    | exact kit_ty (show kitB _ _ = some false by decide +kernel)
end L2
set_option maxRecDepth 100000
namespace L2
open PySem PySem.Spec PyProof.Rows
theorem PE.imp {X : Cx} {e : Expr} {t t' : TE} (h : PE X e t) (i : ∀ σ H Q, t' σ H Q → t σ H Q) : PE X e t' :=
  ⟨fun pins s σ H Q I q => h.run pins s σ H Q I (i σ H Q q)⟩
/-- an own exception's __init__ of n arguments that stores fields -/
def spX (C : Addr) (n : Nat) (fs : List V → List (Str × V)) : Sp := fun vs H Q _ => ∃ (a : Addr) (ys : List V), vs = .ref a :: ys ∧ ys.length = n ∧ H a = some (exo a C none) ∧
  ∀ (dx : Addr) (H' : Hp), H dx = none → dx ≠ a → H' a = some (exo a C (some dx)) → H' dx = some (exd dx (fs ys)) → (∀ b, b ≠ a → b ≠ dx → H' b = H b) → Q .non H'
/-- an exception of the class at C with these fields -/
def ErrAt (H : Hp) (a C : Addr) (fs : List (Str × V)) : Prop := ∃ d, H a = some (exo a C (some d)) ∧ H d = some (exd d fs)
theorem ErrAt.same {H H' : Hp} {a C : Addr} {fs : List (Str × V)} (s : Same H H') (h : ErrAt H a C fs) : ErrAt H' a C fs :=
  let ⟨d, h1, h2⟩ := h
  ⟨d, s _ _ h1, s _ _ h2⟩
theorem Same.new {H H' : Hp} {q : Addr} {o : HO} (s : Same H H') (hq : H' q = none) : Same H (upd H' q o) := fun b u e => by
  rw [upd_ne (ne_of_none (s b u e) hq)]
  exact s b u e
theorem spX_new {C : Addr} {n : Nat} {fs : List V → List (Str × V)} {H : Hp} {Q : VK} {a : Addr} {ys : List V} (ha : H a = none) (hn : ys.length = n)
    (h : ∀ H', Same H H' → ErrAt H' a C (fs ys) → Q (.ref a) H') : spX C n fs (.ref a :: ys) (upd H a (exo a C none)) (fun v H2 => v = .non ∧ Q (.ref a) H2) E0 := by
  refine ⟨a, ys, rfl, hn, upd_same, fun dx H' hd nd h1 h2 h3 => ⟨rfl, h H' (fun b o e => ?_) ⟨dx, h1, h2⟩⟩⟩
  have hd' : H dx = none := by
    rw [upd_ne nd] at hd
    exact hd
  rw [h3 b (ne_of_none e ha) (ne_of_none e hd'), upd_ne (ne_of_none e ha)]
  exact e
section
variable {X : Cx} {k n : Nat} {fI C : Addr} {fd : FuncData} {ps ks : List Str} {fs : List V → List (Str × V)} {x : Str} {p pos : Pos} {e : Expr} {es : List Expr} {kws : List Keyword} {t tk : TA} {g : List Value → List Value → List Value} {gV : List V → List V → List V}
/-- C(e, ..) where __init__ stores fields -/
def tNewX (C : Addr) (n : Nat) (fs : List V → List (Str × V)) (t : TA) : TE := fun σ H Q => t σ H fun vs H1 => vs.length = n ∧ ∀ a H', H1 a = none → Same H1 H' → ErrAt H' a C (fs vs) → Q (.ref a) H'
end
/-- the readings of argument lists go on with what follows -/
def Mono (t : TA) : Prop := ∀ σ H (Q Q' : List V → Hp → Prop), (∀ vs H', Q vs H' → Q' vs H') → t σ H Q → t σ H Q'
theorem mono_nil : Mono tNil := fun _ _ _ _ h q => h _ _ q
theorem mono_var {i : Nat} {t : TA} (h : Mono t) : Mono (tCons (tVar i) t) := fun σ H Q Q' i q => by
  obtain ⟨v, e, q⟩ := q
  exact ⟨v, e, h _ _ _ _ (fun vs H' z => i _ _ z) q⟩
section
variable {X : Cx} {k n : Nat} {fI C : Addr} {fd : FuncData} {ps ks : List Str} {fs : List V → List (Str × V)} {x : Str} {p pos : Pos} {e : Expr} {es : List Expr} {kws : List Keyword} {t tk : TA} {g : List Value → List Value → List Value} {gV : List V → List V → List V}
theorem pe_newX (T : XvI X.K C fI) (F : FnOk X.prog X.w X.K X.mg X.base CX0 k fI fd ps (spX C n fs)) (hr : Room (k + 1) X.A) (hb : KBn X.K fd ps (n + 1) [] g fun vs zs => vs ++ zs) (hg : Gl X x) (hm : X.mg x = some (.ref C)) (mo : Mono t) (ha : PA X (e :: es) t)
    (hn : n ≤ 1000 := by decide) (hdb : (x == ("__debug__" : Str)) = false := by decide)
    (he : starEach (e :: es) X.env = (false, eval e X.env) :: starEach es X.env := by rfl) (hpl : (backTo pos (starEach es X.env)).any (·.1) = false := by rfl) :
    PE X (.Call (.Name x p) (e :: es) [] pos) (tNewX C n fs t) := by
  refine (pe_mkx T F hr hb hg hm ha hn hdb he hpl).imp fun σ H Q q => mo _ _ _ _ (fun vs H1 z => ⟨z.1, fun a ha => ?_⟩) q
  show spX C n fs ((V.ref a :: vs) ++ []) _ _ _
  rw [List.append_nil]
  exact spX_new ha z.1 (z.2 a · ha)
/-- C(k = v, ..): the fields by all the values, in the parameters' order -/
def tNewXK (C : Addr) (m : Nat) (fs : List V → List (Str × V)) (tk : TA) : TE := fun σ H Q => tk σ H fun zs H1 => zs.length = m ∧ ∀ a H', H1 a = none → Same H1 H' → ErrAt H' a C (fs zs) → Q (.ref a) H'
theorem pe_newXK (T : XvI X.K C fI) (F : FnOk X.prog X.w X.K X.mg X.base CX0 k fI fd ps (spX C n fs)) (hr : Room (k + 1) X.A) (ord : List V → List V) (hb : KBn X.K fd ps 1 ks g fun vs zs => vs ++ ord zs) (ho : ∀ zs, (ord zs).length = zs.length) (hl : ks.length = n) (hg : Gl X x) (hm : X.mg x = some (.ref C)) (mo : Mono tk) (hkw : PK X kws tk)
    (hall : (backToKw pos (keywordEach kws X.env)).all (·.1.isSome) = true := by rfl) (hks : (backToKw pos (keywordEach kws X.env)).filterMap (·.1) = ks := by rfl) (hdb : (x == ("__debug__" : Str)) = false := by decide)
    (hpl : ((backTo pos (starEach [] X.env)).any (·.1) || (backToKw pos (keywordEach kws X.env)).any (·.1.isNone)) = false := by rfl) :
    PE X (.Call (.Name x p) [] kws pos) (tNewXK C ks.length (fun zs => fs (ord zs)) tk) := by
  refine (pe_mkxK T F hr hb hg hm hkw hall hks hdb hpl).imp fun σ H Q q => mo _ _ _ _ (fun zs H1 z => ⟨z.1, fun a ha => ?_⟩) q
  show spX C n fs (V.ref a :: ord zs) _ _ _
  exact spX_new ha ((ho zs).trans (z.1.trans hl)) (z.2 a · ha)
/-- e.f off an error -/
theorem xat_err {K : PySem.W.Frag} {f : Str} {H : Hp} {a C : Addr} {fs : List (Str × V)} {v : V} {Q : VK} (h : ErrAt H a C fs) (T : XvC K C) (no : PySem.W.findIn K (.ref C) f = some none) (l : fs.lookup f = some v) (q : Q v H) :
    ∃ (a' C' d : Addr) (fs' : List (Str × V)) (v' : V), V.ref a = .ref a' ∧ H a' = some (exo a' C' (some d)) ∧ H d = some (exd d fs') ∧ XvC K C' ∧ PySem.W.findIn K (.ref C') f = some none ∧ fs'.lookup f = some v' ∧ Q v' H :=
  let ⟨d, h1, h2⟩ := h
  ⟨a, C, d, fs, v, rfl, h1, h2, T, no, l, q⟩
/-- (C(e, ..), C(k = v, ..).f): the pair -/
def tRow (K : PySem.W.Frag) (C : Addr) (n m : Nat) (fs fs' : List V → List (Str × V)) (f : Str) (t tk : TA) : TE := fun σ H Q => ∃ (vs zs : List V) (v : V), (∀ H Q, Q vs H → t σ H Q) ∧ (∀ H Q, Q zs H → tk σ H Q) ∧ vs.length = n ∧ zs.length = m ∧
  XvC K C ∧ PySem.W.findIn K (.ref C) f = some none ∧ (fs' zs).lookup f = some v ∧ ∀ (p a : Addr) (H' : Hp), Same H H' → H p = none → H' p = some (.tup [.ref a, v]) → ErrAt H' a C (fs vs) → Q (.ref p) H'
theorem pe_row {m : Nat} {fs' : List V → List (Str × V)} {e1 e2 : Expr} {f : Str} {b : Nat} {p1 p2 : Pos} (h1 : PE X e1 (tNewX C n fs t)) (h2 : PE X e2 (tNewXK C m fs' tk)) (hb : attributeBase e2 f X.env (eval e2 X.env) = eval e2 X.env := by rfl)
    (hs : starEach [e1, .Attribute e2 f p1] X.env = (false, eval e1 X.env) :: starEach [.Attribute e2 f p1] X.env := by rfl) :
    PE X (.Tuple [e1, .Attribute e2 f p1] b p2) (tRow X.K C n m fs fs' f t tk) := by
  refine (pe_tup (pa_cons h1 (hs := hs) (pa_cons (pe_xat h2 hb) pa_nil))).imp fun σ H Q q => ?_
  obtain ⟨vs, zs, v, a1, a2, l1, l2, T, no, lk, q⟩ := q
  refine a1 _ _ ⟨l1, fun a Ha na sa ea => a2 _ _ ⟨l2, fun c Hc nc sc ec => ?_⟩⟩
  refine xat_err ec T no lk ⟨(by show 2 ≤ sizeLine; decide), fun p hp => ?_⟩
  have s2 : Same H Hc := sa.trans sc
  refine q p a _ (s2.new hp) (s2.free hp) upd_same ((ea.same sc).same ((Same.refl _).new hp))
end
end L2
set_option maxRecDepth 100000
namespace L2
open PySem PySem.Spec PyProof.Rows
/-! try: .. except X as n: suite, where the error outlives the suite by another name: it is tracked from then on -/
/-- at a: an error of the class cls that has been caught, its dict at d -/
def exz (a : Addr) (cls : Value) (d : Option Addr) : HO := .ext fun h => ∃ (oe : Obj) (vs : Array Value), h.get? a = some oe ∧ Zc cls d oe ∧ oe.data = .fields vs
theorem exz_ok {P : Program} {w : World} {H : Hp} {h : Heap} {a : Addr} {cls : Value} {d : Option Addr} {oe : Obj} {vs : Array Value} (e : h.get? a = some oe) (z : Zc cls d oe) (f : oe.data = .fields vs) : ObjOk P w H h a (exz a cls d) :=
  ⟨⟨oe, vs, e, z, f⟩, ⟨oe, e⟩, fun _ _ ⟨o, ws, e1, z1, f1⟩ k => ⟨o, ws, k _ e1, z1, f1⟩⟩
theorem exz_at {P : Program} {w : World} {H : Hp} {h : Heap} {a : Addr} {cls : Value} {d : Option Addr} (hok : HOk P w H h) (e : H a = some (exz a cls d)) : ∃ (oe : Obj) (vs : Array Value), h.get? a = some oe ∧ Zc cls d oe ∧ oe.data = .fields vs := by
  have x : ObjOk P w H h a (.ext fun h => ∃ (oe : Obj) (vs : Array Value), h.get? a = some oe ∧ Zc cls d oe ∧ oe.data = .fields vs) := hok a _ e
  exact x.1
theorem exz_ne_own {a x : Addr} {cls : Value} {d : Option Addr} : exz a cls d ≠ .own x := fun z => by
  have z2 : HO.ext _ = HO.own x := z
  cases z2
section
variable {X : Cx} {pins : List (Addr × Obj)} {σ : St} {H : Hp} {s : Shared}
/-- what was not tracked, is not of the entry and no cell, is tracked from now on -/
theorem Inv.track {a : Addr} {o : HO} (I : Inv X pins σ H s) (na : H a = none) (n0 : X.s_0.heap.get? a = none) (nl : a ≠ X.env.locals) (nc : ∀ x c, X.env.cells.lookup x = some c → c ≠ a) (np : ∀ p ∈ X.pn ++ pins, p.1 ≠ a)
    (new : ObjOk X.prog X.w (upd H a o) s.heap a o) : Inv X pins σ (upd H a o) s := by
  have old : ∀ {b : Addr} {u : Obj}, X.s_0.heap.get? b = some u → b ≠ a := fun {b u} e z => by
    rw [z, n0] at e
    cases e
  have tr : ∀ {b : Addr} {u : HO}, H b = some u → b ≠ a := fun e => ne_of_none e na
  refine ⟨I.ok, I.os, I.bare, ⟨I.base.keep, I.base.slot, fun b u e n x => ?_, I.base.there, fun b xs e => ?_, fun b u v e => ?_, fun b ps e => ?_⟩, I.loc, I.cell, ?_, fun x c e => ?_, fun p hp => ?_, fun b u e => ?_, I.len⟩
  · rw [upd_ne (old e)]
    exact I.base.free b u e n x
  · have q := I.base.tups b xs e
    rw [upd_ne (tr q)]
    exact q
  · have q := I.base.frzs b u v e
    rw [upd_ne (tr q)]
    exact q
  · obtain ⟨more, q⟩ := I.base.tbls b ps e
    exact ⟨more, by rw [upd_ne (tr q)]; exact q⟩
  · rw [upd_ne nl.symm]
    exact I.free
  · rw [upd_ne (nc x c e)]
    exact I.freeC x c e
  · obtain ⟨h1, h2, h3⟩ := I.pin p hp
    exact ⟨h1, by rw [upd_ne (np p hp)]; exact h2, h3⟩
  · by_cases hb : b = a
    · subst hb
      rw [upd_same] at e
      cases e
      exact new
    · rw [upd_ne hb] at e
      exact (I.hok b u e).stay (fun _ _ _ z => z) (fun _ z => by rw [upd_ne (tr z)]; exact z) fun _ _ z => by rw [upd_ne (tr z)]; exact z
/-- fewer pins -/
theorem Inv.unpin {q : Addr × Obj} (I : Inv X (q :: pins) σ H s) : Inv X pins σ H s :=
  ⟨I.ok, I.os, I.bare, I.base, I.loc, I.cell, I.free, I.freeC, fun p hp => I.pin p ((List.mem_append.mp hp).elim (fun z => List.mem_append_left _ z) fun z => List.mem_append_right _ (List.mem_cons_of_mem _ z)), I.hok, I.len⟩
/-- out of a suite, the error's object still pinned -/
theorem Inv.offSuite {a : Addr} {q : Addr × Obj} (I : Inv (X.suite a (q :: (X.pn ++ pins))) [] σ H s) (ok : X.Ok) : Inv X (q :: pins) σ H s := by
  refine ⟨ok, I.os, I.bare, I.base, I.loc, I.cell, I.free, I.freeC, fun p hp => I.pin p (List.mem_append_left _ ?_), I.hok, I.len⟩
  rcases List.mem_append.mp hp with z | z
  · exact List.mem_cons_of_mem _ (List.mem_append_left _ z)
  · rcases List.mem_cons.mp z with z | z
    · rw [z]
      exact List.mem_cons_self ..
    · exact List.mem_cons_of_mem _ (List.mem_append_right _ z)
end
/-- what the clause wishes: at the suite's end the error is tracked -/
def wKeep (K : PySem.W.Frag) (c : Value) (i m : Nat) (ts : Addr → Value → Option Addr → TS) (Wout : WX) (D : Ends) : WX := fun cls d σ H => ∃ b, PySem.W.exmOne K cls c = some b ∧
  (b = true → σ.length = m → ∀ a, H a = none → ts a cls d { nx := fun τ G => D.nx (τ.set i none) (upd G a (exz a cls d)), rt := fun _ _ => False, bk := fun _ _ => False, ct := fun _ _ => False } (σ.set i (some (.ref a))) H) ∧ (b = false → Wout cls d σ H)
section
variable {X : Cx} {x n : Str} {c : Value} {i : Nat} {body rest : List Stmt} {first : Stmt} {p1 p2 p3 : Pos} {tb : WX → TS} {ts : Addr → Value → Option Addr → TS} {Wout : WX}
theorem ps_try_keep (st : X.stack = X.env :: X.outer) (fr : X.env.frame = some X.env.locals) (nd : X.N.Nodup) (hi : X.N[i]? = some n) (kd : X.env.kindOf n = some .local) (nm : Names X x c) (tk : Takes X Wout) (nx : X.ex = [])
    (hb : ∀ (W : WX) (pn : List (Addr × Obj)) (xe : Value → Shared → Prop), Takes (X.tr pn xe) W → PassesOwn (model X.prog X.w) X.A X.env xe → PSs (X.tr pn xe) body (tb W))
    (hsu : ∀ (a : Addr) (oe : Obj) (cls : Value) (d : Option Addr) (pn : List (Addr × Obj)), Zc cls d oe → (∃ vs, oe.data = .fields vs) → PSs (X.suite a ((a, oe) :: pn)) (first :: rest) (ts a cls d)) :
    PS X (.Try body [.ExceptHandler (some (.Name x p1)) (some n) (first :: rest) p2] [] [] p3) (fun D σ H => tb (wKeep X.K c i X.N.length ts Wout D) D σ H) := by
  refine ⟨fun pins s σ H D I h => wpAny_Try_except ?_⟩
  have ok := I.ok
  have afr : X.A.frames = some (X.env :: X.outer) := by
    rw [ok.frames, st]
  let nxt : Value → Shared → Prop := fun e s₁ => wpAny (model X.prog X.w) X.A (noteFrame e X.env) (fun _ s₂ => wpAny (model X.prog X.w) X.A (setFlight e none)
    (fun _ s₃ => wpAny (model X.prog X.w) X.A (handleBy e X.env [.ExceptHandler (some (.Name x p1)) (some n) (first :: rest) p2]) (SP X pins D) X.xe s₃) X.xe s₂) X.xe s₁
  have caught : ∀ u s', XE (X.tr (X.pn ++ pins) nxt) (wKeep X.K c i X.N.length ts Wout D) u s' → nxt u s' := by
    rintro u s' ⟨a, B, sI, pinsI, σ1, H1, cls, d, rfl, J0, gb, us, sky, na, eo, ab, b, hm, yes, no⟩
    have J : Inv X pins σ1 H1 sI := J0.ofTry ok
    rw [show (X.tr (X.pn ++ pins) nxt).stack = X.env :: X.outer from st] at sky
    refine Sky.land Zc.steady afr fr sky fun hA flA uA => ?_
    have JA : Inv X pins σ1 H1 { s' with heap := hA } := J.landed gb flA.1 (us.trans uA) eo ab
    have off : ∀ {g : Heap} {o : Obj} {ws : Array Value}, g.FunFrames B (X.env :: X.outer) → g.get? a = some o → o.data = .fields ws → a ∉ frs (X.env :: X.outer) := by
      intro g o ws ff e dd z
      obtain ⟨_, o2, e2, k⟩ := ff.mem z
      rw [e] at e2
      cases e2
      exact k _ dd
    obtain ⟨o3, w3, a3, z3, d3⟩ := flA.there
    have nfr := off flA.2.2.1 a3 d3
    have nL : a ≠ X.env.locals := fun z => nfr (List.mem_filterMap.mpr ⟨X.env, List.mem_cons_self, by rw [fr, z]⟩)
    have nF : a ∉ X.fs := fun z => by
      obtain ⟨e, he, q⟩ := List.mem_filterMap.mp z
      exact nfr (List.mem_filterMap.mpr ⟨e, List.mem_cons_of_mem _ he, q⟩)
    have new : sI.heap.get? a = none := by
      cases q : sI.heap.get? a with
      | none => rfl
      | some o =>
        have z := gb a o q (by rw [show (X.tr (X.pn ++ pins) nxt).stack = X.env :: X.outer from st]; exact nfr)
        rw [flA.2.1] at z
        cases z
    have n0 : X.s_0.heap.get? a = none := by
      cases q : X.s_0.heap.get? a with
      | none => rfl
      | some o =>
        obtain ⟨o2, z⟩ := J.base.there a o q (by rw [nx]; simp)
        rw [new] at z
        cases z
    have np : ∀ p ∈ X.pn ++ pins, p.1 ≠ a := fun p hp z => by
      have q := (J.pin p hp).1
      rw [z, new] at q
      cases q
    have SA := JA.suite a3 d3 na nL nF
    have look : PySem.W.Looks (model X.prog X.w) hA (typeOf (.ref a)) cls := fun A Q E s k q => wpAny_typeOf_ref (k _ _ a3) (by rw [z3.1]; exact q)
    have which := PySem.W.exm_one (M := model X.prog X.w) JA.kIn look hm
    have name : ∀ {Q E : Value → Shared → Prop}, Q c { s' with heap := hA } → wpAny (model X.prog X.w) (X.A.mark (some (.ref a))) (eval (.Name x p1) X.env) Q E { s' with heap := hA } := by
      intro Q E q
      obtain ⟨g, db, g2⟩ := nm
      rcases g2 with g2 | ⟨g2, bv, nn⟩
      · exact ld_glob (X := X.suite a ((a, o3) :: (X.pn ++ pins))) SA g g2 q db
      · exact ld_blt (X := X.suite a ((a, o3) :: (X.pn ++ pins))) SA g g2 bv q nn db
    refine wpAny_handleBy_cons (codeAny_handlers_test (name (which.here ?_))) (by intro q; cases q)
    cases b with
    | true =>
      refine codeAny_handlers_suite_as (HandSPX.lands_againZ flA fun hB flB uB => ?_)
      have JB : Inv X pins σ1 H1 { s' with heap := hB } := J.landed gb flB.1 ((us.trans uA).trans uB) eo ab
      obtain ⟨o4, w4, a4, z4, d4⟩ := flB.there
      have SB := JB.suite a4 d4 na nL nF
      refine store_ok (X := X.suite a ((a, o4) :: (X.pn ++ pins))) (v := .ref a) SB nd hi (.inl kd) rfl (fun s5 S5 => ?_) (.inr kd)
      refine wpAny_mono ((hsu a o4 cls d (X.pn ++ pins) z4 ⟨_, d4⟩).run [] s5 _ H1 _ S5 (yes rfl J.len a na)) (fun f s6 sp => ?_) fun _ _ z => z.elim
      cases f with
      | next =>
        obtain ⟨σ6, H6, S6, q6⟩ := sp
        refine gone_ok (S6.offSuite ok) nd hi kd fun s7 J7 => ?_
        obtain ⟨at7, n7, _⟩ := J7.pin (a, o4) (List.mem_append_right _ (List.mem_cons_self ..))
        have cells : ∀ y c', X.env.cells.lookup y = some c' → c' ≠ a := fun y c' e z => by
          obtain ⟨v, o, ho, hd⟩ := J7.cell y c' e
          rw [z, at7] at ho
          cases ho
          rw [d4] at hd
          cases hd
        exact ⟨_, _, J7.unpin.track n7 n0 nL cells np (exz_ok at7 z4 d4), q6⟩
      | brk =>
        obtain ⟨_, _, _, q6⟩ := sp
        exact q6.elim
      | cont =>
        obtain ⟨_, _, _, q6⟩ := sp
        exact q6.elim
      | ret u =>
        obtain ⟨_, _, _, _, _, q6⟩ := sp
        exact q6.elim
    | false =>
      refine wpAny_handleBy_nil ?_
      obtain ⟨f1, f2, f3, oe, vs, T, oT, tr, e1, e2, e3, e4, e5⟩ := id flA
      have out : wpAny (model X.prog X.w) X.A (setFlight (.ref a) X.env.frame) (fun _ s4 => wpAny (model X.prog X.w) X.A (throw (.ref a) : Sem Flow) (SP X pins D) X.xe s4) X.xe { s' with heap := hA } := by
        rw [fr]
        refine HandSPX.setFlight_upZ flA fun hB up uB => wpAny_throw (tk _ _ ⟨a, B, sI, pins, σ1, H1, cls, d, rfl, J, gb, (us.trans uA).trans uB, .inr (.inr (by rw [st]; exact up)), na, eo, ab, no rfl⟩)
      unfold PySem.passOn
      refine wpAny_bind (wpAny_field e1 e3 e4 ?_)
      rw [if_neg (show ¬ (Value.ref T == Value.none) = true by simp)]
      first
        | exact wpAny_bind (wpAny_pure (wpAny_bind out))
        | exact wpAny_bind out
  refine wpAny_mono ((hb _ (X.pn ++ pins) nxt caught PassesOwn.looking).run [] s σ H D (I.toTry _) h) (fun f s1 sp => ?_) fun _ _ z => z
  cases f with
  | next =>
    obtain ⟨σ2, H2, J, q⟩ := sp
    exact wpAny_execs_nil ⟨σ2, H2, J.ofTry ok, q⟩
  | brk =>
    obtain ⟨σ2, H2, J, q⟩ := sp
    exact ⟨σ2, H2, J.ofTry ok, q⟩
  | cont =>
    obtain ⟨σ2, H2, J, q⟩ := sp
    exact ⟨σ2, H2, J.ofTry ok, q⟩
  | ret u =>
    obtain ⟨v, σ2, H2, J, r, q⟩ := sp
    exact ⟨v, σ2, H2, J.ofTry ok, r, q⟩
end
end L2
set_option maxRecDepth 100000
namespace L2
open PySem PySem.Spec PyProof.Rows
/-! a caught error by another name: its class asked, its fields read -/
/-- at a: a caught error of the class at C, with these fields -/
def Caught (H : Hp) (a C : Addr) (fs : List (Str × V)) : Prop := ∃ d, H a = some (exz a (.ref C) (some d)) ∧ H d = some (.xd fs)
theorem xd_at {P : Program} {w : World} {H : Hp} {h : Heap} {d : Addr} {fs : List (Str × V)} (hok : HOk P w H h) (e : H d = some (.xd fs)) : ∃ mA, h.Ns1 d mA ∧ ∀ f, RelO (fs.lookup f) (mA f) := by
  have x : ObjOk P w H h d (.xd fs) := hok d _ e
  exact x
theorem Caught.same {H H' : Hp} {a C : Addr} {fs : List (Str × V)} (s : Same H H') (h : Caught H a C fs) : Caught H' a C fs :=
  let ⟨d, h1, h2⟩ := h
  ⟨d, s _ _ h1, s _ _ h2⟩
section
variable {X : Cx} {pins : List (Addr × Obj)} {σ : St} {H : Hp} {s : Shared}
theorem caught_inst {a C : Addr} {fs : List (Str × V)} (I : Inv X pins σ H s) (h : Caught H a C fs) : ∃ (oe od : Obj) (mA : Str → Option Value), PySem.W.InstAt s.heap a oe C (some od) ∧ (∀ f, PySem.W.lookIn f od = some (mA f)) ∧ ∀ f, RelO (fs.lookup f) (mA f) := by
  obtain ⟨d, ea, ed⟩ := h
  obtain ⟨oe, vs, e1, z, e2⟩ := exz_at I.hok ea
  obtain ⟨mA, hns, hr⟩ := xd_at I.hok ed
  obtain ⟨od, hod, hl⟩ := lookIn_ns hns
  refine ⟨oe, od, mA, ⟨e1, z.1, ?_, ?_⟩, hl, hr⟩
  · unfold PySem.W.notCls
    rw [e2]
  · rw [z.2]
    exact hod
/-- isinstance(e, c) -/
def rIsZ (K : PySem.W.Frag) : List V → Hp → VK → Prop := fun xs H Q => ∃ (a C : Addr) (fs : List (Str × V)) (c : V) (cv : Value) (b : Bool), xs = [.ref a, c] ∧ Caught H a C fs ∧ XvC K C ∧ ClsV c cv ∧ PySem.W.kitOne K (.ref C) cv = some b ∧ Q (.bl b) H
theorem call_isz : CallR X (.builtin "isinstance") (rIsZ X.K) := by
  intro pins s σ H xs us Q I r h
  obtain ⟨a, C, fs, c, cv, b, rfl, ea, T, k, e, q⟩ := h
  obtain ⟨u1, u2, rfl, r1, r2⟩ := vals2 r
  have e2 := k.eq r2
  subst e2
  obtain rfl : u1 = Value.ref a := r1
  obtain ⟨oe, od, mA, J, _⟩ := caught_inst I ea
  exact PySem.W.kia_one (PySem.W.kitx_exc T.ic T.ga T.gg T.oex.exC T.ca T.gs T.tk T.mo) I.kIn J e (fun z => nomatch z) fun tk => ⟨.bl b, H, I.tok tk, rfl, q⟩
/-- e.f -/
def tZat (K : PySem.W.Frag) (te : TE) (f : Str) : TE := fun σ H Q => te σ H fun x H1 => ∃ (a C : Addr) (fs : List (Str × V)) (v : V), x = .ref a ∧ Caught H1 a C fs ∧ XvC K C ∧ PySem.W.findIn K (.ref C) f = some none ∧ fs.lookup f = some v ∧ Q v H1
theorem pe_zat {e : Expr} {te : TE} {f : Str} {pos : Pos} (he : PE X e te) (hb : attributeBase e f X.env (eval e X.env) = eval e X.env := by rfl) : PE X (.Attribute e f pos) (tZat X.K te f) := by
  refine ⟨fun pins s σ H Q I h => attr_of hb (thn (he.run pins s σ H _ I h) fun u s1 hh => ?_)⟩
  obtain ⟨x, H1, I1, rx, a, C, fs, v, ex, ea, T, no, l, q⟩ := hh
  subst ex
  obtain rfl : u = Value.ref a := rx
  obtain ⟨oe, od, mA, J, hl, hr⟩ := caught_inst I1 ea
  obtain ⟨u, hu, ru⟩ : ∃ u, mA f = some u ∧ RelV v u := RelO.some_of (v := v) (o := mA f) (by rw [← l]; exact hr f)
  exact HandSPX.exc_get I1.kIn J T.ga T.gg T.oex.exC (PySem.W.findObj_own T.dd no rfl (by rw [hl, hu])) (handed_of ru) ⟨v, H1, I1.tok _, ru, q⟩
end
end L2
set_option maxRecDepth 100000
set_option maxHeartbeats 4000000
namespace L2
open PySem PySem.Spec PyProof.Rows
/-! a tuple taken once: t * 1 is t itself -/
theorem tuple_mul_one (l : Addr) (its : Array Value) (n : Nat) (dd : Option Addr) (sl : Array (Option Value)) (u : Tok) :
    Meets (Builtin.«tuple.__mul__» ⟨[.ref l, .int 1 u], []⟩) (fun _ R s => s.heap.get? l = some { cls := .type "tuple", dict := dd, data := .seq its n, slots := sl } ∧ R (.ok (.ret (.ref l))) s) :=
  .of_wp fun prog w A R s h => by
    obtain ⟨hp, g, d, tk, os⟩ := s
    obtain ⟨hl, h⟩ := h
    have f1 := AutoSeq1.idx_int
    have c1 : (its.isEmpty || (1 : Int) == 1) = true := by simp
    wp_walk using wpAny_loadPart' hl
    repeat (first
      | (refine wpAny_ite_true (decide_eq_true c1) ?_; wp_walk using wpAny_loadPart' hl)
      | (refine wpAny_ite_false (decide_eq_false (by decide)) ?_; wp_walk using wpAny_loadPart' hl))
    exact ⟨_, rfl, h⟩
def rRep1 (K : PySem.W.Frag) : R2 := fun x y H Q => ∃ l xs, x = .ref l ∧ y = .int 1 ∧ SqT K H l xs ∧ Q (.ref l) H
theorem op_rep1 {X : Cx} : OpR X (binaryOp .Mult) (rRep1 X.K) := by
  intro pins s σ H x y v u Q I rx ry h
  obtain ⟨l, xs, rfl, rfl, hT, q⟩ := h
  cases rx
  obtain ⟨t, rfl⟩ := ry
  obtain ⟨its, r, ⟨⟨cls, dd, data, sl⟩, ho, hc, n, hd⟩, hs⟩ := I.tuple hT
  simp only at hc hd
  subst hc hd
  exact wpAny_binaryOp_repeat_ref (T := "tuple") (U := "int") (by decide) ⟨_, ho, rfl⟩ (fun s' => typeIs_int s' 1 t) noFill_tuple_mul F.fills_int_mul F.slot_int_rmul repeat_tuple F.slot_int_index.lookup
    (call_meets F.slot_int_rmul (typeIs_int s 1 t) F.entry_int_rmul (F.args_int_rmul_2 _ _) (int_rmul_tuple 1 t l its.toArray n dd sl)
      ⟨ho, rfl, ⟨_, ho, rfl⟩, call_meets F.slot_tuple_mul ⟨_, ho, rfl⟩ F.entry_tuple_mul (F.args_tuple_mul_2 _ _) (tuple_mul_one l its.toArray n dd sl t) ⟨ho, ⟨.ref l, H, I, rfl, q⟩⟩⟩)
/-- t * k -/
theorem op_repA {X : Cx} : OpR X (binaryOp .Mult) (fun x y H Q => rRep1 X.K x y H Q ∨ rRepT X.K x y H Q) := by
  intro pins s σ H x y v u Q I rx ry h
  rcases h with h | h
  · exact op_rep1 pins s σ H x y v u Q I rx ry h
  · exact op_repT pins s σ H x y v u Q I rx ry h
end L2
set_option maxRecDepth 100000
namespace L2
open PySem PySem.Spec PyProof.Rows
/-! a list or a tuple, walked -/
def Seq (K : PySem.W.Frag) (H : Hp) (a : Addr) (xs : List V) : Prop := SqL K H a xs ∨ SqT K H a xs
def iSeq (K : PySem.W.Frag) (tl : TE) : TI := fun σ H R => tl σ H fun x H1 => ∃ (a : Addr) (xs : List V), x = .ref a ∧ ((SqL K H1 a xs ∧ R (Itl K a) H1) ∨ (SqT K H1 a xs ∧ R (Itt K a) H1))
theorem pi_seq {X : Cx} {tg l : Expr} {tl : TE} (hl : PE X l tl) : PI X tg l (iSeq X.K tl) := by
  constructor
  intro pins s σ H R I h
  refine thn (hl.run pins s σ H _ I h) ?_
  rintro v s1 ⟨x, G, J, r, a, xs, rfl, q⟩
  obtain rfl : v = Value.ref a := r
  have fresh : ∀ b ∈ [s1.heap.objs.size], b = s1.heap.objs.size := fun b hb => List.mem_singleton.mp hb
  have nw := J.hok.fresh (Nat.le_refl s1.heap.objs.size)
  rcases q with ⟨hq, q⟩ | ⟨hq, q⟩
  · obtain ⟨_, _, p, _⟩ := J.list hq
    exact wpAny_pyIter_list p.isList ⟨_, [s1.heap.objs.size], _, _, G, rfl, J.kept (t' := s1.toks) (fun _ _ z => Heap.get?_push_of_some _ z), turn_list a _, ⟨_, Heap.get?_push_size _ rfl, rfl, rfl⟩, fun b hb => by rw [fresh b hb]; exact J.fpOk (Nat.le_refl _) nw, q⟩
  · obtain ⟨_, _, p, _⟩ := J.tuple hq
    exact wpAny_pyIter_tuple (show Heap.IsTuple s1.heap a _ from p) ⟨_, [s1.heap.objs.size], _, _, G, rfl, J.kept (t' := s1.toks) (fun _ _ z => Heap.get?_push_of_some _ z), turn_tuple a _, ⟨_, Heap.get?_push_size _ rfl, rfl, rfl⟩, fun b hb => by rw [fresh b hb]; exact J.fpOk (Nat.le_refl _) nw, q⟩
theorem Same.seqT {K : PySem.W.Frag} {H H' : Hp} {a : Addr} {xs : List V} (e : Same H H') (h : SqT K H a xs) : SqT K H' a xs := by
  rcases h with (z | ⟨o, z⟩) | z
  · exact .inl (.inl (e a _ z))
  · exact .inl (.inr ⟨o, e a _ z⟩)
  · exact .inr z
theorem Seq.same {K : PySem.W.Frag} {H H' : Hp} {a : Addr} {xs : List V} (s : Same H H') (h : Seq K H a xs) : Seq K H' a xs := h.elim (fun z => .inl (s.seq z)) fun z => .inr (s.seqT z)
end L2
set_option maxRecDepth 100000
namespace L2
open PySem PySem.Spec PyProof.Rows
/-! operations of tuples, whether the result is a new tuple or an old one -/
section
variable {X : Cx}
theorem OpR.imp {f : Value → Value → Sem Value} {r r' : R2} (h : OpR X f r) (i : ∀ x y H Q, r' x y H Q → r x y H Q) : OpR X f r' := fun pins s σ H x y v u Q I rx ry q => h pins s σ H x y v u Q I rx ry (i x y H Q q)
theorem SlR.imp {r r' : V → Option Int → Option Int → Hp → VK → Prop} (h : SlR X r) (i : ∀ x lo hi H Q, r' x lo hi H Q → r x lo hi H Q) : SlR X r' := fun pins s σ H x v vl vu lo hi sl Q I rx hs pl pu q => h pins s σ H x v vl vu lo hi sl Q I rx hs pl pu (i x lo hi H Q q)
theorem Same.lay {H : Hp} {p : Addr} {o : HO} (h : H p = none) : Same H (upd H p o) := (Same.refl H).new h
theorem cutV_all {xs : List V} {lo hi : Option Int} (h : HT.sIx xs.length 0 lo = 0 ∧ HT.sIx xs.length xs.length hi = xs.length) : cutV xs lo hi = xs := by
  unfold cutV
  rw [h.1, h.2]
  simp
/-- t[i:j] -/
def rSlP : V → Option Int → Option Int → Hp → VK → Prop := fun x lo hi H Q => ∃ (a : Addr) (xs : List V), x = .ref a ∧ H a = some (.tup xs) ∧ ∀ p H', Same H H' → H' p = some (.tup (cutV xs lo hi)) → Q (.ref p) H'
theorem sl_tupP : SlR X rSlP := sl_tupA.imp fun x lo hi H Q ⟨a, xs, e, h, q⟩ => ⟨a, xs, e, SqT.of h, fun z => q a H (Same.refl H) (by rw [cutV_all z]; exact h), fun _ p hp => q p _ (Same.lay hp) upd_same⟩
/-- t * k -/
def rRepP : R2 := fun x y H Q => ∃ (a : Addr) (k : Int) (xs : List V), x = .ref a ∧ y = .int k ∧ H a = some (.tup xs) ∧ xs ≠ [] ∧ 1 ≤ k ∧ k ≤ 1000 ∧ xs.length ≤ 1000 ∧ ∀ p H', Same H H' → H' p = some (.tup (List.replicate k.toNat xs).flatten) → Q (.ref p) H'
theorem op_repP : OpR X (binaryOp .Mult) rRepP := op_repA.imp fun x y H Q ⟨a, k, xs, e1, e2, h, ne, h1, h2, h3, q⟩ => by
  by_cases hk : k = 1
  · subst hk
    exact .inl ⟨a, xs, e1, e2, SqT.of h, q a H (Same.refl H) (by simpa using h)⟩
  · exact .inr ⟨a, k, xs, e1, e2, SqT.of h, ne, by omega, h2, h3, fun p hp => q p _ (Same.lay hp) upd_same⟩
/-- t + u -/
def rCatP : R2 := fun x y H Q => ∃ (a b : Addr) (xs ys : List V), x = .ref a ∧ y = .ref b ∧ H a = some (.tup xs) ∧ H b = some (.tup ys) ∧ xs.length + ys.length ≤ 1000 ∧ ∀ p H', Same H H' → H' p = some (.tup (xs ++ ys)) → Q (.ref p) H'
theorem op_catP : OpR X (binaryOp .Add) rCatP := op_catA.imp fun x y H Q ⟨a, b, xs, ys, e1, e2, h1, h2, l, q⟩ =>
  ⟨a, b, xs, ys, e1, e2, SqT.of h1, SqT.of h2, Nat.le_of_lt (small1000 (by omega)), fun z => q b H (Same.refl H) (by rw [z]; exact h2), fun _ z => q a H (Same.refl H) (by rw [z, List.append_nil]; exact h1), fun _ _ p hp => q p _ (Same.lay hp) upd_same⟩
end
/-! whole numbers in tuples, compared -/
theorem eqvAll_ints : ∀ a b : List Int, PyData.eqvAll (a.map .int) (b.map .int) = decide (a = b)
  | [], [] => rfl
  | [], _ :: _ => rfl
  | _ :: _, [] => rfl
  | x :: xs, y :: ys => by
    have ih := eqvAll_ints xs ys
    show (PyData.eqv (.int x) (.int y) && PyData.eqvAll (xs.map .int) (ys.map .int)) = _
    rw [ih]
    show ((x == y) && decide (xs = ys)) = decide (x :: xs = y :: ys)
    by_cases h : x = y
    · subst h
      simp
    · have h2 : (x == y) = false := by simpa using h
      rw [h2]
      simp [h]
theorem eqv_tups (a b : List Int) : PyData.eqv (.tuple (a.map .int)) (.tuple (b.map .int)) = decide (a = b) := by
  rw [← eqvAll_ints a b]
  rfl
theorem dp_ints' {K : PySem.W.Frag} {H : Hp} : ∀ ns : List Int, DpAll K H (ns.map V.int) (ns.map PyData.int)
  | [] => .nil
  | z :: r => .cons (.int z) (dp_ints' r)
theorem shaped_tup (ns : List Int) : PySem.SeqAt.shaped (.tuple (ns.map PyData.int)) = true := by
  have h : ∀ ns : List Int, PyData.canLayAll0 (ns.map PyData.int) = true ∧ PyData.depthAll (ns.map PyData.int) = 0 := by
    intro ns
    induction ns with
    | nil => exact ⟨rfl, rfl⟩
    | cons z r ih => exact ⟨by simp [PyData.canLayAll0, PyData.canLay0, ih.1], by simp [PyData.depthAll, PyData.depth, ih.2]⟩
  simp [PySem.SeqAt.shaped, PyData.canLay0, PyData.depth, h ns]
/-- t == u of whole numbers -/
def rEqP : R2 := fun x y H Q => ∃ (a b : Addr) (ns ms : List Int), x = .ref a ∧ y = .ref b ∧ H a = some (.tup (ns.map V.int)) ∧ H b = some (.tup (ms.map V.int)) ∧ Q (.bl (decide (ns = ms))) H
theorem op_eqP {X : Cx} (hu : X.A.units + 64 < cLine) : OpR X (compareOp .Eq) rEqP := (op_eqD hu).imp fun x y H Q ⟨a, b, ns, ms, e1, e2, h1, h2, q⟩ =>
  ⟨.tuple (ns.map .int), .tuple (ms.map .int), by rw [e1]; exact .tup (SqT.of h1) (dp_ints' ns), by rw [e2]; exact .tup (SqT.of h2) (dp_ints' ms), shaped_tup ns, shaped_tup ms, by rw [eqv_tups]; exact q⟩
theorem op_neP {X : Cx} (hu : X.A.units + 64 < cLine) : OpR X (compareOp .NotEq) (fun x y H Q => ∃ (a b : Addr) (ns ms : List Int), x = .ref a ∧ y = .ref b ∧ H a = some (.tup (ns.map V.int)) ∧ H b = some (.tup (ms.map V.int)) ∧ Q (.bl (decide (ns ≠ ms))) H) := (op_neD hu).imp fun x y H Q ⟨a, b, ns, ms, e1, e2, h1, h2, q⟩ =>
  ⟨.tuple (ns.map .int), .tuple (ms.map .int), by rw [e1]; exact .tup (SqT.of h1) (dp_ints' ns), by rw [e2]; exact .tup (SqT.of h2) (dp_ints' ms), shaped_tup ns, shaped_tup ms, by rw [eqv_tups, ← decide_not]; exact q⟩
/-- len, its reading by name -/
def rLenS (K : PySem.W.Frag) : List V → Hp → VK → Prop := fun xs H Q => ∃ p ys, xs = [V.ref p] ∧ (SqL K H p ys ∨ SqT K H p ys) ∧ Q (V.int (ys.length : Int)) H
theorem call_lenS {X : Cx} : CallR X (.builtin "len") (rLenS X.K) := call_len_seq
end L2
set_option maxRecDepth 100000
namespace L2
open PySem PySem.Spec PyProof.Rows
/-- a target o.f among several -/
def gFld (K : PySem.W.Frag) (to : TE) (f : Str) : TG := fun v σ H Q => to σ H fun x H1 => ∃ a C dx fs, x = .ref a ∧ H1 a = some (.ins C dx fs) ∧ Cls K C ∧ NoAttr K C f ∧ fs.length < 1000 ∧ Q σ (upd H1 a (.ins C dx (putF f v fs)))
theorem pg_fld {X : Cx} {o : Expr} {f : Str} {p : Pos} {to : TE} (ho : PE X o to) : PG X (.Attribute o f p) (gFld X.K to f) := by
  constructor
  intro pins s σ H v u Q I r h
  refine PySem.W.kas_attr (thn (ho.run pins s σ H _ I h) ?_)
  rintro ov s1 ⟨x, H1, J, rx, a, C, dx, fs, rfl, ea, c, n, l, q⟩
  obtain rfl : ov = Value.ref a := rx
  exact setattr_ok J ea c n l r fun s2 J2 => ⟨σ, _, J2, q⟩
/-- raise C(e, ..), where C's __init__ stores fields -/
def tRaiseX (C : Addr) (n : Nat) (fs : List V → List (Str × V)) (t : TA) : St → Hp → XK → Prop := fun σ H Q => t σ H fun vs H1 => vs.length = n ∧ ∀ d H', H1 d = none → Same H1 H' → H' d = some (.xd (fs vs)) → Q (.ref C) (some d) H'
theorem pmk_x {X : Cx} {k n : Nat} {fI C : Addr} {fd : FuncData} {ps : List Str} {fs : List V → List (Str × V)} {x : Str} {p pos : Pos} {e : Expr} {es : List Expr} {t : TA} (T : XvI X.K C fI) (F : FnOk X.prog X.w X.K X.mg X.base CX0 k fI fd ps (spX C n fs)) (hr : Room (k + 1) X.A) (hb : Binds X.K fd ps []) (hn : n ≤ 1000)
    (hg : Gl X x) (hm : X.mg x = some (.ref C)) (mo : Mono t) (ha : PA X (e :: es) t) (hdb : (x == ("__debug__" : Str)) = false := by decide)
    (he : starEach (e :: es) X.env = (false, eval e X.env) :: starEach es X.env := by rfl) (hpl : (backTo pos (starEach es X.env)).any (·.1) = false := by rfl) : PMk X (.Call (.Name x p) (e :: es) [] pos) (tRaiseX C n fs t) := by
  intro pins s σ H Q I h
  refine pmk_oex T.cls.oex T.ini T.ty F hr hb .nil pass0 hg hm ha hdb he hpl pins s σ H Q I (mo _ _ _ _ (fun vs H1 z => ⟨by rw [z.1]; exact hn, fun a ha => ?_⟩) h)
  refine ⟨a, vs, by rw [List.append_nil], z.1, upd_same, fun dx H' hd nd h1 h2 h3 => ⟨rfl, dx, _, h1, h2, ?_, z.2 dx _ ?_ ?_ upd_same⟩⟩
  · rw [upd_ne nd] at hd
    exact hd
  · rw [upd_ne nd] at hd
    exact hd
  · intro b o eb
    have hd' : H1 dx = none := by
      rw [upd_ne nd] at hd
      exact hd
    have n1 := ne_of_none eb ha
    have n2 := ne_of_none eb hd'
    rw [upd_ne n2, del_ne n1, h3 b n1 n2, upd_ne n1]
    exact eb
end L2
set_option maxRecDepth 100000
namespace L2
open PySem PySem.Spec PyProof.Rows
section
variable {X : Cx} {CX : CXT} {k : Nat} {f C : Addr} {fd : FuncData} {ps ks : List Str} {sp : Sp} {E : XK} {m : Str} {apos pos : Pos} {o : Expr} {kws : List Keyword} {ta : TE} {tk : TA} {g : List Value → List Value → List Value} {gV : List V → List V → List V}
/-- o.m(k = v, ..) -/
def tMethK0 (C : Addr) (m : Str) (n : Nat) (sp : Sp) (gV : List V → List V → List V) (E : XK) (ta : TE) (tk : TA) : TE := fun σ H Q => ta σ H fun x H1 => ∃ a dx fs, x = .ref a ∧ H1 a = some (.ins C dx fs) ∧ fs.lookup m = none ∧ tk σ H1 fun zs H2 => zs.length = n ∧ sp (gV [x] zs) H2 Q E
theorem pe_methK0 {pl : Sem Bool} (he : PE X o ta) (c : Cls X.K C) (hm : Meth X.K C m f) (F : FnOk X.prog X.w X.K X.mg X.base CX k f fd ps sp) (hr : Room k X.A) (hb : KBn X.K fd ps 1 ks g gV) (hx : Passes CX X E) (hkw : PK X kws tk)
    (hall : (backToKw pos (keywordEach kws X.env)).all (·.1.isSome) = true := by rfl) (hks : (backToKw pos (keywordEach kws X.env)).filterMap (·.1) = ks := by rfl)
    (hpl : ((backTo pos (starEach [] X.env)).any (·.1) || (backToKw pos (keywordEach kws X.env)).any (·.1.isNone)) = false := by rfl)
    (ht : eval (.Call (.Attribute o m apos) [] kws pos) X.env = (do
      let ov ← eval o X.env
      standAt apos.atName
      let (f, first) ← holding [ov] (getMethod ov m pl)
      callWith pos f first (backTo pos (starEach [] X.env)) (backToKw pos (keywordEach kws X.env))) := by rfl) :
    PE X (.Call (.Attribute o m apos) [] kws pos) (tMethK0 C m ks.length sp gV E ta tk) := by
  constructor
  intro pins s σ H Q I h
  refine PySem.W.methodCall_KW (pl := pl) (thn (he.run pins s σ H _ I h) ?_) ht
  rintro u s1 ⟨x, H1, J, rx, a, dx, fs, rfl, ea, l, q⟩
  obtain rfl : u = Value.ref a := rx
  refine getmeth_ok J ea c hm l (PySem.W.callWith_KW0 (first := [.ref a]) (h₀ := X.base) J.ok.mod.kin hm.kp hall (thn (hkw.run pos pins s1 σ H1 _ J q) ?_) hpl)
  rintro ws s2 ⟨zs, H2, J2, rz, l2, q2⟩
  rw [hks]
  exact ⟨J2.kIn, run_fnN (n := 1) (us := [.ref a]) (vs := [.ref a]) F hr hb hx J2 (.cons rfl .nil) rz rfl l2 q2⟩
end
end L2
set_option maxRecDepth 100000
namespace L2
open PySem PySem.Spec PyProof.Rows
/-! == and != of instances with the text's own __eq__ -/
section
variable {M : Model} {prog : Program} {w : World} {A : Around} {E : Value → Shared → Prop} {s : Shared} {K : PySem.W.Frag} {x C f : Addr} {ox : Obj} {od : Option Obj}
theorem ifBound_objNe {args : List Value} {Q : Option Value → Shared → Prop} (X : K.In s.heap) (I : PySem.W.InstAt s.heap x ox C od) (hs : PySem.W.findIn K (.ref C) "__ne__" = some (some (.builtin "object.__ne__")))
    (h : wpAny M A (call (.builtin "object.__ne__") (.ref x :: args)) (fun v => Q (some v)) E s) : wpAny M A (callSpecialIfBound? (.ref x) "__ne__" args) Q E s := by
  simp only [callSpecialIfBound?, bindSpecialIfBound?]
  refine wpAny_holding (wpAny_bind (wpAny_bind (wpAny_bind (I.type.here ((PySem.W.looks_findIn X hs).here ?_)))))
  refine wpAny_bind (wpAny_askSetting (wpAny_ite ?_))
  have fin : wpAny M A (call (.builtin "object.__ne__") ([.ref x] ++ args) >>= fun v => pure (some v)) Q E s := wpAny_bind (wpAny_mono h (fun v s' h' => wpAny_pure h') fun _ _ h' => h')
  split
  · exact wpAny_bind (wpAny_of_eq (PySem.F.cmp_object.ne.bind _) (wpAny_pure (by exact fin)))
  · exact wpAny_tryCatch (wpAny_bind (wpAny_of_eq (PySem.F.cmp_object.ne.bind _) (wpAny_pure (by exact fin))))
/-- how a call ends that hands back a bool -/
def BoolOut (Q : Bool → Shared → Prop) (E : Value → Shared → Prop) : Result → Shared → Prop := fun r s' => match r with
  | .ok (.ret v) => ∃ z : Bool, v = .bool z ∧ Q z s'
  | .ok _ => False
  | .error e => E e s'
theorem entry_ne {b : Value} {Q : Fin → Shared → Prop} (hu : A.units < cLine) (X : K.In s.heap) (I : PySem.W.InstAt s.heap x ox C od) (hs : PySem.W.findIn K (.ref C) "__eq__" = some (some (.ref f))) (hf : PySem.W.isFn K (.ref f) = true)
    (h : codeAny M A (.call (.ref f) ⟨[.ref x, b], []⟩) (BoolOut (fun r s' => Q (.done (.ret (.bool (!r)))) s') E) s) : wpAny M A (Builtin.«object.__ne__» ⟨[.ref x, b], []⟩) Q E s := by
  unfold Builtin.«object.__ne__»
  repeat (first | with_reducible refine wpAny_cRoomFor hu ?_ | with_reducible refine PySem.W.ifBound_K X I hs hf ?_ | wp_step)
  refine codeAny_mono h fun r s' hr => ?_
  cases r with
  | error e => exact hr
  | ok fl =>
    cases fl with
    | ret v =>
      obtain ⟨z, rfl, q⟩ := hr
      show wpAny M A (do let r ← truthy (.bool z); ret (.bool (!r))) Q E s'
      repeat (first | with_reducible refine wpAny_truthy_bool ?_ | wp_step)
      exact q
    | next => exact hr.elim
    | brk => exact hr.elim
    | cont => exact hr.elim
theorem call_ne {b : Value} {Q : Value → Shared → Prop} (hu : A.in1.units < cLine) (X : K.In s.heap) (I : PySem.W.InstAt s.heap x ox C od) (hm : PySem.W.mroIn K C (.type "object") = some true) (hs : PySem.W.findIn K (.ref C) "__eq__" = some (some (.ref f))) (hf : PySem.W.isFn K (.ref f) = true)
    (h : codeAny (model prog w) A.in1 (.call (.ref f) ⟨[.ref x, b], []⟩) (BoolOut (fun r s' => Q (.bool (!r)) s') E) s) : wpAny (model prog w) A (call (.builtin "object.__ne__") [.ref x, b]) Q E s :=
  wpAny_call (codeAny_call_builtin PySem.F.cmp_object.ne.plain PySem.F.cmpEntry_ne (PySem.W.check_slot PySem.F.cmpKind_ne PySem.F.cmpSplit_ne (I.type.andThen (PySem.W.looks_mroIn X hm)) (PySem.F.cmpArgs_ne _ _) (entry_ne hu X I hs hf h)))
theorem ne_K {b tb : Value} {Q : Value → Shared → Prop} (hu : A.units + 1 < cLine) (X : K.In s.heap) (I : PySem.W.InstAt s.heap x ox C od) (hb : PySem.W.Looks (model prog w) s.heap (typeOf b) tb) (hn : PySem.W.notFirst K C tb = true)
    (hm : PySem.W.mroIn K C (.type "object") = some true) (hne : PySem.W.findIn K (.ref C) "__ne__" = some (some (.builtin "object.__ne__"))) (hs : PySem.W.findIn K (.ref C) "__eq__" = some (some (.ref f))) (hf : PySem.W.isFn K (.ref f) = true)
    (h : codeAny (model prog w) A.in1 (.call (.ref f) ⟨[.ref x, b], []⟩) (BoolOut (fun r s' => Q (.bool (!r)) s') E) s) : wpAny (model prog w) A (richCompare .NotEq (.ref x) b) Q E s := by
  have one : wpAny (model prog w) A (tryCompare (.ref x) (cmpInfo .NotEq).2.1 b) (fun r s' => ∃ v : Bool, r = some (.bool v) ∧ Q (.bool v) s') E s := by
    unfold tryCompare
    refine wpAny_bind (ifBound_objNe X I hne (call_ne (by show A.units + 1 < cLine; exact hu) X I hm hs hf (codeAny_mono h fun r s' hr => ?_)))
    cases r with
    | error e => exact hr
    | ok fl =>
      cases fl with
      | ret v =>
        obtain ⟨z, rfl, q⟩ := hr
        exact ⟨z, rfl, wpAny_pure ⟨_, rfl, q⟩⟩
      | next => exact hr.elim
      | brk => exact hr.elim
      | cont => exact hr.elim
  unfold richCompare
  simp only [oneThing_ref]
  refine wpAny_holding (wpAny_bind (wpAny_cRoomFor (Nat.lt_of_succ_lt hu) ?_))
  refine wpAny_bind (I.type.here (wpAny_bind (hb.here ?_)))
  split
  · rename_i q
    have e : PySem.W.subIn K tb (.ref C) = some false := by
      rcases Bool.or_eq_true_iff.mp hn with e | e
      · rw [beq_iff_eq.mp e] at q; simp at q
      · exact beq_iff_eq.mp e
    refine wpAny_bind ((PySem.W.looks_subIn X e).here ?_)
    simp only [Bool.false_eq_true, if_false]
    refine wpAny_bind (wpAny_mono one (fun r s' z => ?_) fun _ _ e => e)
    obtain ⟨v, rfl, hq⟩ := z
    exact wpAny_pure hq
  · refine wpAny_bind (wpAny_pure ?_)
    simp only [Bool.false_eq_true, if_false]
    refine wpAny_bind (wpAny_mono one (fun r s' z => ?_) fun _ _ e => e)
    obtain ⟨v, rfl, hq⟩ := z
    exact wpAny_pure hq
end
/-- the class has its own == and object's != -/
structure OwnCmp (K : PySem.W.Frag) (C f : Addr) : Prop where
  eq : PySem.W.findIn K (.ref C) "__eq__" = some (some (.ref f))
  fn : PySem.W.isFn K (.ref f) = true
  ne : PySem.W.findIn K (.ref C) "__ne__" = some (some (.builtin "object.__ne__"))
  ob : PySem.W.mroIn K C (.type "object") = some true
/-- what the second thing may be: an instance of C, a tuple -/
inductive Snd (C : Addr) (H : Hp) : V → Prop where
  | ins {b dx : Addr} {fs : List (Str × V)} (h : H b = some (.ins C dx fs)) : Snd C H (.ref b)
  | tup {b : Addr} {xs : List V} (h : H b = some (.tup xs)) : Snd C H (.ref b)
def rOwn (C : Addr) (sp : Sp) (E : XK) (neg : Bool) : R2 := fun x y H Q => ∃ (a dx : Addr) (fs : List (Str × V)), x = .ref a ∧ H a = some (.ins C dx fs) ∧ Snd C H y ∧ sp [x, y] H (fun v H' => ∃ b : Bool, v = .bl b ∧ Q (.bl (if neg then !b else b)) H') E
section
variable {X : Cx} {CX : CXT} {n : Nat} {C f : Addr} {fd : FuncData} {ps : List Str} {sp : Sp} {E : XK}
theorem snd_looks {pins : List (Addr × Obj)} {σ : St} {H : Hp} {s : Shared} {y : V} {u : Value} (I : Inv X pins σ H s) (r : RelV y u) (h : Snd C H y) : ∃ t, (∀ M : Model, PySem.W.Looks M s.heap (typeOf u) t) ∧ PySem.W.notFirst X.K C t = true := by
  cases h with
  | ins h =>
    cases r
    obtain ⟨mA, J, _⟩ := ins_get I.hok h
    obtain ⟨od, J, _⟩ := J.look
    exact ⟨_, fun M => J.type, by simp [PySem.W.notFirst]⟩
  | @tup b xs h =>
    cases r
    obtain ⟨its, rr, e, z⟩ := I.tuple (SqT.of h)
    obtain ⟨o, e2, ec, _⟩ := e
    refine ⟨.type "tuple", fun M => by rw [← ec]; exact (PySem.W.Looks.ld e2).andThen .now, ?_⟩
    have q : fastBuiltinMro "tuple" = some [.type "tuple", .type "object"] := by decide +kernel
    have q2 : PySem.W.subIn X.K (.type "tuple") (.ref C) = some false := by
      show (fastBuiltinMro "tuple").map (·.contains (.ref C)) = some false
      rw [q]
      first | rfl | simp
    unfold PySem.W.notFirst
    rw [q2]
    simp
theorem own_code {A : Around} {pins : List (Addr × Obj)} {σ : St} {H : Hp} {s : Shared} {a : Addr} {y : V} {u : Value} {Q : VK} (F : FnOk X.prog X.w X.K X.mg X.base CX n f fd ps sp) (hb : Binds X.K fd ps []) (hr : Room n A) (fr : A.frames = X.A.frames) (hx : Passes CX X E) (I : Inv X pins σ H s) (r : RelV y u)
    (h : sp [.ref a, y] H Q E) : codeAny (model X.prog X.w) A (.call (.ref f) ⟨[.ref a, u], []⟩) (fun r s' => match r with
      | .ok (.ret v) => EP X pins σ Q v s'
      | .ok _ => False
      | .error e => X.xe e s') s := by
  have e0 : Env0 X.prog X.w X.K X.mg X.base A X.stack s H := by
    have e := I.env0
    exact ⟨by rw [fr]; exact e.frames, e.mod, e.bs, e.bsz, e.funs, e.frf, e.hok, e.bare⟩
  have hl := F.len _ _ _ _ h
  have r2 : Vals [V.ref a, y] [Value.ref a, u] := .cons rfl (.cons r .nil)
  refine codeAny_mono (F.run A X.stack s H ⟨[.ref a, u], []⟩ [.ref a, u] [.ref a, y] _ E hr e0 (by
    have := hb s [.ref a, u] I.kIn (by simpa using hl)
    simpa using this) r2 h) fun r s' hq => ?_
  cases r with
  | error e => exact hx pins σ H s e s' I hq
  | ok fl =>
    cases fl with
    | ret w => exact I.after hq
    | next => exact False.elim hq
    | brk => exact False.elim hq
    | cont => exact False.elim hq
theorem op_eqOwn (F : FnOk X.prog X.w X.K X.mg X.base CX n f fd ps sp) (k : OwnCmp X.K C f) (hb : Binds X.K fd ps []) (hr : Room n X.A) (hx : Passes CX X E) : OpR X (compareOp .Eq) (rOwn C sp E false) := by
  intro pins s σ H x y v u Q I rx ry hq
  obtain ⟨a, dx, fs, rfl, ha, hy, hsp⟩ := hq
  cases rx
  obtain ⟨mA, J, _⟩ := ins_get I.hok ha
  obtain ⟨od, J, _⟩ := J.look
  obtain ⟨t, ht, hn⟩ := snd_looks I ry hy
  obtain ⟨m, hF⟩ := I.fr
  show wpAny (model X.prog X.w) X.A (richCompare .Eq (.ref a) u) (EP X pins σ Q) X.xe s
  refine PySem.W.cmp_K (op := .Eq) (tb := t) hr.units0 hF I.ok.mod.kin J (ht _) hn k.eq k.fn ?_
  refine wpAny_call (codeAny_mono (own_code F hb hr rfl hx I ry hsp) fun r s' z => ?_)
  cases r with
  | error e => exact z
  | ok fl =>
    cases fl with
    | ret w =>
      obtain ⟨v, H', I', rz, b, rfl, q⟩ := z
      obtain rfl : w = Value.bool b := rz
      exact ⟨.bl b, H', I', rfl, q⟩
    | next => exact z.elim
    | brk => exact z.elim
    | cont => exact z.elim
theorem op_neOwn (F : FnOk X.prog X.w X.K X.mg X.base CX n f fd ps sp) (k : OwnCmp X.K C f) (hb : Binds X.K fd ps []) (hr : Room (n + 1) X.A) (hx : Passes CX X E) : OpR X (compareOp .NotEq) (rOwn C sp E true) := by
  intro pins s σ H x y v u Q I rx ry hq
  obtain ⟨a, dx, fs, rfl, ha, hy, hsp⟩ := hq
  cases rx
  obtain ⟨mA, J, _⟩ := ins_get I.hok ha
  obtain ⟨od, J, _⟩ := J.look
  obtain ⟨t, ht, hn⟩ := snd_looks I ry hy
  show wpAny (model X.prog X.w) X.A (richCompare .NotEq (.ref a) u) (EP X pins σ Q) X.xe s
  have hu := hr.units
  refine ne_K (tb := t) (by omega) I.kIn J (ht _) hn k.ob k.ne k.eq k.fn ?_
  refine codeAny_mono (own_code F hb hr.in1 rfl hx I ry hsp) fun r s' z => ?_
  cases r with
  | error e => exact z
  | ok fl =>
    cases fl with
    | ret w =>
      obtain ⟨v, H', I', rz, b, rfl, q⟩ := z
      obtain rfl : w = Value.bool b := rz
      exact ⟨b, rfl, .bl (!b), H', I', rfl, q⟩
    | next => exact z.elim
    | brk => exact z.elim
    | cont => exact z.elim
end
/-- .. as a Bool -/
def ownB (K : PySem.W.Frag) (C : Addr) : Bool := He.eqO (PySem.W.findIn K (.ref C) "__eq__") (some (some (.ref (He.ma K C "__eq__")))) && (PySem.W.isFn K (.ref (He.ma K C "__eq__")) && (He.eqO (PySem.W.findIn K (.ref C) "__ne__") (some (some (.builtin "object.__ne__"))) && decide (PySem.W.mroIn K C (.type "object") = some true)))
theorem own_of {K : PySem.W.Frag} {C : Addr} (h : ownB K C = true) : OwnCmp K C (He.ma K C "__eq__") := by
  obtain ⟨h1, h⟩ := He.ba h
  obtain ⟨h2, h⟩ := He.ba h
  obtain ⟨h3, h4⟩ := He.ba h
  exact ⟨He.eqO_ok h1, h2, He.eqO_ok h3, of_decide_eq_true h4⟩
end L2
set_option maxRecDepth 100000
set_option maxHeartbeats 1000000
/-! list(zip(a, b)): zip's next while its pair is held, the list's loop. -/
namespace Lz
open PySem
section
variable {prog : Program} {w : World} {A : Around} {E : Value → Shared → Prop} {s : Shared} {z TI TO i1 i2 : Addr} {fp1 fp2 : List Addr} {n1 n2 i : Nat} {P1 P2 : Nat → Value → Prop} {St1 St2 : Nat → Heap → Prop} {a1 a2 : Value}

theorem held_item {T : Addr} {f : Bool} {oT : Obj} {Q : Value → Shared → Prop} (S : ZipSep2 z TI TO i1 i2 fp1 fp2) (D1 : Draws prog w A i1 fp1 n1 P1 St1) (D2 : Draws prog w A i2 fp2 n2 P2 St2)
    (hz : IsZipHeld s.heap z TI TO T f) (hT : s.heap.get? T = some oT) (hTI : IsTupOf2 s.heap TI (.ref i1) (.ref i2)) (st1 : St1 i s.heap) (st2 : St2 i s.heap) (hlt1 : i < n1) (hlt2 : i < n2)
    (hQ : ∀ x1 x2 h' tk, P1 i x1 → P2 i x2 → IsZipHeld h' z TI TO T true → St1 (i + 1) h' → St2 (i + 1) h' → IsTupOf2 h' s.heap.objs.size x1 x2 → h'.objs.size = s.heap.objs.size + 1 →
      (∀ c o, c ≠ z → c ≠ TO → c ≠ i1 → c ≠ i2 → s.heap.get? c = some o → h'.get? c = some o) → (∀ o, s.heap.get? TO = some o → h'.get? TO = some o) → Q (.ref s.heap.objs.size) { s with heap := h', toks := tk }) :
    wpAny (model prog w) A (Builtin.«zip.__next__» ⟨[.ref z], []⟩) (fun fin s' => ∃ v, fin = .done (.ret v) ∧ Q v s') E s := by
  obtain ⟨hp, g, d, tk0, os⟩ := s
  show wpAny _ _ (field (.ref z) 2 >>= _) _ _ _
  refine wpAny_bind (wpAny_field hz rfl (x := .bool false) rfl ?_)
  show wpAny _ _ (field (.ref z) 3 >>= _) _ _ _
  refine wpAny_bind (wpAny_field hz rfl (x := .ref TI) rfl ?_)
  refine wpAny_bind (wpAny_seqItems hTI rfl ?_)
  show wpAny _ _ (Builtin.SmallTypes.ownedTupleIsFree (.ref z) >>= _) _ _ _
  refine wpAny_bind (wpAny_tupleHeld_zip hz hT fun g0 hz0 hs0 => ?_)
  simp only [Bool.false_eq_true, if_false]
  replace hs0 : Heap.SameBut z hp g0 := hs0
  refine wpAny_bind ?_
  rw [← Array.forIn_toList]
  simp only [List.forIn_cons, List.forIn_nil]
  refine wpAny_bind (wpAny_bind (wpAny_holding ?_))
  show wpAny _ _ (Builtin.SmallTypes.nextOf (.ref i1) >>= _) _ _ ⟨g0, g, d, tk0, os⟩
  refine wpAny_bind (D1.item i _ _ _ hlt1 (D1.over st1 hs0 S.zf1) fun x1 p1 tk1 hx1 sn1 hp1 => wpAny_pure ?_)
  replace hp1 : Heap.SameBut i1 g0 p1 := hp1
  refine wpAny_pure ?_
  refine wpAny_bind (wpAny_bind (wpAny_holding ?_))
  show wpAny _ _ (Builtin.SmallTypes.nextOf (.ref i2) >>= _) _ _ ⟨p1, g, d, tk1, os⟩
  refine wpAny_bind (D2.item i _ _ _ hlt2 (D2.over (D2.over st2 hs0 S.zf2) hp1 S.sep1_2) fun x2 p2 tk2 hx2 sn2 hp2 => wpAny_pure ?_)
  replace hp2 : Heap.SameBut i2 p1 p2 := hp2
  refine wpAny_pure (wpAny_pure ?_)
  show wpAny _ _ (newTuple [x1, x2] >>= _) _ _ ⟨p2, g, d, tk2, os⟩
  refine wpAny_bind (wpAny_newTuple ?_)
  have hsz : p2.objs.size = hp.objs.size := by rw [hp2.1, hp1.1, hs0.1]
  have hz2 : IsZipHeld p2 z TI TO T true := hp2.extBut _ _ S.zi2 (hp1.extBut _ _ S.zi1 hz0)
  have hk : ∀ c o, c ≠ z → c ≠ i1 → c ≠ i2 → hp.get? c = some o → p2.get? c = some o := fun c o c1 c2 c3 e => hp2.extBut _ _ c3 (hp1.extBut _ _ c2 (hs0.extBut _ _ c1 e))
  refine wpAny_pure ⟨_, rfl, ?_⟩
  show Q (.ref p2.objs.size) ⟨p2.push { cls := .type "tuple", data := .seq #[x1, x2] }, g, d, tk2, os⟩
  have hT' : IsTupOf2 (p2.push { cls := .type "tuple", data := .seq #[x1, x2] }) p2.objs.size x1 x2 := Heap.get?_push_size _ rfl
  have hz4 : (p2.push { cls := .type "tuple", data := .seq #[x1, x2] }).objs.size = p2.objs.size + 1 := Heap.size_push ..
  have up : ∀ c o, p2.get? c = some o → (p2.push { cls := .type "tuple", data := .seq #[x1, x2] }).get? c = some o := fun c o e => Heap.get?_push_of_some _ e
  generalize p2.push { cls := .type "tuple", data := .seq #[x1, x2] } = q2 at hT' hz4 up ⊢
  rw [hsz] at hT' hz4 ⊢
  exact hQ x1 x2 q2 tk2 hx1 hx2 (up _ _ hz2) (D1.frame _ _ _ (D1.over sn1 hp2 S.sep2_1) fun b _ o e => up b o e) (D2.frame _ _ _ sn2 fun b _ o e => up b o e) hT' hz4
    (fun c o c1 _ c3 c4 e => up c o (hk c o c1 c3 c4 e)) fun o e => up _ o (hk _ o S.TOz S.Ti1 S.Ti2 e)

theorem held_end {T : Addr} {f : Bool} {oT : Obj} {Q : Fin → Shared → Prop} (S : ZipSep2 z TI TO i1 i2 fp1 fp2) (D1 : Draws prog w A i1 fp1 n1 P1 St1) (D2 : Draws prog w A i2 fp2 n2 P2 St2)
    (hz : IsZipHeld s.heap z TI TO T f) (hT : s.heap.get? T = some oT) (hTI : IsTupOf2 s.heap TI (.ref i1) (.ref i2)) (st1 : St1 i s.heap) (st2 : St2 i s.heap) (hle1 : i ≤ n1) (hle2 : i ≤ n2) (hend : i = n1 ∨ i = n2)
    (hE : ∀ h' tk e, (∀ c o, c ≠ z → c ≠ TO → c ≠ i1 → c ≠ i2 → s.heap.get? c = some o → h'.get? c = some o) → (∃ o, h'.get? e = some o ∧ o.cls = .type "StopIteration") → E (.ref e) { s with heap := h', toks := tk }) :
    wpAny (model prog w) A (Builtin.«zip.__next__» ⟨[.ref z], []⟩) Q E s := by
  obtain ⟨hp, g, d, tk0, os⟩ := s
  show wpAny _ _ (field (.ref z) 2 >>= _) _ _ _
  refine wpAny_bind (wpAny_field hz rfl (x := .bool false) rfl ?_)
  show wpAny _ _ (field (.ref z) 3 >>= _) _ _ _
  refine wpAny_bind (wpAny_field hz rfl (x := .ref TI) rfl ?_)
  refine wpAny_bind (wpAny_seqItems hTI rfl ?_)
  show wpAny _ _ (Builtin.SmallTypes.ownedTupleIsFree (.ref z) >>= _) _ _ _
  refine wpAny_bind (wpAny_tupleHeld_zip hz hT fun g0 hz0 hs0 => ?_)
  simp only [Bool.false_eq_true, if_false]
  replace hs0 : Heap.SameBut z hp g0 := hs0
  refine wpAny_bind ?_
  rw [← Array.forIn_toList]
  simp only [List.forIn_cons, List.forIn_nil]
  refine wpAny_bind (wpAny_bind (wpAny_holding ?_))
  show wpAny _ _ (Builtin.SmallTypes.nextOf (.ref i1) >>= _) _ _ ⟨g0, g, d, tk0, os⟩
  by_cases hlt1 : i < n1
  · refine wpAny_bind (D1.item i _ _ _ hlt1 (D1.over st1 hs0 S.zf1) fun x1 p1 tk1 hx1 sn1 hp1 => wpAny_pure ?_)
    replace hp1 : Heap.SameBut i1 g0 p1 := hp1
    have hi2 : i = n2 := by omega
    refine wpAny_pure ?_
    refine wpAny_bind (wpAny_bind (wpAny_holding ?_))
    show wpAny _ _ (Builtin.SmallTypes.nextOf (.ref i2) >>= _) _ _ ⟨p1, g, d, tk1, os⟩
    refine wpAny_bind (D2.done ⟨p1, g, d, tk1, os⟩ _ _ (by rw [← hi2]; exact (D2.over (D2.over st2 hs0 S.zf2) hp1 S.sep1_2)) fun q e hq he => ?_)
    replace hq : Heap.ExtBut i2 p1 q := hq
    exact hE q tk1 e (fun c o cz _ c1 c2 x => hq _ _ c2 (hp1.extBut _ _ c1 (hs0.extBut _ _ cz x))) he
  · have hi1 : i = n1 := by omega
    refine wpAny_bind (D1.done ⟨g0, g, d, tk0, os⟩ _ _ (by rw [← hi1]; exact (D1.over st1 hs0 S.zf1)) fun q e hq he => ?_)
    replace hq : Heap.ExtBut i1 g0 q := hq
    exact hE q tk0 e (fun c o cz _ c1 _ x => hq _ _ c1 (hs0.extBut _ _ cz x)) he

/-- a zip on its way, its pair out or not -/
def ZlSt (z TI TO i1 i2 S : Addr) (St1 St2 : Nat → Heap → Prop) (i : Nat) (h : Heap) : Prop :=
  IsTupOf2 h TI (.ref i1) (.ref i2) ∧ (∃ a1 a2, IsTupOf2 h TO a1 a2) ∧ St1 i h ∧ St2 i h ∧
    (IsZip h z TI TO .none ∨ ∃ T f oT, IsZipHeld h z TI TO T f ∧ h.get? T = some oT ∧ T ≠ z ∧ T ≠ TO ∧ T ≠ i1 ∧ T ≠ i2 ∧ T ≠ S)
theorem zl_item {LS : Addr} {Q : Option Value → Shared → Prop} (S : ZipSep2 z TI TO i1 i2 fp1 fp2) (D1 : Draws prog w A.in1 i1 fp1 n1 P1 St1) (D2 : Draws prog w A.in1 i2 fp2 n2 P2 St2)
    (st : ZlSt z TI TO i1 i2 LS St1 St2 i s.heap) (hLS : LS < s.heap.objs.size) (hlt1 : i < n1) (hlt2 : i < n2)
    (hQ : ∀ x1 x2 h' tk, P1 i x1 → P2 i x2 → ZlSt z TI TO i1 i2 LS St1 St2 (i + 1) h' → IsTupOf2 h' s.heap.objs.size x1 x2 → h'.objs.size = s.heap.objs.size + 1 →
      (∀ c o, c ≠ z → c ≠ TO → c ≠ i1 → c ≠ i2 → s.heap.get? c = some o → h'.get? c = some o) → Q (some (.ref s.heap.objs.size)) { s with heap := h', toks := tk }) :
    wpAny (model prog w) A (pyNext (.ref z)) Q E s := by
  obtain ⟨hTI, ⟨a1, a2, hTO⟩, st1, st2, hz⟩ := st
  have ne1 : ∃ o, s.heap.get? i1 = some o := D1.live _ _ st1
  have ne2 : ∃ o, s.heap.get? i2 = some o := D2.live _ _ st2
  have gt : ∀ {c : Addr} {o : Obj}, s.heap.get? c = some o → s.heap.objs.size ≠ c := fun e => Nat.ne_of_gt (Heap.lt_size e)
  rcases hz with hz | ⟨T, f, oT, hz, hT, t1, t2, t3, t4, t5⟩
  · refine wpAny_pyNext_zipD2_item S D1 D2 hz hTI hTO st1 st2 hlt1 hlt2 fun x1 x2 h' tk y1 y2 b1 b2 d1 d2 b5 b6 hk => ?_
    obtain ⟨o1, e1⟩ := ne1
    obtain ⟨o2, e2⟩ := ne2
    exact hQ x1 x2 h' tk y1 y2 ⟨hk _ _ S.TIz S.TITO S.TIi1 S.TIi2 hTI, ⟨_, _, b2⟩, d1, d2, .inr ⟨s.heap.objs.size, false, _, b1, b5, gt hz, gt hTO, gt e1, gt e2, Nat.ne_of_gt hLS⟩⟩ b5 b6 hk
  · have hTy : s.TypeIs (.ref z) "zip" := ⟨_, hz, rfl⟩
    unfold pyNext
    refine wpAny_bind (wpAny_attempt (wpAny_callSpecial?_slot (name := Str.ofString "__next__") hTy F.slot_zip_next
      (wpAny_call_entry F.slot_zip_next hTy F.entry_zip_next (held_item S D1 D2 hz hT hTI st1 st2 hlt1 hlt2 fun x1 x2 h' tk y1 y2 b1 d1 d2 b5 b6 hk hO => wpAny_pure ?_) (F.args_zip_next_1 _))))
    exact hQ x1 x2 h' tk y1 y2 ⟨hk _ _ S.TIz S.TITO S.TIi1 S.TIi2 hTI, ⟨_, _, hO _ hTO⟩, d1, d2, .inr ⟨T, true, oT, b1, hk T oT t1 t2 t3 t4 hT, t1, t2, t3, t4, t5⟩⟩ b5 b6 hk
theorem zl_done {LS : Addr} {Q : Option Value → Shared → Prop} (S : ZipSep2 z TI TO i1 i2 fp1 fp2) (D1 : Draws prog w A.in1 i1 fp1 n1 P1 St1) (D2 : Draws prog w A.in1 i2 fp2 n2 P2 St2)
    (st : ZlSt z TI TO i1 i2 LS St1 St2 i s.heap) (hle1 : i ≤ n1) (hle2 : i ≤ n2) (hend : i = n1 ∨ i = n2)
    (hQ : ∀ h' tk, (∀ c o, c ≠ z → c ≠ TO → c ≠ i1 → c ≠ i2 → s.heap.get? c = some o → h'.get? c = some o) → Q none { s with heap := h', toks := tk }) : wpAny (model prog w) A (pyNext (.ref z)) Q E s := by
  obtain ⟨hTI, ⟨a1, a2, hTO⟩, st1, st2, hz⟩ := st
  rcases hz with hz | ⟨T, f, oT, hz, hT, t1, t2, t3, t4, t5⟩
  · exact wpAny_pyNext_zipD2_end S D1 D2 hz hTI hTO st1 st2 hle1 hle2 hend hQ
  · have hTy : s.TypeIs (.ref z) "zip" := ⟨_, hz, rfl⟩
    unfold pyNext
    refine wpAny_bind (wpAny_attempt (wpAny_callSpecial?_slot (name := Str.ofString "__next__") hTy F.slot_zip_next
      (wpAny_call_entry F.slot_zip_next hTy F.entry_zip_next (held_end S D1 D2 hz hT hTI st1 st2 hle1 hle2 hend fun h' tk e hk he => ?_) (F.args_zip_next_1 _))))
    obtain ⟨o, ho, hc⟩ := he
    refine wpAny_bind (wpAny_isInstance (T := "StopIteration") (b := true) ⟨o, ho, hc⟩ isSubtype_stop ?_)
    exact wpAny_pure (hQ _ _ hk)

/-- the pairs made so far, at rising addresses -/
structure ZlG (P1 P2 : Nat → Value → Prop) (lo : Addr) (h : Heap) (as : List Addr) : Prop where
  rise : as.Pairwise (· < ·)
  above : ∀ a ∈ as, lo < a
  pairs : ∀ (j : Nat) (a : Addr), as[j]? = some a → ∃ x1 x2, P1 j x1 ∧ P2 j x2 ∧ IsTupOf2 h a x1 x2
theorem ZlG.there {lo : Addr} {h : Heap} {as : List Addr} (g : ZlG P1 P2 lo h as) {a : Addr} (ha : a ∈ as) : a < h.objs.size := by
  obtain ⟨j, hj⟩ := List.mem_iff_getElem?.mp ha
  obtain ⟨_, _, _, _, e⟩ := g.pairs j a hj
  exact Heap.lt_size e
end
section
variable {prog : Program} {w : World} {A : Around} {s : Shared} {R : Result → Shared → Prop} {z TI TO i1 i2 : Addr} {fp1 fp2 : List Addr} {n1 n2 : Nat} {P1 P2 : Nat → Value → Prop} {St1 St2 : Nat → Heap → Prop}
theorem ZlSt.keep {h h' : Heap} {LS : Addr} {i : Nat} (D1 : Draws prog w A i1 fp1 n1 P1 St1) (D2 : Draws prog w A i2 fp2 n2 P2 St2) (st : ZlSt z TI TO i1 i2 LS St1 St2 i h) (k : ∀ b o, b ≠ LS → h.get? b = some o → h'.get? b = some o)
    (e1 : z ≠ LS) (e2 : TI ≠ LS) (e3 : TO ≠ LS) (f1 : LS ∉ fp1) (f2 : LS ∉ fp2) : ZlSt z TI TO i1 i2 LS St1 St2 i h' := by
  obtain ⟨hTI, ⟨a1, a2, hTO⟩, st1, st2, hz⟩ := st
  refine ⟨k _ _ e2 hTI, ⟨a1, a2, k _ _ e3 hTO⟩, D1.frame _ _ _ st1 fun b hb o e => k b o (fun q => f1 (q ▸ hb)) e, D2.frame _ _ _ st2 fun b hb o e => k b o (fun q => f2 (q ▸ hb)) e, ?_⟩
  rcases hz with hz | ⟨T, f, oT, hz, hT, t1, t2, t3, t4, t5⟩
  · exact .inl (k _ _ e1 hz)
  · exact .inr ⟨T, f, oT, k _ _ e1 hz, k _ _ t5 hT, t1, t2, t3, t4, t5⟩
theorem zl_loop {LS : Addr} (S : ZipSep2 z TI TO i1 i2 fp1 fp2) (D1 : Draws prog w A.in1.in1 i1 fp1 n1 P1 St1) (D2 : Draws prog w A.in1.in1 i2 fp2 n2 P2 St2) (b1 : z < LS) (b2 : TI < LS) (b3 : TO < LS) (b4 : i1 < LS) (b5 : i2 < LS) (f1 : LS ∉ fp1) (f2 : LS ∉ fp2) (hn : min n1 n2 ≤ sizeLine) (res : Value) {h₁ : Heap}
    (hR : ∀ h' tk acc c as, (∀ b o, b ≠ LS → b ≠ z → b ≠ TO → b ≠ i1 → b ≠ i2 → h₁.get? b = some o → h'.get? b = some o) → h'.get? LS = some { cls := .type "list", dict := none, data := .seq acc c, slots := #[] } → as.length = min n1 n2 → ZlG P1 P2 LS h' as →
      acc.toList = as.map Value.ref → R (.ok (.ret res)) { s with heap := h', toks := tk }) :
    ∀ (k i : Nat) (h : Heap) (tk c : Nat) (acc : Array Value) (as : List Addr), min n1 n2 - i = k → i ≤ min n1 n2 → ZlSt z TI TO i1 i2 LS St1 St2 i h → (∀ b o, b ≠ LS → b ≠ z → b ≠ TO → b ≠ i1 → b ≠ i2 → h₁.get? b = some o → h.get? b = some o) →
      h.get? LS = some { cls := .type "list", dict := none, data := .seq acc c, slots := #[] } → acc.toList = as.map Value.ref → as.length = i → ZlG P1 P2 LS h as →
      codeAny (model prog w) A (.builtin "list.extend.loop" ⟨[.ref LS, .ref z, res], []⟩) R { s with heap := h, toks := tk } := by
  intro k
  induction k with
  | zero =>
    intro i h tk c acc as hk hi hst hkeep hS hacc hal hG
    have hin : i = min n1 n2 := by omega
    refine codeAny_builtin PySem.F.entry_extend_loop ?_
    rw [Around.under_plainId PySem.F.plain_extend_loop _]
    show wpAny _ A.in1 (pyNext (.ref z) >>= _) _ _ _
    refine wpAny_bind (zl_done (s := { s with heap := h, toks := tk }) (A := A.in1) S D1 D2 hst (by omega) (by omega) (by omega) fun h' tk' he => ?_)
    refine wpAny_pure (hR h' tk' acc c as (fun b o q1 q2 q3 q4 q5 e => he b o q2 q3 q4 q5 (hkeep b o q1 q2 q3 q4 q5 e)) (he LS _ (Nat.ne_of_gt b1) (Nat.ne_of_gt b3) (Nat.ne_of_gt b4) (Nat.ne_of_gt b5) hS) (by omega) ⟨hG.rise, hG.above, fun j a hj => ?_⟩ hacc)
    obtain ⟨x1, x2, e1, e2, e3⟩ := hG.pairs j a hj
    have hb := hG.above a (List.mem_of_getElem? hj)
    exact ⟨x1, x2, e1, e2, he a _ (Nat.ne_of_gt (Nat.lt_trans b1 hb)) (Nat.ne_of_gt (Nat.lt_trans b3 hb)) (Nat.ne_of_gt (Nat.lt_trans b4 hb)) (Nat.ne_of_gt (Nat.lt_trans b5 hb)) e3⟩
  | succ k ih =>
    intro i h tk c acc as hk hi hst hkeep hS hacc hal hG
    have hsz : acc.size = i := by rw [← Array.length_toList, hacc, List.length_map, hal]
    have hSl : LS < h.objs.size := Heap.lt_size hS
    refine codeAny_builtin PySem.F.entry_extend_loop ?_
    rw [Around.under_plainId PySem.F.plain_extend_loop _]
    show wpAny _ A.in1 (pyNext (.ref z) >>= _) _ _ _
    refine wpAny_bind (zl_item (s := { s with heap := h, toks := tk }) (A := A.in1) S D1 D2 hst hSl (by omega) (by omega) fun x1 x2 h' tk' y1 y2 hst' ht hz hkp => ?_)
    dsimp only at ht hz hkp ⊢
    have hS' := hkp LS _ (Nat.ne_of_gt b1) (Nat.ne_of_gt b3) (Nat.ne_of_gt b4) (Nat.ne_of_gt b5) hS
    have up : ∀ b o, b ≠ LS → h'.get? b = some o → (h'.update LS (Obj.mapSeq (·.push (Value.ref h.objs.size)))).get? b = some o := fun b o hb e => (Heap.get?_update_other _ _ (Ne.symm hb)).trans e
    show wpAny _ A.in1 (updateSeq LS (·.push (Value.ref h.objs.size)) >>= _) _ _ _
    refine wpAny_bind ?_
    refine wpAny_updateSeq hS' rfl (wpAny_pure ⟨plainId_quiet PySem.F.plain_extend_loop _, ih (i + 1) _ tk' _ (acc.push (Value.ref h.objs.size)) (as ++ [h.objs.size]) (by omega) (by omega)
      (hst'.keep D1 D2 up (Nat.ne_of_lt b1) (Nat.ne_of_lt b2) (Nat.ne_of_lt b3) f1 f2)
      (fun b o q1 q2 q3 q4 q5 e => up b o q1 (hkp b o q2 q3 q4 q5 (hkeep b o q1 q2 q3 q4 q5 e))) (Heap.get?_update_self _ hS' rfl) (by rw [Array.toList_push, hacc, List.map_append]; rfl) (by rw [List.length_append, hal]; rfl) ⟨?_, ?_, ?_⟩⟩) (by rw [hsz]; omega) (by show (acc.push (Value.ref h.objs.size)).size ≤ sizeLine + 1; rw [Array.size_push, hsz]; omega)
    · refine List.pairwise_append.mpr ⟨hG.rise, List.pairwise_singleton _ _, fun a ha b hb => ?_⟩
      rw [List.mem_singleton.mp hb]
      exact hG.there ha
    · intro a ha
      rcases List.mem_append.mp ha with ha | ha
      · exact hG.above a ha
      · rw [List.mem_singleton.mp ha]; exact hSl
    · intro j b hj
      rcases Nat.lt_trichotomy j as.length with q1 | q1 | q1
      · rw [List.getElem?_append_left q1] at hj
        obtain ⟨x1', x2', e1, e2, e3⟩ := hG.pairs j b hj
        have hb := hG.above b (List.mem_of_getElem? hj)
        exact ⟨x1', x2', e1, e2, up b _ (Nat.ne_of_gt hb) (hkp b _ (Nat.ne_of_gt (Nat.lt_trans b1 hb)) (Nat.ne_of_gt (Nat.lt_trans b3 hb)) (Nat.ne_of_gt (Nat.lt_trans b4 hb)) (Nat.ne_of_gt (Nat.lt_trans b5 hb)) e3)⟩
      · subst q1
        have hb : h.objs.size = b := by simpa using hj
        subst hb
        exact ⟨x1, x2, by rw [hal]; exact y1, by rw [hal]; exact y2, up _ _ (Nat.ne_of_gt hSl) ht⟩
      · have hnone : (as ++ [h.objs.size])[j]? = none := List.getElem?_eq_none (by rw [List.length_append, List.length_singleton]; omega)
        rw [hnone] at hj; cases hj
end
theorem zl_no_len : typeLookup (.type "zip") "__len__" = pure none := am_miss_of_fast (by decide +kernel)
theorem zl_no_hint : typeLookup (.type "zip") "__length_hint__" = pure none := am_miss_of_fast (by decide +kernel)
section
variable {prog : Program} {w : World} {A : Around} {E : Value → Shared → Prop} {s : Shared} {z TI TO i1 i2 : Addr} {fp1 fp2 : List Addr} {n1 n2 : Nat} {P1 P2 : Nat → Value → Prop} {St1 St2 : Nat → Heap → Prop}
theorem zl_hint {r : Addr} (hT : s.TypeIs (.ref r) "zip") {Q : Bool → Shared → Prop} (h : Q true s) : wpAny (model prog w) A (Builtin.List.listLengthHint (.ref r)) Q E s := by
  unfold Builtin.List.listLengthHint
  show wpAny _ A (specialOf (Value.ref r) (Str.ofString "__len__") >>= _) _ _ _
  refine wpAny_bind (wpAny_specialOf hT zl_no_len ?_)
  show wpAny _ A (specialOf (Value.ref r) (Str.ofString "__length_hint__") >>= _) _ _ _
  refine wpAny_bind (wpAny_specialOf hT zl_no_hint ?_)
  exact wpAny_pure h
theorem zl_extend {R : Result → Shared → Prop} {LS : Addr} (S : ZipSep2 z TI TO i1 i2 fp1 fp2) (D1 : Draws prog w A.in1.in1 i1 fp1 n1 P1 St1) (D2 : Draws prog w A.in1.in1 i2 fp2 n2 P2 St2) (b1 : z < LS) (b2 : TI < LS) (b3 : TO < LS) (b4 : i1 < LS) (b5 : i2 < LS) (f1 : LS ∉ fp1) (f2 : LS ∉ fp2) (hn : min n1 n2 ≤ sizeLine)
    (hz : IsZip s.heap z TI TO .none) (hst : ZlSt z TI TO i1 i2 LS St1 St2 0 s.heap) (res : Value) (c₀ : Nat) (hS : s.heap.get? LS = some { cls := .type "list", data := .seq #[] c₀ })
    (hR : ∀ h' tk acc c as, (∀ b o, b ≠ LS → b ≠ z → b ≠ TO → b ≠ i1 → b ≠ i2 → s.heap.get? b = some o → h'.get? b = some o) → h'.get? LS = some { cls := .type "list", dict := none, data := .seq acc c, slots := #[] } → as.length = min n1 n2 → ZlG P1 P2 LS h' as →
      acc.toList = as.map Value.ref → R (.ok (.ret res)) { s with heap := h', toks := tk }) :
    wpAny (model prog w) A.in1 (Builtin.List.listExtendWith (.ref LS) (.ref z) res)
      (fun fin s' => match fin with | .done f => R (.ok f) s' | .again c' => c'.quiet = true ∧ codeAny (model prog w) A c' R s') (fun e s' => R (.error e) s') s := by
  have hTy : s.TypeIs (.ref z) "zip" := ⟨_, hz, rfl⟩
  unfold Builtin.List.listExtendWith
  refine wpAny_bind (wpAny_typeOf (T := "zip") hTy ?_)
  have h1 : Builtin.List.listSameRef (.ref LS) (.ref z) = false := by simp [Builtin.List.listSameRef, Nat.ne_of_gt b1]
  have h2 : (Value.type "zip" == Value.type "list") = false := by decide
  have h3 : (Value.type "zip" == Value.type "tuple") = false := by decide
  simp only [h1, h2, h3, Bool.or_false, Bool.false_eq_true, if_false]
  refine wpAny_bind (wpAny_pyIter_zip hz ?_)
  refine wpAny_bind (wpAny_holding (zl_hint hTy ?_))
  refine wpAny_ite_split (fun _ => ?_) (fun hab => absurd rfl hab)
  refine wpAny_bind (wpAny_rule ?_)
  refine wpAny_bind ?_
  show wpAny _ _ (updateSeq LS (·.push .none) >>= fun _ => updateSeq LS (·.pop)) _ _ _
  refine wpAny_bind (wpAny_updateSeq hS rfl ?_)
  have hS₂ := Heap.get?_update_self (Obj.mapSeq (·.push Value.none)) hS rfl
  refine wpAny_updateSeq (hz := by seq_fits) hS₂ rfl ?_
  have hS₃ := Heap.get?_update_self (Obj.mapSeq (·.pop)) hS₂ rfl
  have oth : ∀ b o, b ≠ LS → s.heap.get? b = some o → ((s.heap.update LS (Obj.mapSeq (·.push Value.none))).update LS (Obj.mapSeq (·.pop))).get? b = some o := fun b o hb e => (Heap.get?_update_other _ _ (Ne.symm hb)).trans ((Heap.get?_update_other _ _ (Ne.symm hb)).trans e)
  refine wpAny_pure ⟨plainId_quiet PySem.F.plain_extend_loop _, ?_⟩
  exact zl_loop (s := s) (h₁ := s.heap) S D1 D2 b1 b2 b3 b4 b5 f1 f2 hn res hR (min n1 n2) 0 _ s.toks _ #[] [] (Nat.sub_zero _) (Nat.zero_le _)
    (hst.keep D1 D2 oth (Nat.ne_of_lt b1) (Nat.ne_of_lt b2) (Nat.ne_of_lt b3) f1 f2) (fun b o q1 _ _ _ _ e => oth b o q1 e) hS₃ rfl rfl ⟨List.Pairwise.nil, (fun _ ha => nomatch ha), (fun j a hj => by simp at hj)⟩
theorem zl_call {Q : Value → Shared → Prop} (S : ZipSep2 z TI TO i1 i2 fp1 fp2) (D1 : ∀ A' : Around, A'.handled = none → Draws prog w A' i1 fp1 n1 P1 St1) (D2 : ∀ A' : Around, A'.handled = none → Draws prog w A' i2 fp2 n2 P2 St2) (hh : A.handled = none) (hn : min n1 n2 ≤ sizeLine)
    (g1 : ∀ b ∈ fp1, b < s.heap.objs.size) (g2 : ∀ b ∈ fp2, b < s.heap.objs.size) (hz : IsZip s.heap z TI TO .none) (hTI : IsTupOf2 s.heap TI (.ref i1) (.ref i2)) (hTO : ∃ a1 a2, IsTupOf2 s.heap TO a1 a2) (st1 : St1 0 s.heap) (st2 : St2 0 s.heap)
    (hQ : ∀ h' tk acc c as, (∀ b o, b ≠ z → b ≠ TO → b ≠ i1 → b ≠ i2 → s.heap.get? b = some o → h'.get? b = some o) → h'.get? s.heap.objs.size = some { cls := .type "list", dict := none, data := .seq acc c, slots := #[] } → as.length = min n1 n2 → ZlG P1 P2 s.heap.objs.size h' as →
      acc.toList = as.map Value.ref → Q (.ref s.heap.objs.size) { s with heap := h', toks := tk }) :
    wpAny (model prog w) A (call (.type "list") [.ref z]) Q E s := by
  refine callType_codes (Q₁ := fun obj s₁ => obj = .ref s.heap.objs.size ∧ s₁ = { s with heap := s.heap.push { cls := .type "list", data := .seq #[] } }) PySem.F.called_list (PySem.F.typeCall_list_1 _) PySem.F.entry_list_init
    (code_list_new _ ⟨rfl, rfl⟩) fun obj s₁ h₁ => ?_
  obtain ⟨rfl, rfl⟩ := h₁
  obtain ⟨a1, a2, hTO⟩ := hTO
  have hS : (s.heap.push { cls := .type "list", data := .seq #[] }).get? s.heap.objs.size = some { cls := .type "list", data := .seq #[] } := Heap.get?_push_size _ rfl
  have lz : z < s.heap.objs.size := Heap.lt_size hz
  have lI : TI < s.heap.objs.size := Heap.lt_size hTI
  have lO : TO < s.heap.objs.size := Heap.lt_size hTO
  have l1 : i1 < s.heap.objs.size := g1 _ S.mem1
  have l2 : i2 < s.heap.objs.size := g2 _ S.mem2
  refine ⟨⟨_, hS, rfl⟩, PySem.F.args_list_init_2 _ _, ?_⟩
  have oth₁ : ∀ b o, s.heap.get? b = some o → (s.heap.push { cls := .type "list", data := .seq #[] }).get? b = some o := fun b o e => Heap.get?_push_of_some _ e
  show wpAny _ _ (do let old ← Builtin.List.listItems (.ref s.heap.objs.size); Builtin.List.listUpdate (.ref s.heap.objs.size) (fun _ => #[]); letGo old.toList.reverse; Builtin.List.listExtendWith (.ref s.heap.objs.size) (.ref z) .none) _ _ _
  refine wpAny_bind ?_
  unfold Builtin.List.listItems
  refine wpAny_bind (wpAny_seqItems hS rfl (wpAny_pure ?_))
  show wpAny _ _ (updateSeq s.heap.objs.size (fun _ => #[]) >>= fun _ => letGo (#[] : Array Value).toList.reverse >>= fun _ => Builtin.List.listExtendWith (.ref s.heap.objs.size) (.ref z) .none) _ _ _
  refine wpAny_bind (wpAny_updateSeq hS rfl ?_)
  have hS₂ := Heap.get?_update_self (Obj.mapSeq (fun _ => (#[] : Array Value))) hS rfl
  have oth : ∀ b o, b ≠ s.heap.objs.size → s.heap.get? b = some o → ((s.heap.push { cls := .type "list", data := .seq #[] }).update s.heap.objs.size (Obj.mapSeq (fun _ => (#[] : Array Value)))).get? b = some o :=
    fun b o hb e => (Heap.get?_update_other _ _ (Ne.symm hb)).trans (oth₁ b o e)
  refine wpAny_bind (wpAny_letGo ?_)
  have f1 : s.heap.objs.size ∉ fp1 := fun q => Nat.lt_irrefl _ (g1 _ q)
  have f2 : s.heap.objs.size ∉ fp2 := fun q => Nat.lt_irrefl _ (g2 _ q)
  have d1 := D1 A.in1.in1.in1 hh
  have d2 := D2 A.in1.in1.in1 hh
  have st : ZlSt z TI TO i1 i2 s.heap.objs.size St1 St2 0 s.heap := ⟨hTI, ⟨a1, a2, hTO⟩, st1, st2, .inl hz⟩
  refine zl_extend (A := A.in1) S d1 d2 lz lI lO l1 l2 f1 f2 hn (oth _ _ (Nat.ne_of_lt lz) hz) (st.keep d1 d2 oth (Nat.ne_of_lt lz) (Nat.ne_of_lt lI) (Nat.ne_of_lt lO) f1 f2) .none _ hS₂ fun h' tk acc c as hk hS' hl hG hacc => ?_
  exact ⟨rfl, hQ h' tk acc c as (fun b o q1 q2 q3 q4 e => hk b o (Nat.ne_of_lt (Heap.lt_size e)) q1 q2 q3 q4 (oth b o (Nat.ne_of_lt (Heap.lt_size e)) e)) hS' hl hG hacc⟩
end
end Lz
set_option maxRecDepth 100000
set_option maxHeartbeats 2000000
namespace L2
open PySem PySem.Spec PyProof.Rows
/-! lists and tuples alike: zip, enumerate of both, list(zip(..)) -/
/-- a tuple (true) or a list (false) -/
def SqB (K : PySem.W.Frag) (t : Bool) (H : Hp) (a : Addr) (xs : List V) : Prop := match t with | true => SqT K H a xs | false => SqL K H a xs
def seqAtB (t : Bool) (h : Heap) (a : Addr) (its : Array Value) : Prop := match t with | true => h.IsTuple a its | false => h.IsList a its
def itB (t : Bool) (h : Heap) (it a : Addr) (i : Nat) : Prop := match t with | true => h.IsTupleIter it a i | false => h.IsListIter it a i
def oB (t : Bool) (a : Addr) : Obj := match t with | true => { cls := .type "tuple_iterator", data := .fields #[.ref a, .int 0 0] } | false => { cls := .type "list_iterator", data := .fields #[.ref a, .int 0 0] }
theorem SqB.tup {K : PySem.W.Frag} {H : Hp} {a : Addr} {xs : List V} (h : H a = some (.tup xs)) : SqB K true H a xs := SqT.of h
theorem SqB.lst {K : PySem.W.Frag} {H : Hp} {a : Addr} {xs : List V} (h : H a = some (.lst xs)) : SqB K false H a xs := SqL.of h
theorem drawsB {prog : Program} {w : World} {A : Around} (t : Bool) (hh : A.handled = none) (it a : Addr) (hne : a ≠ it) (its : Array Value) :
    Draws prog w A it [it, a] its.size (fun i v => its[i]? = some v) (fun i h => itB t h it a i ∧ seqAtB t h a its) := by
  cases t
  · exact Draws.list hh it a hne its
  · exact Draws.tuple hh it a hne its
theorem beginsB (t : Bool) (a : Addr) (its : Array Value) : Begins (.ref a) (oB t a) (fun h => seqAtB t h a its) := by
  cases t
  · exact begins_list a its
  · exact begins_tuple a its
theorem itB_new {t : Bool} {h : Heap} {it a : Addr} (e : h.get? it = some (oB t a)) : itB t h it a 0 := by
  cases t
  · exact ⟨_, e, rfl, rfl⟩
  · exact ⟨_, e, rfl, rfl⟩
theorem itB.live {t : Bool} {h : Heap} {it a : Addr} {i : Nat} (x : itB t h it a i) : ∃ o, h.get? it = some o ∧ ∀ v, o.data ≠ .cell v := by
  cases t
  · obtain ⟨o, e, _, d⟩ := x
    exact ⟨o, e, fun v q => by rw [d] at q; cases q⟩
  · obtain ⟨o, e, _, d⟩ := x
    exact ⟨o, e, fun v q => by rw [d] at q; cases q⟩
theorem itB.at {t : Bool} {h h' : Heap} {it a : Addr} {i : Nat} (x : itB t h it a i) (k : ∀ o, h.get? it = some o → h'.get? it = some o) : itB t h' it a i := by
  cases t
  · exact Heap.IsListIter.at x k
  · exact Heap.IsTupleIter.at x k
section
variable {X : Cx} {pins : List (Addr × Obj)} {σ : St} {H : Hp} {s : Shared}
theorem Inv.sqB {t : Bool} {a : Addr} {xs : List V} (I : Inv X pins σ H s) (h : SqB X.K t H a xs) : ∃ its : List Value, Vals xs its ∧ seqAtB t s.heap a its.toArray ∧ xs.length ≤ sizeLine ∧ a < s.heap.objs.size := by
  cases t
  · obtain ⟨its, rv, p, z⟩ := I.list h
    exact ⟨its, rv, p.isList, z, p.lt⟩
  · obtain ⟨its, rv, p, z⟩ := I.tuple h
    exact ⟨its, rv, p, z, by obtain ⟨o, e, _⟩ := id p; exact Heap.lt_size e⟩
theorem Inv.sqB_inj {t : Bool} {a : Addr} {xs ys : List V} (I : Inv X pins σ H s) (h : SqB X.K t H a xs) (h' : SqB X.K t H a ys) : xs = ys := by
  cases t
  · exact I.list_inj h h'
  · exact I.tuple_inj h h'
end
/-- a and b as they stand at each turn, the items in new pairs -/
def ItzB (K : PySem.W.Frag) (t u : Bool) (a b : Addr) : It :=
  ⟨fun i H => ∃ (xs ys : List V) (x y : V), SqB K t H a xs ∧ SqB K u H b ys ∧ xs[i]? = some x ∧ ys[i]? = some y,
    fun i H v H' => ∃ T x y, v = .ref T ∧ H T = none ∧ H' = upd H T (.tup [x, y]) ∧ (∀ xs, SqB K t H a xs → xs[i]? = some x) ∧ ∀ ys, SqB K u H b ys → ys[i]? = some y,
    fun i H => ∃ xs ys : List V, SqB K t H a xs ∧ SqB K u H b ys ∧ (xs.length = i ∨ ys.length = i) ∧ i ≤ xs.length ∧ i ≤ ys.length⟩
theorem turn_zipB {P : Program} {w : World} {K : PySem.W.Frag} {elts : List Expr} {kk : Nat} {tpos : Pos} {t u : Bool} {a b z TI TO i1 i2 : Addr} (D : ZipSep2 z TI TO i1 i2 [i1, a] [i2, b]) (d1 : a ≠ i1) (d2 : b ≠ i2) :
    Turn P w K (.Tuple elts kk tpos) (ItzB K t u a b) [z, TI, TO, i1, i2] z (fun i h => IsZip h z TI TO .none ∧ IsTupOf2 h TI (.ref i1) (.ref i2) ∧ (∃ x y, IsTupOf2 h TO x y) ∧ itB t h i1 a i ∧ itB u h i2 b i) where
  mem := by simp
  obj := fun i h st c hc => by
    obtain ⟨hz, hTI, ⟨x, y, hTO⟩, l1, l2⟩ := st
    have e' : c = z ∨ c = TI ∨ c = TO ∨ c = i1 ∨ c = i2 := by simpa using hc
    rcases e' with q | q | q | q | q
    · rw [q]; exact ⟨_, hz, fun v q => nomatch q⟩
    · rw [q]; exact ⟨_, hTI, fun v q => nomatch q⟩
    · rw [q]; exact ⟨_, hTO, fun v q => nomatch q⟩
    · rw [q]; exact l1.live
    · rw [q]; exact l2.live
  keep := fun i h h' st k => by
    obtain ⟨hz, hTI, ⟨x, y, hTO⟩, h1, h2⟩ := st
    exact ⟨k z (by simp) _ hz, k TI (by simp) _ hTI, ⟨x, y, k TO (by simp) _ hTO⟩, h1.at fun o q => k i1 (by simp) o q, h2.at fun o q => k i2 (by simp) o q⟩
  item := by
    intro X hP hw hK hc i pins s σ H E I hf st hg
    subst hP hw hK
    obtain ⟨hz, hTI, ⟨x0, y0, hTO⟩, h1, h2⟩ := st
    obtain ⟨xs, ys, x, y, hqx, hqy, hx, hy⟩ := hg
    obtain ⟨its, rv, p, _⟩ := I.sqB hqx
    obtain ⟨its2, rv2, p2, _⟩ := I.sqB hqy
    obtain ⟨v1, hu, ru⟩ := rv.get hx
    obtain ⟨v2, hu2, ru2⟩ := rv2.get hy
    have hzl : z < s.heap.objs.size := Heap.lt_size hz
    have k1 : i < its.toArray.size := by have := (List.getElem?_eq_some_iff.mp hu).1; simpa using this
    have k2 : i < its2.toArray.size := by have := (List.getElem?_eq_some_iff.mp hu2).1; simpa using this
    refine wpAny_pyNext_zipD2_item D (drawsB (prog := X.prog) (w := X.w) (A := X.A.in1) t (I.ok.hd hc) i1 a d1 its.toArray) (drawsB (prog := X.prog) (w := X.w) (A := X.A.in1) u (I.ok.hd hc) i2 b d2 its2.toArray) hz hTI hTO ⟨h1, p⟩ ⟨h2, p2⟩ k1 k2 fun x1 x2 h' tk y1 y2 z' TO' g1 g2 hT hsz hk => ?_
    have ex1 : x1 = v1 := by simpa [hu, eq_comm] using y1
    have ex2 : x2 = v2 := by simpa [hu2, eq_comm] using y2
    subst ex1 ex2
    refine ⟨_, rfl, wpAny_letOwnedTupleGo_zip (s := { s with heap := h', toks := tk }) z' fun h'' z'' sb => ?_⟩
    have hT2 : h''.get? s.heap.objs.size = some { cls := .type "tuple", data := .seq #[x1, x2] } := (sb.2 _ (Nat.ne_of_gt hzl)).trans hT
    have new : ObjOk X.prog X.w (upd H s.heap.objs.size (.tup [x, y])) h'' s.heap.objs.size (.tup [x, y]) :=
      ⟨by show 2 ≤ sizeLine; decide, [x1, x2], .cons ru (.cons ru2 .nil), ⟨_, hT2, rfl, _, rfl⟩⟩
    have I1 : Inv X pins σ (upd H s.heap.objs.size (.tup [x, y])) { s with heap := h'', toks := tk } :=
      I.turnedNew (t' := tk) (ch := [z, TI, TO, i1, i2]) (fun c o hb q => (sb.2 c (fun q' => hb (by simp [q']))).trans (hk c o (fun q' => hb (by simp [q'])) (fun q' => hb (by simp [q'])) (fun q' => hb (by simp [q'])) (fun q' => hb (by simp [q'])) q)) hf (Nat.le_refl _) new
    have n1 : i1 ≠ z := Ne.symm D.zi1
    have n2 : i2 ≠ z := Ne.symm D.zi2
    refine ⟨.ref s.heap.objs.size, _, I1, rfl, ⟨_, x, y, rfl, I.hok.fresh (Nat.le_refl _), rfl, fun l hl => by rw [I.sqB_inj hl hqx]; exact hx, fun l hl => by rw [I.sqB_inj hl hqy]; exact hy⟩, ⟨z'', ?_, ⟨x1, x2, ?_⟩, ?_, ?_⟩, fun c hcm => ?_⟩
    · exact (sb.2 _ D.TIz).trans (hk _ _ D.TIz D.TITO D.TIi1 D.TIi2 hTI)
    · exact (sb.2 _ D.TOz).trans TO'
    · exact g1.1.at fun o q => (sb.2 _ n1).trans q
    · exact g2.1.at fun o q => (sb.2 _ n2).trans q
    · have hlt : c < s.heap.objs.size := by
        have e' : c = z ∨ c = TI ∨ c = TO ∨ c = i1 ∨ c = i2 := by simpa using hcm
        rcases e' with q | q | q | q | q
        · rw [q]; exact hzl
        · rw [q]; exact Heap.lt_size hTI
        · rw [q]; exact Heap.lt_size hTO
        · rw [q]; obtain ⟨_, e1, _⟩ := h1.live; exact Heap.lt_size e1
        · rw [q]; obtain ⟨_, e2, _⟩ := h2.live; exact Heap.lt_size e2
      rw [upd_ne (Nat.ne_of_lt hlt)]
      exact (hf c hcm).1
  done := by
    intro X hP hw hK hc i pins s σ H E I hf st hg
    subst hP hw hK
    obtain ⟨hz, hTI, ⟨x0, y0, hTO⟩, h1, h2⟩ := st
    obtain ⟨xs, ys, hqx, hqy, hend, k1, k2⟩ := hg
    obtain ⟨its, rv, p, _⟩ := I.sqB hqx
    obtain ⟨its2, rv2, p2, _⟩ := I.sqB hqy
    have l1 := rv.length
    have l2 := rv2.length
    have s1 : its.toArray.size = its.length := by simp
    have s2 : its2.toArray.size = its2.length := by simp
    exact wpAny_pyNext_zipD2_end D (drawsB (prog := X.prog) (w := X.w) (A := X.A.in1) t (I.ok.hd hc) i1 a d1 its.toArray) (drawsB (prog := X.prog) (w := X.w) (A := X.A.in1) u (I.ok.hd hc) i2 b d2 its2.toArray) hz hTI hTO ⟨h1, p⟩ ⟨h2, p2⟩ (by omega) (by omega) (by omega) fun h' tk hk => ⟨rfl, I.turnedL (t' := tk) (ch := [z, TI, TO, i1, i2]) (fun c o hb q =>
      hk c o (fun q' => hb (by simp [q'])) (fun q' => hb (by simp [q'])) (fun q' => hb (by simp [q'])) (fun q' => hb (by simp [q'])) q) hf⟩
  self := fun A i s Q E st h => wpAny_pyIter_zip st.1 h
def iZipB (K : PySem.W.Frag) (ta : TA) : TI := fun σ H R => ta σ H fun vs H1 => ∃ (t u : Bool) (a b : Addr) (xs ys : List V), vs = [.ref a, .ref b] ∧ SqB K t H1 a xs ∧ SqB K u H1 b ys ∧ R (ItzB K t u a b) H1
theorem pi_zipB {X : Cx} {e e2 : Expr} {ta : TA} {p pos tpos : Pos} {elts : List Expr} {kk : Nat} (hg : Gl X "zip") (hm : X.mg "zip" = none) (ha : PA X [e, e2] ta)
    (hs : starEach [e, e2] X.env = (false, eval e X.env) :: starEach [e2] X.env := by rfl) (hpl : (backTo pos (starEach [e2] X.env)).any (·.1) = false := by rfl) :
    PI X (.Tuple elts kk tpos) (.Call (.Name "zip" p) [e, e2] [] pos) (iZipB X.K ta) := by
  refine ⟨fun pins s σ H R I h => ?_⟩
  refine Call_ (ld_blt I hg hm PyProof.Rows.boot_zip (PyProof.Rows.callWith_type1 (thn (ha.run pos pins s σ H _ I h) fun us s1 ⟨vs, H1, I1, r1, q1⟩ => ?_) hs hpl))
  obtain ⟨t, u, a, b, xs, ys, ex, hqx, hqy, q⟩ := q1
  subst ex
  cases r1 with
  | cons r rr =>
    cases rr with
    | cons r' rr =>
      cases rr
      cases r
      cases r'
      obtain ⟨its, rv, p1, _, la⟩ := I1.sqB hqx
      obtain ⟨its2, rv2, p2, _, lb⟩ := I1.sqB hqy
      refine zip_begins2 (beginsB t a its.toArray) (beginsB u b its2.toArray) p1 p2 fun h' hz hTI hTO g1 g2 hsz hk => wpAny_pyIter_zip hz ?_
      have I2 : Inv X pins σ H1 { s1 with heap := h' } := I1.kept (t' := s1.toks) hk
      have sep := zip_sep2 (N := s1.heap.objs.size) (fp1 := [a]) (fp2 := [b]) (fun b' hb => by rw [List.mem_singleton.mp hb]; exact la) (fun b' hb => by rw [List.mem_singleton.mp hb]; exact lb)
      refine ⟨s1.heap.objs.size + 4, [s1.heap.objs.size + 4, s1.heap.objs.size + 2, s1.heap.objs.size + 3, s1.heap.objs.size, s1.heap.objs.size + 1], _, _, H1, rfl, I2, turn_zipB (t := t) (u := u) sep (Nat.ne_of_lt la) (Nat.ne_of_lt (Nat.lt_succ_of_lt lb)), ⟨hz, hTI, ⟨_, _, hTO⟩, itB_new g1, itB_new g2⟩, fun c hcm => ?_, q⟩
      have e' : c = s1.heap.objs.size + 4 ∨ c = s1.heap.objs.size + 2 ∨ c = s1.heap.objs.size + 3 ∨ c = s1.heap.objs.size ∨ c = s1.heap.objs.size + 1 := by simpa using hcm
      have hle : s1.heap.objs.size ≤ c := by
        rcases e' with z | z | z | z | z
        · rw [z]; exact Nat.le_add_right _ _
        · rw [z]; exact Nat.le_add_right _ _
        · rw [z]; exact Nat.le_add_right _ _
        · rw [z]; exact Nat.le_refl _
        · rw [z]; exact Nat.le_add_right _ _
      exact I1.fpOk hle (I1.hok.fresh hle)
theorem walk_zipB {K : PySem.W.Frag} {t u : Bool} {a b : Addr} {xs ys : List V} {n : Nat} (hn : n = min xs.length ys.length) : Walk (ItzB K t u a b) n (fun H => SqB K t H a xs ∧ SqB K u H b ys) (YPair (fun i => xs[i]?) (fun i => ys[i]?)) := by
  subst hn
  refine ⟨fun i _ hi q => ?_, fun _ q => ⟨xs, ys, q.1, q.2, by omega, by omega, by omega⟩, fun i H v H' _ q y => ?_⟩
  · have h1 : i < xs.length := by omega
    have h2 : i < ys.length := by omega
    exact ⟨xs, ys, xs[i], ys[i], q.1, q.2, by simp [h1], by simp [h2]⟩
  · obtain ⟨T, x, z, h1, h2, h3, h4, h5⟩ := y
    exact ⟨T, x, z, h1, h2, h3, h4 xs q.1, h5 ys q.2⟩

/-! ### enumerate of both -/
theorem meets_enumB {v : Value} {o : Obj} {H : Heap → Prop} (B : Begins v o H) :
    Meets (Builtin.«enumerate.__new__» ⟨[.type "enumerate", v], []⟩) (fun _ R s => H s.heap ∧
      R (.ok (.ret (.ref (s.heap.push o).objs.size))) { s with heap := (s.heap.push o).push { cls := .type "enumerate", data := .fields #[.none, .bool false, .ref s.heap.objs.size, rawInt 0, .none, .none] } }) :=
  .of_wp fun prog w A R s h => by
    obtain ⟨hp, g, d, tk, os⟩ := s; obtain ⟨h1, h⟩ := h
    have hsub := sub_enumerate
    have q1 : ∀ {A' : Around} {E : Value → Shared → Prop} {Q : Value → Shared → Prop}, Q (.ref hp.objs.size) ⟨hp.push o, g, d, tk, os⟩ → wpAny (model prog w) A' (pyIter v) Q E ⟨hp, g, d, tk, os⟩ :=
      fun q => B.iter prog w _ _ ⟨hp, g, d, tk, os⟩ _ h1 q
    wp_walk using q1
    refine wpAny_stack_any fun st => wpAny_pure ?_
    split
    · rename_i c _ _ _ _ _
      cases (c == Value.type "enumerate")
      · wp_walk using q1
        exact ⟨_, rfl, h⟩
      · wp_walk using q1
        exact ⟨_, rfl, h⟩
    · wp_walk using q1
      exact ⟨_, rfl, h⟩
theorem enum_beginsB {prog : Program} {w : World} {A : Around} {E : Value → Shared → Prop} {s : Shared} {v : Value} {o : Obj} {H : Heap → Prop} {Q : Value → Shared → Prop} (B : Begins v o H) (h1 : H s.heap)
    (h : ∀ h', IsEnum h' (s.heap.objs.size + 1) s.heap.objs.size 0 .none → h'.get? s.heap.objs.size = some o → h'.objs.size = s.heap.objs.size + 2 →
      (∀ b o, s.heap.get? b = some o → h'.get? b = some o) → Q (.ref (s.heap.objs.size + 1)) { s with heap := h' }) :
    wpAny (model prog w) A (call (.type "enumerate") [v]) Q E s := by
  refine callType_new F.called_enumerate (by decide) (F.typeCall_enumerate_1 _) (F.newCall_enumerate_1 _) (fun obj => F.args_object_init_2 obj _) F.entry_enumerate_new
    (meets_enumB B) ⟨h1, ?_⟩
  have hz : (s.heap.push o).objs.size = s.heap.objs.size + 1 := Heap.size_push ..
  show _ ∧ _
  rw [hz]
  have he : IsEnum ((s.heap.push o).push { cls := .type "enumerate", data := .fields #[.none, .bool false, .ref s.heap.objs.size, rawInt 0, .none, .none] }) (s.heap.objs.size + 1) s.heap.objs.size 0 .none := by
    have := Heap.get?_push_size (s.heap.push o) (o := { cls := .type "enumerate", data := .fields #[.none, .bool false, .ref s.heap.objs.size, rawInt 0, .none, .none] }) rfl
    rw [hz] at this; exact this
  exact ⟨⟨_, he, rfl⟩, h _ he (Heap.get?_push_of_some _ (Heap.get?_push_size _ B.free)) (by rw [Heap.size_push, hz]) fun b o x => Heap.get?_push_of_some _ (Heap.get?_push_of_some _ x)⟩
def IteB (K : PySem.W.Frag) (t : Bool) (a : Addr) : It :=
  ⟨fun i H => ∃ (xs : List V) (x : V), SqB K t H a xs ∧ xs[i]? = some x, fun i H v H' => ∃ T x, v = .ref T ∧ H T = none ∧ H' = upd H T (.tup [.int (i : Nat), x]) ∧ ∀ xs, SqB K t H a xs → xs[i]? = some x, fun i H => ∃ xs : List V, SqB K t H a xs ∧ xs.length = i⟩
theorem turn_enumB {P : Program} {w : World} {K : PySem.W.Frag} {elts : List Expr} {kk : Nat} {tpos : Pos} {t : Bool} (a e it : Addr) (d1 : a ≠ it) (d2 : e ≠ a) :
    Turn P w K (.Tuple elts kk tpos) (IteB K t a) [e, it] e (fun i h => (∃ old, IsEnum h e it ((i : Nat) : Int) old) ∧ itB t h it a i ∧ e ≠ it) where
  mem := by simp
  obj := fun i h st b hb => by
    obtain ⟨⟨old, he⟩, hi, _⟩ := st
    have e' : b = e ∨ b = it := by simpa using hb
    rcases e' with z | z
    · rw [z]; exact ⟨_, he, fun v q => nomatch q⟩
    · rw [z]; exact hi.live
  keep := fun i h h' st k => let ⟨⟨old, he⟩, hi, hne⟩ := st; ⟨⟨old, k e (by simp) _ he⟩, hi.at fun o q => k it (by simp) o q, hne⟩
  item := by
    intro X hP hw hK hc i pins s σ H E I hf st hg
    subst hP hw hK
    obtain ⟨⟨old, he⟩, hit, hne⟩ := st
    obtain ⟨xs, x, hq, hx⟩ := hg
    obtain ⟨its, rv, p, hz, la⟩ := I.sqB hq
    obtain ⟨v1, hu, ru⟩ := rv.get hx
    have hel : e < s.heap.objs.size := Heap.lt_size he
    have hil : it < s.heap.objs.size := by obtain ⟨_, q, _⟩ := hit.live; exact Heap.lt_size q
    have k1 : i < its.toArray.size := by have := (List.getElem?_eq_some_iff.mp hu).1; simpa using this
    refine wpAny_pyNext_enum_itemC (drawsB (prog := X.prog) (w := X.w) (A := X.A.in1) t (I.ok.hd hc) it a d1 its.toArray) he ⟨hit, p⟩ k1 hne (by simp; exact ⟨hne, d2⟩) fun x1 h' tk y1 ho hit' hT hsz hk => ?_
    have ex1 : x1 = v1 := by simpa [hu, eq_comm] using y1
    subst ex1
    refine ⟨_, rfl, wpAny_letOwnedTupleGo_enum (s := { s with heap := h', toks := tk + 1 }) ho fun h'' he' sb => ?_⟩
    have hT2 : h''.get? s.heap.objs.size = some { cls := .type "tuple", data := .seq #[.int i tk, x1] } := (sb.2 _ (Nat.ne_of_gt hel)).trans hT
    have new : ObjOk X.prog X.w (upd H s.heap.objs.size (.tup [.int (i : Nat), x])) h'' s.heap.objs.size (.tup [.int (i : Nat), x]) :=
      ⟨by show 2 ≤ sizeLine; decide, [.int i tk, x1], .cons ⟨_, rfl⟩ (.cons ru .nil), ⟨_, hT2, rfl, _, rfl⟩⟩
    have I1 : Inv X pins σ (upd H s.heap.objs.size (.tup [.int (i : Nat), x])) { s with heap := h'', toks := tk + 1 } :=
      I.turnedNew (ch := [e, it]) (fun b ob hb q => (sb.2 b (fun z => hb (by simp [z]))).trans (hk b ob (fun z => hb (by simp [z])) (fun z => hb (by simp [z])) q)) hf (Nat.le_refl _) new
    refine ⟨.ref s.heap.objs.size, _, I1, rfl, ⟨_, x, rfl, I.hok.fresh (Nat.le_refl _), rfl, fun ys hy => by rw [I.sqB_inj hy hq]; exact hx⟩, ⟨⟨x1, ?_⟩, hit'.1.at fun o q => (sb.2 it (Ne.symm hne)).trans q, hne⟩, fun b hb => ?_⟩
    · have e1 : ((i + 1 : Nat) : Int) = (i : Int) + 1 := by omega
      rw [e1]; exact he'
    · have hb' : b < s.heap.objs.size := by
        have e' : b = e ∨ b = it := by simpa using hb
        rcases e' with z | z
        · rw [z]; exact hel
        · rw [z]; exact hil
      rw [upd_ne (Nat.ne_of_lt hb')]
      exact (hf b hb).1
  done := by
    intro X hP hw hK hc i pins s σ H E I hf st hg
    subst hP hw hK
    obtain ⟨⟨old, he⟩, hit, hne⟩ := st
    obtain ⟨xs, hq, hx⟩ := hg
    obtain ⟨its, rv, p, hz, la⟩ := I.sqB hq
    have hl := rv.length
    have e0 : i = its.toArray.size := by simp; omega
    subst e0
    exact wpAny_pyNext_enum_endD (drawsB (prog := X.prog) (w := X.w) (A := X.A.in1) t (I.ok.hd hc) it a d1 its.toArray) he ⟨hit, p⟩ fun h' hx => ⟨rfl, I.turnedL (t' := s.toks) (ch := [e, it]) (fun b o hb q => hx b o (fun z => hb (by simp [z])) q) hf⟩
  self := fun A i s Q E st h => let ⟨⟨_, he⟩, _⟩ := st; wpAny_pyIter_enum he h
def iEnumB (K : PySem.W.Frag) (ta : TA) : TI := fun σ H R => ta σ H fun vs H1 => ∃ (t : Bool) (a : Addr) (xs : List V), vs = [.ref a] ∧ SqB K t H1 a xs ∧ R (IteB K t a) H1
theorem pi_enumB {X : Cx} {e : Expr} {ta : TA} {p pos tpos : Pos} {elts : List Expr} {kk : Nat} (hg : Gl X "enumerate") (hm : X.mg "enumerate" = none) (ha : PA X [e] ta) (hs : starEach [e] X.env = [(false, eval e X.env)] := by rfl) :
    PI X (.Tuple elts kk tpos) (.Call (.Name "enumerate" p) [e] [] pos) (iEnumB X.K ta) := by
  refine ⟨fun pins s σ H R I h => ?_⟩
  refine Call_ (ld_blt I hg hm boot_enumerate (PyProof.Rows.callWith_type1 (thn (ha.run pos pins s σ H _ I h) fun us s1 ⟨vs, H1, I1, r1, q1⟩ => ?_) hs rfl))
  obtain ⟨t, a, xs, ex, hq, q⟩ := q1
  subst ex
  cases r1 with
  | cons r rr =>
    cases rr
    cases r
    obtain ⟨its, rv, p', hz, la⟩ := I1.sqB hq
    refine enum_beginsB (beginsB t a its.toArray) p' fun h' he hit hsz hk => wpAny_pyIter_enum he ?_
    have I2 : Inv X pins σ H1 { s1 with heap := h' } := I1.kept (t' := s1.toks) hk
    refine ⟨s1.heap.objs.size + 1, [s1.heap.objs.size + 1, s1.heap.objs.size], _, _, H1, rfl, I2, turn_enumB (t := t) a (s1.heap.objs.size + 1) s1.heap.objs.size (Nat.ne_of_lt la) (Nat.ne_of_gt (Nat.lt_succ_of_lt la)), ⟨⟨.none, he⟩, itB_new hit, Nat.succ_ne_self _⟩, fun b hb => ?_, q⟩
    have e' : b = s1.heap.objs.size + 1 ∨ b = s1.heap.objs.size := by simpa using hb
    have hle : s1.heap.objs.size ≤ b := by
      rcases e' with z | z
      · rw [z]; exact Nat.le_add_right _ _
      · rw [z]; exact Nat.le_refl _
    exact I1.fpOk hle (I1.hok.fresh hle)
theorem walk_enumB {K : PySem.W.Frag} {t : Bool} {a : Addr} {xs : List V} : Walk (IteB K t a) xs.length (fun H => SqB K t H a xs) (YPair (fun i => some (.int (i : Nat))) (fun i => xs[i]?)) := by
  refine ⟨fun i _ hi q => ⟨xs, xs[i], q, by simp [hi]⟩, fun _ q => ⟨xs, q, rfl⟩, fun i H v H' _ q y => ?_⟩
  obtain ⟨T, x, h1, h2, h3, h4⟩ := y
  exact ⟨T, .int (i : Nat), x, h1, h2, h3, rfl, h4 xs q⟩

/-! ### list(zip(a, b)) -/
/-- the pairs tracked at their addresses -/
def putP : Hp → List Addr → List (V × V) → Hp
  | H, a :: as, p :: ps => putP (upd H a (.tup [p.1, p.2])) as ps
  | H, _, _ => H
theorem putP_off {b : Addr} : ∀ (as : List Addr) (ps : List (V × V)) (H : Hp), b ∉ as → putP H as ps b = H b
  | [], _, _, _ => rfl
  | _ :: _, [], _, _ => rfl
  | a :: as, p :: ps, H, h => by
    show putP (upd H a (.tup [p.1, p.2])) as ps b = H b
    rw [putP_off as ps _ (fun z => h (List.mem_cons_of_mem _ z)), upd_ne (fun z => h (by rw [z]; exact List.mem_cons_self))]
theorem putP_at : ∀ (as : List Addr) (ps : List (V × V)) (H : Hp), as.length = ps.length → as.Nodup → Paired (fun (t : Addr) (p : V × V) => putP H as ps t = some (.tup [p.1, p.2])) as ps
  | [], [], _, _, _ => .nil
  | [], _ :: _, _, h, _ => by cases h
  | _ :: _, [], _, h, _ => by cases h
  | a :: as, p :: ps, H, h, hn => by
    have hn' := List.nodup_cons.mp hn
    have ih := putP_at as ps (upd H a (.tup [p.1, p.2])) (Nat.succ.inj h) hn'.2
    refine .cons ?_ ih
    show putP (upd H a (.tup [p.1, p.2])) as ps a = some (.tup [p.1, p.2])
    rw [putP_off as ps _ hn'.1, upd_same]
theorem pairs_laid {X : Cx} {pins : List (Addr × Obj)} {σ : L2.St} {H : Hp} {s : Shared} {h' : Heap} {tk : Nat} {ps : List (V × V)} {acc : Array Value} {c : Nat} {as : List Addr} {q : Addr} (I : Inv X pins σ H s) (hz : ps.length ≤ sizeLine)
    (hk : ∀ b o, s.heap.get? b = some o → h'.get? b = some o) (hq : s.heap.objs.size ≤ q) (hS : h'.get? q = some { cls := .type "list", dict := none, data := .seq acc c, slots := #[] }) (hl : as.length = ps.length) (rise : as.Pairwise (· < ·)) (above : ∀ a ∈ as, q < a)
    (prs : ∀ (j : Nat) (a : Addr), as[j]? = some a → ∃ (p : V × V) (x1 x2 : Value), ps[j]? = some p ∧ RelV p.1 x1 ∧ RelV p.2 x2 ∧ h'.get? a = some { cls := .type "tuple", data := .seq #[x1, x2] }) (hacc : acc.toList = as.map Value.ref) :
    ∃ H' : Hp, (∀ b o, H b = some o → H' b = some o) ∧ H q = none ∧ (∀ t ∈ as, H t = none) ∧ q ∉ as ∧ H' q = some (.lst (as.map V.ref)) ∧ Paired (fun (t : Addr) (p : V × V) => H' t = some (.tup [p.1, p.2])) as ps ∧ Inv X pins σ H' { s with heap := h', toks := tk } := by
  have hSn : q ∉ as := fun z => Nat.lt_irrefl _ (above _ z)
  have nd : as.Nodup := List.Pairwise.imp (fun {a b} (h : a < b) => Nat.ne_of_lt h) rise
  have lo : ∀ t ∈ as, s.heap.objs.size ≤ t := fun t ht => Nat.le_trans hq (Nat.le_of_lt (above t ht))
  have new : ∀ t ∈ as, H t = none := fun t ht => I.hok.fresh (lo t ht)
  have newS : H q = none := I.hok.fresh hq
  have atP := putP_at as ps (upd H q (.lst (as.map V.ref))) hl nd
  have off : ∀ b, b ∉ as → b ≠ q → putP (upd H q (.lst (as.map V.ref))) as ps b = H b := fun b h1 h2 => by rw [putP_off as ps _ h1, upd_ne h2]
  have low : ∀ b o, s.heap.get? b = some o → b ∉ as ∧ b ≠ q := fun b o e => ⟨fun z => absurd (Heap.lt_size e) (Nat.not_lt.mpr (lo b z)), Nat.ne_of_lt (Nat.lt_of_lt_of_le (Heap.lt_size e) hq)⟩
  have kp : ∀ b u, H b = some u → (putP (upd H q (.lst (as.map V.ref))) as ps) b = some u := fun b u e => by
    rw [off b (fun z => by rw [new b z] at e; cases e) (fun z => by rw [z, newS] at e; cases e)]
    exact e
  have eS : putP (upd H q (.lst (as.map V.ref))) as ps q = some (.lst (as.map V.ref)) := by rw [putP_off as ps _ hSn, upd_same]
  refine ⟨putP (upd H q (.lst (as.map V.ref))) as ps, kp, newS, new, hSn, eS, atP, ?_⟩
  refine I.call' (ch := []) rfl ⟨fun b o q _ _ _ => hk b o q, fun b o q _ _ _ => ⟨o.slots, hk b o q⟩, fun b o q n _ => ?_, fun b o q _ => ⟨o, hk b o q⟩, fun b xs q => kp b _ q, fun b o u q => kp b _ q, fun b ps q => ⟨#[], by rw [kp b _ q]; simp⟩⟩ (fun b u g => ?_) I.bare fun b z => by simp at z
  · obtain ⟨z1, z2⟩ := low b o q
    rw [off b z1 z2]
    exact n
  · by_cases hb : b ∈ as
    · obtain ⟨j, pk, e1, e2, e3⟩ := LiI.paired_ix atP hb
      rw [e3] at g
      cases g
      obtain ⟨p, x1, x2, f1, f2, f3, f4⟩ := prs j b e1
      rw [e2] at f1
      cases f1
      exact ⟨by show 2 ≤ sizeLine; decide, [x1, x2], .cons f2 (.cons f3 .nil), ⟨_, f4, rfl, _, rfl⟩⟩
    · by_cases hb2 : b = q
      · rw [hb2] at g ⊢
        rw [eS] at g
        cases g
        refine ⟨by rw [List.length_map]; omega, acc.toList, c, by rw [hacc]; exact LiI.vals_refs as, ?_⟩
        rw [Array.toArray_toList]
        exact hS
      · rw [off b hb hb2] at g
        exact (I.hok b u g).stay (fun d v _ y => hk d v y) (fun d y => kp d _ y) fun d xs y => kp d _ y
def rLz (K : PySem.W.Frag) : List V → Hp → VK → Prop := fun vs H Q => ∃ (t u : Bool) (a b : Addr) (xs ys : List V), vs = [.ref a, .ref b] ∧ SqB K t H a xs ∧ SqB K u H b ys ∧
  ∀ (H' : Hp) (p : Addr) (ts : List Addr), (∀ c o, H c = some o → H' c = some o) → H p = none → (∀ t ∈ ts, H t = none) → p ∉ ts → H' p = some (.lst (ts.map V.ref)) → Paired (fun (t : Addr) (q : V × V) => H' t = some (.tup [q.1, q.2])) ts (xs.zip ys) → Q (.ref p) H'
def tLz (K : PySem.W.Frag) (ta : TA) : TE := fun σ H Q => ta σ H fun vs H1 => rLz K vs H1 Q
theorem pe_listZip {X : Cx} {e e2 : Expr} {ta : TA} {p p2 pos2 pos : Pos} (hc : X.calm = true) (ha : PA X [e, e2] ta) (hg : Gl X "list") (hm : X.mg "list" = none) (hg2 : Gl X "zip") (hm2 : X.mg "zip" = none) (hv : bootBuiltins "list" = some (.type "list") := by rfl)
    (hs2 : starEach [e, e2] X.env = (false, eval e X.env) :: starEach [e2] X.env := by rfl) (hpl2 : (backTo pos2 (starEach [e2] X.env)).any (·.1) = false := by rfl)
    (hs : starEach [.Call (.Name "zip" p2) [e, e2] [] pos2] X.env = (false, eval (.Call (.Name "zip" p2) [e, e2] [] pos2) X.env) :: starEach [] X.env := by rfl) :
    PE X (.Call (.Name "list" p) [.Call (.Name "zip" p2) [e, e2] [] pos2] [] pos) (tLz X.K ta) := by
  refine ⟨fun pins s σ H Q I hq => ?_⟩
  refine wpAny_Call_Name_kw (ld_blt I hg hm hv ?_)
  refine PyProof.Rows.callWith_type1 ?_ hs rfl
  rw [hs]
  show wpAny _ _ (spliced ((false, eval (.Call (.Name "zip" p2) [e, e2] [] pos2) X.env) :: backTo pos (starEach [] X.env))) _ _ s
  refine Calls.spliced_cons ?_
  refine Call_ (ld_blt I hg2 hm2 PyProof.Rows.boot_zip (PyProof.Rows.callWith_type1 (thn (ha.run pos2 pins s σ H _ I hq) fun us s1 ⟨vs, H1, I1, r1, q1⟩ => ?_) hs2 hpl2))
  obtain ⟨t, u, a, b, xs, ys, ex, hqx, hqy, q⟩ := q1
  subst ex
  cases r1 with
  | cons r rr =>
    cases rr with
    | cons r' rr =>
      cases rr
      cases r
      cases r'
      obtain ⟨its, rv, p1, z1, la⟩ := I1.sqB hqx
      obtain ⟨its2, rv2, p2', z2, lb⟩ := I1.sqB hqy
      refine zip_begins2 (beginsB t a its.toArray) (beginsB u b its2.toArray) p1 p2' fun h' hz hTI hTO g1 g2 hsz hk => ?_
      have sep := zip_sep2 (N := s1.heap.objs.size) (fp1 := [a]) (fp2 := [b]) (fun b' hb => by rw [List.mem_singleton.mp hb]; exact la) (fun b' hb => by rw [List.mem_singleton.mp hb]; exact lb)
      have l1 := rv.length
      have l2 := rv2.length
      have s1' : its.toArray.size = its.length := by simp
      have s2' : its2.toArray.size = its2.length := by simp
      refine Calls.spliced_nil ?_
      have N := hsz
      have lt1 : ∀ b' ∈ [s1.heap.objs.size, a], b' < h'.objs.size := fun b' hb => by
        rcases List.mem_cons.mp hb with e | hb
        · rw [e, hsz]; exact Nat.lt_add_of_pos_right (by decide : 0 < 5)
        · rw [List.mem_singleton.mp hb, hsz]; exact Nat.lt_of_lt_of_le la (Nat.le_add_right _ _)
      have lt2 : ∀ b' ∈ [s1.heap.objs.size + 1, b], b' < h'.objs.size := fun b' hb => by
        rcases List.mem_cons.mp hb with e | hb
        · rw [e, hsz]; exact Nat.add_lt_add_left (by decide : 1 < 5) _
        · rw [List.mem_singleton.mp hb, hsz]; exact Nat.lt_of_lt_of_le lb (Nat.le_add_right _ _)
      have k1 : seqAtB t h' a its.toArray := (beginsB t a its.toArray).keeps _ _ p1 hk
      have k2 : seqAtB u h' b its2.toArray := (beginsB u b its2.toArray).keeps _ _ p2' hk
      refine Lz.zl_call (s := { s1 with heap := h' }) (fp1 := [s1.heap.objs.size, a]) (fp2 := [s1.heap.objs.size + 1, b]) sep (fun A' hh => drawsB t hh _ a (Nat.ne_of_lt la) its.toArray) (fun A' hh => drawsB u hh _ b (Nat.ne_of_lt (Nat.lt_succ_of_lt lb)) its2.toArray) (I1.ok.hd hc) (by omega) lt1 lt2 hz hTI ⟨_, _, hTO⟩ ⟨itB_new g1, k1⟩ ⟨itB_new g2, k2⟩ fun h'' tk acc c as hk' hS hl hG hacc => ?_
      have old : ∀ b' o, s1.heap.get? b' = some o → h''.get? b' = some o := fun b' o e => by
        have lt := Heap.lt_size e
        exact hk' b' o (Nat.ne_of_lt (Nat.lt_of_lt_of_le lt (Nat.le_add_right _ _))) (Nat.ne_of_lt (Nat.lt_of_lt_of_le lt (Nat.le_add_right _ _))) (Nat.ne_of_lt lt) (Nat.ne_of_lt (Nat.lt_of_lt_of_le lt (Nat.le_add_right _ _))) (hk b' o e)
      have lz : (xs.zip ys).length = min xs.length ys.length := List.length_zip
      have prs : ∀ (j : Nat) (a' : Addr), as[j]? = some a' → ∃ (p : V × V) (x1 x2 : Value), (xs.zip ys)[j]? = some p ∧ RelV p.1 x1 ∧ RelV p.2 x2 ∧ h''.get? a' = some { cls := .type "tuple", data := .seq #[x1, x2] } := fun j a' hj => by
        obtain ⟨x1, x2, y1, y2, y3⟩ := hG.pairs j a' hj
        have hx : its[j]? = some x1 := by simpa using y1
        have hy : its2[j]? = some x2 := by simpa using y2
        have j1 : j < xs.length := by have := (List.getElem?_eq_some_iff.mp hx).1; omega
        have j2 : j < ys.length := by have := (List.getElem?_eq_some_iff.mp hy).1; omega
        obtain ⟨w1, e1, r1⟩ := rv.get (List.getElem?_eq_getElem j1)
        obtain ⟨w2, e2, r2⟩ := rv2.get (List.getElem?_eq_getElem j2)
        rw [hx] at e1
        rw [hy] at e2
        cases e1
        cases e2
        exact ⟨(xs[j], ys[j]), x1, x2, by rw [List.getElem?_eq_getElem (by omega)]; simp, r1, r2, y3⟩
      obtain ⟨H', f1, f2, f3, f4, f5, f6, J⟩ := pairs_laid (tk := tk) (ps := xs.zip ys) I1 (by omega) old (by show s1.heap.objs.size ≤ h'.objs.size; omega) hS (by rw [hl]; omega) hG.rise hG.above prs hacc
      exact ⟨.ref _, H', J, rfl, q H' _ as f1 f2 f3 f4 f5 f6⟩
end L2
set_option maxRecDepth 100000
namespace L2
open PySem PySem.Spec PyProof.Rows
/-! defs f(a, *r), their calls -/
theorem cxNew {P : Program} {w : World} : CXNew (L2.CX P w) := fun outer s H h2 p rest E e s' kp hle hn h =>
  StX.cxUp outer s H { s with heap := h2 } _ E e s' (Un.laid kp hle hn) kp rfl h
/-- how f(a, *r) binds -/
def BindV (fd : FuncData) (pa pv : Str) (n : Nat) : Prop := ∀ (u : Value) (rest : List Value), rest.length ≤ n → bindArgs fd ⟨u :: rest, []⟩ = (newTuple rest >>= fun t => pure [(pa, u), (pv, t)])
section
variable {P : Program} {w : World} {K : PySem.W.Frag} {mg : Str → Option Value} {base : Heap}
/-- THE RULE for a def with a star parameter -/
theorem Fun.okV {x qual : Str} {st : Stmt} {f : Addr} {fd : FuncData} {N : List Str} {pa pv : Str} {k n : Nat} {sp : Sp} (F : Fun K x qual st f fd) (S : FnScope N [pa, pv] (defScope st)) (hb : BindV fd pa pv n) (hn : n ≤ 5)
    (hbody : ∀ (cdv : Value) (A : Around) (outer : List Env) (s : Shared) (H : Hp) (vs : List V) (Q : VK) (E : XK), Room k (A.deeper (envOfC qual (defScope st) s.heap.objs.size f cdv)) → sp vs H Q E →
      ∃ t, PSs (cxOf (L2.CX P w) P w K mg base N qual (defScope st) f cdv A outer s H E) (defBody st) t ∧ t { nx := fun _ H' => Q .non H', rt := Q } (start N vs) H) :
    FnR P w K mg base (L2.CX P w) (k + 1) f (fun vs H Q E => ∃ v rest, vs = v :: rest ∧ rest.length ≤ n ∧ ∀ p, H p = none → sp [v, .ref p] (upd H p (.tup rest)) Q E) := by
  obtain ⟨oc, od, kV, doc, pm, an, cdv, ct, osl, rfl, lk, hcd⟩ := F.ex
  exact fn_ofV lk hcd S (Nat.le_trans hn (by decide)) hb cxNew fun A outer s H vs Q E hr hsp => hbody cdv A outer s H vs Q E hr hsp
end
section
variable {X : Cx} {CX : CXT} {k : Nat} {C f : Addr} {m : Str} {sp : Sp} {E : XK} {o : Expr} {ta : TE} {apos pos : Pos} {pl : Sem Bool}
/-- o.m() by a positional promise -/
theorem pe_methR0 (he : PE X o ta) (c : Cls X.K C) (hm : Meth X.K C m f) (F : FnR X.prog X.w X.K X.mg X.base CX k f sp) (hr : Room k X.A) (hx : Passes CX X E)
    (ht : eval (.Call (.Attribute o m apos) [] [] pos) X.env = (do
      let ov ← eval o X.env
      standAt apos.atName
      let (f, first) ← holding [ov] (getMethod ov m pl)
      callWith pos f first (backTo pos (starEach [] X.env)) (backToKw pos (keywordEach [] X.env))) := by rfl) :
    PE X (.Call (.Attribute o m apos) [] [] pos) (tMethR C m sp E ta tNil) := by
  refine ⟨fun pins s σ H Q I h => ?_⟩
  refine PySem.W.methodCall_KW (pl := pl) (thn (he.run pins s σ H _ I h) fun u s1 ⟨x, H1, I1, rx, a, dx, fs, ex, ea, l, q⟩ => ?_) ht
  subst ex
  obtain rfl : u = Value.ref a := rx
  refine getmeth_ok I1 ea c hm l ?_
  exact PySem.W.callWith_K0 (first := [.ref a]) I1.kIn hm.kp (wpAny_call (run_fnR (us := [.ref a]) (vs := [.ref a]) F hr hx I1 (.cons rfl .nil) q))
end
end L2
set_option maxRecDepth 100000
namespace Fb
open PySem Builtin PyProof.Rows Float
/-! f"{n:b}" -/
def binT (a : Nat) : Str := ⟨((Nat.toDigits 2 a).map (·.toNat)).toArray⟩
section
variable {prog : Program} {w : World} {A : Around} {E : Value → Shared → Prop} {s : Shared}
set_option maxHeartbeats 2000000 in
theorem formatField_b {a : Nat} {t : Tok} {Q : Value → Shared → Prop} (hlen : (binT a).length ≤ sizeLine) (h : Q (.str (binT a) (s.toks + 1)) { s with toks := s.toks + 1 + 1 }) :
    wpAny (model prog w) A (formatField (.int (a : Int) t) "b") Q E s := by
  obtain ⟨f, hp, hty, hpr, hz, hal, hw, hgr, hsg, hfi, hag⟩ : ∃ f : FormatSpec, parseFormatSpec (Str.ofString "b").cps.toList "int" 62 = .ok f ∧ f.type = some 98 ∧ f.precision = none ∧ f.noNeg0 = false ∧ f.alt = false ∧ f.width = none ∧ f.grouping = none ∧ f.sign = none ∧ f.fill = 32 ∧ f.align = 62 := ⟨_, rfl, rfl, rfl, rfl, rfl, rfl, rfl, rfl, rfl, rfl⟩
  have hne : ((Str.ofString "b").length == 0) = false := by rfl
  have hasc : (((Str.ofString "b").cps.toList.drop 1).any (· ≥ 128) || ((Str.ofString "b").cps.getD 0 0 ≥ 128 && !([60, 62, 61, 94] : List Nat).contains ((Str.ofString "b").cps.getD 1 0))) = false := by decide +kernel
  show wpAny _ _ (holding [.int (a : Int) t] (pyFormat (.int (a : Int) t) "b")) Q E s
  refine wpAny_holding ?_
  unfold pyFormat
  refine wpAny_bind (wpAny_mkStr ?_ (by decide))
  refine wpAny_bind (m := callSpecial? (.int (a : Int) t) (Str.ofString "__format__") [.str "b" s.toks]) (wpAny_callSpecial?_slot (name := Str.ofString "__format__") (typeIs_int _ (a : Int) t) PySem.F.slot_int_format ?_)
  refine wpAny_call (codeAny_call_builtin PySem.F.slot_int_format.plain PySem.F.entry_int_format (PySem.F.slot_int_format.check _ _ _ _ _ _ _ _ (typeIs_int _ (a : Int) t) (PySem.F.args_int_format_2 _ _) ?_))
  unfold Builtin.«int.__format__»
  simp only [selfAndOne, noKeywords, Int.intOfSelf, asInt?, asStr?, List.isEmpty_nil, if_true, pure_bind, bind_pure, bind_assoc, hne, hasc, Bool.false_eq_true, if_false,
    show (Value.str (Str.ofString "b") s.toks == Value.none) = false from rfl]
  refine wpAny_bind (wpAny_typeNameOf (T := "str") (typeIs_str _ _ _) (by decide) fun _ => ?_)
  first | refine wpAny_bind (wpAny_typeNameOfCut_int ?_) | refine wpAny_bind (wpAny_typeNameOf_int ?_)
  simp only [hp, hty, Option.getD_some]
  rw [if_pos (by decide)]
  show wpAny _ _ (if _ then _ else _) _ _ _
  rw [if_neg (by simp [hpr])]
  show wpAny _ _ (if _ then _ else _) _ _ _
  rw [if_neg (by simp [hz])]
  show wpAny _ _ (if _ then _ else _) _ _ _
  rw [if_neg (by decide)]
  show wpAny _ _ (if _ then _ else _) _ _ _
  rw [if_neg (by decide)]
  show wpAny _ _ (if _ then _ else _) _ _ _
  rw [if_neg (by simp [hw])]
  show wpAny _ _ (retStr _) _ _ _
  unfold retStr
  have z0 : decide ((a : Int) < 0) = false := decide_eq_false (by omega)
  have z1 : ((a : Int)).natAbs = a := Int.natAbs_natCast a
  simp only [z0, z1, hal, Bool.false_eq_true, if_false, show ((2 : Nat) == 10) = false from rfl, show ((98 : Nat) == 88) = false from rfl]
  clear hp
  cases f
  dsimp only at hty hpr hz hal hw hgr hsg hfi hag
  subst hty hpr hz hal hw hgr hsg hfi hag
  refine wpAny_bind (wpAny_mkStr (wpAny_pure ?_) ?hs2)
  case hs2 =>
    conv => lhs; arg 1; whnf
    simpa [binT] using hlen
  dsimp only
  refine wpAny_bind (wpAny_isInstance (typeIs_str _ _ _) isSubtype_str_str (wpAny_pure ?_))
  conv => arg 1; arg 1; whnf
  simpa [binT] using h
end
end Fb
namespace L2
open PySem PySem.Spec PyProof.Rows
/-- {n:b} of a number that is not below 0 -/
def tFmtB (te : TE) : TE := fun σ H Q => te σ H fun x H1 => ∃ a : Nat, x = .int (a : Int) ∧ (Fb.binT a).length ≤ sizeLine ∧ Q (.str (Fb.binT a)) H1
theorem pe_fmtB {X : Cx} {e : Expr} {te : TE} {k : Nat} {p p2 pos : Pos} (he : PE X e te) : PE X (.FormattedValue e (-1) (some (.JoinedStr [.Constant (.str "b") k p] p2)) pos) (tFmtB te) := by
  refine ⟨fun pins s σ H Q I h => ?_⟩
  refine wpAny_FormattedValue_spec (thn (he.run pins s σ H _ I h) fun v s1 hv => ?_)
  obtain ⟨x, H1, I1, r1, a, rfl, hz, q⟩ := hv
  obtain ⟨t, rfl⟩ := r1
  have hb : PE X (.JoinedStr [.Constant (.str "b") k p] p2) (tC (.str "b")) := pe_fs1 pe_str
  refine thn (hb.run pins s1 σ H1 (fun y H2 => y = .str "b" ∧ H2 = H1) I1 ⟨rfl, rfl⟩) fun w s2 hw => ?_
  obtain ⟨y, H2, I2, r2, ey, eH⟩ := hw
  subst ey eH
  obtain ⟨t2, rfl⟩ := r2
  exact ⟨_, t2, rfl, Fb.formatField_b hz ⟨.str (Fb.binT a), _, I2.tok _, ⟨_, rfl⟩, q⟩⟩
end L2
set_option maxRecDepth 100000
namespace L2
open PySem PySem.Spec PyProof.Rows
/-! z[lo:hi:k] of a text -/
def cutX (z : Str) (lo hi : Option Int) (k : Int) : Str := ⟨((Builtin.Str.strSliceIndices lo hi k z.length).filterMap (z.cps[·]?)).toArray⟩
theorem cutX_len (z : Str) (lo hi : Option Int) (k : Int) (h0 : k ≠ 0) : (cutX z lo hi k).length ≤ z.length := by
  have h1 := PySem.sliceIndicesBy_le lo hi k h0 z.length
  have h2 := List.length_filterMap_le (z.cps[·]?) (Builtin.Str.strSliceIndices lo hi k z.length)
  show (((Builtin.Str.strSliceIndices lo hi k z.length).filterMap (z.cps[·]?)).toArray).size ≤ _
  rw [List.size_toArray]
  exact Nat.le_trans h2 h1
def tSlX (te : TE) (tl th ts : St → Hp → (Option Int → Hp → Prop) → Prop) : TE := fun σ H Q => te σ H fun x H1 => tl σ H1 fun lo H2 => th σ H2 fun hi H3 => ts σ H3 fun o H4 => ∃ (z : Str) (k : Int), x = .str z ∧ o = some k ∧ k ≠ 0 ∧ z.length ≤ sizeLine ∧
  (k = 1 → (Builtin.Str.strSliceIndices lo hi k z.length).length = z.length → cutX z lo hi k = z) ∧ Q (.str (cutX z lo hi k)) H4
theorem pe_slX {X : Cx} {e st : Expr} {lo hi : Option Expr} {te : TE} {tl th ts : St → Hp → (Option Int → Hp → Prop) → Prop} {p3 pos : Pos} (he : PE X e te) (hl : PO X lo tl) (hh : PO X hi th) (hst : PO X (some st) ts)
    (htl : ∀ (v : Value) (a : Addr) (s : Shared), True := by intros; trivial) :
    PE X (.Subscript e (.Slice lo hi (some st) p3) pos) (tSlX te tl th ts) := by
  refine ⟨fun pins s σ H Q I h => ?_⟩
  refine Subscript_ (thn (he.run pins s σ H _ I h) fun v s1 ⟨x, H1, I1, r1, q1⟩ => ?_)
  refine wpAny_Slice (thn (hl.run pins s1 σ H1 _ I1 q1) fun vl s2 ⟨l, H2, I2, pl, q2⟩ => ?_)
  refine thn (hh.run pins s2 σ H2 _ I2 q2) fun vu s3 ⟨u, H3, I3, pu, q3⟩ => ?_
  refine thn (hst.run pins s3 σ H3 _ I3 q3) fun vs s4 ⟨o, H4, I4, ps, q4⟩ => ?_
  obtain ⟨z, k, ex, eo, k0, hz, hw, q⟩ := q4
  subst ex eo
  obtain ⟨t, rfl⟩ := r1
  have I5 : Inv X pins σ H4 { s4 with heap := s4.heap.push { cls := .type "slice", data := .fields #[vl, vu, vs] } } := I4.kept (t' := s4.toks) fun b ob q => Heap.get?_push_of_some _ q
  show wpAny (model X.prog X.w) X.A (subscriptTail e (.Slice lo hi (some st) p3) (.str z t) (.ref s4.heap.objs.size)) (EP X pins σ Q) X.xe { s4 with heap := s4.heap.push { cls := .type "slice", data := .fields #[vl, vu, vs] } }
  refine tail_any (ops := [.str z t, .ref s4.heap.objs.size]) (typeIs_str _ _ _) (PySem.F.slot_str_getitem.lookup) ?_ (by with_unfolding_all rfl)
  obtain ⟨l', rfl, rfl⟩ := IsPart.raw pl
  obtain ⟨u', rfl, rfl⟩ := IsPart.raw pu
  obtain ⟨k', rfl, hk⟩ := IsPart.raw ps
  refine wpAny_getItem_str_slice (l := l') (u := u') (st := k') ⟨_, Heap.get?_push_size _ rfl, rfl, rfl⟩ (by rw [hk]; simpa using k0) ?_
  have hlen : (cutX z (l'.map (·.1)) (u'.map (·.1)) k).length ≤ sizeLine := Nat.le_trans (cutX_len z _ _ k k0) hz
  unfold sliceMade slicePicked
  rw [hk]
  show Made.post (if (k == 1 && (Builtin.Str.strSliceIndices (l'.map (·.1)) (u'.map (·.1)) k z.length).length == z.length) = true then Made.val (.str z t)
    else Made.str (cutX z (l'.map (·.1)) (u'.map (·.1)) k)) (EP X pins σ Q) _
  by_cases c : (k == 1 && (Builtin.Str.strSliceIndices (l'.map (·.1)) (u'.map (·.1)) k z.length).length == z.length) = true
  · rw [if_pos c]
    obtain ⟨c1, c2⟩ := Bool.and_eq_true_iff.mp c
    rw [hw (beq_iff_eq.mp c1) (beq_iff_eq.mp c2)] at q
    exact ⟨.str z, H4, I5, ⟨t, rfl⟩, q⟩
  · rw [if_neg c]
    exact ⟨hlen, .str _, H4, I5.tok _, ⟨_, rfl⟩, q⟩
end L2
set_option maxRecDepth 100000
namespace L2
open PySem PySem.Spec PyProof.Rows
/-! an instance called, by place and by keywords; readings that don't know the context -/
def tCallI (C : Addr) (sp : Sp) (E : XK) (tf : TE) (t : TA) : TE := fun σ H Q => tf σ H fun y H1 => ∃ a, y = V.ref a ∧ t σ H1 fun vs H2 => (∃ dx fs, H2 a = some (.ins C dx fs)) ∧ sp (V.ref a :: vs) H2 Q E
def tCallIK (m : Nat) (C : Addr) (sp : Sp) (gV : List V → List V → List V) (E : XK) (tf : TE) (tk : TA) : TE := fun σ H Q => tf σ H fun y H1 => ∃ a, y = V.ref a ∧ tk σ H1 fun zs H2 => zs.length = m ∧ (∃ dx fs, H2 a = some (.ins C dx fs)) ∧ sp (gV [V.ref a] zs) H2 Q E
section
variable {X : Cx} {CX : CXT} {k n : Nat} {g C : Addr} {fd : FuncData} {ps ks : List Str} {sp : Sp} {E : XK} {e fe : Expr} {es : List Expr} {te tf : TE} {t tk : TA} {pos : Pos} {kws : List Keyword} {gg : List Value → List Value → List Value} {gV : List V → List V → List V}
theorem pe_callI (hf : PE X fe tf) (c : StX.CallO X.K C g) (F : FnR X.prog X.w X.K X.mg X.base CX k g sp) (hr : Room k X.A) (hx : Passes CX X E) (ha : PA X (e :: es) t)
    (ht : eval (.Call fe (e :: es) [] pos) X.env = (do callWith pos (← eval fe X.env) [] (backTo pos (starEach (e :: es) X.env)) (backToKw pos (keywordEach [] X.env))) := by rfl)
    (he : starEach (e :: es) X.env = (false, eval e X.env) :: starEach es X.env := by rfl) (hpl : (backTo pos (starEach es X.env)).any (·.1) = false := by rfl) : PE X (.Call fe (e :: es) [] pos) (tCallI C sp E tf t) := by
  refine ⟨fun pins s σ H Q I h => ?_⟩
  refine Call_ (thn (hf.run pins s σ H _ I h) fun u s1 ⟨y, H1, I1, ry, a, ey, q⟩ => ?_) ht
  subst ey
  obtain rfl : u = Value.ref a := ry
  refine StX.callO_with (thn (ha.run pos pins s1 σ H1 _ I1 q) fun us s2 ⟨vs, H2, I2, r, hi, q2⟩ => ?_) he hpl
  obtain ⟨ox, od, J, hd⟩ := StX.insC_at I2 (.inr hi)
  exact ⟨⟨C, ox, od, J, hd⟩, StX.run_callO c F hr hx I2 (.inr hi) r q2⟩
theorem callOK_of {M : Model} {A : Around} {E : Value → Shared → Prop} {s : Shared} {a : Addr} {pos : Pos} {Q : Value → Shared → Prop} {args : List (Bool × Sem Value)} {keywords : List (Option Str × Sem Value)} (hplain : (args.any (·.1) || keywords.any (·.1.isNone)) = false)
    (h : wpAny M A (evalArgs (.ref a) true args keywords) (fun z s₁ => (∃ C ox od, PySem.W.InstAt s₁.heap a ox C od ∧ ox.data = .plain) ∧ wpAny M A (call (.ref a) ([] ++ z.pos) z.kw) Q E s₁) E s) : wpAny M A (callWith pos (.ref a) [] args keywords) Q E s := by
  unfold callWith
  refine wpAny_bind (wpAny_holding (wpAny_mono h (fun z s₁ h₁ => wpAny_bind (wpAny_standAt ?_)) fun _ _ y => y))
  obtain ⟨⟨C, ox, od, J, hd⟩, h₁⟩ := h₁
  have L := PySem.W.kco_keeper (M := M) J hd
  simp only [hplain]
  refine wpAny_bind (L.here ?_)
  have tail : ∀ {t : Sem Value}, wpAny M A t Q E s₁ → wpAny M A (t >>= fun r => holding [r] point >>= fun _ => pure r) Q E s₁ :=
    fun ht => wpAny_bind (wpAny_mono ht (fun r s₂ hr => wpAny_bind (wpAny_holding (wpAny_point (wpAny_pure hr)))) fun _ _ y => y)
  exact tail (wpAny_operateT h₁)
theorem pe_callIK0 (hf : PE X fe tf) (c : StX.CallO X.K C g) (F : FnOk X.prog X.w X.K X.mg X.base CX k g fd ps sp) (hr : Room k X.A) (hb : KBn X.K fd ps 1 ks gg gV) (hx : Passes CX X E) (hkw : PK X kws tk)
    (ht : eval (.Call fe [] kws pos) X.env = (do callWith pos (← eval fe X.env) [] (backTo pos (starEach [] X.env)) (backToKw pos (keywordEach kws X.env))) := by rfl)
    (hall : (backToKw pos (keywordEach kws X.env)).all (·.1.isSome) = true := by rfl) (hks : (backToKw pos (keywordEach kws X.env)).filterMap (·.1) = ks := by rfl)
    (hpl : ((backTo pos (starEach [] X.env)).any (·.1) || (backToKw pos (keywordEach kws X.env)).any (·.1.isNone)) = false := by rfl) : PE X (.Call fe [] kws pos) (tCallIK ks.length C sp gV E tf tk) := by
  refine ⟨fun pins s σ H Q I h => ?_⟩
  rw [ht]
  refine wpAny_bind (thn (hf.run pins s σ H _ I h) fun u s1 ⟨y, H1, I1, ry, a, ey, q⟩ => ?_)
  subst ey
  obtain rfl : u = Value.ref a := ry
  refine callOK_of hpl (evalArgs_kw2_nil hall (thn (hkw.run pos pins s1 σ H1 _ I1 q) fun ws s2 hh => ?_))
  obtain ⟨zs, H2, I2, rz, l2, hi, q2⟩ := hh
  obtain ⟨ox, od, J, hd⟩ := StX.insC_at I2 (.inr hi)
  refine ⟨⟨C, ox, od, J, hd⟩, ?_⟩
  rw [hks]
  have r : Vals [V.ref a] [Value.ref a] := .cons rfl .nil
  have r2 := hb.rel r rz
  refine wpAny_call (PySem.W.kco_code I2.kIn J hd c.at_ c.fn c.fi (codeAny_mono (F.run X.A X.stack s2 H2 ⟨[.ref a], ks.zip ws⟩ (gg [.ref a] ws) (gV [.ref a] zs) Q E hr I2.env0 (hb.to s2 [.ref a] ws I2.kIn rfl (rz.length.symm.trans l2)) r2 q2) fun r s' hq => ?_))
  cases r with
  | error e => exact hx pins σ H2 s2 e s' I2 hq
  | ok fl =>
    cases fl with
    | ret u => exact I2.after hq
    | next => exact False.elim hq
    | brk => exact False.elim hq
    | cont => exact False.elim hq
end
/-- what the top has written of a class whose instances are called -/
def callOB (K : PySem.W.Frag) (C : Addr) : Bool := decide (PySem.W.findIn K (.ref C) "__call__" = some (some (.ref (He.ma K C "__call__")))) && (PySem.W.isFn K (.ref (He.ma K C "__call__")) && PySem.W.fnIn K (He.ma K C "__call__"))
theorem callO_of {K : PySem.W.Frag} {C : Addr} (h : callOB K C = true) : StX.CallO K C (He.ma K C "__call__") := by
  obtain ⟨h1, h2⟩ := He.ba h
  obtain ⟨h3, h4⟩ := He.ba h2
  exact ⟨of_decide_eq_true h1, h3, h4⟩
end L2
set_option maxRecDepth 100000
namespace L2
open PySem PySem.Spec PyProof.Rows
/-! operators of an own class: a op b, -a; math.lcm -/
section
variable {X : Cx} {pins : List (Addr × Obj)} {σ : St} {H : Hp} {s : Shared}
theorem plain_looks {y : V} {u : Value} {S : String} (I : Inv X pins σ H s) (ry : RelV y u) (h : Plain X.K H y S) (M : Model) : PySem.W.Looks M s.heap (typeOf u) (.type S) := by
  have at_ : ∀ {a : Addr} {o : Obj} {T : String}, s.heap.get? a = some o → o.cls = .type T → PySem.W.Looks M s.heap (typeOf (.ref a)) (.type T) := fun e c => by
    rw [← c]
    exact (PySem.W.Looks.ld e).andThen .now
  cases h with
  | non => cases (show u = Value.none from ry); exact .of_pure rfl
  | bl b => cases (show u = Value.bool b from ry); exact .of_pure rfl
  | int i => obtain ⟨t, rfl⟩ := (show ∃ t, u = Value.int i t from ry); exact .of_pure rfl
  | str z => obtain ⟨t, rfl⟩ := (show ∃ t, u = Value.str z t from ry); exact .of_pure rfl
  | @lst a xs e =>
    cases (show u = Value.ref a from ry)
    obtain ⟨_, _, n, _, h1⟩ := (show ObjOk X.prog X.w H s.heap a (.lst xs) from I.hok a _ e)
    exact at_ h1 rfl
  | @tup a xs e =>
    cases (show u = Value.ref a from ry)
    obtain ⟨_, _, _, o, h1, h2, _⟩ := (show ObjOk X.prog X.w H s.heap a (.tup xs) from I.hok a _ e)
    exact at_ h1 h2
  | @dK a kvs e =>
    cases (show u = Value.ref a from ry)
    obtain ⟨_, _, _, _, o, _, _, h1, h2, _⟩ := (show ObjOk X.prog X.w H s.heap a (.dK kvs) from I.hok a _ e)
    exact at_ h1 h2.1
theorem plain_name {K : PySem.W.Frag} {y : V} {S : String} (h : Plain K H y S) : S ∈ ["NoneType", "bool", "int", "str", "list", "tuple", "dict"] := by cases h <;> decide
end
abbrev plainTys : List String := ["NoneType", "bool", "int", "str", "list", "tuple", "dict"]
theorem mro_none : fastBuiltinMro "NoneType" = some [.type "NoneType", .type "object"] := by decide +kernel
theorem mro_bool : fastBuiltinMro "bool" = some [.type "bool", .type "int", .type "object"] := by decide +kernel
theorem mro_int : fastBuiltinMro "int" = some [.type "int", .type "object"] := by decide +kernel
theorem mro_str : fastBuiltinMro "str" = some [.type "str", .type "object"] := by decide +kernel
theorem mro_list : fastBuiltinMro "list" = some [.type "list", .type "object"] := by decide +kernel
theorem mro_tuple : fastBuiltinMro "tuple" = some [.type "tuple", .type "object"] := by decide +kernel
theorem mro_dict : fastBuiltinMro "dict" = some [.type "dict", .type "object"] := by decide +kernel
theorem sub_no (K : PySem.W.Frag) (C : Addr) : ∀ S ∈ plainTys, PySem.W.subIn K (.type S) (.ref C) = some false := by
  intro S hS
  simp only [List.mem_cons, List.not_mem_nil, or_false] at hS
  rcases hS with rfl | rfl | rfl | rfl | rfl | rfl | rfl <;> simp [PySem.W.subIn, mro_none, mro_bool, mro_int, mro_str, mro_list, mro_tuple, mro_dict]
def opTys (nm : String) : Bool := plainTys.all fun S => (fastLookup S (PySem.dunder nm)).isSome && (fastLookup S (dunderR nm)).isSome
theorem op_tys (K : PySem.W.Frag) (C : Addr) {nm : String} (h : opTys nm = true) : ∀ S ∈ plainTys, (PySem.W.findIn K (.type S) (PySem.dunder nm)).isSome = true ∧ (PySem.W.findIn K (.type S) (dunderR nm)).isSome = true ∧ PySem.W.subIn K (.type S) (.ref C) = some false := fun S hS => by
  have := List.all_eq_true.mp h S hS
  obtain ⟨h1, h2⟩ := Bool.and_eq_true_iff.mp this
  exact ⟨h1, h2, sub_no K C S hS⟩
theorem ot_add : opTys "add" = true := by decide +kernel
theorem ot_mul : opTys "mul" = true := by decide +kernel
theorem ot_lshift : opTys "lshift" = true := by decide +kernel
theorem ot_or : opTys "or" = true := by decide +kernel
theorem ot_and : opTys "and" = true := by decide +kernel
theorem ot_xor : opTys "xor" = true := by decide +kernel
theorem ot_sub : opTys "sub" = true := by decide +kernel
/-- the class has this operator of its own, and none the other way about -/
structure OwnOp (K : PySem.W.Frag) (C f : Addr) (nm : String) : Prop where
  at_ : PySem.W.findIn K (.ref C) (PySem.dunder nm) = some (some (.ref f))
  fn : PySem.W.isFn K (.ref f) = true
  first : PySem.W.selfFirst K C = true
  back : PySem.W.findIn K (.ref C) (dunderR nm) = some none
def ownOpB (K : PySem.W.Frag) (C : Addr) (nm m : Str) (r : Str) : Bool := He.eqO (PySem.W.findIn K (.ref C) m) (some (some (.ref (He.ma K C m)))) && (PySem.W.isFn K (.ref (He.ma K C m)) && (PySem.W.selfFirst K C && He.eqO (PySem.W.findIn K (.ref C) r) (some none)))
theorem ownOp_of {K : PySem.W.Frag} {C : Addr} {nm : String} {z m r : Str} (em : PySem.dunder nm = m) (er : dunderR nm = r) (h : ownOpB K C z m r = true) : OwnOp K C (He.ma K C m) nm := by
  obtain ⟨h1, h⟩ := He.ba h
  obtain ⟨h2, h⟩ := He.ba h
  obtain ⟨h3, h4⟩ := He.ba h
  exact ⟨by rw [em]; exact He.eqO_ok h1, h2, h3, by rw [er]; exact He.eqO_ok h4⟩
/-- the other thing: an instance of C too, or a plain value -/
def Oth (K : PySem.W.Frag) (C : Addr) (H : Hp) (y : V) : Prop := (∃ b dx fs, y = .ref b ∧ H b = some (.ins C dx fs)) ∨ ∃ S, Plain K H y S
def rOwnOp (K : PySem.W.Frag) (C : Addr) (sp : Sp) (E : XK) : R2 := fun x y H Q => ∃ (a dx : Addr) (fs : List (Str × V)), x = .ref a ∧ H a = some (.ins C dx fs) ∧ Oth K C H y ∧ sp [x, y] H Q E
def rOwnUn (C : Addr) (sp : Sp) (E : XK) : V → Hp → VK → Prop := fun x H Q => ∃ (a dx : Addr) (fs : List (Str × V)), x = .ref a ∧ H a = some (.ins C dx fs) ∧ sp [x] H Q E
section
variable {X : Cx} {CX : CXT} {n : Nat} {C f : Addr} {sp : Sp} {E : XK}
theorem no_ni {pins : List (Addr × Obj)} {σ : St} {Q : VK} {v : Value} {s : Shared} (h : EP X pins σ Q v s) : PySem.W.CmpBack (EP X pins σ Q) v s := by
  obtain ⟨x, H', I', r, q⟩ := id h
  cases x <;> first
    | (obtain ⟨t, rfl⟩ := (show ∃ t, v = _ from r); exact h)
    | (cases (show v = _ from r); exact h)
theorem own_bin {prog : Program} {w : World} {A : Around} {Er : Value → Shared → Prop} {s : Shared} {K : PySem.W.Frag} {x C f : Addr} {ox : Obj} {od : Option Obj} {op : Operator} {b : Value} {T : String} {fo ro : Option Value} {Q : Value → Shared → Prop}
    (Y : K.In s.heap) (J : PySem.W.InstAt s.heap x ox C od) (o : OwnOp K C f op.info.2) (hb : PySem.W.Looks (model prog w) s.heap (typeOf b) (.type T))
    (h1 : PySem.W.findIn K (.type T) (PySem.dunder op.info.2) = some fo) (h2 : PySem.W.findIn K (.type T) (dunderR op.info.2) = some ro) (hsub : PySem.W.subIn K (.type T) (.ref C) = some false)
    (h : wpAny (model prog w) A (call (.ref f) [.ref x, b]) (PySem.W.CmpBack Q) Er s) : wpAny (model prog w) A (binaryOp op (.ref x) b) Q Er s := by
  obtain ⟨cd, rest, hcd, hm⟩ := PySem.W.ksp_first o.first
  obtain ⟨o1, o2, _, o4⟩ := o
  rcases hi : op.info with ⟨sy, nm⟩
  simp only [hi] at o1 o4 h1 h2
  have one := PySem.W.ksp_try Y J o1 o2 h
  obtain ⟨hh, g, d, tt, os⟩ := s
  have k1 : PySem.W.Looks (model prog w) hh (typeOf (.ref x)) (.ref C) := J.type
  have k3 := PySem.W.fills_K (M := model prog w) Y hcd hm o1
  have k4 := PySem.W.ksp_fillsT (M := model prog w) Y h1 h2
  have k5 : PySem.W.Looks (model prog w) hh (isSubtype (.type T) (.ref C)) false := PySem.W.looks_subIn Y hsub
  have k6 := PySem.W.ksp_inPy (M := model prog w) Y o1 o4 (.inl rfl)
  have k7 : PySem.W.Looks (model prog w) hh (numberSlotInPython (.type T) nm) false := .of_pure rfl
  have k8 : PySem.W.Looks (model prog w) hh (typeLookup (.type T) (dunderR nm)) ro := PySem.W.looks_findIn Y h2
  have ne : (Value.ref C == Value.type T) = false := Bool.eq_false_iff.mpr fun q => nomatch beq_iff_eq.mp q
  generalize ((fo.isSome && !isSeqSlot fo) || (ro.isSome && !isSeqSlot ro)) = rt at k4
  simp only [binaryOp, hi]
  refine wpAny_holding (wpAny_bind ?_)
  unfold binaryOp1
  refine wpAny_bind (k1.at (wpAny_bind (hb.at (wpAny_bind (k3.at ?_)))))
  simp only [ne, Bool.false_eq_true, if_false]
  cases rt <;>
  · ksp_lk
    refine wpAny_mono one (fun r s' z => ?_) fun _ _ e => e
    obtain ⟨v, rfl, hq⟩ := z
    ksp_lk
    exact hq
theorem op_own {op : Operator} (F : FnR X.prog X.w X.K X.mg X.base CX n f sp) (o : OwnOp X.K C f op.info.2) (hT : opTys op.info.2 = true)
    (hr : Room n X.A) (hx : Passes CX X E) : OpR X (binaryOp op) (rOwnOp X.K C sp E) := by
  intro pins s σ H x y v u Q I rx ry hq
  obtain ⟨a, dx, fs, rfl, ha, hy, hsp⟩ := hq
  cases rx
  obtain ⟨mA, J, _⟩ := ins_get I.hok ha
  obtain ⟨od, J, _⟩ := J.look
  obtain ⟨m, hF⟩ := I.fr
  have run := wpAny_call (run_fnR (us := [.ref a, u]) (vs := [.ref a, y]) F hr hx I (.cons rfl (.cons ry .nil)) hsp)
  have back : wpAny (model X.prog X.w) X.A (call (.ref f) [.ref a, u]) (PySem.W.CmpBack (EP X pins σ Q)) X.xe s := wpAny_mono run (fun _ _ z => no_ni z) fun _ _ z => z
  rcases hy with ⟨b, dx2, fs2, rfl, hb⟩ | ⟨S, hp⟩
  · cases ry
    obtain ⟨mB, JB, _⟩ := ins_get I.hok hb
    obtain ⟨ob, JB, _⟩ := JB.look
    exact PySem.W.binop_K hF I.ok.mod.kin J JB.type o.first o.at_ o.fn back
  · obtain ⟨h1, h2, h3⟩ := op_tys X.K C hT S (plain_name hp)
    obtain ⟨fo, e1⟩ := Option.isSome_iff_exists.mp h1
    obtain ⟨ro, e2⟩ := Option.isSome_iff_exists.mp h2
    exact own_bin I.kIn J o (plain_looks I ry hp _) e1 e2 h3 back
theorem un_own (F : FnR X.prog X.w X.K X.mg X.base CX n f sp) (h1 : PySem.W.findIn X.K (.ref C) "__neg__" = some (some (.ref f))) (h2 : PySem.W.isFn X.K (.ref f) = true) (hr : Room n X.A) (hx : Passes CX X E) : UnR X (unaryOp .USub) (rOwnUn C sp E) := by
  intro pins s σ H x v Q I rx hq
  obtain ⟨a, dx, fs, rfl, ha, hsp⟩ := hq
  cases rx
  obtain ⟨mA, J, _⟩ := ins_get I.hok ha
  obtain ⟨od, J, _⟩ := J.look
  obtain ⟨m, hF⟩ := I.fr
  exact PySem.W.ksp_neg hF I.ok.mod.kin J h1 h2 (wpAny_call (run_fnR (us := [.ref a]) (vs := [.ref a]) F hr hx I (.cons rfl .nil) hsp))
end
def rLcm : List V → Hp → VK → Prop := fun vs H Q => ∃ a b : Nat, vs = [.int (a : Int), .int (b : Int)] ∧ a < 2 ^ 64 ∧ b < 2 ^ 64 ∧ Q (.int ((Nat.lcm a b : Nat) : Int)) H
theorem cr_lcm {X : Cx} : CallR X (.builtin "math.lcm") rLcm := by
  intro pins s σ H vs us Q I r h
  obtain ⟨a, b, rfl, ha, hb, q⟩ := h
  obtain ⟨t, u, rfl⟩ := Vals.int2 r
  refine PySem.W.mc_lcm (by rw [Int.natAbs_natCast]; exact ha) (by rw [Int.natAbs_natCast]; exact hb) fun _ => ?_
  rw [Int.natAbs_natCast, Int.natAbs_natCast]
  exact ⟨.int _, H, I.tok _, ⟨_, rfl⟩, q⟩
/-! a range as a value, walked by its name -/
theorem cr_range1 {X : Cx} : CallR X (.type "range") (fun vs H Q => ∃ j, vs = [V.int j] ∧ ∀ p, H p = none → Q (.ref p) (upd H p (.rng 0 j))) := by
  intro pins s σ H vs us Q I r h
  obtain ⟨j, rfl, q⟩ := h
  cases r with
  | cons r rr =>
    cases rr
    obtain ⟨t, rfl⟩ := r
    refine call_range_1 ⟨.ref s.heap.objs.size, upd H s.heap.objs.size (.rng 0 j), I.laid (t' := _) (fun b o e => Heap.get?_push_of_some _ e) (Nat.le_refl _) ?_, rfl, q _ (I.hok.fresh (Nat.le_refl _))⟩
    exact ⟨_, _, _, Heap.get?_push_size _ rfl⟩
def iRngV (te : TE) : TI := fun σ H R => te σ H fun y H1 => ∃ (a : Addr) (lo hi : Int), y = .ref a ∧ H1 a = some (.rng lo hi) ∧ (-(2 ^ 62) ≤ lo ∧ lo < 2 ^ 62 ∧ -(2 ^ 62) ≤ hi ∧ hi < 2 ^ 62) ∧ R (Itr lo (hi - lo).toNat) H1
theorem pi_rng {X : Cx} {tg e : Expr} {te : TE} (he : PE X e te) : PI X tg e (iRngV te) := by
  refine ⟨fun pins s σ H R I h => thn (he.run pins s σ H _ I h) fun w s1 ⟨y, H1, I1, r1, a, lo, hi, ey, ea, ⟨b1, b2, b3, b4⟩, q⟩ => ?_⟩
  subst ey
  obtain rfl : w = Value.ref a := r1
  obtain ⟨t, u, v, ho⟩ := (show ObjOk X.prog X.w H1 s1.heap a (.rng lo hi) from I1.hok a _ ea)
  refine wpAny_pyIter_range (show IsRange s1.heap a lo hi 1 t u v from ho) (small_one b1 b2 b3 b4) ?_
  refine ⟨s1.heap.objs.size, [s1.heap.objs.size], _, _, H1, rfl, I1.kept (t' := s1.toks) fun b o e => Heap.get?_push_of_some _ e, turn_range _ lo (hi - lo).toNat, ?_, fun b hb => ?_, q⟩
  · have e1 : lo + ((0 : Nat) : Int) * 1 = lo := by simp
    have e2 : (((hi - lo).toNat : Nat) : Int) - ((0 : Nat) : Int) = Builtin.Range.rangeSize lo hi 1 := by
      rw [rangeSize_one]
      split <;> omega
    show IsRangeIter _ _ (lo + ((0 : Nat) : Int) * 1) ((((hi - lo).toNat : Nat) : Int) - ((0 : Nat) : Int)) 1
    rw [e1, e2]
    exact Heap.get?_push_size _ rfl
  · obtain rfl : b = s1.heap.objs.size := by simpa using hb
    exact I1.fpOk (Nat.le_refl _) (I1.hok.fresh (Nat.le_refl _))
end L2
set_option maxRecDepth 100000
namespace L2
open PySem PySem.Spec PyProof.Rows
/-! str of an instance with a text of its own -/
def rStrI (C : Addr) (sp : Sp) (E : XK) : List V → Hp → VK → Prop := fun xs H Q => ∃ (a dx : Addr) (fs : List (Str × V)), xs = [V.ref a] ∧ H a = some (.ins C dx fs) ∧ sp [V.ref a] H (fun v H' => ∃ z, v = V.str z ∧ Q (V.str z) H') E
section
variable {X : Cx} {CX : CXT} {n : Nat} {C f : Addr} {fd : FuncData} {ps : List Str} {sp : Sp} {E : XK}
theorem own_code1 {A : Around} {pins : List (Addr × Obj)} {σ : St} {H : Hp} {s : Shared} {a : Addr} {Q : VK} (F : FnOk X.prog X.w X.K X.mg X.base CX n f fd ps sp) (hb : Binds X.K fd ps []) (hr : Room n A) (fr : A.frames = X.A.frames) (hx : Passes CX X E) (I : Inv X pins σ H s)
    (h : sp [.ref a] H Q E) : codeAny (model X.prog X.w) A (.call (.ref f) ⟨[.ref a], []⟩) (fun r s' => match r with
      | .ok (.ret v) => EP X pins σ Q v s'
      | .ok _ => False
      | .error e => X.xe e s') s := by
  have e0 : Env0 X.prog X.w X.K X.mg X.base A X.stack s H := by
    have e := I.env0
    exact ⟨by rw [fr]; exact e.frames, e.mod, e.bs, e.bsz, e.funs, e.frf, e.hok, e.bare⟩
  have hl := F.len _ _ _ _ h
  have r2 : Vals [V.ref a] [Value.ref a] := .cons rfl .nil
  refine codeAny_mono (F.run A X.stack s H ⟨[.ref a], []⟩ [.ref a] [.ref a] _ E hr e0 (by
    have := hb s [.ref a] I.kIn (by simpa using hl)
    simpa using this) r2 h) fun r s' hq => ?_
  cases r with
  | error e => exact hx pins σ H s e s' I hq
  | ok fl =>
    cases fl with
    | ret w => exact I.after hq
    | next => exact False.elim hq
    | brk => exact False.elim hq
    | cont => exact False.elim hq
theorem call_strI (F : FnOk X.prog X.w X.K X.mg X.base CX n f fd ps sp) (hb : Binds X.K fd ps []) (hr : Room (n + 1) X.A) (h1 : PySem.W.findIn X.K (.ref C) "__str__" = some (some (.ref f))) (h2 : PySem.W.isFn X.K (.ref f) = true) (hx : Passes CX X E) : CallR X (.type "str") (rStrI C sp E) := by
  intro pins s σ H xs us Q I r hq
  obtain ⟨a, dx, fs, rfl, ha, hsp⟩ := hq
  cases r with
  | cons r rr =>
    cases rr
    cases r
    obtain ⟨mA, J, _⟩ := ins_get I.hok ha
    obtain ⟨od, J, _⟩ := J.look
    have hr2 : Room n X.A.in1.in1 := ⟨hr.hd, by have := hr.dp; show X.A.depth + 3 * n + 5 < _; omega, by have := hr.un; show X.A.units + 1 + 1 + 16 * n + 200 < _; omega⟩
    refine PySem.W.kso_call (by have := hr2.un; omega) I.kIn J h1 h2 (wpAny_call (codeAny_mono (own_code1 F hb hr2 rfl hx I hsp) fun r s' z => ?_))
    cases r with
    | error e => exact z
    | ok fl =>
      cases fl with
      | ret w =>
        obtain ⟨v, H', I', rz, y, rfl, q⟩ := z
        obtain ⟨t, rfl⟩ := (show ∃ t, w = Value.str y t from rz)
        exact ⟨.str y, H', I', ⟨t, rfl⟩, q⟩
      | next => exact z.elim
      | brk => exact z.elim
      | cont => exact z.elim
end
/-- what the top has written of a class with a text of its own -/
def strB (K : PySem.W.Frag) (C : Addr) : Bool := He.eqO (PySem.W.findIn K (.ref C) "__str__") (some (some (.ref (He.ma K C "__str__")))) && PySem.W.isFn K (.ref (He.ma K C "__str__"))
theorem str_of {K : PySem.W.Frag} {C : Addr} (h : strB K C = true) : PySem.W.findIn K (.ref C) "__str__" = some (some (.ref (He.ma K C "__str__"))) ∧ PySem.W.isFn K (.ref (He.ma K C "__str__")) = true := by
  obtain ⟨h1, h2⟩ := He.ba h
  exact ⟨He.eqO_ok h1, h2⟩
end L2
set_option maxRecDepth 100000
namespace L2
open PySem PySem.Spec PyProof.Rows ClX
/-! a class method called by keywords -/
def tCMethK (C : Addr) (m : Nat) (sp : Sp) (gV : List V → List V → List V) (E : XK) (ta : TE) (tk : TA) : TE := fun σ H Q => ta σ H fun x H1 => x = .ref C ∧ tk σ H1 fun zs H2 => zs.length = m ∧ sp (gV [.ref C] zs) H2 Q E
section
variable {X : Cx} {CX : CXT} {k : Nat} {p g C : Addr} {mc : Value} {fd : FuncData} {ps ks : List Str} {m : Str} {sp : Sp} {E : XK} {o : Expr} {ta : TE} {tk : TA} {pos apos : Pos} {kws : List Keyword} {gg : List Value → List Value → List Value} {gV : List V → List V → List V}
theorem pe_cmethK {pl : Sem Bool} (he : PE X o ta) (r : CRead X.K C mc) (c : CMet X.K C mc m p g) (F : FnOk X.prog X.w X.K X.mg X.base CX k g fd ps sp) (hr : Room k X.A) (hb : KBn X.K fd ps 1 ks gg gV) (hx : Passes CX X E) (hkw : PK X kws tk)
    (hall : (backToKw pos (keywordEach kws X.env)).all (·.1.isSome) = true := by rfl) (hks : (backToKw pos (keywordEach kws X.env)).filterMap (·.1) = ks := by rfl)
    (hpl : ((backTo pos (starEach [] X.env)).any (·.1) || (backToKw pos (keywordEach kws X.env)).any (·.1.isNone)) = false := by rfl)
    (ht : eval (.Call (.Attribute o m apos) [] kws pos) X.env = (do
      let ov ← eval o X.env
      standAt apos.atName
      let (f, first) ← holding [ov] (getMethod ov m pl)
      callWith pos f first (backTo pos (starEach [] X.env)) (backToKw pos (keywordEach kws X.env))) := by rfl) :
    PE X (.Call (.Attribute o m apos) [] kws pos) (tCMethK C ks.length sp gV E ta tk) := by
  refine ⟨fun pins s σ H Q I h => ?_⟩
  refine PySem.W.methodCall_KW (pl := pl) (thn (he.run pins s σ H _ I h) fun u s1 ⟨x, H1, I1, rx, ex, q⟩ => ?_) ht
  subst ex
  obtain rfl : u = Value.ref C := rx
  refine getmethcm_ok I1 r c fun s2 I2 => ?_
  refine PySem.W.callWith_of hpl (PySem.W.keeps_M (K := X.K) (self := .ref C) c.fi) (evalArgs_kw2_nil hall (thn (hkw.run pos _ s2 σ H1 _ I2 q) fun ws s3 ⟨zs, H2, I3, rz, l2, q2⟩ => ?_))
  refine ⟨⟨pin_at I3, I3.kIn⟩, ?_⟩
  rw [hks]
  have rr : Vals [V.ref C] [Value.ref C] := .cons rfl .nil
  have r2 := hb.rel rr rz
  have z : wpAny (model X.prog X.w) X.A (call (.ref s1.heap.objs.size) [] (ks.zip ws)) (EP X ((s1.heap.objs.size, PySem.W.methodObj (.ref g) (.ref C)) :: pins) σ Q) X.xe s3 := by
    refine wpAny_call (PySem.W.method_call (pin_at I3) (codeAny_mono (F.run X.A X.stack s3 H2 ⟨[.ref C], ks.zip ws⟩ (gg [.ref C] ws) (gV [.ref C] zs) Q E hr I3.env0 (hb.to s3 [.ref C] ws I3.kIn rfl (rz.length.symm.trans l2)) r2 q2) fun r s' hq => ?_))
    cases r with
    | error e => exact hx _ σ H2 s3 e s' I3 hq
    | ok fl =>
      cases fl with
      | ret u => exact I3.after hq
      | next => exact False.elim hq
      | brk => exact False.elim hq
      | cont => exact False.elim hq
  exact thn z fun _ _ y => unpinE y
end
end L2
set_option maxRecDepth 100000
set_option maxHeartbeats 2000000
/-! own classes: __iter__ that gives a tuple's iterator, __len__, __contains__; C(*xs) -/
namespace L2
open PySem PySem.Spec PyProof.Rows
/-! a heap made longer by freed places: nothing else is said of it -/
def hole : Obj := { cls := .none, data := .freed }
def longer (h : Heap) (n : Nat) : Heap := ⟨h.objs ++ Array.replicate (n - h.objs.size) hole, h.life⟩
theorem longer_get (h : Heap) (n : Nat) (b : Addr) : (longer h n).get? b = h.get? b := by
  unfold longer Heap.get?
  by_cases c : b < h.objs.size
  · rw [show (⟨h.objs ++ Array.replicate (n - h.objs.size) hole, h.life⟩ : Heap).objs[b]? = h.objs[b]? from Array.getElem?_append_left c]
  · have c2 : h.objs.size ≤ b := Nat.le_of_not_lt c
    rw [show (⟨h.objs ++ Array.replicate (n - h.objs.size) hole, h.life⟩ : Heap).objs[b]? = (Array.replicate (n - h.objs.size) hole)[b - h.objs.size]? from Array.getElem?_append_right c2]
    rw [Array.getElem?_eq_none (xs := h.objs) c2, Array.getElem?_replicate]
    by_cases c3 : b - h.objs.size < n - h.objs.size
    · rw [if_pos c3]
      rfl
    · rw [if_neg c3]
theorem longer_size {h : Heap} {n : Nat} (l : h.objs.size ≤ n) : (longer h n).objs.size = n := by
  show (h.objs ++ Array.replicate (n - h.objs.size) hole).size = n
  rw [Array.size_append, Array.size_replicate]
  omega
theorem funs_longer {h base : Heap} {n : Nat} : ∀ {l : List Env}, h.FunFrames base l → h.FunFrames (longer base n) l
  | [], _ => trivial
  | _ :: _, ⟨hk, ⟨L, o, hf, hn, ho, hd⟩, hr⟩ => ⟨hk, ⟨L, o, hf, by rw [longer_get]; exact hn, ho, hd⟩, funs_longer hr⟩
section
variable {P : Program} {w : World} {K : PySem.W.Frag} {mg : Str → Option Value} {base : Heap} {A : Around} {outer : List Env} {s : Shared} {H : Hp}
theorem env0_longer (e : Env0 P w K mg base A outer s H) : Env0 P w K mg (longer base s.heap.objs.size) A outer s H := by
  have kp : ∀ b o, base.get? b = some o → (longer base s.heap.objs.size).get? b = some o := fun b o q => by
    rw [longer_get]
    exact q
  obtain ⟨mb, m1, m2⟩ := e.mod.blt
  obtain ⟨mc, n1, n2⟩ := e.mod.nolimit
  exact ⟨e.frames, ⟨e.mod.kin.keeps kp, e.mod.glob.keeps kp, ⟨mb, m1.keeps kp, m2⟩, ⟨mc, n1.keeps kp, n2⟩⟩, fun b o q => e.bs b o (by rw [← longer_get base s.heap.objs.size]; exact q), by rw [longer_size e.bsz]; exact Nat.le_refl _, funs_longer e.funs, e.frf, e.hok, e.bare⟩
end
/-! iter(t) of a tuple -/
/-- at it a fresh iterator over the tuple at t -/
def TiO (t it : Addr) : HO := .ext fun h => h.IsTupleIter it t 0
theorem tiO_ok {P : Program} {w : World} {H : Hp} {h : Heap} {t it : Addr} (e : h.IsTupleIter it t 0) : ObjOk P w H h it (TiO t it) := by
  obtain ⟨o, e1, r⟩ := e
  exact ⟨⟨o, e1, r⟩, ⟨o, e1⟩, fun h1 h2 q k => by
    obtain ⟨o2, f1, f2⟩ := q
    exact ⟨o2, k _ f1, f2⟩⟩
def rIterT (K : PySem.W.Frag) (base : Heap) : List V → Hp → VK → Prop := fun xs H Q => ∃ (t : Addr) (zs : List V), xs = [.ref t] ∧ SqT K H t zs ∧ ∀ it, H it = Option.none → base.objs.size ≤ it → Q (.ref it) (upd H it (TiO t it))
theorem call_iterT {X : Cx} : CallR X (.builtin "iter") (rIterT X.K X.base) := by
  intro pins s σ H xs us Q I r h
  obtain ⟨t, zs, rfl, hq, q⟩ := h
  obtain ⟨u, rfl, ru⟩ := vals1 r
  cases ru
  obtain ⟨its, rv, pl, hz⟩ := I.tuple hq
  refine Calls.call_function_entry (by decide +kernel) (by decide +kernel) PySem.W.kdk_entry_iter (PySem.W.kdk_args_iter _) ?_
  unfold Builtin.«iter»
  refine wpAny_bind (m := someArgs "iter" 1 2 _) (wpAny_of_eq (a := [Value.ref t]) (by first | rfl | kernel_rfl!) ?_)
  show wpAny _ _ (pyIter (.ref t) >>= _) _ _ _
  refine wpAny_bind (wpAny_pyIter_tuple (show s.heap.IsTuple t its.toArray from pl) (wpAny_pure ⟨_, rfl, ?_⟩))
  exact ⟨.ref s.heap.objs.size, _, I.laid (t' := s.toks) (fun b u e => Heap.get?_push_of_some _ e) (Nat.le_refl _) (tiO_ok ⟨_, Heap.get?_push_size _ rfl, rfl, rfl⟩), rfl, q _ (I.hok.fresh (Nat.le_refl _)) I.env0.bsz⟩
section
variable {X : Cx} {CX : CXT} {n : Nat} {C f : Addr} {sp : Sp} {E : XK}
theorem own_codeR {A : Around} {pins : List (Addr × Obj)} {σ : St} {H : Hp} {s : Shared} {vs : List V} {us : List Value} {Q : VK} (F : FnR X.prog X.w X.K X.mg X.base CX n f sp) (hr : Room n A) (fr : A.frames = X.A.frames) (hx : Passes CX X E) (I : Inv X pins σ H s) (rv : Vals vs us)
    (h : sp vs H Q E) : codeAny (model X.prog X.w) A (.call (.ref f) ⟨us, []⟩) (fun r s' => match r with
      | .ok (.ret v) => EP X pins σ Q v s'
      | .ok _ => False
      | .error e => X.xe e s') s := by
  have e1 := I.env0
  have e0 : Env0 X.prog X.w X.K X.mg X.base A X.stack s H := ⟨fr.trans e1.frames, e1.mod, e1.bs, e1.bsz, e1.funs, e1.frf, e1.hok, e1.bare⟩
  refine codeAny_mono (F A X.stack s H us vs Q E hr e0 rv h) fun r s' hq => ?_
  match r, hq with
  | .error e, hq => exact hx pins σ H s e s' I hq
  | .ok (.ret _), hq => exact I.after hq
  | .ok .next, hq => exact hq.elim
  | .ok .brk, hq => exact hq.elim
  | .ok .cont, hq => exact hq.elim
/-! for x in o -/
/-- o.__iter__() hands out an iterator of a tuple; base: how long the heap was -/
def iOwn (K : PySem.W.Frag) (C : Addr) (sp : Heap → Sp) (E : XK) (te : TE) : TI := fun σ H R => te σ H fun y H1 => ∃ (a dx : Addr) (fs : List (Str × V)), y = .ref a ∧ H1 a = some (.ins C dx fs) ∧
  ∀ b : Heap, sp b [.ref a] H1 (fun v H' => ∃ (it t : Addr) (xs : List V), v = .ref it ∧ H1 it = Option.none ∧ b.objs.size ≤ it ∧ H' = upd H1 it (TiO t it) ∧ SqT K H1 t xs ∧ R (Itt K t) H1) E
theorem pi_own {tg e : Expr} {te : TE} (he : PE X e te) (h1 : PySem.W.findIn X.K (.ref C) "__iter__" = some (some (.ref f))) (h2 : PySem.W.isFn X.K (.ref f) = true) {sp : Heap → Sp} (F : ∀ b : Heap, FnR X.prog X.w X.K X.mg b CX n f (sp b)) (hr : Room n X.A) (hx : Passes CX X E) : PI X tg e (iOwn X.K C sp E te) := by
  refine ⟨fun pins s σ H R I h => ?_⟩
  refine thn (he.run pins s σ H _ I h) fun v s1 hh => ?_
  obtain ⟨y, H1, I1, r1, a, dx, fs, ey, ha, q⟩ := hh
  subst ey
  obtain rfl : v = Value.ref a := r1
  obtain ⟨mA, J, _⟩ := ins_get I1.hok ha
  obtain ⟨od, J, _⟩ := J.look
  obtain ⟨m0, hF⟩ := I1.fr
  refine PySem.W.owit_iter hF I1.ok.mod.kin J h1 h2 (wpAny_call ?_)
  have e0 := env0_longer I1.env0
  refine codeAny_mono (F _ X.A X.stack s1 H1 [.ref a] [.ref a] _ E hr e0 (.cons rfl .nil) (q _)) fun r s2 hq => ?_
  match r, hq with
  | .error e, hq => exact hx pins σ H1 s1 e s2 I1 hq
  | .ok .next, hq => exact hq.elim
  | .ok .brk, hq => exact hq.elim
  | .ok .cont, hq => exact hq.elim
  | .ok (.ret u), hq =>
    obtain ⟨v2, H2, I2, r2, it, t, xs, ev, hit, sz, eH, ht, qR⟩ := I1.after hq
    subst ev eH
    obtain rfl : u = Value.ref it := r2
    have x2 : s2.heap.IsTupleIter it t 0 := (I2.hok it _ upd_same).1
    have young : s1.heap.objs.size ≤ it := by
      rw [longer_size I1.env0.bsz] at sz
      exact sz
    have I3 := ItX.inv_drop I2 (φ := fun h => h.IsTupleIter it t 0) upd_same
    rw [ItX.dropH_upd hit] at I3
    unfold PySem.W.OwitIt
    refine wpAny_specialOf (name := Str.ofString "__next__") x2.typeIs PySem.F.slot_tuple_iterator_next.lookup ?_
    refine ⟨it, [it], _, Itt X.K t, H1, rfl, I3, turn_tuple t it, x2, fun b hb => ?_, qR⟩
    rw [List.mem_singleton.mp hb]
    have fo := ItX.inv_fp I2 (a := it) upd_same (Nat.le_trans I1.sz young)
    rw [ItX.dropH_upd hit] at fo
    exact fo
/-! len(o) -/
def rLenI (C : Addr) (sp : Sp) (E : XK) : List V → Hp → VK → Prop := fun xs H Q => ∃ (a dx : Addr) (fs : List (Str × V)), xs = [V.ref a] ∧ H a = some (.ins C dx fs) ∧ sp [V.ref a] H (fun v H' => ∃ i : Int, v = V.int i ∧ 0 ≤ i ∧ i < 2 ^ 63 ∧ Q (V.int i) H') E
theorem call_lenI (F : FnR X.prog X.w X.K X.mg X.base CX n f sp) (hr : Room (n + 1) X.A) (h1 : PySem.W.findIn X.K (.ref C) "__len__" = some (some (.ref f))) (h2 : PySem.W.isFn X.K (.ref f) = true) (hx : Passes CX X E) : CallR X (.builtin "len") (rLenI C sp E) := by
  intro pins s σ H xs us Q I r hq
  obtain ⟨a, dx, fs, rfl, ha, hsp⟩ := hq
  obtain ⟨u, rfl, ru⟩ := vals1 r
  cases ru
  obtain ⟨mA, J, _⟩ := ins_get I.hok ha
  obtain ⟨od, J, _⟩ := J.look
  obtain ⟨m0, hF⟩ := I.fr
  have hr2 : Room n X.A.in1 := ⟨hr.hd, by have := hr.dp; show X.A.depth + 3 * n + 5 < _; omega, by have := hr.un; show X.A.units + 1 + 16 * n + 200 < _; omega⟩
  refine PySem.W.len_K hF I.ok.mod.kin J h1 h2 (wpAny_call (codeAny_mono (own_codeR F hr2 rfl hx I (show Vals [V.ref a] [Value.ref a] from .cons rfl .nil) hsp) fun r s' z => ?_))
  match r, z with
  | .error e, z => exact z
  | .ok .next, z => exact z.elim
  | .ok .brk, z => exact z.elim
  | .ok .cont, z => exact z.elim
  | .ok (.ret u), z =>
    obtain ⟨v, H', I', rz, i, rfl, i0, i1, q⟩ := z
    obtain ⟨t, rfl⟩ := (show ∃ t, u = Value.int i t from rz)
    exact ⟨⟨i0, i1⟩, .int i, H', I'.tok _, ⟨_, rfl⟩, q⟩
/-! x in o -/
def rInI (C : Addr) (sp : Sp) (E : XK) (neg : Bool) : R2 := fun x y H Q => ∃ (a dx : Addr) (fs : List (Str × V)), y = V.ref a ∧ H a = some (.ins C dx fs) ∧ sp [V.ref a, x] H (fun v H' => ∃ b : Bool, v = V.bl b ∧ Q (V.bl (if neg then !b else b)) H') E
theorem op_inI (F : FnR X.prog X.w X.K X.mg X.base CX n f sp) (hr : Room n X.A) (h1 : PySem.W.findIn X.K (.ref C) "__contains__" = some (some (.ref f))) (h2 : PySem.W.isFn X.K (.ref f) = true) (hx : Passes CX X E) : OpR X (compareOp .In) (rInI C sp E false) := by
  intro pins s σ H x y v u Q I rx ry hq
  obtain ⟨a, dx, fs, rfl, ha, hsp⟩ := hq
  obtain rfl : u = Value.ref a := ry
  obtain ⟨mA, J, _⟩ := ins_get I.hok ha
  obtain ⟨od, J, _⟩ := J.look
  obtain ⟨m0, hF⟩ := I.fr
  refine PySem.W.in_K hF I.ok.mod.kin J h1 h2 (wpAny_call (codeAny_mono (own_codeR F hr rfl hx I (show Vals [V.ref a, x] [Value.ref a, v] from .cons rfl (.cons rx .nil)) hsp) fun r s' z => ?_))
  match r, z with
  | .error e, z => exact z
  | .ok .next, z => exact z.elim
  | .ok .brk, z => exact z.elim
  | .ok .cont, z => exact z.elim
  | .ok (.ret u), z =>
    obtain ⟨v, H', I', rz, b, rfl, q⟩ := z
    obtain rfl : u = Value.bool b := rz
    exact wpAny_pure ⟨.bl b, H', I', rfl, q⟩
/-! C(*xs) -/
def tMakeS (K : PySem.W.Frag) (C : Addr) (sp : Sp) (E : XK) (te : TE) : TE := fun σ H Q => te σ H fun y H1 => ∃ (a : Addr) (xs : List V), y = V.ref a ∧ (SqT K H1 a xs ∨ SqL K H1 a xs) ∧
  ∀ x dx, H1 x = Option.none → H1 dx = Option.none → dx ≠ x → sp (V.ref x :: xs) (upd (upd H1 dx (.own x)) x (.ins C dx [])) (fun v H2 => v = .non ∧ Q (.ref x) H2) E
theorem pe_makeS {x : Str} {e : Expr} {te : TE} {p sp_ pos : Pos} (M : Mk X.K C f) (F : FnR X.prog X.w X.K X.mg X.base CX n f sp) (hr : Room (n + 1) X.A) (hg : Gl X x) (hm : X.mg x = some (.ref C)) (hx : Passes CX X E) (he : PE X e te) (hd : (x == ("__debug__" : Str)) = false := by decide)
    (hst : starEach [.Starred e sp_] X.env = [(true, eval e X.env)] := by rfl) : PE X (.Call (.Name x p) [.Starred e sp_] [] pos) (tMakeS X.K C sp E te) := by
  refine ⟨fun pins s σ H Q I h => wpAny_Call_Name_kw (ld_glob I hg hm ?_ hd)⟩
  refine PySem.W.callWith_S (h₀ := X.base) I.ok.mod.kin M.kp (thn (he.run pins s σ H _ I h) fun v s1 hh => ?_) hst
  obtain ⟨y, H1, I1, ry, a, xs, ey, hxs, q⟩ := hh
  subst ey
  obtain rfl : v = Value.ref a := ry
  exact StX.star_any I1 hxs fun us s2 I2 rv => ⟨I2.kIn, StX.run_makeR M F hr hx I2 rv q⟩
/-- cls(*xs), cls a name of the def -/
def tMakeVS (i : Nat) (K : PySem.W.Frag) (C : Addr) (sp : Sp) (E : XK) (te : TE) : TE := fun σ H Q => σ[i]? = some (some (.ref C)) ∧ tMakeS K C sp E te σ H Q
theorem pe_makeVS {x : Str} {e : Expr} {te : TE} {p sp_ pos : Pos} {i : Nat} (M : Mk X.K C f) (F : FnR X.prog X.w X.K X.mg X.base CX n f sp) (hr : Room (n + 1) X.A) (hN : X.N[i]? = some x) (hv : Vis X.env.scope x) (hx : Passes CX X E) (he : PE X e te) (hd : (x == ("__debug__" : Str)) = false := by decide)
    (hcd : (x == ("__classdict__" : Str)) = false := by decide) (hst : starEach [.Starred e sp_] X.env = [(true, eval e X.env)] := by rfl) : PE X (.Call (.Name x p) [.Starred e sp_] [] pos) (tMakeVS i X.K C sp E te) := by
  refine ⟨fun pins s σ H Q I h => ?_⟩
  obtain ⟨hs, h⟩ := h
  refine wpAny_Call_Name_kw (thn ((pe_var (pos := p) (i := i) hN hv hd hcd).run pins s σ H (fun v H1 => v = .ref C ∧ H1 = H) I ⟨.ref C, hs, rfl, rfl⟩) fun u s1 hu => ?_)
  obtain ⟨v, H1, I1, r1, rfl, rfl⟩ := hu
  obtain rfl : u = Value.ref C := r1
  refine PySem.W.callWith_S (h₀ := X.base) I.ok.mod.kin M.kp (thn (he.run pins s1 σ _ _ I1 h) fun v s2 hh => ?_) hst
  obtain ⟨y, H2, I2, ry, a, xs, ey, hxs, q⟩ := hh
  subst ey
  obtain rfl : v = Value.ref a := ry
  exact StX.star_any I2 hxs fun us s3 I3 rv => ⟨I3.kIn, StX.run_makeR M F hr hx I3 rv q⟩
/-- C() -/
def tMakeR0 (C : Addr) (sp : Sp) (E : XK) : TE := fun σ H Q => ∀ x dx, H x = Option.none → H dx = Option.none → dx ≠ x → sp [V.ref x] (upd (upd H dx (.own x)) x (.ins C dx [])) (fun v H2 => v = .non ∧ Q (.ref x) H2) E
theorem pe_makeR0 {x : Str} {p pos : Pos} (M : Mk X.K C f) (F : FnR X.prog X.w X.K X.mg X.base CX n f sp) (hr : Room (n + 1) X.A) (hg : Gl X x) (hm : X.mg x = some (.ref C)) (hx : Passes CX X E) (hd : (x == ("__debug__" : Str)) = false := by decide) : PE X (.Call (.Name x p) [] [] pos) (tMakeR0 C sp E) := by
  refine ⟨fun pins s σ H Q I h => wpAny_Call_Name_kw (ld_glob I hg hm ?_ hd)⟩
  exact PySem.W.callWith_K0 (first := []) I.kIn M.kp (StX.run_makeR (us := []) (vs := []) M F hr hx I .nil h)
end
/-! defs with a star parameter, any number of values -/
theorem bindV_any {fd : FuncData} {pa pv : Str} (h0 : ∀ u, bindArgs fd ⟨[u], []⟩ = (newTuple [] >>= fun t => pure [(pa, u), (pv, t)])) (h1 : ∀ u a, bindArgs fd ⟨[u, a], []⟩ = (newTuple [a] >>= fun t => pure [(pa, u), (pv, t)]))
    (h2 : ∀ u a b r, bindArgs fd ⟨u :: a :: b :: r, []⟩ = (newTuple (a :: b :: r) >>= fun t => pure [(pa, u), (pv, t)])) (m : Nat) : BindV fd pa pv m := fun u rest _ => match rest with
  | [] => h0 u
  | [a] => h1 u a
  | a :: b :: r => h2 u a b r
theorem Fun.okS {P : Program} {w : World} {K : PySem.W.Frag} {mg : Str → Option Value} {base : Heap} {x qual : Str} {st : Stmt} {f : Addr} {fd : FuncData} {N : List Str} {pa pv : Str} {k : Nat} {sp : Sp} (F : Fun K x qual st f fd) (S : FnScope N [pa, pv] (defScope st)) (hb : BindV fd pa pv sizeLine)
    (hbody : ∀ (cdv : Value) (A : Around) (outer : List Env) (s : Shared) (H : Hp) (vs : List V) (Q : VK) (E : XK), Room k (A.deeper (envOfC qual (defScope st) s.heap.objs.size f cdv)) → sp vs H Q E →
      ∃ t, PSs (cxOf (L2.CX P w) P w K mg base N qual (defScope st) f cdv A outer s H E) (defBody st) t ∧ t { nx := fun _ H' => Q .non H', rt := Q } (start N vs) H) :
    FnR P w K mg base (L2.CX P w) (k + 1) f (fun vs H Q E => ∃ v rest, vs = v :: rest ∧ rest.length ≤ sizeLine ∧ ∀ p, H p = none → sp [v, .ref p] (upd H p (.tup rest)) Q E) := by
  obtain ⟨oc, od, kV, doc, pm, an, cdv, ct, osl, rfl, lk, hcd⟩ := F.ex
  exact fn_ofV lk hcd S (Nat.le_refl _) hb cxNew fun A outer s H vs Q E hr hsp => hbody cdv A outer s H vs Q E hr hsp
/-- what the top has written of a class's methods -/
def methB (K : PySem.W.Frag) (C : Addr) (m : Str) : Bool := He.eqO (PySem.W.findIn K (.ref C) m) (some (some (.ref (He.ma K C m)))) && PySem.W.isFn K (.ref (He.ma K C m))
theorem meth_of {K : PySem.W.Frag} {C : Addr} {m : Str} (h : methB K C m = true) : PySem.W.findIn K (.ref C) m = some (some (.ref (He.ma K C m))) ∧ PySem.W.isFn K (.ref (He.ma K C m)) = true := by
  obtain ⟨h1, h2⟩ := He.ba h
  exact ⟨He.eqO_ok h1, h2⟩
end L2
set_option maxRecDepth 100000
set_option maxHeartbeats 4000000
/-! set(xs) of a list of ints, sorted(set(xs)) -/
namespace L2
open PySem PySem.Spec PyProof.Rows
/-! the ascending list of a list's ints -/
def insU (k : Int) : List Int → List Int
  | [] => [k]
  | y :: r => if k < y then k :: y :: r else if k = y then y :: r else y :: insU k r
def sortU : List Int → List Int
  | [] => []
  | k :: r => insU k (sortU r)
theorem mem_insU {k x : Int} : ∀ {l : List Int}, x ∈ insU k l ↔ x = k ∨ x ∈ l
  | [] => by simp [insU]
  | y :: r => by
    have ih := mem_insU (k := k) (x := x) (l := r)
    unfold insU
    split
    · simp
    · split
      · rename_i h1 h2
        subst h2
        simp
      · simp only [List.mem_cons, ih]
        constructor
        · rintro (h | h | h)
          · exact .inr (.inl h)
          · exact .inl h
          · exact .inr (.inr h)
        · rintro (h | h | h)
          · exact .inr (.inl h)
          · exact .inl h
          · exact .inr (.inr h)
theorem mem_sortU {x : Int} : ∀ {l : List Int}, x ∈ sortU l ↔ x ∈ l
  | [] => Iff.rfl
  | k :: r => by
    show x ∈ insU k (sortU r) ↔ _
    rw [mem_insU, mem_sortU, List.mem_cons]
theorem insU_asc {k : Int} : ∀ {l : List Int}, l.Pairwise (· < ·) → (insU k l).Pairwise (· < ·)
  | [], _ => by simp [insU]
  | y :: r, h => by
    obtain ⟨h1, h2⟩ := List.pairwise_cons.mp h
    unfold insU
    split
    · rename_i c
      refine List.pairwise_cons.mpr ⟨fun z hz => ?_, h⟩
      rcases List.mem_cons.mp hz with rfl | hz
      · exact c
      · exact Int.lt_trans c (h1 z hz)
    · split
      · exact h
      · refine List.pairwise_cons.mpr ⟨fun z hz => ?_, insU_asc h2⟩
        rcases mem_insU.mp hz with rfl | hz
        · omega
        · exact h1 z hz
theorem sortU_asc : ∀ (l : List Int), (sortU l).Pairwise (· < ·)
  | [] => .nil
  | _ :: r => insU_asc (sortU_asc r)
/-- two ascending lists of the same ints are one -/
theorem asc_ext : ∀ {a b : List Int}, a.Pairwise (· < ·) → b.Pairwise (· < ·) → (∀ x, x ∈ a ↔ x ∈ b) → a = b
  | [], [], _, _, _ => rfl
  | [], y :: r, _, _, h => absurd ((h y).mpr List.mem_cons_self) (by simp)
  | x :: r, [], _, _, h => absurd ((h x).mp List.mem_cons_self) (by simp)
  | x :: r, y :: t, ha, hb, h => by
    obtain ⟨a1, a2⟩ := List.pairwise_cons.mp ha
    obtain ⟨b1, b2⟩ := List.pairwise_cons.mp hb
    have e : x = y := by
      rcases List.mem_cons.mp ((h x).mp List.mem_cons_self) with q | q
      · exact q
      · rcases List.mem_cons.mp ((h y).mpr List.mem_cons_self) with p | p
        · exact p.symm
        · have := a1 y p
          have := b1 x q
          omega
    subst e
    refine congrArg (x :: ·) (asc_ext a2 b2 fun z => ⟨fun hz => ?_, fun hz => ?_⟩)
    · rcases List.mem_cons.mp ((h z).mp (List.mem_cons_of_mem _ hz)) with q | q
      · have := a1 z hz
        omega
      · exact q
    · rcases List.mem_cons.mp ((h z).mpr (List.mem_cons_of_mem _ hz)) with q | q
      · have := b1 z hz
        omega
      · exact q
theorem sortU_id {l : List Int} (h : l.Pairwise (· < ·)) : sortU l = l := asc_ext (sortU_asc l) h fun _ => mem_sortU
theorem insU_len (k : Int) : ∀ (l : List Int), (insU k l).length ≤ l.length + 1
  | [] => Nat.le_refl _
  | y :: r => by
    have := insU_len k r
    unfold insU
    split
    · simp
    · split
      · simp
      · simp only [List.length_cons]
        omega
theorem sortU_len : ∀ (l : List Int), (sortU l).length ≤ l.length
  | [] => Nat.le_refl _
  | k :: r => by
    have h1 := insU_len k (sortU r)
    have h2 := sortU_len r
    show (insU k (sortU r)).length ≤ r.length + 1
    omega
theorem sortU_ne {l : List Int} (h : l ≠ []) : sortU l ≠ [] := fun z => by
  cases l with
  | nil => exact h rfl
  | cons x r =>
    have m : x ∈ sortU (x :: r) := mem_sortU.mpr List.mem_cons_self
    rw [z] at m
    cases m
theorem asc_nodup {l : List Int} (h : l.Pairwise (· < ·)) : l.Nodup := h.imp fun {a b} z e => by
  rw [e] at z
  exact absurd z (Int.lt_irrefl _)
theorem len_of_same {a b : List Int} (ha : a.Nodup) (hb : b.Nodup) (h : ∀ x, x ∈ a ↔ x ∈ b) : a.length = b.length :=
  ((List.perm_ext_iff_of_nodup ha hb).mpr h).length_eq
section
variable {P : Program} {w : World} {A : Around} {E : Value → Shared → Prop} {s : Shared}
/-- a set just made -/
abbrev emptyS (w : World) : Obj := { cls := .type "set", dict := none, data := .set #[] 0 (.fresh 0 0 (!w.params.followText "set-order")) }
/-- what has become of the state: the set of ns stands at a -/
def SetDone (w : World) (s : Shared) (ns : List Int) (u : Shared) : Prop := ∃ (g : Heap) (tk c : Nat), u = { s with heap := g, toks := tk } ∧ SetR w g s.heap.objs.size (fun j => decide (j ∈ ns)) c ∧ (∀ b o, s.heap.get? b = some o → g.get? b = some o)
set_option maxRecDepth 100000 in
theorem call_set_ints {l : Addr} {xs : Array Value} (ns : List Int) {Q : Value → Shared → Prop} (free : A.handled = none) (isl : s.heap.IsList l xs) (are : IntsAre xs.toList ns) (few : ns.length + 1 < scanBound)
    (h : ∀ u, SetDone w s ns u → Q (.ref s.heap.objs.size) u) : wpAny (model P w) A (call (.type "set") [.ref l]) Q E s := by
  have size : xs.size = ns.length := (Array.length_toList (xs := xs)).symm.trans are.length
  obtain ⟨mc, mt, em⟩ := F.called_set.mro
  have e1 := F.called_set.made
  have e2 := F.called_set.sub
  have e3 := F.called_set.notType
  have e4 := F.called_set.canCreate
  have e5 := F.typeCall_set_1 (.ref l)
  refine wpAny_call (codeAny_of_tree (show wpAny _ _ (callAny (.type "set") _) _ _ _ from wpAny_pure ⟨Code.quiet_builtin _ (by decide +kernel), codeAny_builtin F.entry_type_call ?_⟩))
  rw [Around.under_plain (weight_type_call_type "set" [.ref l] []) rfl]
  repeat (any_goals (first | assumption | wp_step))
  refine codeAny_mono (code_set_led1 (.ref l) (E := E) (Q₁ := fun y u => y = .ref s.heap.objs.size ∧ u = { s with heap := s.heap.push (emptyS w) }) ⟨rfl, rfl⟩) fun r u hr => ?_
  match r, hr with
  | .error e, hr => exact hr
  | .ok .next, hr => exact hr.elim
  | .ok .brk, hr => exact hr.elim
  | .ok .cont, hr => exact hr.elim
  | .ok (.ret y), ⟨ey, eu⟩ =>
    subst ey eu
    have got : (s.heap.push (emptyS w)).get? s.heap.objs.size = some (emptyS w) := Heap.get?_push_size _ rfl
    have isS : Shared.TypeIs { s with heap := s.heap.push (emptyS w) } (.ref s.heap.objs.size) "set" := ⟨_, got, rfl⟩
    have e6 := F.called_set.init.lookup
    have e7 := F.called_set.init.bind (.ref s.heap.objs.size)
    repeat (any_goals (first | assumption | wp_step))
    refine codeAny_mono (codeAny_call_builtin (R := wants (fun r2 u2 => r2 = .none ∧ SetDone w s ns u2) E) F.called_set.init.plain F.entry_set_init (check_set_init_1 isS ?_)) fun r2 u2 hr2 => ?_
    · obtain ⟨⟨oc, od, odt, osl⟩, olk, ocl, on, oda⟩ := isl
      simp only at ocl oda
      subst ocl oda
      have olk1 : (s.heap.push (emptyS w)).get? l = some { cls := .type "list", dict := od, data := .seq xs on, slots := osl } := Heap.get?_push_of_some _ olk
      have f1 := F.sub_list_set
      have f2 := F.sub_list_frozenset
      have f3 : (Value.type "list" == Value.type "dict") = false := by decide
      have isl1 : (s.heap.push (emptyS w)).IsList l xs := ⟨_, olk1, rfl, on, rfl⟩
      have ls : l < s.heap.objs.size := Heap.lt_size olk
      have ls1 : l ≠ (s.heap.push (emptyS w)).objs.size := by
        rw [Heap.size_push]
        exact Nat.ne_of_lt (Nat.lt_succ_of_lt ls)
      have ss1 : s.heap.objs.size ∉ [(s.heap.push (emptyS w)).objs.size, l] := by
        rw [Heap.size_push]
        intro z
        rcases List.mem_cons.mp z with z | z
        · exact absurd z (Nat.ne_of_lt (Nat.lt_succ_self _))
        · exact absurd (List.mem_singleton.mp z) (Nat.ne_of_gt ls)
      unfold Builtin.«set.__init__» noKeywords Builtin.Frozenset.updateFrom
      generalize ePI : pyIter = PI0
      wp_walk
      subst ePI
      refine wpAny_pyIter_list isl1 (wpAny_bind (wpAny_runValue ?_))
      have free3 : A.in1.in1.in1.handled = none := by simp [free]
      refine set_update_ints ((Walks.list free3 _ l ls1 xs).toS) s.heap.objs.size ss1 ns size few (fun i v hv => ?_) (xs.size - 0) 0 _ (by omega) (Nat.zero_le _) ⟨⟨_, Heap.get?_push_size _ rfl, rfl, rfl⟩, isl1.push _⟩ ⟨0, Nat.le_refl 0, setR_new_at (Heap.get?_push_of_some _ got)⟩ fun u3 c hm hc hS => ?_
      · have hi : i < ns.length := by
          rw [← size]
          exact (Array.getElem?_eq_some_iff.mp hv).1
        obtain ⟨t, e⟩ := PyProof.Rows.IntsAre.int_at are i v (by rw [Array.getElem?_toList]; exact hv)
        refine ⟨ns[i], t, List.getElem?_eq_getElem hi, e.trans ?_⟩
        rw [List.getD_eq_getElem?_getD, List.getElem?_eq_getElem hi]
        rfl
      · obtain ⟨h3, g3, d3, t3, o3⟩ := u3
        have q1 : g3 = s.gens := hm.gens
        have q2 : d3 = s.drawn := hm.drawn
        have q3 : o3 = s.os := hm.os
        subst q1 q2 q3
        show wpAny _ _ _ _ _ _
        refine wpAny_pure ?_
        show wpAny _ _ (ret Value.none) _ _ _
        refine wpAny_pure ⟨rfl, h3, t3, c, rfl, hS, fun b o e => ?_⟩
        have hb : b < s.heap.objs.size := Heap.lt_size e
        refine hm.heap b o (fun z => ?_) (Heap.get?_push_of_some _ (Heap.get?_push_of_some _ e))
        rcases List.mem_cons.mp z with z | z
        · exact absurd z (Nat.ne_of_lt hb)
        · have y := List.mem_singleton.mp z
          rw [Heap.size_push] at y
          exact absurd y (Nat.ne_of_lt (Nat.lt_succ_of_lt hb))
    · match r2, hr2 with
      | .error e, hr2 => exact hr2
      | .ok .next, hr2 => exact hr2.elim
      | .ok .brk, hr2 => exact hr2.elim
      | .ok .cont, hr2 => exact hr2.elim
      | .ok (.ret y2), ⟨e8, done⟩ =>
        subst e8
        repeat (any_goals (first | assumption | wp_step))
        exact h _ done
end
section
variable {X : Cx}
/-- set(xs) -/
def rSetInts (K : PySem.W.Frag) (w : World) : List V → Hp → VK → Prop := fun xs H Q => ∃ (l : Addr) (ns : List Int), xs = [V.ref l] ∧ SqL K H l (ns.map V.int) ∧ ns.length ≤ 4000 ∧
  ∀ p, H p = none → Q (.ref p) (upd H p (SetO w p (fun j => decide (j ∈ ns)) (sortU ns).length))
theorem cr_setInts (hc : X.calm = true) : CallR X (.type "set") (rSetInts X.K X.w) := by
  intro pins s σ H xs us Q I r h
  obtain ⟨l, ns, rfl, hq, hl, q⟩ := h
  obtain ⟨u, rfl, ru⟩ := vals1 r
  cases ru
  obtain ⟨its, rv, pl, hz⟩ := I.list hq
  refine call_set_ints ns (I.ok.hd hc) pl.isList (by simpa using ints_of_vals rv) (by unfold scanBound; omega) fun u hu => ?_
  obtain ⟨g, tk, c, rfl, R, kp⟩ := hu
  have ec : c = (sortU ns).length := by
    obtain ⟨o, es, ep, t, ho, hex, hd, gd, nd, hm, hb, hf, hn, hr, hl2⟩ := R
    rw [← hn, ← Array.length_toList (xs := es), ← List.length_map (f := keyOf)]
    exact len_of_same nd (asc_nodup (sortU_asc ns)) fun x => by rw [mem_sortU, ← hm x, decide_eq_true_eq]
  rw [ec] at R
  exact ⟨.ref s.heap.objs.size, _, I.laid (t' := tk) kp (Nat.le_refl _) (setO_new R), rfl, q _ (I.hok.fresh (Nat.le_refl _))⟩
/-- sorted(set(xs)) -/
def rSortS (w : World) : List V → Hp → VK → Prop := fun vs H Q => ∃ (a : Addr) (ns : List Int), vs = [V.ref a] ∧ H a = some (SetO w a (fun j => decide (j ∈ ns)) (sortU ns).length) ∧ (sortU ns).length < 64 ∧
  ∀ p, H p = none → Q (.ref p) (upd H p (.lst ((sortU ns).map V.int)))
theorem cr_sortS (hc : X.calm = true) : CallR X (.builtin "sorted") (rSortS X.w) := fun pins s σ H xs us Q I r h => by
  obtain ⟨a, ns, e1, e2, e3, q⟩ := h
  refine cr_sortedSet hc pins s σ H xs us Q I r ⟨a, _, _, e1, e2, e3, fun ms p asc mem _ hp => ?_⟩
  have e : ms = sortU ns := asc_ext asc (sortU_asc ns) fun x => by rw [mem x, mem_sortU, decide_eq_true_eq]
  rw [e]
  exact q p hp
end
end L2
set_option maxRecDepth 100000
/-! numbers written in words -/
namespace L2
open PySem PySem.NumText TL
def numT (n : Nat) : Str := Str.ofString (toString ((n : Nat) : Int))
theorem tl_numT (n : Nat) : tl (numT n) = numL n := tl_num n
theorem str_ext {a b : Str} (h : tl a = tl b) : a = b := by
  cases a with
  | mk x =>
    cases b with
    | mk y =>
      have e : x.toList = y.toList := h
      rw [show x = y from Array.toList_inj.mp e]
theorem numT_inj {m n : Nat} (h : numT m = numT n) : m = n := numL_inj (by rw [← tl_numT, ← tl_numT, h])
def valT (w : Str) : Nat := digitsVal (tl w)
theorem valT_num (n : Nat) : valT (numT n) = n := by
  unfold valT
  rw [tl_numT]
  exact numL_val n
theorem numL_mono : ∀ (m n : Nat), n ≤ m → (numL n).length ≤ (numL m).length := by
  intro m
  induction m using Nat.strongRecOn with
  | _ m ih =>
    intro n h
    by_cases hn : n < 10
    · rw [numL_lt hn]
      show 1 ≤ _
      exact List.length_pos_iff.mpr (numL_ne m)
    · rw [numL_step (n := n) (by omega), numL_step (n := m) (by omega), List.length_append, List.length_append]
      have := ih (m / 10) (by omega) (n / 10) (Nat.div_le_div_right h)
      simp only [List.length_singleton]
      omega
/-- the number that a word tells, no greater than most -/
def numW (most : Nat) (w : Str) : Option Nat := if numT (valT w) = w ∧ valT w ≤ most then some (valT w) else none
theorem numW_eq {most n : Nat} {w : Str} : numW most w = some n ↔ w = numT n ∧ n ≤ most := by
  unfold numW
  by_cases c : numT (valT w) = w ∧ valT w ≤ most
  · rw [if_pos c]
    constructor
    · intro h
      have e := Option.some.inj h
      rw [← e]
      exact ⟨c.1.symm, c.2⟩
    · rintro ⟨h, _⟩
      rw [h, valT_num]
  · rw [if_neg c]
    constructor
    · intro h
      cases h
    · rintro ⟨h, l⟩
      exact absurd (by rw [h, valT_num]; exact ⟨rfl, l⟩) c
theorem numW_num {most n : Nat} (h : n ≤ most) : numW most (numT n) = some n := numW_eq.mpr ⟨rfl, h⟩
theorem numW_none {most : Nat} {w : Str} (h : ∀ n, n ≤ most → w ≠ numT n) : numW most w = none := by
  cases e : numW most w with
  | none => rfl
  | some n => exact absurd (numW_eq.mp e).1 (h n (numW_eq.mp e).2)
def digB (w : Str) : Bool := (tl w).all fun c => decide (48 ≤ c ∧ c ≤ 57)
theorem digB_num (n : Nat) : digB (numT n) = true := by
  unfold digB
  rw [tl_numT]
  exact List.all_eq_true.mpr fun c hc => decide_eq_true (numL_digits n c hc)
theorem len_numT (n : Nat) : (numT n).length = (numL n).length := by
  rw [len_tl, tl_numT]
theorem pos_numT (n : Nat) : 1 ≤ (numT n).length := by
  rw [len_numT]
  exact List.length_pos_iff.mpr (numL_ne n)
theorem int_dig {w : Str} (h : digB w = true) (h1 : 1 ≤ w.length) (h2 : w.length ≤ 4300) : intText? w = some ((valT w : Nat) : Int) := by
  refine intText_digits (fun c hc => of_decide_eq_true (List.all_eq_true.mp h c hc)) (fun z => ?_) h2
  rw [len_tl, show tl w = [] from z] at h1
  exact absurd h1 (by decide)
theorem dig_in (c : Nat) : decide (c ∈ ("0123456789" : Str).cps.toList) = decide (48 ≤ c ∧ c ≤ 57) := by
  have e : ("0123456789" : Str).cps.toList = [48, 49, 50, 51, 52, 53, 54, 55, 56, 57] := by decide +kernel
  rw [e]
  by_cases h : 48 ≤ c ∧ c ≤ 57
  · rw [decide_eq_true h]
    have : c = 48 ∨ c = 49 ∨ c = 50 ∨ c = 51 ∨ c = 52 ∨ c = 53 ∨ c = 54 ∨ c = 55 ∨ c = 56 ∨ c = 57 := by omega
    rcases this with rfl | rfl | rfl | rfl | rfl | rfl | rfl | rfl | rfl | rfl <;> decide
  · rw [decide_eq_false h]
    refine decide_eq_false fun m => h ?_
    simp only [List.mem_cons, List.not_mem_nil, or_false] at m
    omega
theorem valT_lt {w : Str} (h : digB w = true) : valT w < 10 ^ w.length := by
  have key : ∀ (cs : List Nat) (a : Nat), (∀ c ∈ cs, 48 ≤ c ∧ c ≤ 57) → cs.foldl (fun acc c => acc * 10 + (c - 48)) a < (a + 1) * 10 ^ cs.length := by
    intro cs
    induction cs with
    | nil => intro a _; simp
    | cons c r ih =>
      intro a hh
      have hc := hh c List.mem_cons_self
      have q := ih (a * 10 + (c - 48)) fun d hd => hh d (List.mem_cons_of_mem _ hd)
      rw [List.foldl_cons]
      refine Nat.lt_of_lt_of_le q ?_
      rw [List.length_cons, Nat.pow_succ, Nat.mul_comm (10 ^ r.length) 10, ← Nat.mul_assoc]
      exact Nat.mul_le_mul_right _ (by omega)
  have z := key (tl w) 0 fun c hc => of_decide_eq_true (List.all_eq_true.mp h c hc)
  rw [len_tl]
  simpa [valT, digitsVal] using z
end L2
set_option maxRecDepth 100000
namespace Toy
open PySem L2 TL
abbrev s_is_integer : Stmt := top 1
abbrev s_is_within : Stmt := top 2
abbrev s_whole_in : Stmt := top 11
structure TR (mg : Str → Option Value) : Prop where
  m_isinstance : mg "isinstance" = none
  m_int : mg "int" = none
  m_bool : mg "bool" = none
  m_len : mg "len" = none
  m_all : mg "all" = none
  m_str : mg "str" = none
  m_list : mg "list" = none
  m_tuple : mg "tuple" = none
  m_range : mg "range" = none
  m_set : mg "set" = none
  m_sorted : mg "sorted" = none
  m_iter : mg "iter" = none
  m_repr : mg "repr" = none
  m_enumerate : mg "enumerate" = none
  g_DIGITS : ∃ t, mg "DIGITS" = some (.str "0123456789" t)
  g_GREATEST : ∃ t, mg "GREATEST" = some (.int (10 ^ 30) t)
def spIsInt (K : PySem.W.Frag) : Sp := fun vs H Q _ => ∃ (x : V) (S : String), vs = [x] ∧ Plain K H x S ∧ Q (.bl (isI x)) H
def withinV (lo hi : Int) : V → Bool
  | .int i => decide (lo ≤ i ∧ i ≤ hi)
  | _ => false
def spWithin (K : PySem.W.Frag) : Sp := fun vs H Q _ => ∃ (x : V) (S : String) (lo hi : Int), vs = [x, .int lo, .int hi] ∧ Plain K H x S ∧ Q (.bl (withinV lo hi x)) H
theorem plain_same {K : PySem.W.Frag} {H H' : Hp} {x : V} {S : String} (s : Same H H') (h : Plain K H x S) : Plain K H' x S := by
  cases h with
  | non => exact .non
  | bl b => exact .bl b
  | int i => exact .int i
  | str z => exact .str z
  | lst e => exact .lst (s _ _ e)
  | tup e => exact .tup (s _ _ e)
  | dK e => exact .dK (s _ _ e)
/-- whole_in(word, most) -/
def numV (most : Nat) (w : Str) : V := match numW most w with
  | some n => .int (n : Int)
  | none => .non
def spWhole : Sp := fun vs H Q _ => ∃ (w : Str) (most : Nat), vs = [.str w, .int (most : Int)] ∧ w.length ≤ PySem.sizeLine ∧ most < 10 ^ 60 ∧ ∀ H', Same H H' → Q (numV most w) H'
theorem numV_bad {m : Nat} {z : Str} (h : ∀ n, n ≤ m → z = numT n → False) : numV m z = .non := by
  unfold numV
  rw [numW_none fun n hn e => h n hn e]
theorem numV_ok {m n : Nat} {z : Str} (e : z = numT n) (h : n ≤ m) : numV m z = .int (n : Int) := by
  unfold numV
  rw [e, numW_num h]
/-- which signs are digits -/
def digs (cs : List Nat) : List Bool := cs.map fun c => decide (48 ≤ c ∧ c ≤ 57)
theorem digs_all (z : Str) : (digs (tl z)).all id = digB z := by
  unfold digs digB
  rw [List.all_map]
  rfl
theorem log_small {n : Nat} (h : n < 10 ^ 70) : ((n : Nat) : Int).natAbs.log2 < 1920 := by
  show n.log2 < 1920
  by_cases c : n = 0
  · rw [c]
    decide
  · have := (Nat.log2_lt (n := n) (k := 240) c).mpr (Nat.lt_trans h (by decide +kernel))
    omega
section
variable {P : Program} {w : World} {K : PySem.W.Frag} {mg : Str → Option Value} {base : Heap}
theorem sc_is_integer : FnScope ["value"] ["value"] (defScope s_is_integer) := ⟨rfl, rfl, rfl, by decide +kernel, rfl, by decide +kernel, by decide +kernel⟩
theorem ok_is_integer {f : Addr} {fd : FuncData} (F : Fun K "is_integer" "is_integer" s_is_integer f fd) (T : TR mg) : FnOk P w K mg base CX0 1 f fd ["value"] (spIsInt K) := by
  refine F.ok sc_is_integer (fun vs H Q E h => ?_) (fun cdv A outer s H vs Q E hr h => ?_)
  · obtain ⟨x, S, rfl, _⟩ := h
    rfl
  · obtain ⟨x, S, rfl, hx, k⟩ := h
    refine ⟨_, (pss_one (ps_ret (pe_and (pe_callB call_isi (by rfl) T.m_isinstance (by decide +kernel) (pa_cons (pv 0) (pa_cons (pe_bltn (v := .ty "int") (u := .type "int") rfl T.m_int (by decide +kernel) rfl) pa_nil))) (pe_one (pe_not (pe_callB call_isi (by rfl) T.m_isinstance (by decide +kernel) (pa_cons (pv 0) (pa_cons (pe_bltn (v := .ty "bool") (u := .type "bool") rfl T.m_bool (by decide +kernel) rfl) pa_nil)))))))), ?_⟩
    refine ⟨_, rfl, _, _, _, _, _, rfl, .ty _, hx.ty, hx.kInt, _, rfl, ?_⟩
    cases hi : isI x with
    | true =>
      refine ⟨_, rfl, _, _, _, _, _, rfl, .ty _, hx.ty, hx.kBool, _, rfl, ?_⟩
      have hb : isB x = false := by
        cases x <;> first | rfl | (cases hi)
      rw [hb]
      rw [hi] at k
      exact k
    | false =>
      cases hb : isB x with
      | true =>
        refine ⟨_, rfl, _, _, _, _, _, rfl, .ty _, hx.ty, hx.kBool, _, rfl, ?_⟩
        rw [hb]
        rw [hi] at k
        exact k
      | false =>
        rw [hi] at k
        exact k
theorem sc_is_within : FnScope ["value", "least", "most"] ["value", "least", "most"] (defScope s_is_within) := ⟨rfl, rfl, rfl, by decide +kernel, rfl, by decide +kernel, by decide +kernel⟩
theorem ok_is_within {f fI : Addr} {fd fdI : FuncData} (F : Fun K "is_within" "is_within" s_is_within f fd) (T : TR mg) (FI : Fun K "is_integer" "is_integer" s_is_integer fI fdI) (gI : mg "is_integer" = some (.ref fI)) (bI : Binds K fdI ["value"] []) :
    FnOk P w K mg base CX0 2 f fd ["value", "least", "most"] (spWithin K) := by
  have GI : FnOk P w K mg base CX0 1 fI fdI ["value"] (spIsInt K) := ok_is_integer FI T
  have kI := FI.kp
  refine F.ok sc_is_within (fun vs H Q E h => ?_) (fun cdv A outer s H vs Q E hr h => ?_)
  · obtain ⟨x, S, lo, hi, rfl, _⟩ := h
    rfl
  · obtain ⟨x, S, lo, hi, rfl, hx, k⟩ := h
    refine ⟨_, (pss_one (ps_ret (pe_and (pe_call GI hr rfl gI kI bI .nil pass0 (pa_cons (pv 0) pa_nil)) (pe_one (pe_chain op_le op_le (pv 1) (pv 0) (pv 2)))))), ?_⟩
    refine ⟨_, rfl, _, _, rfl, hx, _, rfl, ?_⟩
    cases x with
    | int i =>
      refine ⟨_, rfl, _, rfl, _, _, rfl, rfl, _, rfl, ?_⟩
      refine ite2 (fun c1 => ?_) (fun c1 => ?_)
      · refine ⟨_, rfl, _, _, rfl, rfl, ?_⟩
        have e : decide (i ≤ hi) = withinV lo hi (.int i) := by
          have c2 := of_decide_eq_true c1
          simp [withinV, c2]
        show Q (V.bl (decide (i ≤ hi))) H
        rw [e]
        exact k
      · have e : withinV lo hi (.int i) = false := by
          have c2 : ¬ lo ≤ i := fun z => c1 (decide_eq_true z)
          simp [withinV, c2]
        rw [e] at k
        exact k
    | _ => exact k
abbrev N_whole_in : List Str := ["word", "most", "letter", "number"]
theorem sc_whole_in : FnScope N_whole_in ["word", "most"] (defScope s_whole_in) := ⟨rfl, rfl, rfl, by decide +kernel, rfl, by decide +kernel, by decide +kernel⟩
theorem ok_whole_in {f : Addr} {fd : FuncData} (F : Fun K "whole_in" "whole_in" s_whole_in f fd) (T : TR mg) : FnOk P w K mg base CX0 1 f fd ["word", "most"] spWhole := by
  refine F.ok sc_whole_in (fun vs H Q E h => ?_) (fun cdv A outer s H vs Q E hr h => ?_)
  · obtain ⟨z, m, rfl, _⟩ := h
    rfl
  · obtain ⟨z, m, rfl, hz, hm, k⟩ := h
    refine ⟨_, (pss_cons (ps_if (PW.pt (pw_or (pt_not (pt_chain op_le op_le pe_int (pe_callB call_len_str (by rfl) T.m_len (by decide +kernel) (pa_cons (pv 0) pa_nil)) (pe_callB call_len_str (by rfl) T.m_len (by decide +kernel) (pa_cons (pe_callTy call_str_int (by rfl) T.m_str (by decide +kernel) (pa_cons (pv 1) pa_nil)) pa_nil)))) (pw_or1 (pt_not (pt_val (pe_callB (cr_all rfl) (by rfl) T.m_all (by decide +kernel) (pa_cons (pe_lc (own := [("letter", 2)]) (g := (gName 2)) (tt := tYes) rfl sc_whole_in.nd (pi_str (pv 0)) (blkOk_by (N := N_whole_in) (sc := defScope s_whole_in) (by decide +kernel)) (fun _ _ _ _ _ => (pg_name (i := 2) sc_whole_in.nd rfl (Or.inl rfl))) (fun _ _ _ _ _ => pts_nil) (fun _ _ _ _ _ => (pe_cmpR op_in_sign (pv 2) (pe_glob (v := .str "0123456789") rfl T.g_DIGITS.choose_spec ⟨_, rfl⟩) (by rfl)))) pa_nil))))))) (pss_one (ps_ret pe_non)) pss_nil)
 (pss_cons (ps_set (i := 3) sc_whole_in.nd rfl (Or.inl rfl) (by exact (pe_callTy call_int_str (by rfl) T.m_int (by decide +kernel) (pa_cons (pv 0) pa_nil))))
 (pss_cons (ps_if (PW.pt (pw_or (pt_cmpR op_gt (pv 3) (pv 1) (nomark _)) (pw_or1 (pt_cmpR op_ne (pe_callTy call_str_int (by rfl) T.m_str (by decide +kernel) (pa_cons (pv 3) pa_nil)) (pv 0) (nomark _))))) (pss_one (ps_ret pe_non)) pss_nil)
 (pss_one (ps_ret (pv 3)))))), ?_⟩
    have hm2 : ((m : Nat) : Int).natAbs.log2 < 1920 := log_small (Nat.lt_trans hm (by decide +kernel))
    have ml : (Str.ofString (toString ((m : Nat) : Int))).length ≤ 60 := by
      show (numT m).length ≤ 60
      rw [len_numT]
      exact numL_len (by decide) hm
    have bad : (∀ n, n ≤ m → z = numT n → False) → ∀ G, Same H G → Q V.non G := fun h G s => by
      rw [← numV_bad h]
      exact k G s
    refine ⟨_, rfl, _, rfl, hz, _, _, rfl, rfl, _, rfl, ?_⟩
    refine ite2 (fun c1 => ?_) (fun c1 => ?_)
    rotate_left
    · refine ⟨_, rfl, iteT (iteT (bad (fun n _ e => c1 (decide_eq_true ?_)) H (Same.refl H)))⟩
      rw [e]
      have := pos_numT n
      omega
    have c1' : 1 ≤ z.length := by
      have := of_decide_eq_true c1
      omega
    refine ⟨_, rfl, _, rfl, hm2, _, rfl, (by rw [sizeLine_eq]; omega), _, _, rfl, rfl, _, rfl, ?_⟩
    have mb : ∀ n, n ≤ m → z = numT n → z.length ≤ (Str.ofString (toString ((m : Nat) : Int))).length := fun n hn e => by
      rw [e, len_numT, show (Str.ofString (toString ((m : Nat) : Int))).length = (numL m).length from len_numT m]
      exact numL_mono m n hn
    cases c2 : decide ((z.length : Int) ≤ ((Str.ofString (toString ((m : Nat) : Int))).length : Int)) with
    | false => exact iteT (iteT (bad (fun n hn e => of_decide_eq_false c2 (by have := mb n hn e; omega)) H (Same.refl H)))
    | true =>
      have l60 : z.length ≤ 60 := by
        have := of_decide_eq_true c2
        omega
      refine iteF ?_
      refine ⟨_, rfl, z, rfl, fun D hD => ?_⟩
      have sz : z.cps.size = (tl z).length := Array.length_toList.symm
      refine lc_it walk_str (fun i G => G = upd H D (.lst ((digs ((tl z).take i)).map V.bl))) rfl (fun _ _ _ _ => trivial) ?_ ?_
      · rintro i x G G' hi rfl ⟨rfl, c, hc, rfl⟩
        have hc2 : (tl z)[i]? = some c := by
          show z.cps.toList[i]? = _
          rw [Array.getElem?_toList]
          exact hc
        refine ⟨rfl, _, rfl, c, _, rfl, rfl, _, upd_same, small1000 (by unfold digs; rw [List.length_map, List.length_map, List.length_take]; rw [len_tl] at l60; omega), ?_⟩
        rw [upd_upd, dig_in, List.take_add_one, hc2]
        unfold digs
        rw [List.map_append, List.map_append]
        rfl
      · rintro G rfl
        rw [sz, List.take_length]
        have s1 : Same H (upd H D (.lst ((digs (tl z)).map V.bl))) := Same.lay hD
        refine ⟨D, _, rfl, SqL.of upd_same, _, rfl, ?_⟩
        rw [digs_all]
        cases c3 : digB z with
        | false => exact iteT (bad (fun n hn e => by rw [e, digB_num] at c3; cases c3) _ s1)
        | true =>
          refine iteF ⟨_, rfl, _, _, rfl, int_dig c3 c1' (by omega), by omega, ?_⟩
          have v60 : valT z < 10 ^ 60 := Nat.lt_of_lt_of_le (valT_lt c3) (Nat.pow_le_pow_right (by decide) l60)
          refine ⟨_, rfl, _, rfl, _, _, rfl, rfl, _, rfl, ?_⟩
          cases c4 : decide ((m : Int) < ((valT z : Nat) : Int)) with
          | true =>
            refine iteT (iteT (bad (fun n hn e => ?_) _ s1))
            rw [e, valT_num] at c4
            have := of_decide_eq_true c4
            omega
          | false =>
            have le : valT z ≤ m := by
              have := of_decide_eq_false c4
              omega
            refine iteF ⟨_, rfl, _, rfl, log_small (Nat.lt_trans v60 (by decide +kernel)), _, rfl, rfl, _, rfl, ?_⟩
            by_cases c5 : numT (valT z) = z
            · rw [show decide (V.str (Str.ofString (toString ((valT z : Nat) : Int))) = V.str z) = true from decide_eq_true (congrArg V.str c5)]
              refine iteF ⟨_, rfl, ?_⟩
              rw [← numV_ok c5.symm le]
              exact k _ s1
            · rw [show decide (V.str (Str.ofString (toString ((valT z : Nat) : Int))) = V.str z) = false from decide_eq_false fun y => c5 (V.str.inj y)]
              refine iteT (bad (fun n hn e => c5 ?_) _ s1)
              rw [e, valT_num]
end
end Toy
set_option maxRecDepth 100000
namespace Toy
open PySem L2 TL
abbrev s_BadTile : Stmt := (inClass (top 5) 0)
abbrev s_BadNumber : Stmt := (inClass (top 6) 0)
abbrev s_BadText : Stmt := (inClass (top 7) 0)
abbrev s_TooMany : Stmt := (inClass (top 8) 0)
abbrev s_Pattern___init__ : Stmt := (inClass (top 16) 0)
/-! errors -/
def fs1 (f : Str) : List V → List (Str × V) := fun ys => match ys with
  | [y] => [(f, y)]
  | _ => []
def fs2 (f g : Str) : List V → List (Str × V) := fun ys => match ys with
  | [y, z] => [(g, z), (f, y)]
  | _ => []
/-- what the top has written of the errors' classes -/
structure TErr (K : PySem.W.Frag) (mg : Str → Option Value) (CT CN CW CM uT uN uW uM : Addr) (fdT fdN fdW fdM : FuncData) : Prop where
  gBadTile : mg "BadTile" = some (.ref CT)
  iBadTile : XvI K CT uT
  fBadTile : Fun K "__init__" "BadTile.__init__" s_BadTile uT fdT
  nBadTile : PySem.W.findIn K (.ref CT) "part" = some none
  bBadTile : Binds K fdT ["self", "part"] []
  gBadNumber : mg "BadNumber" = some (.ref CN)
  iBadNumber : XvI K CN uN
  fBadNumber : Fun K "__init__" "BadNumber.__init__" s_BadNumber uN fdN
  nBadNumber : PySem.W.findIn K (.ref CN) "value" = some none
  bBadNumber : Binds K fdN ["self", "value"] []
  gBadText : mg "BadText" = some (.ref CW)
  iBadText : XvI K CW uW
  fBadText : Fun K "__init__" "BadText.__init__" s_BadText uW fdW
  nLine : PySem.W.findIn K (.ref CW) "line" = some none
  nWord : PySem.W.findIn K (.ref CW) "word" = some none
  bBadText : Binds K fdW ["self", "line", "word"] []
  gTooMany : mg "TooMany" = some (.ref CM)
  iTooMany : XvI K CM uM
  fTooMany : Fun K "__init__" "TooMany.__init__" s_TooMany uM fdM
  nWhat : PySem.W.findIn K (.ref CM) "what" = some none
  nMost : PySem.W.findIn K (.ref CM) "most" = some none
  bTooMany : Binds K fdM ["self", "what", "most"] []
theorem mono_c {v : V} {t : TA} (h : Mono t) : Mono (tCons (tC v) t) := fun σ H Q Q' i q => h σ H _ _ (fun vs H' z => i _ _ z) q
theorem CallR.imp {X : Cx} {g : Value} {r r' : List V → Hp → VK → Prop} (h : CallR X g r) (i : ∀ xs H Q, r' xs H Q → r xs H Q) : CallR X g r' := fun pins s σ H xs us Q I rr q => h pins s σ H xs us Q I rr (i xs H Q q)
/-- a list or a tuple -/
def SeqAt (H : Hp) (a : Addr) (xs : List V) : Prop := H a = some (.lst xs) ∨ H a = some (.tup xs)
/-- tuple(x) -/
def rTupP : List V → Hp → VK → Prop := fun xs H Q => ∃ (a : Addr) (ys : List V), xs = [.ref a] ∧ SeqAt H a ys ∧ ∀ q H', Same H H' → H' q = some (.tup ys) → Q (.ref q) H'
theorem call_tupP {X : Cx} : CallR X (.type "tuple") rTupP := CallR.imp call_tuple_of fun xs H Q ⟨a, ys, e, h, q⟩ => by
  rcases h with h | h
  · exact ⟨a, ys, e, .inl ⟨SqL.of h, fun l hl => q l _ (Same.lay hl) upd_same⟩⟩
  · exact ⟨a, ys, e, .inr ⟨SqT.of h, q a H (Same.refl H) h⟩⟩
/-! patterns -/
/-- a Pattern stands at p: its offsets -/
def PatAt (C : Addr) (H : Hp) (p : Addr) (ns : List Int) : Prop := ∃ (dx po : Addr), H p = some (.ins C dx (putF "offsets" (.ref po) [])) ∧ H po = some (.tup (ns.map V.int))
theorem PatAt.same {C : Addr} {H H' : Hp} {p : Addr} {ns : List Int} (s : Same H H') (h : PatAt C H p ns) : PatAt C H' p ns :=
  let ⟨dx, po, h1, h2⟩ := h
  ⟨dx, po, s _ _ h1, s _ _ h2⟩
/-- what the top has written of the class -/
structure TPat (K : PySem.W.Frag) (mg : Str → Option Value) (C : Addr) : Prop where
  cl : Cls K C
  nO : NoAttr K C "offsets"
  gC : mg "Pattern" = some (.ref C)
/-- the first value that is no offset -/
def badOff (xs : List V) : Option Nat := match (List.range xs.length).filter fun i => !withinV 0 (10 ^ 30) (xs.getD i .non) with
  | [] => none
  | i :: _ => some i
theorem fs_off (v : V) : (putF "offsets" v []).lookup ("offsets" : Str) = some v := by rw [lookup_putF, if_pos rfl]
theorem small_n {n : Nat} (h : n ≤ 10000) : n < PySem.sizeLine := by
  have e : PySem.sizeLine = 16777216 := rfl
  omega
def allOff (xs : List V) (i : Nat) : Prop := ∀ j, j < i → withinV 0 (10 ^ 30) (xs.getD j .non) = true
theorem badOff_at {xs : List V} {i : Nat} (h : allOff xs i) (hi : i < xs.length) (hb : withinV 0 (10 ^ 30) (xs.getD i .non) = false) : badOff xs = some i := by
  have e : (List.range xs.length).filter (fun i => !withinV 0 (10 ^ 30) (xs.getD i .non)) = (List.range i).filter (fun i => !withinV 0 (10 ^ 30) (xs.getD i .non)) ++ (((List.range (xs.length - i)).map (i + ·)).filter (fun i => !withinV 0 (10 ^ 30) (xs.getD i .non))) := by
    rw [← List.filter_append, ← List.range_add, Nat.add_sub_cancel' (Nat.le_of_lt hi)]
  have e1 : (List.range i).filter (fun i => !withinV 0 (10 ^ 30) (xs.getD i .non)) = [] := List.filter_eq_nil_iff.mpr fun j hj => by
    rw [h j (List.mem_range.mp hj)]
    decide
  obtain ⟨m, hm⟩ : ∃ m, xs.length - i = m + 1 := ⟨xs.length - i - 1, by omega⟩
  unfold badOff
  rw [e, e1, hm, List.range_succ_eq_map, List.map_cons, List.nil_append, List.filter_cons_of_pos (by show (!withinV 0 (10 ^ 30) (xs.getD (i + 0) .non)) = true; rw [Nat.add_zero, hb]; rfl)]
  rfl
theorem badOff_none {xs : List V} (h : allOff xs xs.length) : badOff xs = none := by
  have e1 : (List.range xs.length).filter (fun i => !withinV 0 (10 ^ 30) (xs.getD i .non)) = [] := List.filter_eq_nil_iff.mpr fun j hj => by
    rw [h j (List.mem_range.mp hj)]
    decide
  unfold badOff
  rw [e1]
theorem within_int {lo hi : Int} {x : V} (h : withinV lo hi x = true) : ∃ i, x = .int i ∧ lo ≤ i ∧ i ≤ hi := by
  cases x with
  | int i => exact ⟨i, rfl, (of_decide_eq_true h).1, (of_decide_eq_true h).2⟩
  | _ => cases h
theorem all_ints {xs : List V} (h : allOff xs xs.length) : ∃ ns : List Int, xs = ns.map V.int ∧ ∀ z ∈ ns, 0 ≤ z ∧ z ≤ 10 ^ 30 := by
  induction xs with
  | nil => exact ⟨[], rfl, fun _ z => nomatch z⟩
  | cons x r ih =>
    obtain ⟨ns, e, b⟩ := ih fun j hj => h (j + 1) (Nat.succ_lt_succ hj)
    obtain ⟨i, e2, b1, b2⟩ := within_int (h 0 (Nat.succ_pos _))
    have e3 : x = V.int i := e2
    refine ⟨i :: ns, by rw [e, e3]; rfl, fun z hz => ?_⟩
    rcases List.mem_cons.mp hz with rfl | hz
    · exact ⟨b1, b2⟩
    · exact b z hz
/-- Pattern(*offsets), behind the binding -/
def spPInit (CT CM C : Addr) (K : PySem.W.Frag) : Sp := fun vs H Q E => ∃ (p dx q : Addr) (xs : List V), vs = [.ref p, .ref q] ∧ H p = some (.ins C dx []) ∧ H q = some (.tup xs) ∧ (∀ x ∈ xs, ∃ S, Plain K H x S) ∧ xs.length ≤ 4000 ∧
  (∀ i, badOff xs = some i → ∀ d H', H d = none → But p H H' → H' d = some (.xd [("part", .int (i : Nat))]) → E (.ref CT) (some d) H') ∧
  (xs = [] → ∀ d H', H d = none → But p H H' → H' d = some (.xd [("part", .str "offsets")]) → E (.ref CT) (some d) H') ∧
  (∀ ns : List Int, xs = ns.map V.int → xs ≠ [] → badOff xs = none → (sortU ns).length < 64 ∧
    (32 < (sortU ns).length → ∀ d H', H d = none → But p H H' → H' d = some (.xd [("most", .int 32), ("what", .str "offsets")]) → E (.ref CM) (some d) H') ∧
    ((sortU ns).length ≤ 32 → ∀ H', But p H H' → PatAt C H' p (sortU ns) → Q .non H'))
section
variable {P : Program} {w : World} {K : PySem.W.Frag} {mg : Str → Option Value} {base : Heap} {CT CN CW CM uT uN uW uM : Addr} {fdT fdN fdW fdM : FuncData} {C : Addr}
theorem sc_BadTile : FnScope ["self", "part"] ["self", "part"] (defScope s_BadTile) := ⟨rfl, rfl, rfl, by decide +kernel, rfl, by decide +kernel, by decide +kernel⟩
theorem ok_BadTile (T : TErr K mg CT CN CW CM uT uN uW uM fdT fdN fdW fdM) : FnOk P w K mg base CX0 1 uT fdT ["self", "part"] (spX CT 1 (fs1 "part")) := by
  refine T.fBadTile.ok sc_BadTile (fun vs H Q E h => ?_) (fun cdv A outer s H vs Q E hr h => ?_)
  · obtain ⟨a, ys, rfl, hl, _⟩ := h
    show ys.length + 1 = 2
    omega
  · obtain ⟨a, ys, rfl, hl, ha, k⟩ := h
    obtain ⟨y, rfl⟩ : ∃ y, ys = [y] := by
      match ys, hl with
      | [y], _ => exact ⟨y, rfl⟩
    refine ⟨_, (pss_one (ps_ost (pv 0) (pv 1))), ?_⟩
    refine ⟨_, rfl, _, rfl, a, CT, rfl, T.iBadTile.cls.oex, T.nBadTile, .inl ⟨ha, fun dx hd nd => ?_⟩⟩
    exact k dx _ hd nd upd_same (by rw [upd_ne nd]; exact upd_same) fun b h1 h2 => by rw [upd_ne h1, upd_ne h2]
theorem sc_BadNumber : FnScope ["self", "value"] ["self", "value"] (defScope s_BadNumber) := ⟨rfl, rfl, rfl, by decide +kernel, rfl, by decide +kernel, by decide +kernel⟩
theorem ok_BadNumber (T : TErr K mg CT CN CW CM uT uN uW uM fdT fdN fdW fdM) : FnOk P w K mg base CX0 1 uN fdN ["self", "value"] (spX CN 1 (fs1 "value")) := by
  refine T.fBadNumber.ok sc_BadNumber (fun vs H Q E h => ?_) (fun cdv A outer s H vs Q E hr h => ?_)
  · obtain ⟨a, ys, rfl, hl, _⟩ := h
    show ys.length + 1 = 2
    omega
  · obtain ⟨a, ys, rfl, hl, ha, k⟩ := h
    obtain ⟨y, rfl⟩ : ∃ y, ys = [y] := by
      match ys, hl with
      | [y], _ => exact ⟨y, rfl⟩
    refine ⟨_, (pss_one (ps_ost (pv 0) (pv 1))), ?_⟩
    refine ⟨_, rfl, _, rfl, a, CN, rfl, T.iBadNumber.cls.oex, T.nBadNumber, .inl ⟨ha, fun dx hd nd => ?_⟩⟩
    exact k dx _ hd nd upd_same (by rw [upd_ne nd]; exact upd_same) fun b h1 h2 => by rw [upd_ne h1, upd_ne h2]
theorem sc_BadText : FnScope ["self", "line", "word"] ["self", "line", "word"] (defScope s_BadText) := ⟨rfl, rfl, rfl, by decide +kernel, rfl, by decide +kernel, by decide +kernel⟩
theorem ok_BadText (T : TErr K mg CT CN CW CM uT uN uW uM fdT fdN fdW fdM) : FnOk P w K mg base CX0 1 uW fdW ["self", "line", "word"] (spX CW 2 (fs2 "line" "word")) := by
  refine T.fBadText.ok sc_BadText (fun vs H Q E h => ?_) (fun cdv A outer s H vs Q E hr h => ?_)
  · obtain ⟨a, ys, rfl, hl, _⟩ := h
    show ys.length + 1 = 3
    omega
  · obtain ⟨a, ys, rfl, hl, ha, k⟩ := h
    obtain ⟨y, z, rfl⟩ : ∃ y z, ys = [y, z] := by
      match ys, hl with
      | [y, z], _ => exact ⟨y, z, rfl⟩
    refine ⟨_, (pss_cons (ps_ost (pv 0) (pv 1)) (pss_one (ps_ost (pv 0) (pv 2)))), ?_⟩
    refine ⟨_, rfl, _, rfl, a, CW, rfl, T.iBadText.cls.oex, T.nLine, .inl ⟨ha, fun dx hd nd => ?_⟩⟩
    refine ⟨_, rfl, _, rfl, a, CW, rfl, T.iBadText.cls.oex, T.nWord, .inr ⟨dx, _, upd_same, (by rw [upd_ne nd]; exact upd_same), (by show 1 ≤ 900; decide), ?_⟩⟩
    exact k dx _ hd nd (by rw [upd_ne nd.symm]; exact upd_same) upd_same fun b h1 h2 => by rw [upd_ne h2, upd_ne h1, upd_ne h2]
theorem sc_TooMany : FnScope ["self", "what", "most"] ["self", "what", "most"] (defScope s_TooMany) := ⟨rfl, rfl, rfl, by decide +kernel, rfl, by decide +kernel, by decide +kernel⟩
theorem ok_TooMany (T : TErr K mg CT CN CW CM uT uN uW uM fdT fdN fdW fdM) : FnOk P w K mg base CX0 1 uM fdM ["self", "what", "most"] (spX CM 2 (fs2 "what" "most")) := by
  refine T.fTooMany.ok sc_TooMany (fun vs H Q E h => ?_) (fun cdv A outer s H vs Q E hr h => ?_)
  · obtain ⟨a, ys, rfl, hl, _⟩ := h
    show ys.length + 1 = 3
    omega
  · obtain ⟨a, ys, rfl, hl, ha, k⟩ := h
    obtain ⟨y, z, rfl⟩ : ∃ y z, ys = [y, z] := by
      match ys, hl with
      | [y, z], _ => exact ⟨y, z, rfl⟩
    refine ⟨_, (pss_cons (ps_ost (pv 0) (pv 1)) (pss_one (ps_ost (pv 0) (pv 2)))), ?_⟩
    refine ⟨_, rfl, _, rfl, a, CM, rfl, T.iTooMany.cls.oex, T.nWhat, .inl ⟨ha, fun dx hd nd => ?_⟩⟩
    refine ⟨_, rfl, _, rfl, a, CM, rfl, T.iTooMany.cls.oex, T.nMost, .inr ⟨dx, _, upd_same, (by rw [upd_ne nd]; exact upd_same), (by show 1 ≤ 900; decide), ?_⟩⟩
    exact k dx _ hd nd (by rw [upd_ne nd.symm]; exact upd_same) upd_same fun b h1 h2 => by rw [upd_ne h2, upd_ne h1, upd_ne h2]
abbrev N_Pattern___init__ : List Str := ["self", "offsets", "at", "offset"]
theorem sc_Pattern___init__ : FnScope N_Pattern___init__ ["self", "offsets"] (defScope s_Pattern___init__) := ⟨rfl, rfl, rfl, by decide +kernel, rfl, by decide +kernel, by decide +kernel⟩
theorem ok_Pattern_init {f fW : Addr} {fd fdW_ : FuncData} (F : Fun K "__init__" "Pattern.__init__" s_Pattern___init__ f fd) (hb : BindV fd "self" "offsets" PySem.sizeLine) (T : TR mg) (MO : ∃ t, mg "MOST_OFFSETS" = some (.int 32 t)) (TE : TErr K mg CT CN CW CM uT uN uW uM fdT fdN fdW fdM) (TU : TPat K mg C)
    (GW : FnOk P w K mg base CX0 2 fW fdW_ ["value", "least", "most"] (spWithin K)) (gW : mg "is_within" = some (.ref fW)) (kW : PySem.W.keepIn K (.ref fW) = true) (bW : Binds K fdW_ ["value", "least", "most"] []) :
    FnR P w K mg base (L2.CX P w) 4 f (fun vs H Q E => ∃ v rest, vs = v :: rest ∧ rest.length ≤ PySem.sizeLine ∧ ∀ p, H p = none → spPInit CT CM C K [v, .ref p] (upd H p (.tup rest)) Q E) := by
  refine F.okS sc_Pattern___init__ hb (fun cdv A outer s H vs Q E hrM h => ?_)
  obtain ⟨p, dx, q, xs, rfl, hp, hq, pl, lx, kB, kN, kQ⟩ := h
  have hrE : Room 2 _ := hrM.mono (by decide)
  refine ⟨_, (pss_cons (ps_for (passes_of rfl) rfl (pi_enumB (by rfl) T.m_enumerate (pa_cons (pv 1) pa_nil)) (pg_tup rfl (pgs_cons (pg_name (i := 2) sc_Pattern___init__.nd rfl (Or.inl rfl)) (pgs_cons (pg_name (i := 3) sc_Pattern___init__.nd rfl (Or.inl rfl)) pgs_nil)))
 (pss_one (ps_if (pt_not (pt_val (pe_call GW hrE rfl gW kW bW .nil pass0 (pa_cons (pv 3) (pa_cons pe_int (pa_cons (pe_glob (v := .int (10 ^ 30)) rfl T.g_GREATEST.choose_spec ⟨_, rfl⟩) pa_nil)))))) (pss_one (ps_raise rfl (takes_of rfl rfl rfl rfl) (pmk_x TE.iBadTile (ok_BadTile TE) hrE TE.bBadTile (by decide) rfl TE.gBadTile (mono_var mono_nil) (pa_cons (pv 2) pa_nil)))) pss_nil)))
 (pss_cons (ps_if (pt_cmpR op_eq (pe_callB call_len_seq (by rfl) T.m_len (by decide +kernel) (pa_cons (pv 1) pa_nil)) pe_int (nomark _)) (pss_one (ps_raise rfl (takes_of rfl rfl rfl rfl) (pmk_x TE.iBadTile (ok_BadTile TE) hrE TE.bBadTile (by decide) rfl TE.gBadTile (mono_c mono_nil) (pa_cons pe_str pa_nil)))) pss_nil)
 (pss_cons (ps_fld (pv 0) (pe_callTy call_tupP (by rfl) T.m_tuple (by decide +kernel) (pa_cons (pe_callB (cr_sortS rfl) (by rfl) T.m_sorted (by decide +kernel) (pa_cons (pe_callTy (cr_setInts rfl) (by rfl) T.m_set (by decide +kernel) (pa_cons (pe_lc (own := [("offset", 3)]) (g := (gName 3)) (tt := tYes) rfl sc_Pattern___init__.nd (pi_tup (pv 1)) (blkOk_by (N := N_Pattern___init__) (sc := defScope s_Pattern___init__) (by decide +kernel)) (fun _ _ _ _ _ => (pg_name (i := 3) sc_Pattern___init__.nd rfl (Or.inl rfl))) (fun _ _ _ _ _ => pts_nil) (fun _ _ _ _ _ => (pe_callTy call_int1 (by rfl) T.m_int (by decide +kernel) (pa_cons (pv 3) pa_nil)))) pa_nil)) pa_nil)) pa_nil)) rfl)
 (pss_one (ps_if (pt_cmpR op_gt (pe_callB call_len_seq (by rfl) T.m_len (by decide +kernel) (pa_cons (pe_fld (pv 0) rfl) pa_nil)) (pe_glob (v := .int 32) rfl MO.choose_spec ⟨_, rfl⟩) (nomark _)) (pss_one (ps_raise rfl (takes_of rfl rfl rfl rfl) (pmk_x TE.iTooMany (ok_TooMany TE) hrE TE.bTooMany (by decide) rfl TE.gTooMany (mono_c (mono_c mono_nil)) (pa_cons pe_str (pa_cons (pe_glob (v := .int 32) rfl MO.choose_spec ⟨_, rfl⟩) pa_nil))))) pss_nil))))), ?_⟩
  have offs : ∀ {j : Nat} {x : V}, xs[j]? = some x → xs.getD j .non = x := fun {j x} e => by
    rw [List.getD_eq_getElem?_getD, e]
    rfl
  refine ⟨_, rfl, true, q, xs, rfl, SqB.tup hq, for_it (walk_enumB (xs := xs)) (fun i σ G => ∃ u v, σ = [some (.ref p), some (.ref q), u, v] ∧ Same H G ∧ allOff xs i) ⟨none, none, rfl, Same.refl H, fun _ z => nomatch z⟩ ?_ ?_ ?_⟩
  · rintro i σ G _ ⟨u, v, rfl, s1, _⟩
    exact SqB.tup (s1 _ _ hq)
  · rintro i x σ G G' hi ⟨u, v, rfl, s1, al⟩ ⟨T1, y0, x0, rfl, hT1, rfl, e0, hx0⟩
    obtain rfl := Option.some.inj e0
    replace hx0 : xs[i]? = some x0 := hx0
    have s2 : Same H (upd G T1 (.tup [.int (i : Nat), x0])) := fun _ _ z => Same.lay hT1 _ _ (s1 _ _ z)
    refine ⟨T1, _, rfl, SqT.of upd_same, rfl, _, _, rfl, _, _, rfl, rfl, ?_⟩
    generalize upd G T1 (.tup [.int (i : Nat), x0]) = G2 at s2 ⊢
    obtain ⟨S, px⟩ := pl x0 (List.mem_of_getElem? hx0)
    refine ⟨_, rfl, x0, S, 0, 10 ^ 30, rfl, plain_same s2 px, _, rfl, ?_⟩
    have ax : withinV 0 (10 ^ 30) (xs.getD i .non) = withinV 0 (10 ^ 30) x0 := by rw [offs hx0]
    cases cW : withinV 0 (10 ^ 30) x0 with
    | false =>
      rw [cW] at ax
      exact iteT ⟨_, rfl, rfl, fun d H' hd s3 e => kB i (badOff_at al hi ax) d H' (s2.free hd) ((But.of s2).trans (But.of s3)) e⟩
    | true =>
      refine iteF ⟨_, _, rfl, s2, fun j hj => ?_⟩
      rcases Nat.lt_or_ge j i with c | c
      · exact al j c
      · obtain rfl : j = i := by omega
        rw [ax, cW]
  · rintro σ G ⟨u, v, rfl, s1, al⟩
    have none_ := badOff_none al
    obtain ⟨ns, en, bn⟩ := all_ints al
    refine ⟨_, rfl, q, _, rfl, .inr (SqT.of (s1 _ _ hq)), rfl, _, rfl, ?_⟩
    refine ite2 (fun c => ?_) (fun c => ?_)
    · have z : xs = [] := by
        cases xs with
        | nil => rfl
        | cons y r =>
          exfalso
          have z := V.int.inj (of_decide_eq_true c)
          simp at z
          omega
      exact ⟨rfl, fun d H' hd s3 e => kN z d H' (s1.free hd) ((But.of s1).trans (But.of s3)) e⟩
    · have xne : xs ≠ [] := fun z => c (decide_eq_true (by rw [z]; rfl))
      obtain ⟨f1, f2, f3⟩ := kQ ns en xne none_
      have lns : ns.length ≤ 4000 := by
        rw [en, List.length_map] at lx
        exact lx
      refine ⟨_, rfl, q, rfl, ⟨_, SqT.of (s1 _ _ hq)⟩, fun D hD => ?_⟩
      refine lc_it (walk_tup (xs := xs)) (fun i G2 => G2 = upd G D (.lst ((ns.take i).map V.int))) rfl (fun i G2 _ z => by rw [z]; exact SqT.of (Same.lay hD _ _ (s1 _ _ hq))) ?_ ?_
      · rintro i x G2 G3 hi rfl ⟨rfl, hx⟩
        rw [en, List.getElem?_map] at hx
        obtain ⟨n, hn, rfl⟩ := Option.map_eq_some_iff.mp hx
        refine ⟨rfl, _, rfl, .inl ⟨n, rfl, _, upd_same, small_n (by rw [List.length_map, List.length_take]; omega), ?_⟩⟩
        rw [upd_upd, List.take_add_one, hn, List.map_append]
        rfl
      · rintro G2 rfl
        rw [en, List.length_map, List.take_length]
        have s2 : Same G (upd G D (.lst (ns.map V.int))) := Same.lay hD
        have s3 : Same H (upd G D (.lst (ns.map V.int))) := fun _ _ z => s2 _ _ (s1 _ _ z)
        refine ⟨D, ns, rfl, SqL.of upd_same, lns, fun S1 hS1 => ?_⟩
        have s4 : Same (upd G D (.lst (ns.map V.int))) (upd (upd G D (.lst (ns.map V.int))) S1 (SetO w S1 (fun j => decide (j ∈ ns)) (sortU ns).length)) := Same.lay hS1
        refine ⟨S1, ns, rfl, upd_same, f1, fun L hL => ?_⟩
        have s5 := Same.lay (o := .lst ((sortU ns).map V.int)) hL
        refine ⟨L, _, rfl, .inl upd_same, fun t1 G5 s6 ht1 => ?_⟩
        have s7 : Same H G5 := fun _ _ z => s6 _ _ (s5 _ _ (s4 _ _ (s3 _ _ z)))
        have hp5 : G5 p = some (.ins C dx []) := s7 _ _ hp
        refine ⟨_, rfl, p, C, dx, [], rfl, hp5, TU.cl, TU.nO, (by show 0 < 1000; decide), ?_⟩
        have n1 : t1 ≠ p := fun z => by
          rw [z, hp5] at ht1
          cases ht1
        have b7 : But p H (upd G5 p (.ins C dx (putF "offsets" (.ref t1) []))) := (But.of s7).put
        have hp6 : (upd G5 p (.ins C dx (putF "offsets" (.ref t1) []))) p = some (.ins C dx (putF "offsets" (.ref t1) [])) := upd_same
        have ht6 : (upd G5 p (.ins C dx (putF "offsets" (.ref t1) []))) t1 = some (.tup ((sortU ns).map V.int)) := by
          rw [upd_ne n1]
          exact ht1
        generalize upd G5 p (.ins C dx (putF "offsets" (.ref t1) [])) = G6 at b7 hp6 ht6 ⊢
        have lo : ((sortU ns).map V.int).length = (sortU ns).length := List.length_map ..
        refine ⟨_, rfl, p, C, dx, _, _, rfl, hp6, TU.cl, TU.nO, fs_off _, t1, _, rfl, .inr (SqT.of ht6), _, _, rfl, rfl, _, rfl, ?_⟩
        refine ite2 (fun c => ?_) (fun c => ?_)
        · have big : 32 < (sortU ns).length := by
            have := of_decide_eq_true c
            rw [lo] at this
            omega
          refine ⟨rfl, fun d H' hd s8 e => f2 big d H' ?_ (b7.trans (But.of s8)) e⟩
          exact b7.free hd fun z => by
            rw [z, hp6] at hd
            cases hd
        · have few : (sortU ns).length ≤ 32 := by
            have z : ¬ ((32 : Int) < (((sortU ns).map V.int).length : Int)) := fun y => c (decide_eq_true y)
            rw [lo] at z
            omega
          exact f3 few G6 b7 ⟨dx, t1, hp6, ht6⟩
end
end Toy
set_option maxRecDepth 100000
namespace Toy
open PySem L2 TL
abbrev s_Pattern___str__ : Stmt := (inClass (top 16) 4)
abbrev s_Pattern___eq__ : Stmt := (inClass (top 16) 5)
abbrev s_Pattern___len__ : Stmt := (inClass (top 16) 6)
abbrev s_Pattern___iter__ : Stmt := (inClass (top 16) 7)
abbrev s_Pattern_read : Stmt := (inClass (top 16) 3)
/-! the words of a text, as mathematics -/
def wordsT (a : Str) : List Str := Txt.split a " "
def joinN (ns : List Nat) : Str := Txt.join " " (ns.map numT)
def intsN (ns : List Nat) : List Int := ns.map fun (n : Nat) => ((n : Nat) : Int)
def stepW (acc : List Nat) (w : Str) : Option (List Nat) := match numW (10 ^ 30) w with
  | some n => if acc.length < 32 ∧ ∀ l, acc.getLast? = some l → l < n then some (acc ++ [n]) else none
  | none => none
/-- the numbers that the words tell, or the index of the first one that cannot stand -/
def readW : List Nat → List Str → Nat ⊕ List Nat
  | acc, [] => .inr acc
  | acc, w :: r => match stepW acc w with
    | some acc' => readW acc' r
    | none => .inl acc.length
theorem stepW_some {acc acc' : List Nat} {w : Str} (h : stepW acc w = some acc') : ∃ n, w = numT n ∧ n ≤ 10 ^ 30 ∧ acc.length < 32 ∧ (∀ l, acc.getLast? = some l → l < n) ∧ acc' = acc ++ [n] := by
  unfold stepW at h
  cases e : numW (10 ^ 30) w with
  | none =>
    rw [e] at h
    cases h
  | some n =>
    rw [e] at h
    replace h : (if acc.length < 32 ∧ ∀ l, acc.getLast? = some l → l < n then some (acc ++ [n]) else none) = some acc' := h
    by_cases c : acc.length < 32 ∧ ∀ l, acc.getLast? = some l → l < n
    · rw [if_pos c] at h
      exact ⟨n, (numW_eq.mp e).1, (numW_eq.mp e).2, c.1, c.2, (Option.some.inj h).symm⟩
    · rw [if_neg c] at h
      cases h
theorem stepW_num {acc : List Nat} {n : Nat} (h : n ≤ 10 ^ 30) (h1 : acc.length < 32) (h2 : ∀ l, acc.getLast? = some l → l < n) : stepW acc (numT n) = some (acc ++ [n]) := by
  unfold stepW
  rw [numW_num h]
  exact if_pos ⟨h1, h2⟩
def AscN (ns : List Nat) : Prop := ns.Pairwise (· < ·)
theorem asc_last {acc : List Nat} {n : Nat} (h : AscN acc) (l : ∀ l, acc.getLast? = some l → l < n) : AscN (acc ++ [n]) := by
  refine List.pairwise_append.mpr ⟨h, by simp, fun x hx y hy => ?_⟩
  rw [List.mem_singleton.mp hy]
  have ne : acc ≠ [] := fun z => by
    rw [z] at hx
    cases hx
  have e := List.dropLast_concat_getLast ne
  have lt := l _ (List.getLast?_eq_some_getLast ne)
  rw [← e] at hx h
  rcases List.mem_append.mp hx with hx | hx
  · exact Nat.lt_trans ((List.pairwise_append.mp h).2.2 x hx _ (List.mem_singleton.mpr rfl)) lt
  · rw [List.mem_singleton.mp hx]
    exact lt
theorem readW_some : ∀ {ws : List Str} {acc ns : List Nat}, AscN acc → acc.length ≤ 32 → readW acc ws = .inr ns → ∃ ms, ns = acc ++ ms ∧ ws = ms.map numT ∧ AscN ns ∧ ns.length ≤ 32 ∧ ∀ n ∈ ms, n ≤ 10 ^ 30
  | [], acc, ns, ha, hl, h => ⟨[], by simp [Sum.inr.inj h], rfl, Sum.inr.inj h ▸ ha, Sum.inr.inj h ▸ hl, fun _ z => nomatch z⟩
  | w :: r, acc, ns, ha, hl, h => by
    unfold readW at h
    cases e : stepW acc w with
    | none =>
      rw [e] at h
      cases h
    | some acc' =>
      rw [e] at h
      obtain ⟨n, e1, e2, e3, e4, e5⟩ := stepW_some e
      rw [e5] at h
      obtain ⟨ms, f1, f2, f3, f4, f5⟩ := readW_some (asc_last ha e4) (by rw [List.length_append]; exact e3) h
      refine ⟨n :: ms, by rw [f1]; simp, by rw [e1, f2]; rfl, f3, f4, fun m hm => ?_⟩
      rcases List.mem_cons.mp hm with rfl | hm
      · exact e2
      · exact f5 m hm
theorem readW_nums : ∀ {ms acc : List Nat}, AscN (acc ++ ms) → (acc ++ ms).length ≤ 32 → (∀ n ∈ ms, n ≤ 10 ^ 30) → readW acc (ms.map numT) = .inr (acc ++ ms)
  | [], acc, _, _, _ => by simp [readW]
  | n :: r, acc, ha, hl, hb => by
    have e : acc ++ n :: r = (acc ++ [n]) ++ r := by simp
    have st : stepW acc (numT n) = some (acc ++ [n]) := stepW_num (hb n List.mem_cons_self) (by
      rw [List.length_append, List.length_cons] at hl
      omega) fun l hl2 => by
        have m := List.mem_of_getLast? hl2
        exact (List.pairwise_append.mp ha).2.2 l m n List.mem_cons_self
    show (match stepW acc (numT n) with
      | some acc' => readW acc' (r.map numT)
      | none => .inl acc.length) = _
    rw [st, e]
    exact readW_nums (by rw [← e]; exact ha) (by rw [← e]; exact hl) fun m hm => hb m (List.mem_cons_of_mem _ hm)
theorem words_join {ms : List Nat} (h : ms ≠ []) : wordsT (joinN ms) = ms.map numT :=
  TL.split_join (y := (" " : Str)) (s := 32) (S := []) (by decide +kernel) (by decide +kernel) (fun z => h (List.map_eq_nil_iff.mp z)) fun p hp => by
    obtain ⟨n, _, rfl⟩ := List.mem_map.mp hp
    rw [tl_numT]
    exact numL_free (.inl (by decide))
theorem join_words (a : Str) : Txt.join " " (wordsT a) = a := by
  rw [TL.join_eq]
  exact StrLaws.join_split a " "
theorem words_ne (a : Str) : wordsT a ≠ [] := fun z => by
  have := PyProof.Rows.split_pos a " "
  rw [show Txt.split a " " = [] from z] at this
  exact absurd this (by decide)
theorem intsN_asc {ns : List Nat} (h : AscN ns) : (intsN ns).Pairwise (· < ·) := List.pairwise_map.mpr (h.imp fun z => by omega)
theorem sum_num : ∀ (l : List Nat), (∀ n ∈ l, n < 10 ^ 60) → ((l.map numT).map (·.length)).sum ≤ 60 * l.length := by
  intro l
  induction l with
  | nil => intro _; exact Nat.le_refl _
  | cons n r ih =>
    intro hb
    have h1 := ih fun m hm => hb m (List.mem_cons_of_mem _ hm)
    have h2 : (numT n).length ≤ 60 := by
      rw [len_numT]
      exact numL_len (by decide) (hb n List.mem_cons_self)
    show (numT n).length + ((r.map numT).map (·.length)).sum ≤ 60 * (r.length + 1)
    omega
theorem len_sp : (Str.ofString " ").length = 1 := by decide +kernel
theorem join_fits {ns : List Nat} (h : ns.length ≤ 300) (b : ∀ n ∈ ns, n < 10 ^ 60) : ((ns.map numT).map (·.length)).sum + (ns.map numT).length * (Str.ofString " ").length ≤ 16777216 := by
  have := sum_num ns b
  rw [len_sp, List.length_map]
  omega
theorem join_len {ns : List Nat} (b : ∀ n ∈ ns, n < 10 ^ 60) : (joinN ns).length ≤ 61 * ns.length := by
  have h := StrLaws.join_length_le (Str.ofString " ") (ns.map numT)
  have := sum_num ns b
  rw [len_sp, List.length_map] at h
  show (Txt.join (Str.ofString " ") (ns.map numT)).length ≤ _
  rw [TL.join_eq]
  omega
theorem getLast_at {xs : List Int} {z : Int} (h : xs.getLast? = some z) : atI (xs.map V.int) (-1) = some (V.int z) := by
  cases hx : xs.length with
  | zero =>
    rw [List.length_eq_zero_iff.mp hx] at h
    cases h
  | succ n =>
    have e : ixN (xs.map V.int).length (-1) = some n := by
      rw [List.length_map, hx]
      show (if _ then _ else _) = _
      simp
      omega
    unfold atI
    rw [e]
    show (xs.map V.int)[n]? = _
    have e2 : xs[n]? = some z := by
      rw [← h, List.getLast?_eq_getElem?, hx]
      simp
    rw [List.getElem?_map, e2]
    rfl
theorem map_int_inj {a b : List Int} (h : a.map V.int = b.map V.int) : a = b := by
  induction a generalizing b with
  | nil =>
    cases b with
    | nil => rfl
    | cons y r => cases h
  | cons x r ih =>
    cases b with
    | nil => cases h
    | cons y r' =>
      have h1 := List.cons.inj h
      rw [V.int.inj h1.1, ih h1.2]
/-! promises -/
structure PatCls (K : PySem.W.Frag) (C : Addr) : Prop where
  cl : Cls K C
  ha : PySem.W.findIn K (.ref C) "__class__" = some (some (.builtin "object.__class__"))
  hn : PySem.W.specialIn K (.builtin "object.__class__") "__get__" = some (some (.builtin "getset_descriptor.__get__"))
  ht : PySem.W.takesIn K (.builtin "object.__class__") = some true
  hm : PySem.W.mroIn K C (.type "object") = some true
  kC : PySem.W.kitOne K (.ref C) (.ref C) = some true
  kT : PySem.W.kitOne K (.type "tuple") (.ref C) = some false
  kS : ∀ S ∈ plainTys, PySem.W.kitOne K (.type S) (.ref C) = some false
def rclsB (K : PySem.W.Frag) (C : Addr) : Bool := decide (PySem.W.findIn K (.ref C) "__class__" = some (some (.builtin "object.__class__"))) && (decide (PySem.W.specialIn K (.builtin "object.__class__") "__get__" = some (some (.builtin "getset_descriptor.__get__"))) && (decide (PySem.W.takesIn K (.builtin "object.__class__") = some true) &&
  (decide (PySem.W.mroIn K C (.type "object") = some true) && (decide (PySem.W.kitOne K (.ref C) (.ref C) = some true) && (decide (PySem.W.kitOne K (.type "tuple") (.ref C) = some false) && plainTys.all fun S => decide (PySem.W.kitOne K (.type S) (.ref C) = some false))))))
theorem rcls_of {K : PySem.W.Frag} {C : Addr} (cl : Cls K C) (q : rclsB K C = true) : PatCls K C := by
  unfold rclsB at q
  simp only [Bool.and_eq_true, decide_eq_true_eq] at q
  obtain ⟨h1, h2, h3, h4, h5, h6, h7⟩ := q
  exact ⟨cl, h1, h2, h3, h4, h5, h6, fun S hS => of_decide_eq_true (List.all_eq_true.mp h7 S hS)⟩

def spPStr (C : Addr) : Sp := fun vs H Q _ => ∃ (p : Addr) (ns : List Nat), vs = [.ref p] ∧ PatAt C H p (intsN ns) ∧ ns.length ≤ 300 ∧ (∀ n ∈ ns, n < 10 ^ 60) ∧ ∀ H', Same H H' → Q (.str (joinN ns)) H'
def spPEq (C : Addr) (K : PySem.W.Frag) : Sp := fun vs H Q _ => ∃ (p : Addr) (ns : List Int) (y : V), vs = [.ref p, y] ∧ PatAt C H p ns ∧ ((∃ (q : Addr) (ms : List Int), y = .ref q ∧ PatAt C H q ms ∧ Q (.bl (decide (ns = ms))) H) ∨ ∃ S, Plain K H y S ∧ Q (.bl false) H)
def spPLen (C : Addr) : Sp := fun vs H Q _ => ∃ (p : Addr) (ns : List Int), vs = [.ref p] ∧ PatAt C H p ns ∧ Q (.int (ns.length : Nat)) H
def spPIter (C : Addr) (b : Heap) : Sp := fun vs H Q _ => ∃ (p : Addr) (ns : List Int), vs = [.ref p] ∧ PatAt C H p ns ∧ ∀ it po, H po = some (.tup (ns.map V.int)) → H it = Option.none → b.objs.size ≤ it → Q (.ref it) (upd H it (TiO po it))
def NotStr (K : PySem.W.Frag) (H : Hp) (x : V) : Prop := ∃ t, TyX K H x t ∧ PySem.W.kitOne K t (.type "str") = some false
/-- the outcome of a reading -/
def ReadOut (CW C : Addr) (H : Hp) (ws : List Str) (Q : VK) (E : XK) : Prop :=
  (∀ k, readW [] ws = .inl k → ∀ d H', H d = none → Same H H' → H' d = some (.xd [("word", .int (k : Nat)), ("line", .int 0)]) → E (.ref CW) (some d) H') ∧
  (∀ ns, readW [] ws = .inr ns → ∀ H' x, Same H H' → PatAt C H' x (intsN ns) → Q (.ref x) H')
def spRead (CW C : Addr) (K : PySem.W.Frag) : Sp := fun vs H Q E => ∃ x, vs = [.ref C, x] ∧ ((∃ a, x = .str a ∧ a.length + 2 ≤ PySem.sizeLine ∧ ReadOut CW C H (wordsT a) Q E) ∨
  (NotStr K H x ∧ ∀ d H', H d = none → Same H H' → H' d = some (.xd [("word", .int 0), ("line", .int 0)]) → E (.ref CW) (some d) H'))
section
variable {P : Program} {w : World} {K : PySem.W.Frag} {mg : Str → Option Value} {base : Heap} {CT CN CW CM uT uN uW uM : Addr} {fdT fdN fdW fdM : FuncData} {C : Addr}
abbrev N_Pattern___str__ : List Str := ["self", "offset"]
theorem sc_Pattern___str__ : FnScope N_Pattern___str__ ["self"] (defScope s_Pattern___str__) := ⟨rfl, rfl, rfl, by decide +kernel, rfl, by decide +kernel, by decide +kernel⟩
theorem ok_Pattern_str {f : Addr} {fd : FuncData} (F : Fun K "__str__" "Pattern.__str__" s_Pattern___str__ f fd) (T : TR mg) (TU : TPat K mg C) : FnOk P w K mg base CX0 1 f fd ["self"] (spPStr C) := by
  refine F.ok sc_Pattern___str__ (fun vs H Q E h => ?_) (fun cdv A outer s H vs Q E hr h => ?_)
  · obtain ⟨p, ns, rfl, _⟩ := h
    rfl
  · obtain ⟨p, ns, rfl, ⟨dx, po, h1, h2⟩, ln, bn, k⟩ := h
    refine ⟨_, (pss_one (ps_ret (pe_m1 PySem.F.slot_str_join PySem.F.type_str_join mt_join pe_str (pe_lc (own := [("offset", 1)]) (g := (gName 1)) (tt := tYes) rfl sc_Pattern___str__.nd (pi_tup (pe_fld (pv 0) rfl)) (blkOk_by (N := N_Pattern___str__) (sc := defScope s_Pattern___str__) (by decide +kernel)) (fun _ _ _ _ _ => (pg_name (i := 1) sc_Pattern___str__.nd rfl (Or.inl rfl))) (fun _ _ _ _ _ => pts_nil) (fun _ _ _ _ _ => (pe_callTy call_str_int (by rfl) T.m_str (by decide +kernel) (pa_cons (pv 1) pa_nil))))))), ?_⟩
    refine ⟨⟨_, rfl⟩, _, rfl, p, C, dx, _, _, rfl, h1, TU.cl, TU.nO, fs_off _, po, rfl, ⟨_, SqT.of h2⟩, fun D hD => ?_⟩
    have s1 : ∀ o, Same H (upd H D o) := fun o => Same.lay hD
    refine lc_it (walk_tup (xs := (intsN ns).map V.int)) (fun i G => G = upd H D (.lst (((ns.take i).map numT).map V.str))) rfl (fun i G _ z => by rw [z]; exact SqT.of (s1 _ _ _ h2)) ?_ ?_
    · rintro i x G G' hi rfl ⟨rfl, hx⟩
      unfold intsN at hx
      rw [List.map_map, List.getElem?_map] at hx
      obtain ⟨n, hn, rfl⟩ := Option.map_eq_some_iff.mp hx
      refine ⟨rfl, _, rfl, (n : Int), rfl, log_small (Nat.lt_trans (bn n (List.mem_of_getElem? hn)) (by decide +kernel)), _, upd_same, small_n (by rw [List.length_map, List.length_map, List.length_take]; omega), ?_⟩
      rw [upd_upd, List.take_add_one, hn, List.map_append, List.map_append]
      rfl
    · rintro G rfl
      have e : ((intsN ns).map V.int).length = ns.length := by
        unfold intsN
        rw [List.length_map, List.length_map]
      rw [e, List.take_length]
      exact ⟨_, D, _, rfl, rfl, .inl (SqL.of upd_same), join_fits ln bn, k _ (s1 _)⟩
abbrev N_Pattern___eq__ : List Str := ["self", "other"]
theorem sc_Pattern___eq__ : FnScope N_Pattern___eq__ ["self", "other"] (defScope s_Pattern___eq__) := ⟨rfl, rfl, rfl, by decide +kernel, rfl, by decide +kernel, by decide +kernel⟩
theorem ok_Pattern_eq {f : Addr} {fd : FuncData} (F : Fun K "__eq__" "Pattern.__eq__" s_Pattern___eq__ f fd) (T : TR mg) (TU : TPat K mg C) (RC : PatCls K C) : FnOk P w K mg base CX0 1 f fd ["self", "other"] (spPEq C K) := by
  refine F.ok sc_Pattern___eq__ (fun vs H Q E h => ?_) (fun cdv A outer s H vs Q E hr h => ?_)
  · obtain ⟨p, ns, y, rfl, _⟩ := h
    rfl
  · obtain ⟨p, ns, y, rfl, ⟨dx, po, h1, h2⟩, h⟩ := h
    refine ⟨_, (pss_one (ps_ret (pe_and (pe_callB call_isi (by rfl) T.m_isinstance (by decide +kernel) (pa_cons (pv 1) (pa_cons (pe_glob (v := .ref C) rfl TU.gC rfl) pa_nil))) (pe_one (pe_cmpR (op_eqP hr.units) (pe_fld (pv 0) rfl) (pe_fld (pv 1) rfl) (nomark _)))))), ?_⟩
    rcases h with ⟨q, ms, rfl, ⟨dy, qo, g1, g2⟩, k⟩ | ⟨S, py, k⟩
    · refine ⟨_, rfl, _, _, _, _, _, rfl, .own _, .base (.ins g1 RC.cl RC.ha RC.hn RC.ht RC.hm), RC.kC, _, rfl, ?_⟩
      exact ⟨_, rfl, p, C, dx, _, _, rfl, h1, TU.cl, TU.nO, fs_off _, _, rfl, q, C, dy, _, _, rfl, g1, TU.cl, TU.nO, fs_off _, po, qo, ns, ms, rfl, rfl, h2, g2, k⟩
    · exact ⟨_, rfl, _, _, _, _, _, rfl, .own _, py.ty, RC.kS S (plain_name py), _, rfl, k⟩
abbrev N_Pattern___len__ : List Str := ["self"]
theorem sc_Pattern___len__ : FnScope N_Pattern___len__ ["self"] (defScope s_Pattern___len__) := ⟨rfl, rfl, rfl, by decide +kernel, rfl, by decide +kernel, by decide +kernel⟩
theorem ok_Pattern_len {f : Addr} {fd : FuncData} (F : Fun K "__len__" "Pattern.__len__" s_Pattern___len__ f fd) (T : TR mg) (TU : TPat K mg C) : FnOk P w K mg base CX0 1 f fd ["self"] (spPLen C) := by
  refine F.ok sc_Pattern___len__ (fun vs H Q E h => ?_) (fun cdv A outer s H vs Q E hr h => ?_)
  · obtain ⟨p, ns, rfl, _⟩ := h
    rfl
  · obtain ⟨p, ns, rfl, ⟨dx, po, h1, h2⟩, k⟩ := h
    refine ⟨_, (pss_one (ps_ret (pe_callB call_len_seq (by rfl) T.m_len (by decide +kernel) (pa_cons (pe_fld (pv 0) rfl) pa_nil)))), ?_⟩
    refine ⟨_, rfl, p, C, dx, _, _, rfl, h1, TU.cl, TU.nO, fs_off _, po, _, rfl, .inr (SqT.of h2), ?_⟩
    rw [List.length_map]
    exact k
abbrev N_Pattern___iter__ : List Str := ["self"]
theorem sc_Pattern___iter__ : FnScope N_Pattern___iter__ ["self"] (defScope s_Pattern___iter__) := ⟨rfl, rfl, rfl, by decide +kernel, rfl, by decide +kernel, by decide +kernel⟩
theorem ok_Pattern_iter {f : Addr} {fd : FuncData} (F : Fun K "__iter__" "Pattern.__iter__" s_Pattern___iter__ f fd) (T : TR mg) (TU : TPat K mg C) : FnOk P w K mg base CX0 1 f fd ["self"] (spPIter C base) := by
  refine F.ok sc_Pattern___iter__ (fun vs H Q E h => ?_) (fun cdv A outer s H vs Q E hr h => ?_)
  · obtain ⟨p, ns, rfl, _⟩ := h
    rfl
  · obtain ⟨p, ns, rfl, ⟨dx, po, h1, h2⟩, k⟩ := h
    refine ⟨_, (pss_one (ps_ret (pe_callB call_iterT (by rfl) T.m_iter (by decide +kernel) (pa_cons (pe_fld (pv 0) rfl) pa_nil)))), ?_⟩
    exact ⟨_, rfl, p, C, dx, _, _, rfl, h1, TU.cl, TU.nO, fs_off _, po, _, rfl, SqT.of h2, fun it hit sz => k it po h2 hit sz⟩
abbrev N_Pattern_read : List Str := ["cls", "text", "offsets", "at", "word", "offset"]
theorem sc_Pattern_read : FnScope N_Pattern_read ["cls", "text"] (defScope s_Pattern_read) := ⟨rfl, rfl, rfl, by decide +kernel, rfl, by decide +kernel, by decide +kernel⟩
theorem ok_Pattern_read {f fWh fPI : Addr} {fd fdWh : FuncData} (F : Fun K "read" "Pattern.read" s_Pattern_read f fd) (T : TR mg) (MO : ∃ t, mg "MOST_OFFSETS" = some (.int 32 t)) (TE : TErr K mg CT CN CW CM uT uN uW uM fdT fdN fdW fdM) (TU : TPat K mg C)
    (GWh : FnOk P w K mg base CX0 1 fWh fdWh ["word", "most"] spWhole) (gWh : mg "whole_in" = some (.ref fWh)) (kWh : PySem.W.keepIn K (.ref fWh) = true) (bWh : Binds K fdWh ["word", "most"] [])
    (MPI : Mk K C fPI) (GPI : FnR P w K mg base (L2.CX P w) 4 fPI (fun vs H Q E => ∃ v rest, vs = v :: rest ∧ rest.length ≤ PySem.sizeLine ∧ ∀ p, H p = none → spPInit CT CM C K [v, .ref p] (upd H p (.tup rest)) Q E)) :
    FnOk P w K mg base (L2.CX P w) 6 f fd ["cls", "text"] (spRead CW C K) := by
  refine F.okX sc_Pattern_read (fun vs H Q E h => ?_) (fun cdv A outer s H vs Q E hrM h => ?_)
  · obtain ⟨x, rfl, _⟩ := h
    rfl
  · obtain ⟨x, rfl, h⟩ := h
    have hrE : Room 2 _ := hrM.mono (by decide)
    have hrE1 : Room 1 _ := hrM.mono (by decide)
    refine ⟨_, (pss_cons (ps_if (pt_not (pt_val (pe_callB call_isi (by rfl) T.m_isinstance (by decide +kernel) (pa_cons (pv 1) (pa_cons (pe_bltn (v := .ty "str") (u := .type "str") rfl T.m_str (by decide +kernel) rfl) pa_nil))))) (pss_one (ps_raise rfl (takes_of rfl rfl rfl rfl) (pmk_x TE.iBadText (ok_BadText TE) hrE TE.bBadText (by decide) rfl TE.gBadText (mono_c (mono_c mono_nil)) (pa_cons pe_int (pa_cons pe_int pa_nil))))) pss_nil)
 (pss_cons (ps_set (i := 2) sc_Pattern_read.nd rfl (Or.inl rfl) (pe_lst pa_nil))
 (pss_cons (ps_for (passes_of rfl) rfl (pi_enumB (by rfl) T.m_enumerate (pa_cons (pe_split (pv 1) pe_str) pa_nil)) (pg_tup rfl (pgs_cons (pg_name (i := 3) sc_Pattern_read.nd rfl (Or.inl rfl)) (pgs_cons (pg_name (i := 4) sc_Pattern_read.nd rfl (Or.inl rfl)) pgs_nil)))
 (pss_cons (ps_set (i := 5) sc_Pattern_read.nd rfl (Or.inl rfl) (by exact (pe_call GWh hrE1 rfl gWh kWh bWh .nil pass0 (pa_cons (pv 4) (pa_cons (pe_glob (v := .int (10 ^ 30)) rfl T.g_GREATEST.choose_spec ⟨_, rfl⟩) pa_nil)))))
 (pss_cons (ps_if (PW.pt (pw_or (pt_cmpR op_isN (pv 5) pe_non (nomark _)) (pw_or (pt_cmpR op_ge (pv 3) (pe_glob (v := .int 32) rfl MO.choose_spec ⟨_, rfl⟩) (nomark _)) (pw_or1 (PW.pt (pw_and (pt_truth (pv 2) (fun _ => rfl)) (pw_and1 (pt_cmpR op_le (pv 5) (pe_ix ix_list (pv 2) (pe_un un_neg pe_int) (fun _ _ => rfl)) (nomark _))))))))) (pss_one (ps_raise rfl (takes_of rfl rfl rfl rfl) (pmk_x TE.iBadText (ok_BadText TE) hrE TE.bBadText (by decide) rfl TE.gBadText (mono_c (mono_var mono_nil)) (pa_cons pe_int (pa_cons (pv 3) pa_nil))))) pss_nil)
 (pss_one (ps_expr (pe_bm PySem.F.plainAttrs_list PySem.F.slot_list_append PySem.F.type_list_append mt_append (pv 2) (pa_cons (pv 5) pa_nil)))))))
 (pss_one (ps_ret (pe_makeVS (i := 0) MPI GPI hrM rfl (Or.inl rfl) (passes_call (takes_of rfl rfl rfl rfl) fun _ _ _ _ h => h) (pv 2))))))), ?_⟩
    rcases h with ⟨a, rfl, ha, kE, kQ⟩ | ⟨⟨t, ty, nk⟩, kE⟩
    rotate_left
    · exact ⟨_, rfl, _, _, _, _, _, rfl, .ty _, ty, nk, _, rfl, iteT ⟨rfl, fun d H' hd s1 e => kE d H' hd s1 e⟩⟩
    refine ⟨_, rfl, _, _, _, _, _, rfl, .ty _, (Plain.str a).ty, rfl, _, rfl, iteF ?_⟩
    refine ⟨(by show 0 ≤ PySem.sizeLine; decide), fun D hD => ?_⟩
    have vD : Same H (upd H D (.lst [])) := Same.lay hD
    refine ⟨_, rfl, ⟨_, rfl⟩, a, " ", rfl, rfl, rfl, ha, fun L hL => ?_⟩
    have vL := Same.lay (o := .lst ((Txt.split a " ").map V.str)) hL
    have nLD : L ≠ D := fun z => by
      rw [z, upd_same] at hL
      cases hL
    have hLx : (upd (upd H D (.lst [])) L (.lst ((Txt.split a " ").map V.str))) L = some (.lst ((Txt.split a " ").map V.str)) := upd_same
    have hDx : (upd (upd H D (.lst [])) L (.lst ((Txt.split a " ").map V.str))) D = some (.lst []) := vL _ _ upd_same
    have sx : ∀ {b : Addr} {o : HO}, H b = some o → b ≠ D ∧ (upd (upd H D (.lst [])) L (.lst ((Txt.split a " ").map V.str))) b = some o := fun e => ⟨ne_of_none e hD, vL _ _ (vD _ _ e)⟩
    generalize upd (upd H D (.lst [])) L (.lst ((Txt.split a " ").map V.str)) = H1 at hLx hDx sx ⊢
    replace hLx : H1 L = some (.lst ((wordsT a).map V.str)) := hLx
    refine ⟨false, L, _, rfl, SqB.lst hLx, for_it (walk_enumB (xs := (wordsT a).map V.str)) (fun i σ G => ∃ u v w acc, σ = [some (.ref C), some (.str a), some (.ref D), u, v, w] ∧ But D H1 G ∧ G D = some (.lst ((intsN acc).map V.int)) ∧ readW [] (wordsT a) = readW acc ((wordsT a).drop i) ∧ acc.length = i ∧ acc.length ≤ 32) ?_ ?_ ?_ ?_⟩
    · exact ⟨none, none, none, [], rfl, But.refl _ _, hDx, rfl, rfl, Nat.zero_le _⟩
    · rintro i σ G _ ⟨u, v, w, acc, rfl, bt, _⟩
      exact SqB.lst (bt _ _ nLD hLx)
    · rintro i x σ G G' hi ⟨u, v, w, acc, rfl, bt, hG, inv, la, l32⟩ ⟨T1, y0, x0, rfl, hT1, rfl, e0, hx0⟩
      obtain rfl := Option.some.inj e0
      replace hx0 : ((wordsT a).map V.str)[i]? = some x0 := hx0
      rw [List.getElem?_map] at hx0
      obtain ⟨wd, hw, rfl⟩ := Option.map_eq_some_iff.mp hx0
      have b2 : But D H1 (upd G T1 (.tup [.int (i : Nat), .str wd])) := bt.new hT1
      have hG2 : (upd G T1 (.tup [.int (i : Nat), .str wd])) D = some (.lst ((intsN acc).map V.int)) := by
        rw [upd_ne (ne_of_none hG hT1)]
        exact hG
      refine ⟨T1, _, rfl, SqT.of upd_same, rfl, _, _, rfl, _, _, rfl, rfl, ?_⟩
      generalize upd G T1 (.tup [.int (i : Nat), .str wd]) = G2 at b2 hG2 ⊢
      have lw : wd.length ≤ PySem.sizeLine := by
        have := PyProof.Rows.part_short (x := a) (y := " ") (a := wd) (List.mem_of_getElem? hw)
        omega
      refine ⟨_, rfl, wd, 10 ^ 30, rfl, lw, (by decide +kernel), fun G3 s3 => ?_⟩
      have b3 : But D H1 G3 := b2.trans (But.of s3)
      have hG3 : G3 D = some (.lst ((intsN acc).map V.int)) := s3 _ _ hG2
      have dr : (wordsT a).drop i = wd :: (wordsT a).drop (i + 1) := (List.drop_eq_getElem_cons (List.getElem?_eq_some_iff.mp hw).1).trans (by rw [(List.getElem?_eq_some_iff.mp hw).2])
      have sH : ∀ {H'' : Hp}, Same G3 H'' → Same H H'' := fun {H''} s4 b o e => s4 _ _ (b3 _ _ (sx e).1 (sx e).2)
      have bad : stepW acc wd = none → ∀ d H', G3 d = none → Same G3 H' → H' d = some (.xd [("word", .int (i : Nat)), ("line", .int 0)]) → E (.ref CW) (some d) H' := fun z d H' hd s4 e => by
        have q : readW [] (wordsT a) = .inl i := by
          rw [inv, dr]
          unfold readW
          rw [z, la]
        refine kE i q d H' ?_ (sH s4) e
        cases hh : H d with
        | none => rfl
        | some o =>
          have := b3 _ _ (sx hh).1 (sx hh).2
          rw [hd] at this
          cases this
      unfold numV
      cases e : numW (10 ^ 30) wd with
      | none => exact ⟨_, rfl, rfl, _, rfl, iteT (iteT ⟨_, rfl, rfl, fun d H' hd s4 e2 => bad (by unfold stepW; rw [e]) d H' hd s4 e2⟩)⟩
      | some n =>
        have sw : stepW acc wd = if acc.length < 32 ∧ ∀ l, acc.getLast? = some l → l < n then some (acc ++ [n]) else none := by
          unfold stepW
          rw [e]
        refine ⟨_, rfl, rfl, _, rfl, iteF ⟨_, rfl, _, _, rfl, rfl, _, rfl, ?_⟩⟩
        cases c1 : decide ((32 : Int) ≤ ((i : Nat) : Int)) with
        | true =>
          refine iteT (iteT ⟨_, rfl, rfl, fun d H' hd s4 e2 => bad ?_ d H' hd s4 e2⟩)
          rw [sw, if_neg]
          rintro ⟨z, _⟩
          have := of_decide_eq_true c1
          omega
        | false =>
          have li : acc.length < 32 := by
            have := of_decide_eq_false c1
            omega
          have go : (∀ l, acc.getLast? = some l → l < n) → ∃ (u v w : Option V) (acc' : List Nat), ([some (V.ref C), some (V.str a), some (V.ref D), some (V.int ((i : Nat) : Int)), some (V.str wd), some (V.int ((n : Nat) : Int))] : L2.St) = [some (V.ref C), some (V.str a), some (V.ref D), u, v, w] ∧ But D H1 (upd G3 D (.lst ((intsN acc).map V.int ++ [V.int ((n : Nat) : Int)]))) ∧ (upd G3 D (.lst ((intsN acc).map V.int ++ [V.int ((n : Nat) : Int)]))) D = some (.lst ((intsN acc').map V.int)) ∧ readW [] (wordsT a) = readW acc' ((wordsT a).drop (i + 1)) ∧ acc'.length = i + 1 ∧ acc'.length ≤ 32 := fun hl => by
            refine ⟨_, _, _, acc ++ [n], rfl, b3.put, ?_, ?_, by rw [List.length_append, la]; rfl, by rw [List.length_append]; exact li⟩
            · rw [upd_same]
              unfold intsN
              rw [List.map_append, List.map_append]
              rfl
            · rw [inv, dr]
              show (match stepW acc wd with
                | some acc' => readW acc' ((wordsT a).drop (i + 1))
                | none => .inl acc.length) = _
              rw [sw, if_pos ⟨li, hl⟩]
          have sl : ((intsN acc).map V.int).length < PySem.sizeLine := small_n (by
            unfold intsN
            rw [List.length_map, List.length_map]
            omega)
          refine iteF ⟨_, rfl, !acc.isEmpty, .inl ⟨(intsN acc).map V.int, SqL.of hG3, by cases acc <;> rfl⟩, ?_⟩
          cases hacc : acc.getLast? with
          | none =>
            have z : acc = [] := List.getLast?_eq_none_iff.mp hacc
            refine (show (if (!acc.isEmpty) = true then _ else _) from ?_)
            rw [if_neg (by rw [z]; decide)]
            exact iteF ⟨_, rfl, .inl ⟨rfl, _, SqL.of hG3⟩, _, rfl, D, _, _, rfl, rfl, hG3, sl, go fun l hl => by rw [hacc] at hl; cases hl⟩
          | some l =>
            have ane : acc ≠ [] := fun z => by
              rw [z] at hacc
              cases hacc
            refine (show (if (!acc.isEmpty) = true then _ else _) from ?_)
            rw [if_pos (by cases acc with | nil => exact absurd rfl ane | cons _ _ => rfl)]
            have gl : atI ((intsN acc).map V.int) (-1) = some (V.int ((l : Nat) : Int)) := getLast_at (by
              unfold intsN
              rw [List.getLast?_map, hacc]
              rfl)
            refine ⟨_, rfl, _, rfl, _, rfl, D, _, _, _, rfl, rfl, SqL.of hG3, gl, _, _, rfl, rfl, _, rfl, ?_⟩
            cases c2 : decide (((n : Nat) : Int) ≤ ((l : Nat) : Int)) with
            | true =>
              refine iteT ⟨_, rfl, rfl, fun d H' hd s4 e2 => bad ?_ d H' hd s4 e2⟩
              rw [sw, if_neg]
              rintro ⟨_, z⟩
              have := z l hacc
              have := of_decide_eq_true c2
              omega
            | false =>
              refine iteF ⟨_, rfl, .inl ⟨rfl, _, SqL.of hG3⟩, _, rfl, D, _, _, rfl, rfl, hG3, sl, go fun l' hl' => ?_⟩
              rw [hacc] at hl'
              have := of_decide_eq_false c2
              have := Option.some.inj hl'
              omega
    · rintro σ G ⟨u, v, w, acc, rfl, bt, hG, inv, la, l32⟩
      rw [show ((wordsT a).map V.str).length = (wordsT a).length from List.length_map .., List.drop_length] at inv
      replace inv : readW [] (wordsT a) = .inr acc := inv
      obtain ⟨ms, f1, f2, f3, f4, f5⟩ := readW_some .nil (Nat.zero_le _) inv
      rw [List.nil_append] at f1
      have ane : acc ≠ [] := fun z => words_ne a (by rw [f2, ← f1, z]; rfl)
      have su : sortU (intsN acc) = intsN acc := sortU_id (intsN_asc f3)
      have lI : (intsN acc).length = acc.length := List.length_map ..
      have s0 : Same H G := fun b o e => bt _ _ (sx e).1 (sx e).2
      refine ⟨rfl, _, rfl, D, _, rfl, .inr (SqL.of hG), fun x dx nx ndx ne => ⟨_, _, rfl, Nat.le_of_lt (small_n (by rw [List.length_map, lI]; omega)), fun q nq => ⟨x, dx, q, _, rfl, ?_, upd_same, ?_, by rw [List.length_map, lI]; omega, ?_, ?_, ?_⟩⟩⟩
      · rw [upd_ne (fun z => by rw [z, upd_same] at nq; cases nq)]
        exact upd_same
      · intro y hy
        obtain ⟨z, _, rfl⟩ := List.mem_map.mp hy
        exact ⟨_, .int z⟩
      · intro i hi
        rw [badOff_none fun j hj => ?_] at hi
        · cases hi
        · rw [List.getD_eq_getElem?_getD, List.getElem?_map]
          rw [List.length_map] at hj
          rw [List.getElem?_eq_getElem hj]
          have hb : (intsN acc)[j] ∈ intsN acc := List.getElem_mem hj
          unfold intsN at hb
          obtain ⟨n, hn, e⟩ := List.mem_map.mp hb
          rw [f1] at hn
          have := f5 n hn
          show decide (0 ≤ (intsN acc)[j] ∧ (intsN acc)[j] ≤ 10 ^ 30) = true
          rw [show (intsN acc)[j] = ((n : Nat) : Int) from e.symm]
          exact decide_eq_true ⟨by omega, by omega⟩
      · intro z
        exact absurd (List.map_eq_nil_iff.mp (List.map_eq_nil_iff.mp z)) ane
      · intro ns en _ _
        have e : ns = intsN acc := by
          exact (map_int_inj en).symm
        rw [e, su, lI]
        refine ⟨by omega, fun z => by omega, fun _ H' b4 pa => ⟨rfl, kQ acc inv H' x (fun b o eb => ?_) pa⟩⟩
        have g1 := s0 _ _ eb
        have nb : b ≠ x := ne_of_none g1 nx
        refine b4 _ _ nb ?_
        have g2 : (upd (upd G dx (.own x)) x (.ins C dx [])) b = some o := by
          rw [upd_ne nb, upd_ne (ne_of_none g1 ndx)]
          exact g1
        rw [upd_ne (ne_of_none g2 nq)]
        exact g2
end
end Toy
set_option maxRecDepth 100000
namespace Toy
open PySem L2 TL
abbrev s__law_offsets : Stmt := top 21
abbrev s__law_pattern : Stmt := top 23
theorem pen_lay {H : Hp} {p l D : Addr} {ns : List Int} {a b : Int} {o : HO} (P : PenAt H p l ns a b) (h1 : D ≠ p) (h2 : D ≠ l) : PenAt (upd H D o) p l ns a b :=
  ⟨by rw [upd_ne h1.symm]; exact P.pen, by rw [upd_ne h2.symm]; exact P.cells, P.few, P.bits, P.low⟩
theorem pen_same {H H' : Hp} {p l : Addr} {ns : List Int} {a b : Int} (s : Same H H') (P : PenAt H p l ns a b) : PenAt H' p l ns a b := ⟨s _ _ P.pen, s _ _ P.cells, P.few, P.bits, P.low⟩
theorem pen_ne {H : Hp} {p l t : Addr} {ns : List Int} {a b : Int} {ms : List V} (P : PenAt H p l ns a b) (h : H t = some (.tup ms)) : t ≠ p := fun z => by
  have e := P.pen
  rw [← z, h] at e
  cases e
/-- the drawing of a row of weights: what is known at its turn i -/
structure RowOf (H0 : Hp) (p l D : Addr) (ns : List Int) (a1 n : Int) (i : Nat) (G : Hp) (ds : List Int) : Prop where
  but : ∀ c o, c ≠ p → H0 c = some o → G c = some o
  pen : ∃ a' b', PenAt G p l ns a' b' ∧ a' ≤ a1 + i
  row : G D = some (.lst (ds.map V.int))
  len : ds.length = i
  rng : ∀ z ∈ ds, 0 ≤ z ∧ z ≤ n - 1
theorem row_start {H0 : Hp} {p l D : Addr} {ns : List Int} {a1 b1 n : Int} (P : PenAt H0 p l ns a1 b1) (hD : H0 D = none) : RowOf H0 p l D ns a1 n 0 (upd H0 D (.lst [])) [] :=
  ⟨fun c o _ e => Same.lay hD c o e, ⟨a1, b1, pen_same (Same.lay hD) P, by omega⟩, upd_same, rfl, fun _ z => nomatch z⟩
theorem row_turn {H0 G G' : Hp} {p l D : Addr} {ns ds : List Int} {a1 n d a' b' a2 b2 : Int} {i : Nat} (R : RowOf H0 p l D ns a1 n i G ds) (hD : H0 D = none) (P0 : PenAt H0 p l ns a2 b2) (bt : But p G G') (P : PenAt G' p l ns a' b') (ha : a' ≤ a1 + i + 1) (d0 : 0 ≤ d) (d1 : d < n) :
    G' D = some (.lst (ds.map V.int)) ∧ RowOf H0 p l D ns a1 n (i + 1) (upd G' D (.lst (ds.map V.int ++ [.int d]))) (ds ++ [d]) := by
  have np : D ≠ p := (ne_of_none P0.pen hD).symm
  have nl : D ≠ l := (ne_of_none P0.cells hD).symm
  refine ⟨bt _ _ np R.row, ⟨fun c o nc e => ?_, ⟨a', b', pen_lay P np nl, by omega⟩, ?_, ?_, fun z hz => ?_⟩⟩
  · rw [upd_ne (ne_of_none e hD)]
    exact bt _ _ nc (R.but c o nc e)
  · rw [upd_same, List.map_append]
    rfl
  · rw [List.length_append, R.len]
    rfl
  · rcases List.mem_append.mp hz with h | h
    · exact R.rng z h
    · rw [List.mem_singleton.mp h]
      exact ⟨d0, by omega⟩
theorem log_41 {n : Int} (h0 : 0 < n) (h : n ≤ 41) : n.natAbs.log2 < 9000 := Nat.lt_of_le_of_lt (Nat.log2_le_self _) (by omega)
/-- drawn offsets -/
def spOffs : Sp := fun vs H Q _ => ∃ (p l : Addr) (ns : List Int) (a b : Int), vs = [.ref p] ∧ PenAt H p l ns a b ∧ a ≤ 999000 ∧
  ∀ (H' : Hp) (q : Addr) (xs : List Int) (a' b' : Int), xs ≠ [] → xs.length ≤ 9 → (∀ z ∈ xs, 0 ≤ z ∧ z ≤ 1000) → a ≤ a' → a' ≤ a + 30 → But p H H' → PenAt H' p l ns a' b' → H q = none → H' q = some (.lst (xs.map V.int)) → Q (.ref q) H'
/-- _law_pattern(some) -/
def spLPat (C : Addr) : Sp := fun vs H Q _ => ∃ (q : Addr) (xs : List Int), vs = [.ref q] ∧ H q = some (.lst (xs.map V.int)) ∧ xs ≠ [] ∧ xs.length ≤ 60 ∧ (sortU xs).length ≤ 32 ∧ (∀ z ∈ xs, 0 ≤ z ∧ z ≤ 10 ^ 30) ∧ ∀ H' x, Same H H' → PatAt C H' x (sortU xs) → Q (.ref x) H'
/-- the naturals of ints -/
def nats (xs : List Int) : List Nat := xs.map Int.toNat
theorem ints_nats {xs : List Int} (h : ∀ z ∈ xs, 0 ≤ z) : intsN (nats xs) = xs := by
  unfold intsN nats
  rw [List.map_map]
  have e : ∀ z ∈ xs, ((fun n : Nat => (n : Int)) ∘ Int.toNat) z = z := fun z hz => Int.toNat_of_nonneg (h z hz)
  rw [List.map_congr_left e]
  simp
theorem asc_nats {xs : List Int} (h : xs.Pairwise (· < ·)) (h0 : ∀ z ∈ xs, 0 ≤ z) : AscN (nats xs) := by
  unfold AscN nats
  rw [List.pairwise_map]
  exact (List.Pairwise.and_mem.mp h).imp fun {a b} z => by
    have := h0 a z.1
    have := h0 b z.2.1
    omega
theorem text_of_ints {xs : List Int} (h : ∀ z ∈ xs, 0 ≤ z) : xs.map (fun z => (Str.ofString (toString z) : Str)) = (nats xs).map numT := by
  unfold nats
  rw [List.map_map]
  refine List.map_congr_left fun z hz => ?_
  show _ = Str.ofString (toString ((z.toNat : Nat) : Int))
  rw [Int.toNat_of_nonneg (h z hz)]
section
variable {P : Program} {w : World} {K : PySem.W.Frag} {mg : Str → Option Value} {base : Heap} {CT CN CW CM uT uN uW uM : Addr} {fdT fdN fdW fdM : FuncData} {C : Addr}
abbrev N__law_offsets : List Str := ["_law_pen_here", "_law_way", "_law_step", "_law_lane", "_law_wide", "_law_high", "_law_k", "_law_turn"]
theorem sc__law_offsets : FnScope N__law_offsets ["_law_pen_here"] (defScope s__law_offsets) := ⟨rfl, rfl, rfl, by decide +kernel, rfl, by decide +kernel, by decide +kernel⟩
theorem ok__law_offsets {f fD : Addr} {fd fdD : FuncData} (F : Fun K "_law_offsets" "_law_offsets" s__law_offsets f fd) (T : TR mg)
    (GD : FnOk P w K mg base CX0 1 fD fdD ["_law_pen_here", "_law_many"] spDraw) (gD : mg "_law_draw" = some (.ref fD)) (kD : PySem.W.keepIn K (.ref fD) = true) (bD : Binds K fdD ["_law_pen_here", "_law_many"] []) : FnOk P w K mg base CX0 2 f fd ["_law_pen_here"] spOffs := by
  refine F.ok sc__law_offsets (fun vs H Q E h => ?_) (fun cdv A outer s H vs Q E hr h => ?_)
  · obtain ⟨p, l, ns, a, b, rfl, _⟩ := h
    rfl
  · obtain ⟨p, l, ns, a, b, rfl, hP, ha, k⟩ := h
    have hrD1 : Room 1 _ := hr
    refine ⟨_, (pss_cons (ps_set (i := 1) sc__law_offsets.nd rfl (Or.inl rfl) (by exact (pe_call GD hrD1 rfl gD kD bD .nil pass0 (pa_cons (pv 0) (pa_cons pe_int pa_nil)))))
 (pss_cons (ps_if (pt_cmpR op_eq (pv 1) pe_int (nomark _)) (pss_cons (ps_set (i := 2) sc__law_offsets.nd rfl (Or.inr rfl) (by exact (pe_call GD hrD1 rfl gD kD bD .nil pass0 (pa_cons (pv 0) (pa_cons pe_int pa_nil)))))
 (pss_one (ps_ret (pe_lc (own := [("_law_lane", 3)]) (g := (gName 3)) (tt := tYes) rfl sc__law_offsets.nd (pi_range1 rfl T.m_range (pa_cons (pe_op op_add pe_int (pe_call GD hrD1 rfl gD kD bD .nil pass0 (pa_cons (pv 0) (pa_cons pe_int pa_nil)))) pa_nil)) (blkOk_by (N := N__law_offsets) (sc := defScope s__law_offsets) (by decide +kernel)) (fun _ _ _ _ _ => (pg_name (i := 3) sc__law_offsets.nd rfl (Or.inl rfl))) (fun _ _ _ _ _ => pts_nil) (fun _ _ _ _ _ => (pe_op op_mul (pv 2) (pv 3))))))) pss_nil)
 (pss_cons (ps_if (pt_cmpR op_eq (pv 1) pe_int (nomark _)) (pss_cons (ps_asg (pe_tup (pa_cons (pe_call GD hrD1 rfl gD kD bD .nil pass0 (pa_cons (pv 0) (pa_cons pe_int pa_nil))) (pa_cons (pe_op op_add pe_int (pe_call GD hrD1 rfl gD kD bD .nil pass0 (pa_cons (pv 0) (pa_cons pe_int pa_nil)))) (pa_cons (pe_op op_add pe_int (pe_call GD hrD1 rfl gD kD bD .nil pass0 (pa_cons (pv 0) (pa_cons pe_int pa_nil)))) pa_nil)))) (pg_tup rfl (pgs_cons (pg_name (i := 2) sc__law_offsets.nd rfl (Or.inr rfl)) (pgs_cons (pg_name (i := 4) sc__law_offsets.nd rfl (Or.inr rfl)) (pgs_cons (pg_name (i := 5) sc__law_offsets.nd rfl (Or.inl rfl)) pgs_nil)))))
 (pss_one (ps_ret (pe_lc (own := [("_law_k", 6)]) (g := (gName 6)) (tt := tYes) rfl sc__law_offsets.nd (pi_range1 rfl T.m_range (pa_cons (pe_op op_mul (pv 4) (pv 5)) pa_nil)) (blkOk_by (N := N__law_offsets) (sc := defScope s__law_offsets) (by decide +kernel)) (fun _ _ _ _ _ => (pg_name (i := 6) sc__law_offsets.nd rfl (Or.inl rfl))) (fun _ _ _ _ _ => pts_nil) (fun _ _ _ _ _ => (pe_op op_add (pe_op op_mod (pe_callTy call_int1 (by rfl) T.m_int (by decide +kernel) (pa_cons (pv 6) pa_nil)) (pv 4)) (pe_op op_mul (pv 2) (pe_op op_fdivW (pv 6) (pv 4))))))))) pss_nil)
 (pss_one (ps_ret (pe_lc (own := [("_law_turn", 7)]) (g := (gName 7)) (tt := tYes) rfl sc__law_offsets.nd (pi_range1 rfl T.m_range (pa_cons (pe_op op_add pe_int (pe_call GD hrD1 rfl gD kD bD .nil pass0 (pa_cons (pv 0) (pa_cons pe_int pa_nil)))) pa_nil)) (blkOk_by (N := N__law_offsets) (sc := defScope s__law_offsets) (by decide +kernel)) (fun _ _ _ _ _ => (pg_name (i := 7) sc__law_offsets.nd rfl (Or.inl rfl))) (fun _ _ _ _ _ => pts_nil) (fun _ _ _ _ _ => (pe_call GD hrD1 rfl gD kD bD .nil pass0 (pa_cons (pv 0) (pa_cons pe_int pa_nil)))))))))), ?_⟩
    refine ⟨_, rfl, p, l, ns, a, b, 3, rfl, hP, by omega, by decide, by decide, fun H1 way a1 b1 w0 w1 h11 h12 bt1 P1 => ?_⟩
    refine ⟨_, rfl, rfl, _, rfl, ?_⟩
    refine ite2 (fun c1 => ?_) (fun c1 => ?_)
    · refine ⟨_, rfl, p, l, ns, a1, b1, 21, rfl, P1, by omega, by decide, by decide, fun H2 st a2 b2 s0 s1 h21 h22 bt2 P2 => ?_⟩
      refine ⟨_, rfl, p, l, ns, a2, b2, 3, rfl, P2, by omega, by decide, by decide, fun H3 d a3 b3 d0 d1 h31 h32 bt3 P3 => ⟨_, _, rfl, rfl, ?_⟩⟩
      refine ⟨_, rfl, by omega, by omega, fun D hD => ?_⟩
      have bt : But p H H3 := (bt1.trans bt2).trans bt3
      refine lc_it walk_range (fun i G => ∃ ds : List Int, G = upd H3 D (.lst (ds.map V.int)) ∧ ds.length = i ∧ ∀ z ∈ ds, 0 ≤ z ∧ z ≤ 1000) ⟨[], rfl, rfl, fun _ z => nomatch z⟩ (fun _ _ _ _ => trivial) ?_ ?_
      · rintro i x G G' hi ⟨ds, rfl, lds, rds⟩ ⟨rfl, rfl⟩
        have hi2 : i < 5 := by omega
        have mb := mul_lt_of (m := 20) (n := 5) s0 (by omega) (show (0 : Int) ≤ 0 + (i : Int) by omega) (by omega)
        refine ⟨rfl, _, rfl, _, rfl, _, _, rfl, rfl, .inl ⟨by omega, by omega⟩, _, upd_same, small_n (by rw [List.length_map, lds]; omega), ds ++ [st * (0 + (i : Int))], ?_, by rw [List.length_append, lds]; rfl, fun z hz => ?_⟩
        · rw [upd_upd, List.map_append]
          rfl
        · rcases List.mem_append.mp hz with h | h
          · exact rds z h
          · rw [List.mem_singleton.mp h]
            omega
      · rintro G ⟨ds, rfl, lds, rds⟩
        refine k _ D ds a3 b3 (fun z => ?_) (by omega) rds (by omega) (by omega) (fun c o nc e => ?_) (pen_same (Same.lay hD) P3) (bt.free hD (ne_of_none P3.pen hD).symm) upd_same
        · rw [z] at lds
          have : (0 : Nat) = (2 + d).toNat := lds
          omega
        · exact Same.lay hD _ _ (bt _ _ nc e)
    · refine ⟨_, rfl, rfl, _, rfl, ?_⟩
      refine ite2 (fun c2 => ?_) (fun c2 => ?_)
      · refine ⟨_, rfl, p, l, ns, a1, b1, 13, rfl, P1, by omega, by decide, by decide, fun H2 st a2 b2 s0 s1 h21 h22 bt2 P2 => ?_⟩
        refine ⟨_, rfl, p, l, ns, a2, b2, 3, rfl, P2, by omega, by decide, by decide, fun H3 d a3 b3 d0 d1 h31 h32 bt3 P3 => ⟨_, _, rfl, rfl, ?_⟩⟩
        refine ⟨_, rfl, p, l, ns, a3, b3, 3, rfl, P3, by omega, by decide, by decide, fun H40 e a4 b4 e0 e1 h41 h42 bt40 P40 => ⟨_, _, rfl, rfl, ?_⟩⟩
        refine ⟨(by show 3 ≤ PySem.sizeLine; decide), fun q hq => ⟨q, _, rfl, SqT.of upd_same, rfl, _, _, rfl, _, _, rfl, _, _, rfl, rfl, ?_⟩⟩
        have P4 : PenAt (upd H40 q (.tup [.int st, .int (1 + d), .int (1 + e)])) p l ns a4 b4 := pen_same (Same.lay hq) P40
        have bt4 : But p H3 (upd H40 q (.tup [.int st, .int (1 + d), .int (1 + e)])) := bt40.new hq
        generalize upd H40 q (.tup [.int st, .int (1 + d), .int (1 + e)]) = H4 at P4 bt4 ⊢
        have bt : But p H H4 := ((bt1.trans bt2).trans bt3).trans bt4
        have wh := mul_lt_of (m := 3) (n := 3) (show (0 : Int) ≤ 1 + d by omega) (by omega) (show (0 : Int) ≤ 1 + e by omega) (by omega)
        have wp : 0 < (1 + d) * (1 + e) := Int.mul_pos (by omega) (by omega)
        refine ⟨_, rfl, _, rfl, _, _, rfl, rfl, .inl ⟨by omega, by omega⟩, _, rfl, by omega, by omega, fun D hD => ?_⟩
        refine lc_it walk_range (fun i G => ∃ ds : List Int, G = upd H4 D (.lst (ds.map V.int)) ∧ ds.length = i ∧ ∀ z ∈ ds, 0 ≤ z ∧ z ≤ 1000) ⟨[], rfl, rfl, fun _ z => nomatch z⟩ (fun _ _ _ _ => trivial) ?_ ?_
        · rintro i x G G' hi ⟨ds, rfl, lds, rds⟩ ⟨rfl, rfl⟩
          have hi2 : i < 9 := by omega
          have dv0 : 0 ≤ (0 + (i : Int)) / (1 + d) := Int.ediv_nonneg (by omega) (by omega)
          have dv1 : (0 + (i : Int)) / (1 + d) ≤ 9 := Int.le_trans (Int.ediv_le_self _ (by omega)) (by omega)
          have m0 := Int.emod_nonneg (0 + (i : Int)) (b := 1 + d) (by omega)
          have m1 := Int.emod_lt_of_pos (0 + (i : Int)) (b := 1 + d) (by omega)
          have mb := mul_lt_of (m := 12) (n := 9) s0 (by omega) dv0 dv1
          refine ⟨rfl, _, rfl, .inl ⟨_, rfl, _, rfl, _, _, rfl, rfl, by omega, _, rfl, _, rfl, _, rfl, _, _, rfl, rfl, ⟨by omega, log_41 (by omega) (by omega)⟩, _, _, rfl, rfl, .inl ⟨by omega, by omega⟩, _, _, rfl, rfl, _, upd_same, small_n (by rw [List.length_map, lds]; omega), ds ++ [(0 + (i : Int)) % (1 + d) + st * ((0 + (i : Int)) / (1 + d))], ?_, by rw [List.length_append, lds]; rfl, fun z hz => ?_⟩⟩
          · rw [upd_upd, List.map_append]
            rfl
          · rcases List.mem_append.mp hz with h | h
            · exact rds z h
            · rw [List.mem_singleton.mp h]
              omega
        · rintro G ⟨ds, rfl, lds, rds⟩
          refine k _ D ds a4 b4 (fun z => ?_) (by omega) rds (by omega) (by omega) (fun c o nc e => ?_) (pen_same (Same.lay hD) P4) (bt.free hD (ne_of_none P4.pen hD).symm) upd_same
          · rw [z] at lds
            have : (0 : Nat) = ((1 + d) * (1 + e)).toNat := lds
            omega
          · exact Same.lay hD _ _ (bt _ _ nc e)
      · refine ⟨_, rfl, p, l, ns, a1, b1, 4, rfl, P1, by omega, by decide, by decide, fun H2 d a2 b2 d0 d1 h21 h22 bt2 P2 => ⟨_, _, rfl, rfl, ?_⟩⟩
        refine ⟨_, rfl, by omega, by omega, fun D hD => ?_⟩
        have bt : But p H H2 := bt1.trans bt2
        refine lc_it walk_range (fun i G => ∃ ds, RowOf H2 p l D ns a2 41 i G ds ∧ ∃ a' b', PenAt G p l ns a' b' ∧ a ≤ a' ∧ a' ≤ a2 + i) ⟨[], row_start P2 hD, a2, b2, pen_same (Same.lay hD) P2, by omega, by omega⟩ (fun _ _ _ _ => trivial) ?_ ?_
        · rintro i x G G' hi ⟨ds, R, a', b', PG, g1, g2⟩ ⟨rfl, rfl⟩
          have hi2 : i < 5 := by omega
          refine ⟨rfl, _, rfl, p, l, ns, a', b', 41, rfl, PG, by omega, by decide, by decide, fun H' z a5 b5 z0 z1 h51 h52 bt5 P5 => ?_⟩
          obtain ⟨r1, r2⟩ := row_turn R hD P2 bt5 P5 (by omega) z0 z1
          exact ⟨_, r1, small_n (by rw [List.length_map, R.len]; omega), _, r2, a5, b5, pen_lay P5 (ne_of_none P2.pen hD).symm (ne_of_none P2.cells hD).symm, by omega, by omega⟩
        · rintro G ⟨ds, R, a', b', PG, g1, g2⟩
          have lds := R.len
          refine k _ D ds a' b' (fun z => ?_) (by omega) (fun z hz => ?_) g1 (by omega) (fun c o nc e => R.but _ _ nc (bt _ _ nc e)) PG (bt.free hD (ne_of_none P2.pen hD).symm) R.row
          · rw [z] at lds
            have : (0 : Nat) = (1 + d).toNat := lds
            omega
          · have := R.rng z hz
            omega
end
end Toy
set_option maxRecDepth 100000
set_option maxHeartbeats 2000000
/-! own classes: truth by __len__, <=, == beside any plain value; static methods -/
namespace L2
open PySem PySem.Spec PyProof.Rows ClX
theorem oth_looks {X : Cx} {C : Addr} {pins : List (Addr × Obj)} {σ : St} {H : Hp} {s : Shared} {y : V} {u : Value} (I : Inv X pins σ H s) (r : RelV y u) (h : Oth X.K C H y) : ∃ t, (∀ M : Model, PySem.W.Looks M s.heap (typeOf u) t) ∧ PySem.W.notFirst X.K C t = true := by
  rcases h with ⟨b, dx, fs, rfl, h⟩ | ⟨S, h⟩
  · cases r
    obtain ⟨mA, J, _⟩ := ins_get I.hok h
    obtain ⟨od, J, _⟩ := J.look
    exact ⟨_, fun M => J.type, by simp [PySem.W.notFirst]⟩
  · refine ⟨.type S, fun M => plain_looks I r h M, ?_⟩
    unfold PySem.W.notFirst
    rw [sub_no X.K C S (plain_name h)]
    simp
/-- own comparisons beside an instance or a plain value -/
def rOwnC (C : Addr) (sp : Sp) (E : XK) (K : PySem.W.Frag) : R2 := fun x y H Q => ∃ (a dx : Addr) (fs : List (Str × V)), x = .ref a ∧ H a = some (.ins C dx fs) ∧ Oth K C H y ∧ sp [x, y] H (fun v H' => ∃ b : Bool, v = .bl b ∧ Q (.bl b) H') E
section
variable {X : Cx} {CX : CXT} {n : Nat} {C f : Addr} {sp : Sp} {E : XK}
theorem own_cmp {op : CmpOp} (F : FnR X.prog X.w X.K X.mg X.base CX n f sp) (h1 : PySem.W.findIn X.K (.ref C) (cmpInfo op).2.1 = some (some (.ref f))) (h2 : PySem.W.isFn X.K (.ref f) = true) (hr : Room n X.A) (hx : Passes CX X E)
    {pins : List (Addr × Obj)} {σ : St} {H : Hp} {s : Shared} {x y : V} {v u : Value} {Q : VK} (I : Inv X pins σ H s) (rx : RelV x v) (ry : RelV y u) (hq : rOwnC C sp E X.K x y H Q) : wpAny (model X.prog X.w) X.A (richCompare op v u) (EP X pins σ Q) X.xe s := by
  obtain ⟨a, dx, fs, rfl, ha, hy, hsp⟩ := hq
  cases rx
  obtain ⟨mA, J, _⟩ := ins_get I.hok ha
  obtain ⟨od, J, _⟩ := J.look
  obtain ⟨t, ht, hn⟩ := oth_looks I ry hy
  obtain ⟨m, hF⟩ := I.fr
  refine PySem.W.cmp_K (op := op) (tb := t) hr.units0 hF I.ok.mod.kin J (ht _) hn h1 h2 (wpAny_call (codeAny_mono (own_codeR F hr rfl hx I (show Vals [V.ref a, y] [Value.ref a, u] from .cons rfl (.cons ry .nil)) hsp) fun r s' z => ?_))
  match r, z with
  | .error e, z => exact z
  | .ok .next, z => exact z.elim
  | .ok .brk, z => exact z.elim
  | .ok .cont, z => exact z.elim
  | .ok (.ret w), z =>
    obtain ⟨v, H', I', rz, b, rfl, q⟩ := z
    obtain rfl : w = Value.bool b := rz
    exact ⟨.bl b, H', I', rfl, q⟩
theorem op_leOwn (F : FnR X.prog X.w X.K X.mg X.base CX n f sp) (h1 : PySem.W.findIn X.K (.ref C) "__le__" = some (some (.ref f))) (h2 : PySem.W.isFn X.K (.ref f) = true) (hr : Room n X.A) (hx : Passes CX X E) : OpR X (compareOp .LtE) (rOwnC C sp E X.K) := by
  intro pins s σ H x y v u Q I rx ry hq
  exact own_cmp (op := .LtE) F h1 h2 hr hx I rx ry hq
theorem op_eqOwnP (F : FnR X.prog X.w X.K X.mg X.base CX n f sp) (h1 : PySem.W.findIn X.K (.ref C) "__eq__" = some (some (.ref f))) (h2 : PySem.W.isFn X.K (.ref f) = true) (hr : Room n X.A) (hx : Passes CX X E) : OpR X (compareOp .Eq) (rOwnC C sp E X.K) := by
  intro pins s σ H x y v u Q I rx ry hq
  exact own_cmp (op := .Eq) F h1 h2 hr hx I rx ry hq
/-! truth -/
def rTruI (C : Addr) (sp : Sp) (E : XK) : V → Hp → (Bool → Hp → Prop) → Prop := fun x H Q => ∃ (a dx : Addr) (fs : List (Str × V)), x = V.ref a ∧ H a = some (.ins C dx fs) ∧ sp [V.ref a] H (fun v H' => ∃ i : Int, v = V.int i ∧ 0 ≤ i ∧ i < 2 ^ 63 ∧ Q (i != 0) H') E
theorem truth_len (F : FnR X.prog X.w X.K X.mg X.base CX n f sp) (hr : Room (n + 1) X.A) (h0 : PySem.W.findIn X.K (.ref C) "__bool__" = some none) (h1 : PySem.W.findIn X.K (.ref C) "__len__" = some (some (.ref f))) (h2 : PySem.W.isFn X.K (.ref f) = true) (hx : Passes CX X E)
    {pins : List (Addr × Obj)} {σ : St} {H : Hp} {s : Shared} {x : V} {v : Value} {Q : Bool → Hp → Prop} (I : Inv X pins σ H s) (rx : RelV x v) (hq : rTruI C sp E x H Q) : wpAny (model X.prog X.w) X.A (truthy v) (fun b s' => ∃ H', Inv X pins σ H' s' ∧ Q b H') X.xe s := by
  obtain ⟨a, dx, fs, rfl, ha, hsp⟩ := hq
  cases rx
  obtain ⟨mA, J, _⟩ := ins_get I.hok ha
  obtain ⟨od, J, _⟩ := J.look
  obtain ⟨m0, hF⟩ := I.fr
  have hr2 : Room n X.A.in1 := ⟨hr.hd, by have := hr.dp; show X.A.depth + 3 * n + 5 < _; omega, by have := hr.un; show X.A.units + 1 + 16 * n + 200 < _; omega⟩
  unfold truthy
  refine wpAny_bind (m := callSpecial? (.ref a) (Str.ofString "__bool__")) (wpAny_bind (wpAny_bind (J.type.here ((PySem.W.looks_findIn I.kIn h0).here (wpAny_pure ?_)))))
  refine wpAny_bind (wpAny_bind (J.type.here ((PySem.W.looks_findIn I.kIn h1).here ?_)))
  show wpAny _ _ (runValue (.builtin "len" ⟨[.ref a], []⟩) >>= _) _ _ _
  refine wpAny_bind (wpAny_runValue (codeAny_builtin entry_len ?_))
  rw [Around.under_plainId plain_len _]
  unfold Builtin.«len»
  refine wpAny_bind (m := oneArg "len" _) (wpAny_pure ?_)
  refine wpAny_bind (m := callSpecial? (.ref a) (Str.ofString "__len__")) (PySem.W.special_fn I.kIn J h1 (beq_iff_eq.mp h2) (wpAny_mono (wpAny_call (codeAny_mono (own_codeR F hr2 rfl hx I (show Vals [V.ref a] [Value.ref a] from .cons rfl .nil) hsp) (R := fun r s' => match r with | .ok (.ret v) => EP X pins σ _ v s' | .ok _ => False | .error e => X.xe e s') fun r s' z => z)) (fun r s' hr => ?_) fun _ _ y => y))
  obtain ⟨v, H', I', rz, i, rfl, i0, i1, q⟩ := hr
  obtain ⟨t, rfl⟩ := (show ∃ t, r = Value.int i t from rz)
  refine wpAny_bind (wpAny_holding (wpAny_pure ?_))
  refine wpAny_bind (wpAny_letGo ?_)
  show wpAny _ _ (if i < 0 then _ else _) _ _ _
  rw [if_neg (by omega)]
  show wpAny _ _ (if i ≥ 2 ^ 63 then _ else _) _ _ _
  rw [if_neg (by omega)]
  exact wpAny_bind (wpAny_mkInt (wpAny_pure (wpAny_pure ⟨H', I'.tok _, q⟩)))
theorem pt_truthI {e : Expr} {te : TE} (he : PE X e te) (F : FnR X.prog X.w X.K X.mg X.base CX n f sp) (hr : Room (n + 1) X.A) (h0 : PySem.W.findIn X.K (.ref C) "__bool__" = some none) (h1 : PySem.W.findIn X.K (.ref C) "__len__" = some (some (.ref f))) (h2 : PySem.W.isFn X.K (.ref f) = true) (hx : Passes CX X E)
    (hw : ∀ whole, isTrue e X.env whole = (do let v ← whole; standAt e.pos; holding [v] (truthy v)) := by exact fun _ => rfl) : PT X e (fun σ H Q => te σ H fun x H' => rTruI C sp E x H' Q) := by
  refine ⟨fun pins s σ H Q I h => ?_⟩
  exact isTrue_plain (thn (he.run pins s σ H _ I h) fun v s1 hh => by
    obtain ⟨x, H1, I1, r1, q1⟩ := hh
    exact truth_len F hr h0 h1 h2 hx I1 r1 q1) (hw _)
end
/-! static methods, called through the class -/
structure SMet (K : PySem.W.Frag) (C : Addr) (mc : Value) (m : Str) (p g : Addr) : Prop where
  at_ : PySem.W.findCls K (.ref C) mc m = some (.get (.builtin "staticmethod.__get__") (.ref p) .none (.ref C))
  rc : ∃ rest, PySem.W.recIn K p "staticmethod" = some (.ref g :: rest)
  kp : PySem.W.keepIn K (.ref g) = true
def tSMeth (C : Addr) (sp : Sp) (E : XK) (ta : TE) (t : TA) : TE := fun σ H Q => ta σ H fun x H1 => x = .ref C ∧ t σ H1 fun vs H2 => sp vs H2 Q E
section
variable {X : Cx} {CX : CXT} {k : Nat} {C p g : Addr} {mc : Value} {sp : Sp} {E : XK} {o e : Expr} {es : List Expr} {m : Str} {pos apos : Pos} {ta : TE} {t : TA} {pl : Sem Bool}
theorem getmethsm_ok {pins : List (Addr × Obj)} {σ : St} {H : Hp} {s : Shared} {A : Around} {Q : Value × List Value → Shared → Prop} {E : Value → Shared → Prop} (I : Inv X pins σ H s) (r : CRead X.K C mc) (c : SMet X.K C mc m p g) (h : ∀ s', Inv X pins σ H s' → Q (.ref g, []) s') : wpAny (model X.prog X.w) A (getMethod (.ref C) m pl) Q E s := by
  obtain ⟨rest, hp⟩ := c.rc
  refine PySem.W.method_cls I.kIn r.ga (PySem.W.cls_bind I.kIn r.rd c.at_ (wpAny_call (PySem.W.sm_get (s := { s with toks := s.toks + 1 }) I.kIn hp (PySem.W.handed_on rfl ?_))))
  exact h _ (I.tok _)
theorem pe_smeth (he : PE X o ta) (r : CRead X.K C mc) (c : SMet X.K C mc m p g) (F : FnR X.prog X.w X.K X.mg X.base CX k g sp) (hr : Room k X.A) (hx : Passes CX X E) (ha : PA X (e :: es) t)
    (hst : starEach (e :: es) X.env = (false, eval e X.env) :: starEach es X.env := by rfl) (hpl : (backTo pos (starEach es X.env)).any (·.1) = false := by rfl)
    (ht : eval (.Call (.Attribute o m apos) (e :: es) [] pos) X.env = (do
      let ov ← eval o X.env
      standAt apos.atName
      let (f, first) ← holding [ov] (getMethod ov m pl)
      callWith pos f first (backTo pos (starEach (e :: es) X.env)) (backToKw pos (keywordEach [] X.env))) := by rfl) : PE X (.Call (.Attribute o m apos) (e :: es) [] pos) (tSMeth C sp E ta t) := by
  refine ⟨fun pins s σ H Q I h => ?_⟩
  refine PySem.W.methodCall_KW (pl := pl) (thn (he.run pins s σ H _ I h) fun u s1 hh => ?_) ht
  obtain ⟨x, H1, I1, rx, ex, q⟩ := hh
  subst ex
  obtain rfl : u = Value.ref C := rx
  refine getmethsm_ok I1 r c fun s2 I2 => ?_
  refine PySem.W.callWith_K (h₀ := X.base) I2.ok.mod.kin c.kp (thn (ha.run pos pins s2 σ H1 _ I2 q) fun us s3 hv => ?_) hst hpl
  obtain ⟨vs, H2, I3, rv, q2⟩ := hv
  exact ⟨I3.kIn, wpAny_call (run_fnR F hr hx I3 rv q2)⟩
end
section
variable {X : Cx} {CX : CXT} {k : Nat} {p g C : Addr} {mc : Value} {fd : FuncData} {ps ks : List Str} {m : Str} {sp : Sp} {E : XK} {o : Expr} {ta : TE} {tk : TA} {pos apos : Pos} {kws : List Keyword} {gg : List Value → List Value → List Value} {gV : List V → List V → List V}
def tSMethK (C : Addr) (n : Nat) (sp : Sp) (gV : List V → List V → List V) (E : XK) (ta : TE) (tk : TA) : TE := fun σ H Q => ta σ H fun x H1 => x = .ref C ∧ tk σ H1 fun zs H2 => zs.length = n ∧ sp (gV [] zs) H2 Q E
theorem pe_smethK {pl : Sem Bool} (he : PE X o ta) (r : CRead X.K C mc) (c : SMet X.K C mc m p g) (F : FnOk X.prog X.w X.K X.mg X.base CX k g fd ps sp) (hr : Room k X.A) (hb : KBn X.K fd ps 0 ks gg gV) (hx : Passes CX X E) (hkw : PK X kws tk)
    (hall : (backToKw pos (keywordEach kws X.env)).all (·.1.isSome) = true := by rfl) (hks : (backToKw pos (keywordEach kws X.env)).filterMap (·.1) = ks := by rfl)
    (hpl : ((backTo pos (starEach [] X.env)).any (·.1) || (backToKw pos (keywordEach kws X.env)).any (·.1.isNone)) = false := by rfl)
    (ht : eval (.Call (.Attribute o m apos) [] kws pos) X.env = (do
      let ov ← eval o X.env
      standAt apos.atName
      let (f, first) ← holding [ov] (getMethod ov m pl)
      callWith pos f first (backTo pos (starEach [] X.env)) (backToKw pos (keywordEach kws X.env))) := by rfl) :
    PE X (.Call (.Attribute o m apos) [] kws pos) (tSMethK C ks.length sp gV E ta tk) := by
  refine ⟨fun pins s σ H Q I h => ?_⟩
  refine PySem.W.methodCall_KW (pl := pl) (thn (he.run pins s σ H _ I h) fun u s1 hh => ?_) ht
  obtain ⟨x, H1, I1, rx, ex, q⟩ := hh
  subst ex
  obtain rfl : u = Value.ref C := rx
  refine getmethsm_ok I1 r c fun s2 I2 => ?_
  refine PySem.W.callWith_KW0 (h₀ := X.base) I2.ok.mod.kin c.kp hall ?_ hpl
  refine thn (hkw.run pos pins s2 σ H1 _ I2 q) fun ws s3 hw => ?_
  obtain ⟨zs, H2, I3, rz, l2, q2⟩ := hw
  refine ⟨I3.kIn, ?_⟩
  rw [hks]
  have rr : Vals ([] : List V) ([] : List Value) := .nil
  have r2 := hb.rel rr rz
  refine wpAny_call (codeAny_mono (F.run X.A X.stack s3 H2 ⟨[], ks.zip ws⟩ (gg [] ws) (gV [] zs) Q E hr I3.env0 (hb.to s3 [] ws I3.kIn rfl (rz.length.symm.trans l2)) r2 q2) fun r s' hq => ?_)
  match r, hq with
  | .error e, hq => exact hx _ σ H2 s3 e s' I3 hq
  | .ok (.ret u), hq => exact I3.after hq
  | .ok .next, hq => exact hq.elim
  | .ok .brk, hq => exact hq.elim
  | .ok .cont, hq => exact hq.elim
end
/-- what the top has written of a static method -/
def smB (K : PySem.W.Frag) (C : Addr) (m : Str) : Bool := He5.wrapB K C "staticmethod" "staticmethod.__get__" m && PySem.W.keepIn K (.ref (He5.wf K C "staticmethod" m))
theorem sm_of {K : PySem.W.Frag} {C : Addr} {m : Str} (h : smB K C m = true) : SMet K C (.type "type") m (He.ma K C m) (He5.wf K C "staticmethod" m) := by
  obtain ⟨h1, h2⟩ := He.ba h
  obtain ⟨h3, h4⟩ := He5.wrapB_ok h1
  exact ⟨h3, h4, h2⟩
end L2
/-! the bookkeeping of a walk, whatever its body asks -/
namespace L2
open PySem PySem.Spec PyProof.Rows
theorem loop_it {J : It} {n : Nat} {G : Hp → Prop} {Y : Nat → Hp → V → Hp → Prop} (w : Walk J n G Y) {Body : (Hp → Prop) → V → Hp → Prop} {Done : Hp → Prop} {H0 : Hp} (Pv : Nat → Hp → Prop) (h0 : Pv 0 H0) (hG : ∀ i H, i ≤ n → Pv i H → G H)
    (hs : ∀ i x H H', i < n → Pv i H → Y i H x H' → Body (Pv (i + 1)) x H') (hd : ∀ H, Pv n H → Done H) :
    ∃ W : Nat → Nat → Hp → Prop, (∃ m, W 0 m H0) ∧ ∀ i m H, W i m H → (J.stop i H ∧ Done H) ∨ (J.go i H ∧ ∃ Nx : Hp → Prop, (∀ H', Nx H' → ∃ m', m' < m ∧ W (i + 1) m' H') ∧ ∀ x H', J.yld i H x H' → Body Nx x H') := by
  refine ⟨fun i m H => m = n - i ∧ i ≤ n ∧ Pv i H, ⟨n, rfl, Nat.zero_le _, h0⟩, fun i m H q => ?_⟩
  obtain ⟨e, hi, p⟩ := q
  have g := hG i H hi p
  rcases Nat.lt_or_ge i n with lt | ge
  · refine .inr ⟨w.goes i H lt g, Pv (i + 1), fun H' p' => ⟨n - (i + 1), ?_, rfl, lt, p'⟩, fun x H' y => hs i x H H' lt p (w.yields i H x H' lt g y)⟩
    omega
  · obtain rfl : i = n := Nat.le_antisymm hi ge
    exact .inl ⟨w.stops H g, hd H p⟩
end L2
set_option maxRecDepth 100000
set_option maxHeartbeats 4000000
namespace L2
open PySem PySem.Spec PyProof.Rows
/-! a tuple taken no times -/
theorem tuple_mul_none (l : Addr) (its : Array Value) (n : Nat) (dd : Option Addr) (sl : Array (Option Value)) (u : Tok) (ne : its.isEmpty = false) :
    Meets (Builtin.«tuple.__mul__» ⟨[.ref l, .int 0 u], []⟩) (fun _ R s => s.heap.get? l = some { cls := .type "tuple", dict := dd, data := .seq its n, slots := sl } ∧
      R (.ok (.ret (Value.ref s.heap.objs.size))) { s with heap := s.heap.push { cls := Value.type "tuple", data := Data.seq #[] }, toks := s.toks }) :=
  .of_wp fun prog w A R s h => by
    obtain ⟨hp, g, d, tk, os⟩ := s
    obtain ⟨hl, h⟩ := h
    have f1 := AutoSeq1.idx_int
    have c0 : (decide ((0 : Int) < -(2 ^ 63)) || decide ((0 : Int) ≥ 2 ^ 63)) = false := by decide
    have c1 : (its.isEmpty || (0 : Int) == 1) = false := by rw [ne]; rfl
    have c2 : (decide ((0 : Int) ≤ 0) || its.isEmpty) = true := by simp
    wp_walk using wpAny_loadPart' hl
    repeat (first
      | (refine wpAny_ite_false (decide_eq_false (by rw [c0]; exact Bool.false_ne_true)) ?_; wp_walk using wpAny_loadPart' hl)
      | (refine wpAny_ite_false (decide_eq_false (by rw [c1]; exact Bool.false_ne_true)) ?_; wp_walk using wpAny_loadPart' hl)
      | (refine wpAny_ite_true (decide_eq_true c2) ?_; wp_walk using wpAny_loadPart' hl))
    exact ⟨_, rfl, h⟩
def rRep0 (K : PySem.W.Frag) : R2 := fun x y H Q => ∃ l xs, x = .ref l ∧ y = .int 0 ∧ SqT K H l xs ∧ xs ≠ [] ∧ ∀ p, H p = none → Q (.ref p) (upd H p (.tup []))
theorem op_rep0 {X : Cx} : OpR X (binaryOp .Mult) (rRep0 X.K) := by
  intro pins s σ H x y v u Q I rx ry h
  obtain ⟨l, xs, rfl, rfl, hT, ne, q⟩ := h
  cases rx
  obtain ⟨t, rfl⟩ := ry
  obtain ⟨its, r, ⟨⟨cls, dd, data, sl⟩, ho, hc, n, hd⟩, hs⟩ := I.tuple hT
  simp only at hc hd
  subst hc hd
  have hi : its.toArray.isEmpty = false := by
    cases r with
    | nil => exact absurd rfl ne
    | cons a b => rfl
  exact wpAny_binaryOp_repeat_ref (T := "tuple") (U := "int") (by decide) ⟨_, ho, rfl⟩ (fun s' => typeIs_int s' 0 t) noFill_tuple_mul F.fills_int_mul F.slot_int_rmul repeat_tuple F.slot_int_index.lookup
    (call_meets F.slot_int_rmul (typeIs_int s 0 t) F.entry_int_rmul (F.args_int_rmul_2 _ _) (int_rmul_tuple 0 t l its.toArray n dd sl)
      ⟨ho, rfl, ⟨_, ho, rfl⟩, call_meets F.slot_tuple_mul ⟨_, ho, rfl⟩ F.entry_tuple_mul (F.args_tuple_mul_2 _ _) (tuple_mul_none l its.toArray n dd sl t hi)
        ⟨ho, .ref s.heap.objs.size, _, I.laid (t' := s.toks) (o := .tup []) (fun b ob q => Heap.get?_push_of_some _ q) (Nat.le_refl _) (show ObjOk X.prog X.w _ _ _ (.tup []) from ⟨Nat.zero_le _, [], .nil, IsTup.new _ _⟩), rfl, q _ (I.hok.fresh (Nat.le_refl _))⟩⟩)
/-- t * k, also for no times -/
def rRepZ : R2 := fun x y H Q => ∃ (a : Addr) (k : Nat) (xs : List V), x = .ref a ∧ y = .int (k : Int) ∧ H a = some (.tup xs) ∧ xs ≠ [] ∧ k ≤ 1000 ∧ xs.length ≤ 1000 ∧ ∀ p H', Same H H' → H' p = some (.tup (List.replicate k xs).flatten) → Q (.ref p) H'
theorem op_repZ {X : Cx} : OpR X (binaryOp .Mult) rRepZ := by
  intro pins s σ H x y v u Q I rx ry h
  obtain ⟨a, k, xs, rfl, rfl, h, ne, h1, h2, q⟩ := h
  by_cases hk : k = 0
  · subst hk
    exact op_rep0 pins s σ H _ _ v u Q I rx ry ⟨a, xs, rfl, rfl, SqT.of h, ne, fun p hp => q p _ (Same.lay hp) upd_same⟩
  · exact op_repP pins s σ H _ _ v u Q I rx ry ⟨a, (k : Int), xs, rfl, rfl, h, ne, by omega, by omega, h2, fun p H' s' e => q p H' s' (by rw [show ((k : Int)).toNat = k from Int.toNat_natCast k] at e; exact e)⟩
end L2
set_option maxRecDepth 100000
namespace L2
open PySem PySem.Spec PyProof.Rows
/-- e.f, its reading by name of the written part (for a comprehension's block) -/
theorem pe_fldK {X : Cx} {K : PySem.W.Frag} {e : Expr} {f : Str} {pos : Pos} {ta : TE} (he : PE X e ta) (hK : X.K = K := by rfl) (hb : attributeBase e f X.env (eval e X.env) = eval e X.env := by rfl) : PE X (.Attribute e f pos) (tFld K ta f) := by
  subst hK
  exact pe_fld he hb
end L2
set_option maxRecDepth 100000
namespace Toy
open PySem L2 TL ClX
abbrev s_Pattern___contains__ : Stmt := (inClass (top 16) 8)
abbrev s_Pattern___or__ : Stmt := (inClass (top 16) 9)
abbrev s_Pattern___le__ : Stmt := (inClass (top 16) 10)
abbrev s_Pattern___add__ : Stmt := (inClass (top 16) 11)
abbrev s_Pattern_gaps : Stmt := (inClass (top 16) 12)
abbrev s_Pattern_strided : Stmt := (inClass (top 16) 1)
abbrev s_Pattern_tiled : Stmt := (inClass (top 16) 2)
theorem three {H : Hp} {a b c : Addr} {o1 o2 o3 : HO} (h1 : H a = none) (h2 : (upd H a o1) b = none) (h3 : (upd (upd H a o1) b o2) c = none) : Same H (upd (upd (upd H a o1) b o2) c o3) ∧ (upd (upd (upd H a o1) b o2) c o3) c = some o3 :=
  ⟨fun _ _ z => Same.lay h3 _ _ (Same.lay h2 _ _ (Same.lay h1 _ _ z)), upd_same⟩
/-- what comes of Pattern(*zs) -/
def PatOut (CT CM C : Addr) (H : Hp) (zs : List Int) (Q : VK) (E : XK) : Prop :=
  (∀ i, badOff (zs.map V.int) = some i → ∀ d H', H d = none → Same H H' → H' d = some (.xd [("part", .int (i : Nat))]) → E (.ref CT) (some d) H') ∧
  (badOff (zs.map V.int) = none → (32 < (sortU zs).length → ∀ d H', H d = none → Same H H' → H' d = some (.xd [("most", .int 32), ("what", .str "offsets")]) → E (.ref CM) (some d) H') ∧
    ((sortU zs).length ≤ 32 → ∀ H' x, Same H H' → PatAt C H' x (sortU zs) → Q (.ref x) H'))
def spMk (CT CM C : Addr) (K : PySem.W.Frag) : Sp := fun vs H Q E => ∃ v rest, vs = v :: rest ∧ rest.length ≤ PySem.sizeLine ∧ ∀ p, H p = none → spPInit CT CM C K [v, .ref p] (upd H p (.tup rest)) Q E
theorem out_same {CT CM C : Addr} {H H1 : Hp} {zs : List Int} {Q : VK} {E : XK} (s : Same H H1) (h : PatOut CT CM C H zs Q E) : PatOut CT CM C H1 zs Q E :=
  ⟨fun i hi d H' hd s' e => h.1 i hi d H' (s.free hd) (fun _ _ z => s' _ _ (s _ _ z)) e, fun hn => ⟨fun big d H' hd s' e => (h.2 hn).1 big d H' (s.free hd) (fun _ _ z => s' _ _ (s _ _ z)) e, fun few H' x s' pa => (h.2 hn).2 few H' x (fun _ _ z => s' _ _ (s _ _ z)) pa⟩⟩
theorem make_pat {CT CM C : Addr} {K : PySem.W.Frag} {H : Hp} {zs : List Int} {Q : VK} {E : XK} (ne : zs ≠ []) (l : zs.length ≤ 4000) (l64 : (sortU zs).length < 64) (h : PatOut CT CM C H zs Q E) :
    ∀ x dx, H x = none → H dx = none → dx ≠ x → spMk CT CM C K (.ref x :: zs.map V.int) (upd (upd H dx (.own x)) x (.ins C dx [])) (fun v H2 => v = .non ∧ Q (.ref x) H2) E := by
  intro x dx nx ndx hne
  have sz : PySem.sizeLine = 16777216 := rfl
  refine ⟨_, _, rfl, by rw [List.length_map]; omega, fun q nq => ⟨x, dx, q, _, rfl, ?_, upd_same, ?_, by rw [List.length_map]; omega, ?_, ?_, ?_⟩⟩
  · rw [upd_ne (fun z => by rw [z, upd_same] at nq; cases nq)]
    exact upd_same
  · intro y hy
    obtain ⟨z, _, rfl⟩ := List.mem_map.mp hy
    exact ⟨_, .int z⟩
  all_goals
    have up : Same H (upd (upd (upd H dx (.own x)) x (.ins C dx [])) q (.tup (zs.map V.int))) := fun c o e => by
      have g2 : (upd (upd H dx (.own x)) x (.ins C dx [])) c = some o := by
        rw [upd_ne (ne_of_none e nx), upd_ne (ne_of_none e ndx)]
        exact e
      rw [upd_ne (ne_of_none g2 nq)]
      exact g2
    have keep : ∀ H' : Hp, But x (upd (upd (upd H dx (.own x)) x (.ins C dx [])) q (.tup (zs.map V.int))) H' → Same H H' := fun H' b c o e => b c o (ne_of_none e nx) (up _ _ e)
  · exact fun i hi d H' hd b e => h.1 i hi d H' (up.free hd) (keep H' b) e
  · exact fun z => absurd (List.map_eq_nil_iff.mp z) ne
  · intro ns en _ hn
    obtain rfl : zs = ns := map_int_inj en
    exact ⟨l64, fun big d H' hd b e => (h.2 hn).1 big d H' (up.free hd) (keep H' b) e, fun few H' b pa => ⟨rfl, (h.2 hn).2 few H' x (keep H' b) pa⟩⟩
theorem off_none {zs : List Int} (h : ∀ z ∈ zs, 0 ≤ z ∧ z ≤ 10 ^ 30) : badOff (zs.map V.int) = none := badOff_none fun j hj => by
  rw [List.length_map] at hj
  rw [List.getD_eq_getElem?_getD, List.getElem?_map, List.getElem?_eq_getElem hj]
  exact decide_eq_true (h _ (List.getElem_mem hj))
theorem inV_ints (i : Int) (ns : List Int) : inV (.int i) (ns.map V.int) = decide (i ∈ ns) := by
  unfold inV
  rw [List.any_map]
  induction ns with
  | nil => rfl
  | cons z r ih =>
    rw [List.any_cons, ih]
    show ((z == i) || decide (i ∈ r)) = decide (i ∈ z :: r)
    by_cases h : z = i
    · subst h
      simp
    · have h2 : ¬ i = z := fun e => h e.symm
      simp [h, h2]
theorem flat_ints (ns : List Int) : (ns.map V.int).all flatV = true := List.all_eq_true.mpr fun y hy => by
  obtain ⟨z, _, rfl⟩ := List.mem_map.mp hy
  rfl
/-- the numbers of a strided and of a tiled pattern, the gaps -/
def stridedN (n s : Int) : List Int := (List.range n.toNat).map fun (i : Nat) => (0 + ((i : Nat) : Int)) * s
def tiledN (w h p : Int) : List Int := (List.range h.toNat).flatMap fun (y : Nat) => (List.range w.toNat).map fun (x : Nat) => (0 + ((x : Nat) : Int)) + (0 + ((y : Nat) : Int)) * p
def pairRow (ns : List Int) (i : Nat) : List (Int × Int) := (ns.drop (i + 1)).map fun z => (ns.getD i 0, z)
def pairsOf (ns : List Int) (k : Nat) : List (Int × Int) := (List.range k).flatMap (pairRow ns)
def diffs (ns : List Int) : List Int := (pairsOf ns ns.length).map fun p => p.2 - p.1
theorem pairs_len (ns : List Int) : ∀ k, (pairsOf ns k).length ≤ k * ns.length
  | 0 => Nat.le_of_eq (by simp [pairsOf])
  | k + 1 => by
    have ih := pairs_len ns k
    unfold pairsOf at ih ⊢
    rw [List.range_succ, List.flatMap_append, List.length_append]
    have : ([k].flatMap (pairRow ns)).length ≤ ns.length := by
      simp only [List.flatMap_cons, List.flatMap_nil, List.append_nil]
      unfold pairRow
      rw [List.length_map, List.length_drop]
      omega
    rw [Nat.succ_mul]
    omega
/-- refs to pairs -/
def PairsAt (G : Hp) (rs : List V) (ps : List (Int × Int)) : Prop := rs.length = ps.length ∧ ∀ (j : Nat) (p : Int × Int), ps[j]? = some p → ∃ T, rs[j]? = some (.ref T) ∧ G T = some (.tup [.int p.1, .int p.2])
theorem PairsAt.snoc {G G' : Hp} {rs : List V} {ps : List (Int × Int)} {T : Addr} {a b : Int} (h : PairsAt G rs ps) (k : ∀ t xs, G t = some (.tup xs) → G' t = some (.tup xs)) (e : G' T = some (.tup [.int a, .int b])) : PairsAt G' (rs ++ [.ref T]) (ps ++ [(a, b)]) := by
  refine ⟨by rw [List.length_append, List.length_append, h.1]; rfl, fun j p hj => ?_⟩
  by_cases c : j < ps.length
  · rw [List.getElem?_append_left c] at hj
    obtain ⟨T', e1, e2⟩ := h.2 j p hj
    exact ⟨T', by rw [List.getElem?_append_left (by rw [h.1]; exact c)]; exact e1, k _ _ e2⟩
  · rw [List.getElem?_append_right (by omega)] at hj
    have : j - ps.length = 0 := by
      have := (List.getElem?_eq_some_iff.mp hj).1
      simp at this
      omega
    rw [this] at hj
    obtain rfl := Option.some.inj hj
    refine ⟨T, ?_, e⟩
    rw [List.getElem?_append_right (by rw [h.1]; omega), h.1, this]
    rfl
theorem PairsAt.keep {G G' : Hp} {rs : List V} {ps : List (Int × Int)} (h : PairsAt G rs ps) (k : ∀ t xs, G t = some (.tup xs) → G' t = some (.tup xs)) : PairsAt G' rs ps :=
  ⟨h.1, fun j p hj => let ⟨T, e1, e2⟩ := h.2 j p hj; ⟨T, e1, k _ _ e2⟩⟩
theorem cut_from (xs : List V) (k : Nat) : cutV xs (some (k : Int)) none = xs.drop k := by
  unfold cutV
  rw [HT.sIx_nat, HT.sIx_none]
  rcases Nat.lt_or_ge k xs.length with h | h
  · rw [Nat.min_eq_left (Nat.le_of_lt h)]
    exact List.take_of_length_le (by rw [List.length_drop]; exact Nat.le_refl _)
  · rw [Nat.min_eq_right h, List.drop_eq_nil_of_le h, List.drop_length]
    simp
def memV (x : V) (ns : List Int) : Bool := match x with
  | .int i => decide (i ∈ ns)
  | _ => false
def spPIn (C : Addr) (K : PySem.W.Frag) : Sp := fun vs H Q _ => ∃ (p : Addr) (ns : List Int) (x : V) (S : String), vs = [.ref p, x] ∧ PatAt C H p ns ∧ Plain K H x S ∧ Q (.bl (memV x ns)) H
def spPOr (CT CM C : Addr) (K : PySem.W.Frag) : Sp := fun vs H Q E => ∃ (p : Addr) (ns : List Int) (y : V), vs = [.ref p, y] ∧ PatAt C H p ns ∧ ns ≠ [] ∧ ns.length ≤ 32 ∧
  ((∃ (q : Addr) (ms : List Int), y = .ref q ∧ PatAt C H q ms ∧ ms.length ≤ 31 ∧ PatOut CT CM C H (ns ++ ms) Q E) ∨ ∃ S, Plain K H y S ∧ ∀ d H', H d = none → Same H H' → H' d = some (.xd [("part", .str "other")]) → E (.ref CT) (some d) H')
def spPLe (CT C : Addr) (K : PySem.W.Frag) : Sp := fun vs H Q E => ∃ (p : Addr) (ns : List Int) (y : V), vs = [.ref p, y] ∧ PatAt C H p ns ∧ ns.length ≤ 32 ∧
  ((∃ (q : Addr) (ms : List Int), y = .ref q ∧ PatAt C H q ms ∧ ∀ H', Same H H' → Q (.bl (ns.all fun z => decide (z ∈ ms))) H') ∨ ∃ S, Plain K H y S ∧ ∀ d H', H d = none → Same H H' → H' d = some (.xd [("part", .str "other")]) → E (.ref CT) (some d) H')
def spPAdd (CT CN CM C : Addr) (K : PySem.W.Frag) : Sp := fun vs H Q E => ∃ (p : Addr) (ns : List Int) (y : V) (S : String), vs = [.ref p, y] ∧ PatAt C H p ns ∧ ns ≠ [] ∧ ns.length ≤ 32 ∧ Plain K H y S ∧
  (withinV 0 (10 ^ 30) y = false → ∀ d H', H d = none → Same H H' → H' d = some (.xd [("value", y)]) → E (.ref CN) (some d) H') ∧ (∀ n, y = .int n → 0 ≤ n → n ≤ 10 ^ 30 → PatOut CT CM C H (ns.map fun z => z + n) Q E)
def spPGaps (C : Addr) : Sp := fun vs H Q _ => ∃ (p : Addr) (ns : List Int), vs = [.ref p] ∧ PatAt C H p ns ∧ ns.length ≤ 32 ∧ (sortU (diffs ns)).length < 64 ∧ ∀ H' q, Same H H' → H' q = some (.tup ((sortU (diffs ns)).map V.int)) → Q (.ref q) H'
def spStrided (CT CM C : Addr) (K : PySem.W.Frag) : Sp := fun vs H Q E => ∃ (x y : V) (S S' : String), vs = [x, y] ∧ Plain K H x S ∧ Plain K H y S' ∧
  (withinV 1 32 x = false → ∀ d H', H d = none → Same H H' → H' d = some (.xd [("part", .str "lanes")]) → E (.ref CT) (some d) H') ∧
  (withinV 1 32 x = true → withinV 0 (10 ^ 28) y = false → ∀ d H', H d = none → Same H H' → H' d = some (.xd [("part", .str "stride")]) → E (.ref CT) (some d) H') ∧
  (∀ n s, x = .int n → y = .int s → 1 ≤ n → n ≤ 32 → 0 ≤ s → s ≤ 10 ^ 28 → ∀ H' x, Same H H' → PatAt C H' x (sortU (stridedN n s)) → Q (.ref x) H')
def spTiled (CT CM C : Addr) (K : PySem.W.Frag) : Sp := fun vs H Q E => ∃ (x y z : V) (S S' S2 : String), vs = [x, y, z] ∧ Plain K H x S ∧ Plain K H y S' ∧ Plain K H z S2 ∧
  (withinV 1 32 x = false → ∀ d H', H d = none → Same H H' → H' d = some (.xd [("part", .str "width")]) → E (.ref CT) (some d) H') ∧
  (withinV 1 32 x = true → withinV 1 32 y = false → ∀ d H', H d = none → Same H H' → H' d = some (.xd [("part", .str "height")]) → E (.ref CT) (some d) H') ∧
  (withinV 1 32 x = true → withinV 1 32 y = true → withinV 0 (10 ^ 28) z = false → ∀ d H', H d = none → Same H H' → H' d = some (.xd [("part", .str "pitch")]) → E (.ref CT) (some d) H') ∧
  (∀ w h p, x = .int w → y = .int h → z = .int p → 1 ≤ w → w ≤ 32 → 1 ≤ h → h ≤ 32 → 0 ≤ p → p ≤ 10 ^ 28 → (sortU (tiledN w h p)).length < 64 ∧ PatOut CT CM C H (tiledN w h p) Q E)
section
variable {P : Program} {w : World} {K : PySem.W.Frag} {mg : Str → Option Value} {base : Heap} {CT CN CW CM uT uN uW uM : Addr} {fdT fdN fdW fdM : FuncData} {C : Addr}
abbrev N_Pattern___contains__ : List Str := ["self", "x"]
theorem sc_Pattern___contains__ : FnScope N_Pattern___contains__ ["self", "x"] (defScope s_Pattern___contains__) := ⟨rfl, rfl, rfl, by decide +kernel, rfl, by decide +kernel, by decide +kernel⟩
theorem ok_Pattern_in {f fI : Addr} {fd fdI : FuncData} (F : Fun K "__contains__" "Pattern.__contains__" s_Pattern___contains__ f fd) (T : TR mg) (TU : TPat K mg C) (FI : Fun K "is_integer" "is_integer" s_is_integer fI fdI) (gI : mg "is_integer" = some (.ref fI)) (bI : Binds K fdI ["value"] []) : FnOk P w K mg base CX0 2 f fd ["self", "x"] (spPIn C K) := by
  have GI : FnOk P w K mg base CX0 1 fI fdI ["value"] (spIsInt K) := ok_is_integer FI T
  have kI := FI.kp
  refine F.ok sc_Pattern___contains__ (fun vs H Q E h => ?_) (fun cdv A outer s H vs Q E hr h => ?_)
  · obtain ⟨p, ns, x, S, rfl, _⟩ := h
    rfl
  · obtain ⟨p, ns, x, S, rfl, ⟨dx, po, h1, h2⟩, px, k⟩ := h
    refine ⟨_, (pss_one (ps_ret (pe_and (pe_call GI hr rfl gI kI bI .nil pass0 (pa_cons (pv 1) pa_nil)) (pe_one (pe_cmpR op_in_seq (pv 1) (pe_fld (pv 0) rfl) (by rfl)))))), ?_⟩
    refine ⟨_, rfl, x, S, rfl, px, _, rfl, ?_⟩
    cases x with
    | int i =>
      refine iteT ⟨_, rfl, _, rfl, p, C, dx, _, _, rfl, h1, TU.cl, TU.nO, fs_off _, po, _, rfl, .inr (SqT.of h2), rfl, flat_ints ns, ?_⟩
      show Q (.bl (inV (.int i) (ns.map V.int))) H
      rw [inV_ints]
      exact k
    | _ => exact k
abbrev N_Pattern___or__ : List Str := ["self", "other", "offsets"]
theorem sc_Pattern___or__ : FnScope N_Pattern___or__ ["self", "other"] (defScope s_Pattern___or__) := ⟨rfl, rfl, rfl, by decide +kernel, rfl, by decide +kernel, by decide +kernel⟩
theorem ok_Pattern_or {f fPI : Addr} {fd : FuncData} (F : Fun K "__or__" "Pattern.__or__" s_Pattern___or__ f fd) (T : TR mg) (TE : TErr K mg CT CN CW CM uT uN uW uM fdT fdN fdW fdM) (TU : TPat K mg C) (RC : PatCls K C)
    (MPI : Mk K C fPI) (GPI : FnR P w K mg base (L2.CX P w) 4 fPI (spMk CT CM C K)) : FnOk P w K mg base (L2.CX P w) 6 f fd ["self", "other"] (spPOr CT CM C K) := by
  refine F.okX sc_Pattern___or__ (fun vs H Q E h => ?_) (fun cdv A outer s H vs Q E hrM h => ?_)
  · obtain ⟨p, ns, y, rfl, _⟩ := h
    rfl
  · obtain ⟨p, ns, y, rfl, ⟨dx, po, h1, h2⟩, ne, ln, h⟩ := h
    have hrE : Room 2 _ := hrM.mono (by decide)
    refine ⟨_, (pss_cons (ps_if (pt_not (pt_val (pe_callB call_isi (by rfl) T.m_isinstance (by decide +kernel) (pa_cons (pv 1) (pa_cons (pe_glob (v := .ref C) rfl TU.gC rfl) pa_nil))))) (pss_one (ps_raise rfl (takes_of rfl rfl rfl rfl) (pmk_x TE.iBadTile (ok_BadTile TE) hrE TE.bBadTile (by decide) rfl TE.gBadTile (mono_c mono_nil) (pa_cons pe_str pa_nil)))) pss_nil)
 (pss_cons (ps_set (i := 2) sc_Pattern___or__.nd rfl (Or.inl rfl) (pe_op op_catP (pe_fld (pv 0) rfl) (pe_fld (pv 1) rfl)))
 (pss_one (ps_ret (pe_makeS MPI GPI hrM rfl TU.gC (passes_call (takes_of rfl rfl rfl rfl) fun _ _ _ _ h => h) (pv 2)))))), ?_⟩
    rcases h with ⟨q, ms, rfl, ⟨dy, qo, g1, g2⟩, lm, k⟩ | ⟨S, py, k⟩
    rotate_left
    · exact ⟨_, rfl, _, _, _, _, _, rfl, .own _, py.ty, RC.kS S (plain_name py), _, rfl, iteT ⟨rfl, fun d H' hd s e => k d H' hd s e⟩⟩
    refine ⟨_, rfl, _, _, _, _, _, rfl, .own _, .base (.ins g1 RC.cl RC.ha RC.hn RC.ht RC.hm), RC.kC, _, rfl, iteF ?_⟩
    refine ⟨_, rfl, p, C, dx, _, _, rfl, h1, TU.cl, TU.nO, fs_off _, _, rfl, q, C, dy, _, _, rfl, g1, TU.cl, TU.nO, fs_off _, po, qo, _, _, rfl, rfl, h2, g2, by rw [List.length_map, List.length_map]; omega, fun r H1 s1 hr => ?_⟩
    rw [← List.map_append] at hr
    have l63 := sortU_len (ns ++ ms)
    rw [List.length_append] at l63
    exact ⟨_, rfl, r, _, rfl, .inl (SqT.of hr), make_pat (fun z => ne (List.append_eq_nil_iff.mp z).1) (by rw [List.length_append]; omega) (by omega) (out_same s1 k)⟩
abbrev N_Pattern___le__ : List Str := ["self", "other", "offset"]
theorem sc_Pattern___le__ : FnScope N_Pattern___le__ ["self", "other"] (defScope s_Pattern___le__) := ⟨rfl, rfl, rfl, by decide +kernel, rfl, by decide +kernel, by decide +kernel⟩
theorem ok_Pattern_le {f : Addr} {fd : FuncData} (F : Fun K "__le__" "Pattern.__le__" s_Pattern___le__ f fd) (T : TR mg) (TE : TErr K mg CT CN CW CM uT uN uW uM fdT fdN fdW fdM) (TU : TPat K mg C) (RC : PatCls K C) : FnOk P w K mg base (L2.CX P w) 3 f fd ["self", "other"] (spPLe CT C K) := by
  refine F.okX sc_Pattern___le__ (fun vs H Q E h => ?_) (fun cdv A outer s H vs Q E hrE h => ?_)
  · obtain ⟨p, ns, y, rfl, _⟩ := h
    rfl
  · obtain ⟨p, ns, y, rfl, ⟨dx, po, h1, h2⟩, ln, h⟩ := h
    refine ⟨_, (pss_cons (ps_if (pt_not (pt_val (pe_callB call_isi (by rfl) T.m_isinstance (by decide +kernel) (pa_cons (pv 1) (pa_cons (pe_glob (v := .ref C) rfl TU.gC rfl) pa_nil))))) (pss_one (ps_raise rfl (takes_of rfl rfl rfl rfl) (pmk_x TE.iBadTile (ok_BadTile TE) hrE TE.bBadTile (by decide) rfl TE.gBadTile (mono_c mono_nil) (pa_cons pe_str pa_nil)))) pss_nil)
 (pss_one (ps_ret (pe_callB (cr_all rfl) (by rfl) T.m_all (by decide +kernel) (pa_cons (pe_lc (own := [("offset", 2)]) (g := (gName 2)) (tt := tYes) rfl sc_Pattern___le__.nd (pi_tup (pe_fld (pv 0) rfl)) (blkOk_by (N := N_Pattern___le__) (sc := defScope s_Pattern___le__) (by decide +kernel)) (fun _ _ _ _ _ => (pg_name (i := 2) sc_Pattern___le__.nd rfl (Or.inl rfl))) (fun _ _ _ _ _ => pts_nil) (fun _ _ _ _ _ => (pe_cmpR (show OpR _ (compareOp .In) (rIn K false) from op_in_seq) (pv 2) (pe_fldK (K := K) (pv 1)) (by rfl)))) pa_nil))))), ?_⟩
    rcases h with ⟨q, ms, rfl, ⟨dy, qo, g1, g2⟩, k⟩ | ⟨S, py, k⟩
    rotate_left
    · exact ⟨_, rfl, _, _, _, _, _, rfl, .own _, py.ty, RC.kS S (plain_name py), _, rfl, iteT ⟨rfl, fun d H' hd s e => k d H' hd s e⟩⟩
    refine ⟨_, rfl, _, _, _, _, _, rfl, .own _, .base (.ins g1 RC.cl RC.ha RC.hn RC.ht RC.hm), RC.kC, _, rfl, iteF ?_⟩
    refine ⟨_, rfl, p, C, dx, _, _, rfl, h1, TU.cl, TU.nO, fs_off _, po, rfl, ⟨_, SqT.of h2⟩, fun D hD => ?_⟩
    refine lc_it (walk_tup (xs := ns.map V.int)) (fun i G => G = upd H D (.lst (((ns.take i).map fun z => decide (z ∈ ms)).map V.bl))) rfl (fun i G _ z => by rw [z]; exact SqT.of (Same.lay hD _ _ h2)) ?_ ?_
    · rintro i x G G' hi rfl ⟨rfl, hx⟩
      rw [List.getElem?_map] at hx
      obtain ⟨n, hn, rfl⟩ := Option.map_eq_some_iff.mp hx
      have s1 := Same.lay (o := .lst (((ns.take i).map fun z => decide (z ∈ ms)).map V.bl)) hD
      refine ⟨rfl, _, rfl, _, rfl, q, C, dy, _, _, rfl, s1 _ _ g1, TU.cl, TU.nO, fs_off _, qo, _, rfl, .inr (SqT.of (s1 _ _ g2)), rfl, flat_ints ms, _, upd_same, small_n (by rw [List.length_map, List.length_map, List.length_take]; omega), ?_⟩
      rw [upd_upd, List.take_add_one, hn, List.map_append, List.map_append]
      show upd H D (.lst (_ ++ [V.bl (inV (.int n) (ms.map V.int))])) = _
      rw [inV_ints]
      rfl
    · rintro G rfl
      rw [List.length_map, List.take_length]
      refine ⟨D, _, rfl, SqL.of upd_same, ?_⟩
      rw [show ((ns.map fun z => decide (z ∈ ms)).all id) = ns.all fun z => decide (z ∈ ms) by rw [List.all_map]; rfl]
      exact k _ (Same.lay hD)
abbrev N_Pattern___add__ : List Str := ["self", "other", "offsets", "offset"]
theorem sc_Pattern___add__ : FnScope N_Pattern___add__ ["self", "other"] (defScope s_Pattern___add__) := ⟨rfl, rfl, rfl, by decide +kernel, rfl, by decide +kernel, by decide +kernel⟩
theorem ok_Pattern_add {f fW fPI : Addr} {fd fdW_ : FuncData} (F : Fun K "__add__" "Pattern.__add__" s_Pattern___add__ f fd) (T : TR mg) (TE : TErr K mg CT CN CW CM uT uN uW uM fdT fdN fdW fdM) (TU : TPat K mg C)
    (GW : FnOk P w K mg base CX0 2 fW fdW_ ["value", "least", "most"] (spWithin K)) (gW : mg "is_within" = some (.ref fW)) (kW : PySem.W.keepIn K (.ref fW) = true) (bW : Binds K fdW_ ["value", "least", "most"] [])
    (MPI : Mk K C fPI) (GPI : FnR P w K mg base (L2.CX P w) 4 fPI (spMk CT CM C K)) : FnOk P w K mg base (L2.CX P w) 6 f fd ["self", "other"] (spPAdd CT CN CM C K) := by
  refine F.okX sc_Pattern___add__ (fun vs H Q E h => ?_) (fun cdv A outer s H vs Q E hrM h => ?_)
  · obtain ⟨p, ns, y, S, rfl, _⟩ := h
    rfl
  · obtain ⟨p, ns, y, S, rfl, ⟨dx, po, h1, h2⟩, ne, ln, py, kE, kQ⟩ := h
    have hrE : Room 2 _ := hrM.mono (by decide)
    refine ⟨_, (pss_cons (ps_if (pt_not (pt_val (pe_call GW hrE rfl gW kW bW .nil pass0 (pa_cons (pv 1) (pa_cons pe_int (pa_cons (pe_glob (v := .int (10 ^ 30)) rfl T.g_GREATEST.choose_spec ⟨_, rfl⟩) pa_nil)))))) (pss_one (ps_raise rfl (takes_of rfl rfl rfl rfl) (pmk_x TE.iBadNumber (ok_BadNumber TE) hrE TE.bBadNumber (by decide) rfl TE.gBadNumber (mono_var mono_nil) (pa_cons (pv 1) pa_nil)))) pss_nil)
 (pss_cons (ps_setLc (i := 2) (own := [("offset", 3)]) (g := (gName 3)) (tt := tYes) rfl sc_Pattern___add__.nd rfl rfl (sw_true rfl rfl rfl (by decide +kernel)) (pi_tup (pe_fld (pv 0) rfl)) (blkOk_by (N := N_Pattern___add__) (sc := defScope s_Pattern___add__) (by decide +kernel)) (fun _ _ _ _ _ => (pg_name (i := 3) sc_Pattern___add__.nd rfl (Or.inl rfl))) (fun _ _ _ _ _ => pts_nil) (fun _ _ _ _ _ => (pe_op op_add (pv 3) (pv 1))))
 (pss_one (ps_ret (pe_makeS MPI GPI hrM rfl TU.gC (passes_call (takes_of rfl rfl rfl rfl) fun _ _ _ _ h => h) (pv 2)))))), ?_⟩
    refine ⟨_, rfl, y, S, 0, 10 ^ 30, rfl, py, _, rfl, ?_⟩
    cases hw : withinV 0 (10 ^ 30) y with
    | false => exact iteT ⟨_, rfl, rfl, fun d H' hd s e => kE hw d H' hd s e⟩
    | true =>
      obtain ⟨n, rfl, n0, n1⟩ := within_int hw
      refine iteF ⟨_, rfl, p, C, dx, _, _, rfl, h1, TU.cl, TU.nO, fs_off _, po, rfl, ⟨_, SqT.of h2⟩, fun D hD => ?_⟩
      refine lc_it (walk_tup (xs := ns.map V.int)) (fun i G => G = upd H D (.lst (((ns.take i).map fun z => z + n).map V.int))) rfl (fun i G _ z => by rw [z]; exact SqT.of (Same.lay hD _ _ h2)) ?_ ?_
      · rintro i x G G' hi rfl ⟨rfl, hx⟩
        rw [List.getElem?_map] at hx
        obtain ⟨z, hz, rfl⟩ := Option.map_eq_some_iff.mp hx
        refine ⟨rfl, _, rfl, _, rfl, _, _, rfl, rfl, _, upd_same, small_n (by rw [List.length_map, List.length_map, List.length_take]; omega), ?_⟩
        rw [upd_upd, List.take_add_one, hz, List.map_append, List.map_append]
        rfl
      · rintro G rfl
        rw [List.length_map, List.take_length]
        have lz := sortU_len (ns.map fun z => z + n)
        rw [List.length_map] at lz
        exact ⟨_, rfl, D, _, rfl, .inr (SqL.of upd_same), make_pat (fun z => ne (List.map_eq_nil_iff.mp z)) (by rw [List.length_map]; omega) (by omega) (out_same (Same.lay hD) (kQ n rfl n0 n1))⟩
abbrev N_Pattern_gaps : List Str := ["self", "pairs", "at", "one", "other"]
theorem sc_Pattern_gaps : FnScope N_Pattern_gaps ["self"] (defScope s_Pattern_gaps) := ⟨rfl, rfl, rfl, by decide +kernel, rfl, by decide +kernel, by decide +kernel⟩
theorem ok_Pattern_gaps {f : Addr} {fd : FuncData} (F : Fun K "gaps" "Pattern.gaps" s_Pattern_gaps f fd) (T : TR mg) (TU : TPat K mg C) : FnOk P w K mg base CX0 1 f fd ["self"] (spPGaps C) := by
  refine F.ok sc_Pattern_gaps (fun vs H Q E h => ?_) (fun cdv A outer s H vs Q E hr h => ?_)
  · obtain ⟨p, ns, rfl, _⟩ := h
    rfl
  · obtain ⟨p, ns, rfl, ⟨dx, po, h1, h2⟩, ln, l64, k⟩ := h
    refine ⟨_, (pss_cons (ps_setLc2 (i := 1) (wi1 := iTup K (tSl rSlP (tFld K (tVar 0) "offsets") (tPart (tOp (rI0 fun i j => .int (i + j)) (tVar 2) (tC (.int 1)))) tNoPart)) (own := [("at", 2), ("one", 3), ("other", 4)]) (g := (gTup K 2 (gCons (gName 2) (gCons (gName 3) gNil)))) (g1 := (gName 4)) (vs1 := [4]) (tt := tYes) (tt1 := tYes) rfl sc_Pattern_gaps.nd rfl rfl (sw_true rfl rfl rfl (by decide +kernel)) (pi_enumB (by rfl) T.m_enumerate (pa_cons (pe_fld (pv 0) rfl) pa_nil)) (blkOk_by (N := N_Pattern_gaps) (sc := defScope s_Pattern_gaps) (by decide +kernel)) (by decide) (fun _ _ _ _ _ => (pg_tup rfl (pgs_cons (pg_name (i := 2) sc_Pattern_gaps.nd rfl (Or.inl rfl)) (pgs_cons (pg_name (i := 3) sc_Pattern_gaps.nd rfl (Or.inl rfl)) pgs_nil)))) (fun _ _ _ _ _ => pts_nil) (fun _ _ _ _ _ => (pi_tup (pe_slice sl_tupP (pe_fldK (K := K) (pv 0)) (po_some (pe_op op_add (pv 2) pe_int)) po_none))) (fun _ _ _ _ _ => (pg_name (i := 4) sc_Pattern_gaps.nd rfl (Or.inl rfl))) (fun _ _ _ _ _ => pts_nil) (fun _ _ _ _ _ => (pe_tup (pa_cons (pv 3) (pa_cons (pv 4) pa_nil)))))
 (pss_one (ps_ret (pe_callTy call_tupP (by rfl) T.m_tuple (by decide +kernel) (pa_cons (pe_callB (cr_sortS rfl) (by rfl) T.m_sorted (by decide +kernel) (pa_cons (pe_callTy (cr_setInts rfl) (by rfl) T.m_set (by decide +kernel) (pa_cons (pe_lc (own := [("one", 3), ("other", 4)]) (g := (gTup K 2 (gCons (gName 3) (gCons (gName 4) gNil)))) (tt := tYes) rfl sc_Pattern_gaps.nd (pi_list (pv 1)) (blkOk_by (N := N_Pattern_gaps) (sc := defScope s_Pattern_gaps) (by decide +kernel)) (fun _ _ _ _ _ => (pg_tup rfl (pgs_cons (pg_name (i := 3) sc_Pattern_gaps.nd rfl (Or.inl rfl)) (pgs_cons (pg_name (i := 4) sc_Pattern_gaps.nd rfl (Or.inl rfl)) pgs_nil)))) (fun _ _ _ _ _ => pts_nil) (fun _ _ _ _ _ => (pe_callTy call_int1 (by rfl) T.m_int (by decide +kernel) (pa_cons (pe_op op_sub (pv 4) (pv 3)) pa_nil)))) pa_nil)) pa_nil)) pa_nil))))), ?_⟩
    have lm : (ns.map V.int).length = ns.length := List.length_map ..
    have pl := pairs_len ns ns.length
    have pl2 : ns.length * ns.length ≤ 32 * 32 := Nat.mul_le_mul ln ln
    refine ⟨_, rfl, p, C, dx, _, _, rfl, h1, TU.cl, TU.nO, fs_off _, true, po, _, rfl, SqB.tup h2, fun D hD => ?_⟩
    have nD : ∀ {b : Addr} {o : HO}, H b = some o → b ≠ D ∧ (upd H D (.lst [])) b = some o := fun e => ⟨ne_of_none e hD, Same.lay hD _ _ e⟩
    refine loop_it (walk_enumB (xs := ns.map V.int)) (fun i G => ∃ rs, But D (upd H D (.lst [])) G ∧ G D = some (.lst rs) ∧ PairsAt G rs (pairsOf ns i)) ⟨[], But.refl _ _, upd_same, rfl, fun _ _ z => nomatch z⟩ ?_ ?_ ?_
    · rintro i G _ ⟨rs, bt, _⟩
      exact SqB.tup (bt _ _ (nD h2).1 (nD h2).2)
    · rintro i x G G' hi ⟨rs, bt, hG, ps⟩ ⟨T1, y0, x0, rfl, hT1, rfl, e0, hx0⟩
      obtain rfl := Option.some.inj e0
      replace hx0 : (ns.map V.int)[i]? = some x0 := hx0
      rw [List.getElem?_map] at hx0
      obtain ⟨one, hone, rfl⟩ := Option.map_eq_some_iff.mp hx0
      rw [lm] at hi
      have y1 := Same.lay (o := .tup [V.int (i : Nat), V.int one]) hT1
      refine ⟨T1, _, rfl, SqT.of upd_same, rfl, _, _, rfl, _, _, rfl, rfl, rfl, ?_⟩
      have b2 : But D (upd H D (.lst [])) (upd G T1 (.tup [V.int (i : Nat), V.int one])) := bt.new hT1
      have hG2 := y1 _ _ hG
      have ps2 := ps.keep (G' := upd G T1 (.tup [V.int (i : Nat), V.int one])) fun _ _ z => y1 _ _ z
      generalize upd G T1 (.tup [V.int (i : Nat), V.int one]) = G2 at b2 hG2 ps2 ⊢
      have in2 : ∀ {b : Addr} {o : HO}, H b = some o → G2 b = some o := fun e => b2 _ _ (nD e).1 (nD e).2
      refine ⟨_, rfl, p, C, dx, _, _, rfl, in2 h1, TU.cl, TU.nO, fs_off _, _, rfl, _, _, rfl, rfl, _, rfl, po, _, rfl, in2 h2, fun q G3 s3 hq => ?_⟩
      rw [show ((i : Nat) : Int) + 1 = ((i + 1 : Nat) : Int) by omega, cut_from, ← List.map_drop] at hq
      have b3 : But D (upd H D (.lst [])) G3 := b2.trans (But.of s3)
      have hG3 := s3 _ _ hG2
      have ps3 := ps2.keep (G' := G3) fun _ _ z => s3 _ _ z
      have nqD : q ≠ D := fun z => by
        rw [z, hG3] at hq
        cases hq
      refine ⟨q, rfl, ⟨_, SqT.of hq⟩, ?_⟩
      refine loop_it (walk_tup (xs := (ns.drop (i + 1)).map V.int)) (fun j G => ∃ rs, But D G3 G ∧ G D = some (.lst rs) ∧ PairsAt G rs (pairsOf ns i ++ (pairRow ns i).take j)) ⟨rs, But.refl _ _, hG3, by rw [List.take_zero, List.append_nil]; exact ps3⟩ ?_ ?_ ?_
      · rintro j G _ ⟨rs', bt', _⟩
        exact SqT.of (bt' _ _ nqD hq)
      · rintro j x G4 G5 hj ⟨rs', bt', hG', ps'⟩ ⟨rfl, hx⟩
        rw [List.getElem?_map] at hx
        obtain ⟨z, hz, rfl⟩ := Option.map_eq_some_iff.mp hx
        have hpr : (pairRow ns i)[j]? = some (one, z) := by
          unfold pairRow
          rw [List.getElem?_map, hz, List.getD_eq_getElem?_getD, hone]
          rfl
        refine ⟨rfl, _, rfl, _, rfl, (by show 2 ≤ PySem.sizeLine; decide), fun T hT => ⟨rs', ?_, ?_, ?_⟩⟩
        · rw [upd_ne (ne_of_none hG' hT)]
          exact hG'
        · rw [ps'.1]
          refine small_n ?_
          rw [List.length_append, List.length_take]
          have := pairs_len ns i
          have h3 : i * ns.length ≤ 32 * 32 := Nat.mul_le_mul (by omega) ln
          unfold pairRow
          rw [List.length_map, List.length_drop]
          omega
        · have nTD : T ≠ D := (ne_of_none hG' hT).symm
          refine ⟨rs' ++ [.ref T], fun b o nb e => ?_, upd_same, ?_⟩
          · rw [upd_ne nb]
            exact Same.lay hT _ _ (bt' _ _ nb e)
          · rw [List.take_add_one, hpr, ← List.append_assoc]
            refine ps'.snoc (fun t xs e => ?_) (by rw [upd_ne nTD]; exact upd_same)
            rw [upd_ne (fun z => by rw [z, hG'] at e; cases e)]
            exact Same.lay hT _ _ e
      · rintro G ⟨rs', bt', hG', ps'⟩
        refine ⟨rs', b3.trans bt', hG', ?_⟩
        have e : pairsOf ns (i + 1) = pairsOf ns i ++ pairRow ns i := by
          unfold pairsOf
          rw [List.range_succ, List.flatMap_append]
          simp
        rw [e]
        rw [List.take_of_length_le (by unfold pairRow; rw [List.length_map, List.length_map]; exact Nat.le_refl _)] at ps'
        exact ps'
    · rintro G ⟨rs, bt, hG, ps⟩
      rw [lm] at ps
      have s0 : Same H G := fun b o e => bt _ _ (nD e).1 (nD e).2
      have lr : rs.length ≤ 1024 := by
        rw [ps.1]
        omega
      refine ⟨_, rfl, D, rfl, ⟨_, SqL.of hG⟩, fun D2 hD2 => ?_⟩
      have y1 : ∀ o, Same G (upd G D2 o) := fun o => Same.lay hD2
      refine lc_it (walk_list (xs := rs)) (fun j G1 => G1 = upd G D2 (.lst ((((pairsOf ns ns.length).take j).map fun p => p.2 - p.1).map V.int))) rfl (fun j G1 _ z => by rw [z]; exact SqL.of (y1 _ _ _ hG)) ?_ ?_
      · rintro j x G1 G2 hj rfl ⟨rfl, hx⟩
        obtain ⟨pr, hpr⟩ : ∃ pr, (pairsOf ns ns.length)[j]? = some pr := ⟨_, List.getElem?_eq_getElem (by rw [← ps.1]; exact hj)⟩
        obtain ⟨T, e1, e2⟩ := ps.2 j pr hpr
        rw [hx] at e1
        obtain rfl := Option.some.inj e1
        refine ⟨T, _, rfl, SqT.of (y1 _ _ _ e2), rfl, _, _, rfl, _, _, rfl, rfl, rfl, _, rfl, _, rfl, _, _, rfl, rfl, .inl ⟨_, rfl, _, upd_same, small_n (by rw [List.length_map, List.length_map, List.length_take]; omega), ?_⟩⟩
        rw [upd_upd, List.take_add_one, hpr, List.map_append, List.map_append]
        rfl
      rintro G1 rfl
      rw [ps.1, List.take_length]
      refine ⟨D2, diffs ns, rfl, SqL.of upd_same, by unfold diffs; rw [List.length_map]; omega, fun S1 hS1 => ?_⟩
      refine ⟨S1, diffs ns, rfl, upd_same, l64, fun L hL => ?_⟩
      obtain ⟨s3, hL3⟩ := three (o3 := .lst ((sortU (diffs ns)).map V.int)) hD2 hS1 hL
      refine ⟨L, _, rfl, .inl hL3, fun t1 G5 s6 ht1 => k G5 t1 (fun _ _ z => s6 _ _ (s3 _ _ (s0 _ _ z))) ht1⟩
abbrev N_Pattern_strided : List Str := ["lanes", "stride", "offsets", "lane"]
theorem sc_Pattern_strided : FnScope N_Pattern_strided ["lanes", "stride"] (defScope s_Pattern_strided) := ⟨rfl, rfl, rfl, by decide +kernel, rfl, by decide +kernel, by decide +kernel⟩
theorem ok_Pattern_strided {f fW fPI : Addr} {fd fdW_ : FuncData} (F : Fun K "strided" "Pattern.strided" s_Pattern_strided f fd) (T : TR mg) (MO : ∃ t, mg "MOST_OFFSETS" = some (.int 32 t)) (GS : ∃ t, mg "GREATEST_STEP" = some (.int (10 ^ 28) t)) (TE : TErr K mg CT CN CW CM uT uN uW uM fdT fdN fdW fdM) (TU : TPat K mg C)
    (GW : FnOk P w K mg base CX0 2 fW fdW_ ["value", "least", "most"] (spWithin K)) (gW : mg "is_within" = some (.ref fW)) (kW : PySem.W.keepIn K (.ref fW) = true) (bW : Binds K fdW_ ["value", "least", "most"] [])
    (MPI : Mk K C fPI) (GPI : FnR P w K mg base (L2.CX P w) 4 fPI (spMk CT CM C K)) : FnOk P w K mg base (L2.CX P w) 6 f fd ["lanes", "stride"] (spStrided CT CM C K) := by
  refine F.okX sc_Pattern_strided (fun vs H Q E h => ?_) (fun cdv A outer s H vs Q E hrM h => ?_)
  · obtain ⟨x, y, S, S', rfl, _⟩ := h
    rfl
  · obtain ⟨x, y, S, S', rfl, px, py, kL, kS, kQ⟩ := h
    have hrE : Room 2 _ := hrM.mono (by decide)
    refine ⟨_, (pss_cons (ps_if (pt_not (pt_val (pe_call GW hrE rfl gW kW bW .nil pass0 (pa_cons (pv 0) (pa_cons pe_int (pa_cons (pe_glob (v := .int 32) rfl MO.choose_spec ⟨_, rfl⟩) pa_nil)))))) (pss_one (ps_raise rfl (takes_of rfl rfl rfl rfl) (pmk_x TE.iBadTile (ok_BadTile TE) hrE TE.bBadTile (by decide) rfl TE.gBadTile (mono_c mono_nil) (pa_cons pe_str pa_nil)))) pss_nil)
 (pss_cons (ps_if (pt_not (pt_val (pe_call GW hrE rfl gW kW bW .nil pass0 (pa_cons (pv 1) (pa_cons pe_int (pa_cons (pe_glob (v := .int (10 ^ 28)) rfl GS.choose_spec ⟨_, rfl⟩) pa_nil)))))) (pss_one (ps_raise rfl (takes_of rfl rfl rfl rfl) (pmk_x TE.iBadTile (ok_BadTile TE) hrE TE.bBadTile (by decide) rfl TE.gBadTile (mono_c mono_nil) (pa_cons pe_str pa_nil)))) pss_nil)
 (pss_cons (ps_setLc (i := 2) (own := [("lane", 3)]) (g := (gName 3)) (tt := tYes) rfl sc_Pattern_strided.nd rfl rfl (sw_true rfl rfl rfl (by decide +kernel)) (pi_range1 rfl T.m_range (pa_cons (pv 0) pa_nil)) (blkOk_by (N := N_Pattern_strided) (sc := defScope s_Pattern_strided) (by decide +kernel)) (fun _ _ _ _ _ => (pg_name (i := 3) sc_Pattern_strided.nd rfl (Or.inl rfl))) (fun _ _ _ _ _ => pts_nil) (fun _ _ _ _ _ => (pe_op op_mul (pv 3) (pv 1))))
 (pss_one (ps_ret (pe_makeS MPI GPI hrM rfl TU.gC (passes_call (takes_of rfl rfl rfl rfl) fun _ _ _ _ h => h) (pv 2))))))), ?_⟩
    refine ⟨_, rfl, x, S, 1, 32, rfl, px, _, rfl, ?_⟩
    cases hx : withinV 1 32 x with
    | false => exact iteT ⟨rfl, fun d H' hd s e => kL hx d H' hd s e⟩
    | true =>
      refine iteF ⟨_, rfl, y, S', 0, 10 ^ 28, rfl, py, _, rfl, ?_⟩
      cases hy : withinV 0 (10 ^ 28) y with
      | false => exact iteT ⟨rfl, fun d H' hd s e => kS hx hy d H' hd s e⟩
      | true =>
        obtain ⟨n, rfl, n0, n1⟩ := within_int hx
        obtain ⟨st, rfl, s0, s1⟩ := within_int hy
        refine iteF ⟨_, rfl, n, rfl, by omega, by omega, fun D hD => ?_⟩
        refine lc_it walk_range (fun i G => G = upd H D (.lst (((List.range i).map fun (i : Nat) => (0 + ((i : Nat) : Int)) * st).map V.int))) rfl (fun _ _ _ _ => trivial) ?_ ?_
        · rintro i x G G' hi rfl ⟨rfl, rfl⟩
          refine ⟨rfl, _, rfl, _, rfl, _, _, rfl, rfl, .inl ⟨by omega, by omega⟩, _, upd_same, small_n (by rw [List.length_map, List.length_map, List.length_range]; omega), ?_⟩
          rw [upd_upd, List.range_succ, List.map_append, List.map_append]
          rfl
        · rintro G rfl
          have nz : stridedN n st ≠ [] := fun z => by
            have := congrArg List.length z
            unfold stridedN at this
            rw [List.length_map, List.length_range] at this
            have : n.toNat = 0 := this
            omega
          have lz : (stridedN n st).length ≤ 32 := by
            unfold stridedN
            rw [List.length_map, List.length_range]
            omega
          have ls := sortU_len (stridedN n st)
          have bz : ∀ z ∈ stridedN n st, 0 ≤ z ∧ z ≤ 10 ^ 30 := fun z hz => by
            obtain ⟨i, hi, rfl⟩ := List.mem_map.mp hz
            have := List.mem_range.mp hi
            have := mul_lt_of (m := 31) (n := 10 ^ 28) (show (0 : Int) ≤ 0 + (i : Int) by omega) (by omega) s0 s1
            omega
          refine ⟨_, rfl, D, _, rfl, .inr (SqL.of upd_same), make_pat (zs := stridedN n st) nz (by omega) (by omega) ⟨(fun i hi => by rw [off_none bz] at hi; cases hi), fun _ => ⟨fun big => by omega, fun _ H' x s pa => kQ n st rfl rfl n0 n1 s0 s1 H' x (fun _ _ z => s _ _ (Same.lay hD _ _ z)) pa⟩⟩⟩
abbrev N_Pattern_tiled : List Str := ["width", "height", "pitch", "offsets", "y", "x"]
theorem sc_Pattern_tiled : FnScope N_Pattern_tiled ["width", "height", "pitch"] (defScope s_Pattern_tiled) := ⟨rfl, rfl, rfl, by decide +kernel, rfl, by decide +kernel, by decide +kernel⟩
theorem ok_Pattern_tiled {f fW fPI : Addr} {fd fdW_ : FuncData} (F : Fun K "tiled" "Pattern.tiled" s_Pattern_tiled f fd) (T : TR mg) (MO : ∃ t, mg "MOST_OFFSETS" = some (.int 32 t)) (GS : ∃ t, mg "GREATEST_STEP" = some (.int (10 ^ 28) t)) (TE : TErr K mg CT CN CW CM uT uN uW uM fdT fdN fdW fdM) (TU : TPat K mg C)
    (GW : FnOk P w K mg base CX0 2 fW fdW_ ["value", "least", "most"] (spWithin K)) (gW : mg "is_within" = some (.ref fW)) (kW : PySem.W.keepIn K (.ref fW) = true) (bW : Binds K fdW_ ["value", "least", "most"] [])
    (MPI : Mk K C fPI) (GPI : FnR P w K mg base (L2.CX P w) 4 fPI (spMk CT CM C K)) : FnOk P w K mg base (L2.CX P w) 6 f fd ["width", "height", "pitch"] (spTiled CT CM C K) := by
  refine F.okX sc_Pattern_tiled (fun vs H Q E h => ?_) (fun cdv A outer s H vs Q E hrM h => ?_)
  · obtain ⟨x, y, z, S, S', S2, rfl, _⟩ := h
    rfl
  · obtain ⟨x, y, z, S, S', S2, rfl, px, py, pz, kWd, kHt, kPt, kQ⟩ := h
    have hrE : Room 2 _ := hrM.mono (by decide)
    refine ⟨_, (pss_cons (ps_if (pt_not (pt_val (pe_call GW hrE rfl gW kW bW .nil pass0 (pa_cons (pv 0) (pa_cons pe_int (pa_cons (pe_glob (v := .int 32) rfl MO.choose_spec ⟨_, rfl⟩) pa_nil)))))) (pss_one (ps_raise rfl (takes_of rfl rfl rfl rfl) (pmk_x TE.iBadTile (ok_BadTile TE) hrE TE.bBadTile (by decide) rfl TE.gBadTile (mono_c mono_nil) (pa_cons pe_str pa_nil)))) pss_nil)
 (pss_cons (ps_if (pt_not (pt_val (pe_call GW hrE rfl gW kW bW .nil pass0 (pa_cons (pv 1) (pa_cons pe_int (pa_cons (pe_glob (v := .int 32) rfl MO.choose_spec ⟨_, rfl⟩) pa_nil)))))) (pss_one (ps_raise rfl (takes_of rfl rfl rfl rfl) (pmk_x TE.iBadTile (ok_BadTile TE) hrE TE.bBadTile (by decide) rfl TE.gBadTile (mono_c mono_nil) (pa_cons pe_str pa_nil)))) pss_nil)
 (pss_cons (ps_if (pt_not (pt_val (pe_call GW hrE rfl gW kW bW .nil pass0 (pa_cons (pv 2) (pa_cons pe_int (pa_cons (pe_glob (v := .int (10 ^ 28)) rfl GS.choose_spec ⟨_, rfl⟩) pa_nil)))))) (pss_one (ps_raise rfl (takes_of rfl rfl rfl rfl) (pmk_x TE.iBadTile (ok_BadTile TE) hrE TE.bBadTile (by decide) rfl TE.gBadTile (mono_c mono_nil) (pa_cons pe_str pa_nil)))) pss_nil)
 (pss_cons (ps_setLc2 (i := 3) (own := [("y", 4), ("x", 5)]) (g := (gName 4)) (g1 := (gName 5)) (vs1 := [5]) (tt := tYes) (tt1 := tYes) rfl sc_Pattern_tiled.nd rfl rfl (sw_true rfl rfl rfl (by decide +kernel)) (pi_range1 rfl T.m_range (pa_cons (pv 1) pa_nil)) (blkOk_by (N := N_Pattern_tiled) (sc := defScope s_Pattern_tiled) (by decide +kernel)) (by decide) (fun _ _ _ _ _ => (pg_name (i := 4) sc_Pattern_tiled.nd rfl (Or.inl rfl))) (fun _ _ _ _ _ => pts_nil) (fun _ _ _ _ _ => (pi_range1 rfl T.m_range (pa_cons (pv 0) pa_nil))) (fun _ _ _ _ _ => (pg_name (i := 5) sc_Pattern_tiled.nd rfl (Or.inl rfl))) (fun _ _ _ _ _ => pts_nil) (fun _ _ _ _ _ => (pe_op op_add (pv 5) (pe_op op_mul (pv 4) (pv 2)))))
 (pss_one (ps_ret (pe_makeS MPI GPI hrM rfl TU.gC (passes_call (takes_of rfl rfl rfl rfl) fun _ _ _ _ h => h) (pv 3)))))))), ?_⟩
    refine ⟨_, rfl, x, S, 1, 32, rfl, px, _, rfl, ?_⟩
    cases hx : withinV 1 32 x with
    | false => exact iteT ⟨rfl, fun d H' hd s e => kWd hx d H' hd s e⟩
    | true =>
      refine iteF ⟨_, rfl, y, S', 1, 32, rfl, py, _, rfl, ?_⟩
      cases hy : withinV 1 32 y with
      | false => exact iteT ⟨rfl, fun d H' hd s e => kHt hx hy d H' hd s e⟩
      | true =>
        refine iteF ⟨_, rfl, z, S2, 0, 10 ^ 28, rfl, pz, _, rfl, ?_⟩
        cases hz : withinV 0 (10 ^ 28) z with
        | false => exact iteT ⟨rfl, fun d H' hd s e => kPt hx hy hz d H' hd s e⟩
        | true =>
          obtain ⟨n, rfl, n0, n1⟩ := within_int hx
          obtain ⟨h, rfl, h0, h1⟩ := within_int hy
          obtain ⟨pt, rfl, p0, p1⟩ := within_int hz
          obtain ⟨l64, out⟩ := kQ n h pt rfl rfl rfl n0 n1 h0 h1 p0 p1
          let row : Nat → List Int := fun (y : Nat) => (List.range n.toNat).map fun (x : Nat) => (0 + ((x : Nat) : Int)) + (0 + ((y : Nat) : Int)) * pt
          have lrow : ∀ i, ((List.range i).flatMap row).length = i * n.toNat := fun i => by
            induction i with
            | zero => simp
            | succ i ih =>
              rw [List.range_succ, List.flatMap_append, List.length_append, ih, Nat.succ_mul]
              simp [row]
          have hn32 : n.toNat ≤ 32 := by omega
          refine iteF ⟨_, rfl, h, rfl, by omega, by omega, fun D hD => ?_⟩
          refine loop_it walk_range (fun i G => G = upd H D (.lst (((List.range i).flatMap row).map V.int))) rfl (fun _ _ _ _ => trivial) ?_ ?_
          · rintro i x G G' hi rfl ⟨rfl, rfl⟩
            refine ⟨rfl, _, rfl, n, rfl, by omega, by omega, ?_⟩
            refine loop_it walk_range (fun j G => G = upd H D (.lst (((List.range i).flatMap row ++ (List.range j).map fun (x : Nat) => (0 + ((x : Nat) : Int)) + (0 + ((i : Nat) : Int)) * pt).map V.int))) (by rw [List.range_zero, List.map_nil, List.append_nil]) (fun _ _ _ _ => trivial) ?_ ?_
            · rintro j x G1 G2 hj rfl ⟨rfl, rfl⟩
              have hi2 : i < 32 := by omega
              have := lrow i
              have h3 : i * n.toNat ≤ 32 * 32 := Nat.mul_le_mul (by omega) hn32
              refine ⟨rfl, _, rfl, _, rfl, _, rfl, _, _, rfl, rfl, .inl ⟨by omega, by omega⟩, _, _, rfl, rfl, _, upd_same, small_n (by rw [List.length_map, List.length_append, List.length_map, List.length_range]; omega), ?_⟩
              rw [upd_upd, List.range_succ (n := j), List.map_append (l₁ := List.range j), ← List.append_assoc, List.map_append]
              rfl
            · rintro G1 rfl
              rw [List.range_succ, List.flatMap_append]
              simp [row]
          · rintro G rfl
            have lz : (tiledN n h pt).length ≤ 1024 := by
              have := lrow h.toNat
              have h3 : h.toNat * n.toNat ≤ 32 * 32 := Nat.mul_le_mul (by omega) hn32
              show ((List.range h.toNat).flatMap row).length ≤ _
              omega
            have nz : tiledN n h pt ≠ [] := fun z => by
              have e : ((List.range h.toNat).flatMap row).length = 0 := congrArg List.length z
              rw [lrow] at e
              have := Nat.mul_pos (show 0 < h.toNat by omega) (show 0 < n.toNat by omega)
              omega
            exact ⟨_, rfl, D, (tiledN n h pt).map V.int, rfl, .inr (SqL.of upd_same), make_pat nz (by omega) l64 (out_same (Same.lay hD) out)⟩
end
end Toy
set_option maxRecDepth 100000
namespace L2
open PySem PySem.Spec PyProof.Rows
/-- plain data that a law shows: ints, texts, lists and tuples of ints, one small dict -/
inductive Dat0 (H : Hp) : V → PyData → Prop where
  | non : Dat0 H .non .none
  | bl (b : Bool) : Dat0 H (.bl b) (.bool b)
  | int (i : Int) : Dat0 H (.int i) (.int i)
  | str (z : Str) : Dat0 H (.str z) (.str z)
  | tup {a : Addr} {ns : List Int} (e : H a = some (.tup (ns.map V.int))) : Dat0 H (.ref a) (.tuple (ns.map .int))
  | lst {a : Addr} {ns : List Int} (e : H a = some (.lst (ns.map V.int))) (n : a ≠ sysModules) : Dat0 H (.ref a) (.list (ns.map .int))
  | dct {a : Addr} {z : Str} {i : Int} (e : H a = some (.dK [(.inr z, .int i)])) : Dat0 H (.ref a) (.dict [(.str z, .int i)])
/-- x reads as d, in every state over H, and the modules' own dict is no part of it -/
def RdS (X : Cx) (H : Hp) (x : V) (d : PyData) : Prop := ∀ (pins : List (Addr × Obj)) (σ : St) (s : Shared) (u : Value), Inv X pins σ H s → RelV x u → ∃ as, Reads s.heap u d as ∧ sysModules ∉ as
theorem RdS.v {X : Cx} {H : Hp} {x : V} {d : PyData} (h : RdS X H x d) : RdV X H x d := fun pins σ s u I r =>
  let ⟨as, q, m⟩ := h pins σ s u I r
  ⟨as, q, fun _ => m⟩
theorem reads_ints {h : Heap} : ∀ {ns : List Int} {us : List Value}, Vals (ns.map V.int) us → ReadsAll h us (ns.map PyData.int) []
  | [], _, r => by
    cases r
    exact .nil
  | z :: ns, _, r => by
    cases r with
    | cons a b =>
      obtain ⟨t, rfl⟩ := a
      exact ReadsAll.cons (as := []) (.int z t) (reads_ints b)
theorem Dat0.rd {X : Cx} {H : Hp} {v : V} {d : PyData} (h : Dat0 H v d) : RdS X H v d := by
  cases h with
  | non =>
    intro pins σ s u I r
    obtain rfl : u = Value.none := r
    exact ⟨_, .none, fun m => nomatch m⟩
  | bl b =>
    intro pins σ s u I r
    obtain rfl : u = Value.bool b := r
    exact ⟨_, .bool b, fun m => nomatch m⟩
  | int i =>
    intro pins σ s u I r
    obtain ⟨t, rfl⟩ : ∃ t, u = Value.int i t := r
    exact ⟨_, .int i t, fun m => nomatch m⟩
  | str z =>
    intro pins σ s u I r
    obtain ⟨t, rfl⟩ : ∃ t, u = Value.str z t := r
    exact ⟨_, .str z t, fun m => nomatch m⟩
  | @tup a ns e =>
    intro pins σ s u I r
    obtain rfl : u = Value.ref a := r
    obtain ⟨its, rv, ⟨o, ho, hc, n, hd⟩, _⟩ := I.tuple (SqT.of e)
    exact ⟨_, .tuple ho hc hd (reads_ints rv), fun m => nomatch m⟩
  | @lst a ns e n =>
    intro pins σ s u I r
    obtain rfl : u = Value.ref a := r
    obtain ⟨its, rv, ⟨o, n', ho, hc, _, hd⟩, _⟩ := I.list (SqL.of e)
    refine ⟨_, .list ho hc hd (reads_ints rv), fun m => ?_⟩
    exact n (by simpa using m : sysModules = a).symm
  | @dct a z i e =>
    intro pins σ s u I r
    obtain rfl : u = Value.ref a := r
    obtain ⟨_, sm, vs, kv, o, es, ep, ho, ex, hd, kk, pr, _⟩ := dk_of I.hok e
    cases kv with
    | @cons p q _ r2 e1 e2 =>
      cases e2
      obtain ⟨k1, w1⟩ := q
      obtain ⟨f1, f2⟩ := e1
      obtain ⟨t2, rfl⟩ : ∃ t, w1 = Value.int i t := f2
      obtain rfl : Sum.inr z = k1 := f1
      obtain ⟨d0, rest, er, k0, v0, pr2⟩ : ∃ d0 rest, es.toList = d0 :: rest ∧ keyIs (.inr z) d0.key = true ∧ d0.val = Value.int i t2 ∧ Pairs (mixKind X.prog X.w) rest [] := by
        generalize es.toList = l at pr
        cases pr with
        | cons a b c => exact ⟨_, _, rfl, a, b, c⟩
      cases pr2
      rcases keyIs_shape k0 with ⟨_, _, q, _⟩ | ⟨z', t, q, ek⟩
      · cases q
      · cases q
        have h1 : ReadsAll s.heap (es.toList.map (·.key)) [PyData.str z] ([] ++ []) := by
          rw [er]
          show ReadsAll s.heap [d0.key] _ _
          rw [ek]
          exact .cons (.str z t) .nil
        have h2 : ReadsAll s.heap (es.toList.map (·.val)) [PyData.int i] ([] ++ []) := by
          rw [er]
          show ReadsAll s.heap [d0.val] _ _
          rw [v0]
          exact .cons (.int i t2) .nil
        refine ⟨_, Reads.dict (kvs := [(PyData.str z, PyData.int i)]) ho ex.1 hd h1 h2, fun m => ?_⟩
        have e1 : sysModules = a := by simpa using m
        rw [← e1] at sm
        exact absurd sm (by decide)
/-- a list of such, at an address that is not the modules' own -/
theorem rd_list {X : Cx} {H : Hp} {q : Addr} {vs : List V} {ds : List PyData} (hq : H q = some (.lst vs)) (nq : q ≠ sysModules) (h : Paired (fun v d => RdS X H v d) vs ds) : RdS X H (.ref q) (.list ds) := by
  intro pins σ s u I r
  obtain rfl : u = Value.ref q := r
  obtain ⟨its, rv, ⟨o, n, ho, hc, _, hd⟩, _⟩ := I.list (SqL.of hq)
  have all : ∀ {vs : List V} {ds : List PyData} {us : List Value}, Paired (fun v d => RdS X H v d) vs ds → Vals vs us → ∃ as, ReadsAll s.heap us ds as ∧ sysModules ∉ as := by
    intro vs ds us h
    induction h generalizing us with
    | nil =>
      intro r
      cases r
      exact ⟨_, .nil, fun m => nomatch m⟩
    | @cons v d vs ds a b ih =>
      intro r
      cases r with
      | cons r1 r2 =>
        obtain ⟨as, q1, m1⟩ := a pins σ s _ I r1
        obtain ⟨bs, q2, m2⟩ := ih r2
        exact ⟨_, .cons q1 q2, fun m => (List.mem_append.mp m).elim m1 m2⟩
  obtain ⟨as, q1, m1⟩ := all h rv
  refine ⟨_, Reads.list ho hc hd q1, fun m => ?_⟩
  rcases List.mem_cons.mp m with e | e
  · exact nq e.symm
  · exact m1 e
/-- a list display, with where it does not stand -/
def tLstS (t : TA) : TE := fun σ H Q => t σ H fun xs H1 => xs.length ≤ sizeLine ∧ ∀ p, H1 p = none → p ≠ sysModules → Q (.ref p) (upd H1 p (.lst xs))
theorem pe_lstS {X : Cx} {es : List Expr} {t : TA} {pos : Pos} (h : PA X es t) : PE X (.List es pos) (tLstS t) := by
  refine ⟨fun pins s σ H Q I hq => ?_⟩
  refine wpAny_List_spliced (thn (h.run pos pins s σ H _ I hq) fun us s1 hh => ?_)
  obtain ⟨xs, H1, I1, r, z, q⟩ := hh
  have z' : us.length ≤ sizeLine := by rw [← r.length]; exact z
  refine ⟨z', V.ref s1.heap.objs.size, upd H1 s1.heap.objs.size (.lst xs), ?_, rfl, q _ (I1.hok.fresh (Nat.le_refl _)) (Nat.ne_of_gt I1.big)⟩
  exact I1.laid (t' := s1.toks) (fun _ _ e => Heap.get?_push_of_some _ e) (Nat.le_refl _) ⟨z, us, 0, r, Heap.get?_push_size _ rfl⟩
end L2
set_option maxRecDepth 100000
namespace Toy
open PySem L2 TL LamX ClX
abbrev s__law_heard : Stmt := top 24
abbrev s__law_gaps : Stmt := top 22
theorem dat_same {H H' : Hp} {v : V} {d : PyData} (s : Same H H') (h : Dat0 H v d) : Dat0 H' v d := by
  cases h with
  | non => exact .non
  | bl b => exact .bl b
  | int i => exact .int i
  | str z => exact .str z
  | tup e => exact .tup (s _ _ e)
  | lst e n => exact .lst (s _ _ e) n
  | dct e => exact .dct (s _ _ e)
/-- plain data, the empty dict too -/
inductive Dat1 (H : Hp) : V → PyData → Prop where
  | d0 {v : V} {d : PyData} (h : Dat0 H v d) : Dat1 H v d
  | emp {a : Addr} (e : H a = some (.dK [])) : Dat1 H (.ref a) (.dict [])
theorem dat_same1 {H H' : Hp} {v : V} {d : PyData} (s : Same H H') (h : Dat1 H v d) : Dat1 H' v d := by
  cases h with
  | d0 h => exact .d0 (dat_same s h)
  | emp e => exact .emp (s _ _ e)
theorem Dat1.rd {X : Cx} {H : Hp} {v : V} {d : PyData} (h : Dat1 H v d) : RdS X H v d := by
  cases h with
  | d0 h => exact h.rd
  | @emp a e =>
    intro pins σ s u I r
    obtain rfl : u = Value.ref a := r
    obtain ⟨_, sm, vs, kv, o, es, ep, ho, ex, hd, kk, pr, _⟩ := dk_of I.hok e
    cases kv
    have e0 : es.toList = [] := by
      generalize es.toList = l at pr
      cases pr
      rfl
    have h1 : ReadsAll s.heap (es.toList.map (·.key)) [] [] := by
      rw [e0]
      exact .nil
    have h2 : ReadsAll s.heap (es.toList.map (·.val)) [] [] := by
      rw [e0]
      exact .nil
    refine ⟨_, Reads.dict (kvs := []) ho ex.1 hd h1 h2, fun m => ?_⟩
    have e1 : sysModules = a := by simpa using m
    rw [← e1] at sm
    exact absurd sm (by decide)
/-- how the law tells what it caught: by the error's class -/
structure THeard (K : PySem.W.Frag) (mg : Str → Option Value) (CT CN CM B : Addr) : Prop where
  gB : mg "BankError" = some (.ref B)
  gT : mg "BadTile" = some (.ref CT)
  xT : XvC K CT
  nT : PySem.W.findIn K (.ref CT) "part" = some none
  eT : PySem.W.exmOne K (.ref CT) (.ref B) = some true
  gN : mg "BadNumber" = some (.ref CN)
  xN : XvC K CN
  nN : PySem.W.findIn K (.ref CN) "value" = some none
  eN : PySem.W.exmOne K (.ref CN) (.ref B) = some true
  gM : mg "TooMany" = some (.ref CM)
  xM : XvC K CM
  nM : PySem.W.findIn K (.ref CM) "most" = some none
  eM : PySem.W.exmOne K (.ref CM) (.ref B) = some true
  kTT : PySem.W.kitOne K (.ref CT) (.ref CT) = some true
  kTN : PySem.W.kitOne K (.ref CT) (.ref CN) = some false
  kTM : PySem.W.kitOne K (.ref CT) (.ref CM) = some false
  kNT : PySem.W.kitOne K (.ref CN) (.ref CT) = some false
  kNN : PySem.W.kitOne K (.ref CN) (.ref CN) = some true
  kNM : PySem.W.kitOne K (.ref CN) (.ref CM) = some false
  kMT : PySem.W.kitOne K (.ref CM) (.ref CT) = some false
  kMN : PySem.W.kitOne K (.ref CM) (.ref CN) = some false
  kMM : PySem.W.kitOne K (.ref CM) (.ref CM) = some true
  m_isinstance : mg "isinstance" = none
  m_repr : mg "repr" = none
  m_len : mg "len" = none
/-- a value that repr shows, as the text z -/
def Shows (H : Hp) (v : V) (z : Str) : Prop := ∃ d, Dat1 H v d ∧ d.showable = true ∧ d.depth ≤ 20 ∧ d.shown.length ≤ PySem.sizeLine ∧ d.shown = z
theorem Shows.same {H H' : Hp} {v : V} {z : Str} (s : Same H H') (h : Shows H v z) : Shows H' v z :=
  let ⟨d, h1, h2⟩ := h
  ⟨d, dat_same1 s h1, h2⟩
def Told (CT CN CM : Addr) (H : Hp) (cls : Value) (d : Option Addr) (x y : V) : Prop := ∃ dd, d = some dd ∧
  ((cls = .ref CT ∧ ∃ (v u : V) (z : Str), H dd = some (.xd [("part", v)]) ∧ Shows H v z ∧ x = .str "tile" ∧ y = .str z) ∨
   (cls = .ref CN ∧ ∃ (v u : V) (z : Str), H dd = some (.xd [("value", v)]) ∧ Shows H v z ∧ x = .str "number" ∧ y = .str z) ∨
   (cls = .ref CM ∧ ∃ (v u : V) (z : Str), H dd = some (.xd [("most", v), ("what", u)]) ∧ Shows H v z ∧ x = .str "many" ∧ y = .str z))
/-- heard: the list of the answer, or the pair -/
def TTH (CT CN CM : Addr) : (XK → Hp → VK → Prop) → Hp → VK → Prop := fun tl H Q =>
  tl (fun cls d H' => ∃ x y, Told CT CN CM H' cls d x y ∧ ∀ H'' p, Same H' H'' → H'' p = some (.tup [x, y]) → Q (.ref p) H'') H (fun v H' => [v].length ≤ PySem.sizeLine ∧ ∀ p, H' p = none → Q (.ref p) (upd H' p (.lst [v])))
abbrev N__law_heard : List Str := ["_law_ask", "_law_caught", "error", "_law_found"]
theorem sc__law_heard : FnScope N__law_heard ["_law_ask"] (defScope s__law_heard) := ⟨rfl, rfl, rfl, by decide +kernel, rfl, by decide +kernel, by decide +kernel⟩
theorem heard_gives {X : Cx} {k : Nat} {g : Addr} {cdg : Value} {q : Str} {CT CN CM B : Addr} (T : THeard X.K X.mg CT CN CM B) (hr : Room (k + 2) X.A) (hgd : X.A.guards = some []) :
    GivesTo X N__law_heard "_law_heard" (defScope s__law_heard) g cdg (defBody s__law_heard) "_law_ask" q (TTH CT CN CM) := by
  intro f c' s H Q tl act hc h
  have gd : (cxOf C8.CX0 X.prog X.w X.K X.mg X.base N__law_heard "_law_heard" (defScope s__law_heard) g cdg X.A X.stack s H C8.E0).nox.A.guards = some [] := hgd
  have hr' : Room (k + 1) (cxOf C8.CX0 X.prog X.w X.K X.mg X.base N__law_heard "_law_heard" (defScope s__law_heard) g cdg X.A X.stack s H C8.E0).nox.A := hr.deeper _
  refine ⟨_, (pss_cons (ps_set (i := 1) sc__law_heard.nd rfl (Or.inl rfl) pe_non)
 (pss_cons (ps_try_keep (i := 2) (c := .ref B) (tb := fun W D σ H => ∃ Ech : XK, (∀ cls d σ' H', Ech cls d H' → W cls d σ' H') ∧ σ[0]? = some (some (.ref f)) ∧ H c' = some (CodeO c' q) ∧ tl Ech H (fun v H' => [v].length ≤ PySem.sizeLine ∧ ∀ p, H' p = none → D.rt (.ref p) (upd H' p (.lst [v])))) rfl rfl sc__law_heard.nd rfl rfl ⟨rfl, by decide, .inl T.gB⟩ L2.takes0 rfl (fun W pn xe tk _ => ?_) (fun a oe cls d pn _ _ => pss_one (ps_set (i := 1) sc__law_heard.nd rfl (Or.inl rfl) (pv 2))))
 (pss_cons (ps_set (i := 3) sc__law_heard.nd rfl (Or.inl rfl) (pe_lst pa_nil))
 (pss_cons (ps_if (pt_val (pe_callB call_isz (by rfl) T.m_isinstance (by decide +kernel) (pa_cons (pv 1) (pa_cons (pe_glob (v := .ref CT) rfl T.gT rfl) pa_nil)))) (pss_one (ps_expr (pe_bm PySem.F.plainAttrs_list PySem.F.slot_list_append PySem.F.type_list_append mt_append (pv 3) (pa_cons (pe_tup (pa_cons pe_str (pa_cons (pe_callB (call_reprG gd hr'.units) (by rfl) T.m_repr (by decide +kernel) (pa_cons (pe_zat (pv 1)) pa_nil)) pa_nil))) pa_nil)))) pss_nil)
 (pss_cons (ps_if (pt_val (pe_callB call_isz (by rfl) T.m_isinstance (by decide +kernel) (pa_cons (pv 1) (pa_cons (pe_glob (v := .ref CN) rfl T.gN rfl) pa_nil)))) (pss_one (ps_expr (pe_bm PySem.F.plainAttrs_list PySem.F.slot_list_append PySem.F.type_list_append mt_append (pv 3) (pa_cons (pe_tup (pa_cons pe_str (pa_cons (pe_callB (call_reprG gd hr'.units) (by rfl) T.m_repr (by decide +kernel) (pa_cons (pe_zat (pv 1)) pa_nil)) pa_nil))) pa_nil)))) pss_nil)
 (pss_cons (ps_if (pt_val (pe_callB call_isz (by rfl) T.m_isinstance (by decide +kernel) (pa_cons (pv 1) (pa_cons (pe_glob (v := .ref CM) rfl T.gM rfl) pa_nil)))) (pss_one (ps_expr (pe_bm PySem.F.plainAttrs_list PySem.F.slot_list_append PySem.F.type_list_append mt_append (pv 3) (pa_cons (pe_tup (pa_cons pe_str (pa_cons (pe_callB (call_reprG gd hr'.units) (by rfl) T.m_repr (by decide +kernel) (pa_cons (pe_zat (pv 1)) pa_nil)) pa_nil))) pa_nil)))) pss_nil)
 (pss_one (ps_ret (pe_ifExp (pt_cmpR op_eq (pe_callB call_len_seq (by rfl) T.m_len (by decide +kernel) (pa_cons (pv 3) pa_nil)) pe_int (nomark _)) (pe_ix ix_list (pv 3) pe_int (fun _ _ => rfl)) (pe_tup (pa_cons pe_str (pa_cons pe_str pa_nil)))))))))))), ?_⟩
  · refine ⟨fun pins s' σ G D I h' => ?_⟩
    obtain ⟨Ech, hW, h1, h2, h3⟩ := h'
    exact (pss_one (ps_ret (pe_lst (pa_cons (act W pn xe Ech _ _ tk hW) pa_nil)))).run pins s' σ G D I ⟨h1, h2, h3⟩
  · refine ⟨_, fun cls d σ' G e => ?_, rfl, hc, h⟩
    obtain ⟨x, y, ⟨dd, rfl, hT⟩, hq⟩ := e
    have shape : σ'.length = 4 → ∃ w0 w1 w2 w3, σ' = [w0, w1, w2, w3] := fun hl => by
      match σ', hl with
      | [w0, w1, w2, w3], _ => exact ⟨w0, w1, w2, w3, rfl⟩
    rcases hT with ⟨rfl, v, u, z, hd, hs, rfl, rfl⟩ | ⟨rfl, v, u, z, hd, hs, rfl, rfl⟩ | ⟨rfl, v, u, z, hd, hs, rfl, rfl⟩
    · refine ⟨true, T.eT, fun _ hl a na => ?_, fun z => nomatch z⟩
      obtain ⟨w0, w1, w2, w3, rfl⟩ := shape hl
      have nda : dd ≠ a := ne_of_none hd na
      have s1 : Same G (upd G a (exz a (.ref CT) (some dd))) := Same.lay na
      have c1 : Caught (upd G a (exz a (.ref CT) (some dd))) a CT [("part", v)] := ⟨dd, upd_same, s1 _ _ hd⟩
      refine ⟨_, rfl, (by show 0 ≤ PySem.sizeLine; decide), fun l hl => ?_⟩
      have nl : G l = none := s1.free hl
      have c2 : Caught (upd (upd G a (exz a (.ref CT) (some dd))) l (.lst [])) a CT [("part", v)] := c1.same (Same.lay hl)
      have s2 : Same G (upd (upd G a (exz a (.ref CT) (some dd))) l (.lst [])) := fun _ _ z => Same.lay hl _ _ (s1 _ _ z)
      refine ⟨_, rfl, a, CT, _, _, _, true, rfl, c2, T.xT, .own _, T.kTT, _, rfl, ?_⟩
      refine iteT ?_
      obtain ⟨dv, w4, w5, w6, w7, rfl⟩ := hs
      refine ⟨_, rfl, .inl ⟨rfl, _, SqL.of upd_same⟩, _, rfl, a, CT, _, v, rfl, c2, T.xT, T.nT, rfl, v, dv, rfl, (dat_same1 s2 w4).rd.v, w5, w6, w7, (by show 2 ≤ PySem.sizeLine; decide), fun t ht => ?_⟩
      have nlt : l ≠ t := fun z => by
        rw [← z, upd_same] at ht
        cases ht
      refine ⟨l, [], .ref t, rfl, rfl, (by rw [upd_ne nlt]; exact upd_same), (by show 0 < PySem.sizeLine; decide), ?_⟩
      have s3 : Same G (upd (upd (upd (upd G a (exz a (.ref CT) (some dd))) l (.lst [])) t (.tup [.str "tile", .str dv.shown])) l (.lst ([] ++ [.ref t]))) := fun b o z => by
        rw [upd_ne (ne_of_none z nl)]
        exact Same.lay ht _ _ (s2 _ _ z)
      have nal : a ≠ l := fun z => by
        rw [← z, upd_same] at hl
        cases hl
      have c3 : Caught (upd (upd (upd (upd G a (exz a (.ref CT) (some dd))) l (.lst [])) t (.tup [.str "tile", .str dv.shown])) l (.lst ([] ++ [.ref t]))) a CT [("part", v)] := by
        obtain ⟨d', e1, e2⟩ := c2
        have nd' : d' ≠ l := fun z => by
          rw [z, upd_same] at e2
          cases e2
        exact ⟨d', by rw [upd_ne nal]; exact Same.lay ht _ _ e1, by rw [upd_ne nd']; exact Same.lay ht _ _ e2⟩
      have tup3 : (upd (upd (upd (upd G a (exz a (.ref CT) (some dd))) l (.lst [])) t (.tup [.str "tile", .str dv.shown])) l (.lst ([] ++ [.ref t]))) t = some (.tup [.str "tile", .str dv.shown]) := by
        rw [upd_ne nlt.symm]
        exact upd_same
      refine ⟨_, rfl, a, CT, _, _, _, false, rfl, c3, T.xT, .own _, T.kTN, _, rfl, ?_⟩
      refine iteF ?_
      refine ⟨_, rfl, a, CT, _, _, _, false, rfl, c3, T.xT, .own _, T.kTM, _, rfl, ?_⟩
      refine iteF ?_
      refine ⟨_, rfl, l, _, rfl, .inl (SqL.of upd_same), rfl, _, rfl, ?_⟩
      refine iteT ⟨_, rfl, l, _, 0, .ref t, rfl, rfl, SqL.of upd_same, atI_nat (j := 0) rfl, ?_⟩
      exact hq _ t s3 tup3
    · refine ⟨true, T.eN, fun _ hl a na => ?_, fun z => nomatch z⟩
      obtain ⟨w0, w1, w2, w3, rfl⟩ := shape hl
      have nda : dd ≠ a := ne_of_none hd na
      have s1 : Same G (upd G a (exz a (.ref CN) (some dd))) := Same.lay na
      have c1 : Caught (upd G a (exz a (.ref CN) (some dd))) a CN [("value", v)] := ⟨dd, upd_same, s1 _ _ hd⟩
      refine ⟨_, rfl, (by show 0 ≤ PySem.sizeLine; decide), fun l hl => ?_⟩
      have nl : G l = none := s1.free hl
      have c2 : Caught (upd (upd G a (exz a (.ref CN) (some dd))) l (.lst [])) a CN [("value", v)] := c1.same (Same.lay hl)
      have s2 : Same G (upd (upd G a (exz a (.ref CN) (some dd))) l (.lst [])) := fun _ _ z => Same.lay hl _ _ (s1 _ _ z)
      refine ⟨_, rfl, a, CN, _, _, _, false, rfl, c2, T.xN, .own _, T.kNT, _, rfl, ?_⟩
      refine iteF ?_
      refine ⟨_, rfl, a, CN, _, _, _, true, rfl, c2, T.xN, .own _, T.kNN, _, rfl, ?_⟩
      refine iteT ?_
      obtain ⟨dv, w4, w5, w6, w7, rfl⟩ := hs
      refine ⟨_, rfl, .inl ⟨rfl, _, SqL.of upd_same⟩, _, rfl, a, CN, _, v, rfl, c2, T.xN, T.nN, rfl, v, dv, rfl, (dat_same1 s2 w4).rd.v, w5, w6, w7, (by show 2 ≤ PySem.sizeLine; decide), fun t ht => ?_⟩
      have nlt : l ≠ t := fun z => by
        rw [← z, upd_same] at ht
        cases ht
      refine ⟨l, [], .ref t, rfl, rfl, (by rw [upd_ne nlt]; exact upd_same), (by show 0 < PySem.sizeLine; decide), ?_⟩
      have s3 : Same G (upd (upd (upd (upd G a (exz a (.ref CN) (some dd))) l (.lst [])) t (.tup [.str "number", .str dv.shown])) l (.lst ([] ++ [.ref t]))) := fun b o z => by
        rw [upd_ne (ne_of_none z nl)]
        exact Same.lay ht _ _ (s2 _ _ z)
      have nal : a ≠ l := fun z => by
        rw [← z, upd_same] at hl
        cases hl
      have c3 : Caught (upd (upd (upd (upd G a (exz a (.ref CN) (some dd))) l (.lst [])) t (.tup [.str "number", .str dv.shown])) l (.lst ([] ++ [.ref t]))) a CN [("value", v)] := by
        obtain ⟨d', e1, e2⟩ := c2
        have nd' : d' ≠ l := fun z => by
          rw [z, upd_same] at e2
          cases e2
        exact ⟨d', by rw [upd_ne nal]; exact Same.lay ht _ _ e1, by rw [upd_ne nd']; exact Same.lay ht _ _ e2⟩
      have tup3 : (upd (upd (upd (upd G a (exz a (.ref CN) (some dd))) l (.lst [])) t (.tup [.str "number", .str dv.shown])) l (.lst ([] ++ [.ref t]))) t = some (.tup [.str "number", .str dv.shown]) := by
        rw [upd_ne nlt.symm]
        exact upd_same
      refine ⟨_, rfl, a, CN, _, _, _, false, rfl, c3, T.xN, .own _, T.kNM, _, rfl, ?_⟩
      refine iteF ?_
      refine ⟨_, rfl, l, _, rfl, .inl (SqL.of upd_same), rfl, _, rfl, ?_⟩
      refine iteT ⟨_, rfl, l, _, 0, .ref t, rfl, rfl, SqL.of upd_same, atI_nat (j := 0) rfl, ?_⟩
      exact hq _ t s3 tup3
    · refine ⟨true, T.eM, fun _ hl a na => ?_, fun z => nomatch z⟩
      obtain ⟨w0, w1, w2, w3, rfl⟩ := shape hl
      have nda : dd ≠ a := ne_of_none hd na
      have s1 : Same G (upd G a (exz a (.ref CM) (some dd))) := Same.lay na
      have c1 : Caught (upd G a (exz a (.ref CM) (some dd))) a CM [("most", v), ("what", u)] := ⟨dd, upd_same, s1 _ _ hd⟩
      refine ⟨_, rfl, (by show 0 ≤ PySem.sizeLine; decide), fun l hl => ?_⟩
      have nl : G l = none := s1.free hl
      have c2 : Caught (upd (upd G a (exz a (.ref CM) (some dd))) l (.lst [])) a CM [("most", v), ("what", u)] := c1.same (Same.lay hl)
      have s2 : Same G (upd (upd G a (exz a (.ref CM) (some dd))) l (.lst [])) := fun _ _ z => Same.lay hl _ _ (s1 _ _ z)
      refine ⟨_, rfl, a, CM, _, _, _, false, rfl, c2, T.xM, .own _, T.kMT, _, rfl, ?_⟩
      refine iteF ?_
      refine ⟨_, rfl, a, CM, _, _, _, false, rfl, c2, T.xM, .own _, T.kMN, _, rfl, ?_⟩
      refine iteF ?_
      refine ⟨_, rfl, a, CM, _, _, _, true, rfl, c2, T.xM, .own _, T.kMM, _, rfl, ?_⟩
      refine iteT ?_
      obtain ⟨dv, w4, w5, w6, w7, rfl⟩ := hs
      refine ⟨_, rfl, .inl ⟨rfl, _, SqL.of upd_same⟩, _, rfl, a, CM, _, v, rfl, c2, T.xM, T.nM, rfl, v, dv, rfl, (dat_same1 s2 w4).rd.v, w5, w6, w7, (by show 2 ≤ PySem.sizeLine; decide), fun t ht => ?_⟩
      have nlt : l ≠ t := fun z => by
        rw [← z, upd_same] at ht
        cases ht
      refine ⟨l, [], .ref t, rfl, rfl, (by rw [upd_ne nlt]; exact upd_same), (by show 0 < PySem.sizeLine; decide), ?_⟩
      have s3 : Same G (upd (upd (upd (upd G a (exz a (.ref CM) (some dd))) l (.lst [])) t (.tup [.str "many", .str dv.shown])) l (.lst ([] ++ [.ref t]))) := fun b o z => by
        rw [upd_ne (ne_of_none z nl)]
        exact Same.lay ht _ _ (s2 _ _ z)
      have nal : a ≠ l := fun z => by
        rw [← z, upd_same] at hl
        cases hl
      have c3 : Caught (upd (upd (upd (upd G a (exz a (.ref CM) (some dd))) l (.lst [])) t (.tup [.str "many", .str dv.shown])) l (.lst ([] ++ [.ref t]))) a CM [("most", v), ("what", u)] := by
        obtain ⟨d', e1, e2⟩ := c2
        have nd' : d' ≠ l := fun z => by
          rw [z, upd_same] at e2
          cases e2
        exact ⟨d', by rw [upd_ne nal]; exact Same.lay ht _ _ e1, by rw [upd_ne nd']; exact Same.lay ht _ _ e2⟩
      have tup3 : (upd (upd (upd (upd G a (exz a (.ref CM) (some dd))) l (.lst [])) t (.tup [.str "many", .str dv.shown])) l (.lst ([] ++ [.ref t]))) t = some (.tup [.str "many", .str dv.shown]) := by
        rw [upd_ne nlt.symm]
        exact upd_same
      refine ⟨_, rfl, l, _, rfl, .inl (SqL.of upd_same), rfl, _, rfl, ?_⟩
      refine iteT ⟨_, rfl, l, _, 0, .ref t, rfl, rfl, SqL.of upd_same, atI_nat (j := 0) rfl, ?_⟩
      exact hq _ t s3 tup3

def spLGaps : Sp := fun vs H Q _ => ∃ (q : Addr) (ns : List Int), vs = [.ref q] ∧ H q = some (.lst (ns.map V.int)) ∧ ns.Pairwise (· < ·) ∧ ns.length ≤ 11 ∧ ∀ H' r, Same H H' → H' r = some (.lst ((sortU (diffs ns)).map V.int)) → Q (.ref r) H'
theorem mem_pairs {ns : List Int} (asc : ns.Pairwise (· < ·)) {a b : Int} : (a, b) ∈ pairsOf ns ns.length ↔ a ∈ ns ∧ b ∈ ns ∧ a < b := by
  unfold pairsOf pairRow
  rw [List.mem_flatMap]
  constructor
  · rintro ⟨i, hi, h⟩
    have hi := List.mem_range.mp hi
    obtain ⟨z, hz, e⟩ := List.mem_map.mp h
    obtain ⟨e1, rfl⟩ := Prod.mk.inj e
    rw [List.getD_eq_getElem?_getD, List.getElem?_eq_getElem hi] at e1
    replace e1 : ns[i] = a := e1
    refine ⟨e1 ▸ List.getElem_mem hi, List.mem_of_mem_drop hz, ?_⟩
    obtain ⟨k, hk⟩ := List.mem_iff_getElem?.mp hz
    rw [List.getElem?_drop] at hk
    obtain ⟨hk1, hk2⟩ := List.getElem?_eq_some_iff.mp hk
    rw [← e1, ← hk2]
    exact List.pairwise_iff_getElem.mp asc _ _ hi hk1 (by omega)
  · rintro ⟨ha, hb, lt⟩
    obtain ⟨i, hi, ei⟩ := List.mem_iff_getElem.mp ha
    obtain ⟨j, hj, ej⟩ := List.mem_iff_getElem.mp hb
    have ij : i < j := by
      rcases Nat.lt_trichotomy i j with h | h | h
      · exact h
      · subst h
        omega
      · have := List.pairwise_iff_getElem.mp asc _ _ hj hi h
        omega
    refine ⟨i, List.mem_range.mpr hi, List.mem_map.mpr ⟨b, ?_, ?_⟩⟩
    · refine List.mem_iff_getElem?.mpr ⟨j - (i + 1), ?_⟩
      rw [List.getElem?_drop, show i + 1 + (j - (i + 1)) = j by omega, List.getElem?_eq_getElem hj, ej]
    · rw [List.getD_eq_getElem?_getD, List.getElem?_eq_getElem hi]
      show (ns[i], b) = (a, b)
      rw [ei]
def lawGaps (ns : List Int) (k : Nat) : List Int := (ns.take k).flatMap fun a => (ns.filter fun b => decide (a < b)).map fun b => b - a
theorem gaps_same {ns : List Int} (asc : ns.Pairwise (· < ·)) : sortU (lawGaps ns ns.length) = sortU (diffs ns) := asc_ext (sortU_asc _) (sortU_asc _) fun x => by
  rw [mem_sortU, mem_sortU]
  unfold lawGaps diffs
  rw [List.take_length, List.mem_flatMap, List.mem_map]
  constructor
  · rintro ⟨a, ha, h⟩
    obtain ⟨b, hb, rfl⟩ := List.mem_map.mp h
    obtain ⟨hb1, hb2⟩ := List.mem_filter.mp hb
    exact ⟨(a, b), (mem_pairs asc).mpr ⟨ha, hb1, of_decide_eq_true hb2⟩, rfl⟩
  · rintro ⟨⟨a, b⟩, h, rfl⟩
    obtain ⟨ha, hb, lt⟩ := (mem_pairs asc).mp h
    exact ⟨a, ha, List.mem_map.mpr ⟨b, List.mem_filter.mpr ⟨hb, decide_eq_true lt⟩, rfl⟩⟩
theorem lawGaps_len (ns : List Int) : ∀ k, (lawGaps ns k).length ≤ k * ns.length
  | 0 => Nat.le_of_eq (by simp [lawGaps])
  | k + 1 => by
    have ih := lawGaps_len ns k
    unfold lawGaps at ih ⊢
    rw [List.take_add_one, List.flatMap_append, List.length_append, Nat.succ_mul]
    have : ((ns[k]?.toList).flatMap fun a => (ns.filter fun b => decide (a < b)).map fun b => b - a).length ≤ ns.length := by
      cases ns[k]? with
      | none => simp
      | some a =>
        simp only [Option.toList_some, List.flatMap_cons, List.flatMap_nil, List.append_nil, List.length_map]
        exact List.length_filter_le ..
    omega
/-- of n numbers there are fewer than 64 gaps, if n is small -/
theorem diffs_len (ns : List Int) (h : ns.length ≤ 11) : (diffs ns).length ≤ 55 := by
  have e : (diffs ns).length = ((List.range ns.length).map fun i => ns.length - (i + 1)).sum := by
    unfold diffs pairsOf
    rw [List.length_map, List.length_flatMap]
    refine congrArg List.sum (List.map_congr_left fun i _ => ?_)
    unfold pairRow
    rw [List.length_map, List.length_drop]
  have key : ∀ n, n ≤ 11 → ((List.range n).map fun i => n - (i + 1)).sum ≤ 55 := by decide
  rw [e]
  exact key _ h
section
variable {P : Program} {w : World} {K : PySem.W.Frag} {mg : Str → Option Value} {base : Heap} {CT CN CW CM uT uN uW uM : Addr} {fdT fdN fdW fdM : FuncData} {C : Addr}
abbrev N__law_pattern : List Str := ["_law_some", "_law_offset", "_law_one"]
theorem sc__law_pattern : FnScope N__law_pattern ["_law_some"] (defScope s__law_pattern) := ⟨rfl, rfl, rfl, by decide +kernel, rfl, by decide +kernel, by decide +kernel⟩
theorem ok__law_pattern {f pRd gRd : Addr} {fd fdRd : FuncData} {mc : Value} (F : Fun K "_law_pattern" "_law_pattern" s__law_pattern f fd) (T : TR mg) (TU : TPat K mg C) (rcR : ClX.CRead K C mc) (cmR : ClX.CMet K C mc "read" pRd gRd)
    (GRd : FnOk P w K mg base (L2.CX P w) 6 gRd fdRd ["cls", "text"] (spRead CW C K)) (bRd : Binds K fdRd ["cls", "text"] []) : FnOk P w K mg base CX0 7 f fd ["_law_some"] (spLPat C) := by
  refine F.ok sc__law_pattern (fun vs H Q E h => ?_) (fun cdv A outer s H vs Q E hrR h => ?_)
  · obtain ⟨q, xs, rfl, _⟩ := h
    rfl
  · obtain ⟨q, xs, rfl, hq, xne, lx, lu, bx, k⟩ := h
    refine ⟨_, (pss_one (ps_ret (pe_cmeth (pe_glob (v := .ref C) rfl TU.gC rfl) rcR cmR (GRd.raw bRd .nil) hrR passL (pa_cons (pe_m1 PySem.F.slot_str_join PySem.F.type_str_join mt_join pe_str (pe_lc (own := [("_law_offset", 1)]) (g := (gName 1)) (tt := tYes) rfl sc__law_pattern.nd (pi_list (pe_callB (cr_sortS rfl) (by rfl) T.m_sorted (by decide +kernel) (pa_cons (pe_callTy (cr_setInts rfl) (by rfl) T.m_set (by decide +kernel) (pa_cons (pe_lc (own := [("_law_one", 2)]) (g := (gName 2)) (tt := tYes) rfl sc__law_pattern.nd (pi_list (pv 0)) (blkOk_by (N := N__law_pattern) (sc := defScope s__law_pattern) (by decide +kernel)) (fun _ _ _ _ _ => (pg_name (i := 2) sc__law_pattern.nd rfl (Or.inl rfl))) (fun _ _ _ _ _ => pts_nil) (fun _ _ _ _ _ => (pe_callTy call_int1 (by rfl) T.m_int (by decide +kernel) (pa_cons (pv 2) pa_nil)))) pa_nil)) pa_nil))) (blkOk_by (N := N__law_pattern) (sc := defScope s__law_pattern) (by decide +kernel)) (fun _ _ _ _ _ => (pg_name (i := 1) sc__law_pattern.nd rfl (Or.inl rfl))) (fun _ _ _ _ _ => pts_nil) (fun _ _ _ _ _ => (pe_callTy call_str_int (by rfl) T.m_str (by decide +kernel) (pa_cons (pv 1) pa_nil))))) pa_nil)))), ?_⟩
    have b0 : ∀ z ∈ sortU xs, 0 ≤ z := fun z hz => (bx z (mem_sortU.mp hz)).1
    refine ⟨rfl, ⟨_, rfl⟩, _, rfl, q, rfl, ⟨_, SqL.of hq⟩, fun D hD => ?_⟩
    refine lc_it (walk_list (xs := xs.map V.int)) (fun i G => G = upd H D (.lst ((xs.take i).map V.int))) rfl (fun i G _ z => by rw [z]; exact SqL.of (Same.lay hD _ _ hq)) ?_ ?_
    · rintro i x G G' hi rfl ⟨rfl, hx⟩
      rw [List.getElem?_map] at hx
      obtain ⟨n, hn, rfl⟩ := Option.map_eq_some_iff.mp hx
      refine ⟨rfl, _, rfl, .inl ⟨n, rfl, _, upd_same, small_n (by rw [List.length_map, List.length_take]; omega), ?_⟩⟩
      rw [upd_upd, List.take_add_one, hn, List.map_append]
      rfl
    · rintro G rfl
      rw [List.length_map, List.take_length]
      have s1 : Same H (upd H D (.lst (xs.map V.int))) := Same.lay hD
      refine ⟨D, xs, rfl, SqL.of upd_same, by omega, fun S1 hS1 => ?_⟩
      refine ⟨S1, xs, rfl, upd_same, by omega, fun L hL => ?_⟩
      obtain ⟨s123, hL3⟩ := three (o3 := .lst ((sortU xs).map V.int)) hD hS1 hL
      generalize upd (upd (upd H D _) S1 _) L _ = H3 at s123 hL3 ⊢
      refine ⟨L, rfl, ⟨_, SqL.of hL3⟩, fun D2 hD2 => ?_⟩
      have s4 : ∀ o, Same H (upd H3 D2 o) := fun o => fun _ _ z => Same.lay hD2 _ _ (s123 _ _ z)
      refine lc_it (walk_list (xs := (sortU xs).map V.int)) (fun i G => G = upd H3 D2 (.lst ((((nats (sortU xs)).take i).map numT).map V.str))) rfl (fun i G _ z => by rw [z]; exact SqL.of (Same.lay hD2 _ _ hL3)) ?_ ?_
      · rintro i x G G' hi rfl ⟨rfl, hx⟩
        rw [List.getElem?_map] at hx
        obtain ⟨n, hn, rfl⟩ := Option.map_eq_some_iff.mp hx
        have hm := List.mem_of_getElem? hn
        have bn := bx n (mem_sortU.mp hm)
        refine ⟨rfl, _, rfl, n, rfl, ?_, _, upd_same, small_n (by rw [List.length_map, List.length_map, List.length_take]; unfold nats; rw [List.length_map]; omega), ?_⟩
        · have := log_small (n := n.toNat) (by omega)
          rw [Int.toNat_of_nonneg bn.1] at this
          exact this
        · have hn2 : (nats (sortU xs))[i]? = some n.toNat := by
            unfold nats
            rw [List.getElem?_map, hn]
            rfl
          have te : numT n.toNat = Str.ofString (toString n) := by
            unfold numT
            rw [Int.toNat_of_nonneg bn.1]
          rw [upd_upd, List.take_add_one, hn2, List.map_append, List.map_append]
          rw [← te]
          rfl
      · rintro G rfl
        have ln : ((sortU xs).map V.int).length = (nats (sortU xs)).length := by
          unfold nats
          rw [List.length_map, List.length_map]
        rw [ln, List.take_length]
        have lnat : (nats (sortU xs)).length = (sortU xs).length := List.length_map ..
        have nne : nats (sortU xs) ≠ [] := fun z => sortU_ne xne (List.map_eq_nil_iff.mp z)
        have bnat : ∀ n ∈ nats (sortU xs), n ≤ 10 ^ 30 := fun n hn => by
          obtain ⟨z, hz, rfl⟩ := List.mem_map.mp hn
          have := bx z (mem_sortU.mp hz)
          omega
        have jf := join_fits (ns := nats (sortU xs)) (by omega) fun n hn => Nat.lt_of_le_of_lt (bnat n hn) (by decide +kernel)
        have rw1 : readW [] (wordsT (joinN (nats (sortU xs)))) = .inr (nats (sortU xs)) := by
          rw [words_join nne]
          exact readW_nums (acc := []) (asc_nats (sortU_asc xs) b0) (by rw [List.nil_append, lnat]; exact lu) bnat
        refine ⟨_, D2, _, rfl, rfl, .inl (SqL.of upd_same), jf, _, rfl, .inl ⟨_, rfl, ?_, ?_⟩⟩
        · have jl := join_len (ns := nats (sortU xs)) fun n hn => Nat.lt_of_le_of_lt (bnat n hn) (by decide +kernel)
          have e : PySem.sizeLine = 16777216 := rfl
          show (joinN (nats (sortU xs))).length + 2 ≤ _
          omega
        · show ReadOut CW C _ (wordsT (joinN (nats (sortU xs)))) _ _
          unfold ReadOut
          rw [rw1]
          refine ⟨(fun kk hk => by cases hk), fun ns hns H' x s5 pa => ?_⟩
          have e := Sum.inr.inj hns
          rw [← e, ints_nats b0] at pa
          exact k H' x (fun _ _ z => s5 _ _ (s4 _ _ _ z)) pa
abbrev N__law_gaps : List Str := ["_law_some", "_law_found", "_law_one", "_law_two"]
theorem sc__law_gaps : FnScope N__law_gaps ["_law_some"] (defScope s__law_gaps) := ⟨rfl, rfl, rfl, by decide +kernel, rfl, by decide +kernel, by decide +kernel⟩
theorem ok__law_gaps {f : Addr} {fd : FuncData} (F : Fun K "_law_gaps" "_law_gaps" s__law_gaps f fd) (T : TR mg) : FnOk P w K mg base CX0 1 f fd ["_law_some"] spLGaps := by
  refine F.ok sc__law_gaps (fun vs H Q E h => ?_) (fun cdv A outer s H vs Q E hr h => ?_)
  · obtain ⟨q, ns, rfl, _⟩ := h
    rfl
  · obtain ⟨q, ns, rfl, hq, asc, ln, k⟩ := h
    refine ⟨_, (pss_cons (ps_set (i := 1) sc__law_gaps.nd rfl (Or.inl rfl) (pe_lst pa_nil))
 (pss_cons (ps_for PassesOwn.never rfl (pi_list (pv 0)) (pg_name (i := 2) sc__law_gaps.nd rfl (Or.inr rfl))
 (pss_one (ps_set (i := 1) sc__law_gaps.nd rfl (Or.inl rfl) (pe_op op_cat (pv 1) (pe_lc (own := [("_law_two", 3)]) (g := (gName 3)) rfl sc__law_gaps.nd (pi_list (pv 0)) (blkOk_by (N := N__law_gaps) (sc := defScope s__law_gaps) (by decide +kernel)) (fun _ _ _ _ _ => (pg_name (i := 3) sc__law_gaps.nd rfl (Or.inl rfl))) (fun _ _ _ _ _ => (pts_one (pt_cmpR op_gt (pv 3) (pv 2) (nomark _)))) (fun _ _ _ _ _ => (pe_callTy call_int1 (by rfl) T.m_int (by decide +kernel) (pa_cons (pe_op op_sub (pv 3) (pv 2)) pa_nil))))))))
 (pss_one (ps_ret (pe_callB (cr_sortS rfl) (by rfl) T.m_sorted (by decide +kernel) (pa_cons (pe_callTy (cr_setInts rfl) (by rfl) T.m_set (by decide +kernel) (pa_cons (pv 1) pa_nil)) pa_nil)))))), ?_⟩
    refine ⟨(by show 0 ≤ PySem.sizeLine; decide), fun F0 hF0 => ?_⟩
    have lm : (ns.map V.int).length = ns.length := List.length_map ..
    refine ⟨_, rfl, q, rfl, ⟨_, SqL.of (Same.lay hF0 _ _ hq)⟩, for_it (walk_list (xs := ns.map V.int)) (fun i σ G => ∃ fd u v, σ = [some (.ref q), some (.ref fd), u, v] ∧ Same H G ∧ G fd = some (.lst ((lawGaps ns i).map V.int))) ⟨F0, none, none, rfl, Same.lay hF0, upd_same⟩ ?_ ?_ ?_⟩
    · rintro i σ G _ ⟨fd, u, v, rfl, s1, _⟩
      exact SqL.of (s1 _ _ hq)
    · rintro i x σ G G' hi ⟨fd, u, v, rfl, s1, hf⟩ ⟨rfl, hx⟩
      rw [List.getElem?_map] at hx
      obtain ⟨a, ha, rfl⟩ := Option.map_eq_some_iff.mp hx
      rw [lm] at hi
      have hq1 := s1 _ _ hq
      refine ⟨_, rfl, _, rfl, q, rfl, ⟨_, SqL.of hq1⟩, fun D hD => ?_⟩
      refine lc_it (walk_list (xs := ns.map V.int)) (fun j G1 => G1 = upd G' D (.lst ((((ns.take j).filter fun b => decide (a < b)).map fun b => b - a).map V.int))) rfl (fun j G1 _ z => by rw [z]; exact SqL.of (Same.lay hD _ _ hq1)) ?_ ?_
      · rintro j x G1 G2 hj rfl ⟨rfl, hx⟩
        rw [List.getElem?_map] at hx
        obtain ⟨b, hb, rfl⟩ := Option.map_eq_some_iff.mp hx
        refine ⟨rfl, _, rfl, _, rfl, _, _, rfl, rfl, _, rfl, ?_⟩
        have e : ((ns.take (j + 1)).filter fun b => decide (a < b)) = if decide (a < b) = true then ((ns.take j).filter fun b => decide (a < b)) ++ [b] else (ns.take j).filter fun b => decide (a < b) := by
          rw [List.take_add_one, hb, List.filter_append]
          by_cases c : a < b
          · simp [c]
          · simp [c]
        rw [e]
        refine ite2 (fun c => ?_) (fun c => ?_)
        · rw [if_pos c]
          refine ⟨_, rfl, _, rfl, _, _, rfl, rfl, .inl ⟨_, rfl, _, upd_same, ?_, ?_⟩⟩
          · refine small_n ?_
            rw [List.length_map, List.length_map]
            exact Nat.le_trans (List.length_filter_le ..) (by rw [List.length_take]; omega)
          · rw [upd_upd, List.map_append, List.map_append]
            rfl
        · rw [if_neg c]
      · rintro G1 rfl
        rw [lm, List.take_length]
        have y1 := Same.lay (o := .lst (((ns.filter fun b => decide (a < b)).map fun b => b - a).map V.int)) hD
        have ll := lawGaps_len ns i
        have h3 : i * ns.length ≤ 11 * 11 := Nat.mul_le_mul (by omega) ln
        refine ⟨fd, D, _, _, rfl, rfl, y1 _ _ hf, upd_same, ?_, fun r hr => ?_⟩
        · rw [List.length_map, List.length_map, List.length_map]
          have := List.length_filter_le (fun b => decide (a < b)) ns
          have e : PySem.sizeLine = 16777216 := rfl
          omega
        · refine ⟨r, _, _, rfl, fun _ _ z => Same.lay hr _ _ (y1 _ _ (s1 _ _ z)), ?_⟩
          rw [upd_same, ← List.map_append]
          have e : lawGaps ns (i + 1) = lawGaps ns i ++ (ns.filter fun b => decide (a < b)).map fun b => b - a := by
            unfold lawGaps
            rw [List.take_add_one, ha, List.flatMap_append]
            simp
          rw [e]
    · rintro σ G ⟨fd, u, v, rfl, s1, hf⟩
      rw [lm] at hf
      have ll := lawGaps_len ns ns.length
      have h3 : ns.length * ns.length ≤ 11 * 11 := Nat.mul_le_mul ln ln
      refine ⟨_, rfl, fd, _, rfl, SqL.of hf, by omega, fun S1 hS1 => ?_⟩
      have l64 : (sortU (lawGaps ns ns.length)).length < 64 := by
        rw [gaps_same asc]
        have := sortU_len (diffs ns)
        have := diffs_len ns ln
        omega
      refine ⟨S1, _, rfl, upd_same, l64, fun L hL => ?_⟩
      have y1 := Same.lay (o := .lst ((sortU (lawGaps ns ns.length)).map V.int)) hL
      refine k _ L (fun _ _ z => y1 _ _ (Same.lay hS1 _ _ (s1 _ _ z))) ?_
      rw [upd_same, gaps_same asc]
end
end Toy
set_option maxRecDepth 100000
namespace Toy
open PySem L2 TL LamX ClX
abbrev s__law_kept : Stmt := top 25
def spKept : Sp := fun vs H Q _ => ∃ (p l q : Addr) (ns : List Int) (a b : Int) (xs : List Int), vs = [.ref p, .ref q] ∧ PenAt H p l ns a b ∧ a ≤ 900000 ∧ H q = some (.lst (xs.map V.int)) ∧ q ≠ p ∧ xs ≠ [] ∧ xs.length ≤ 9 ∧ (∀ z ∈ xs, 0 ≤ z ∧ z ≤ 1000) ∧
  ∀ (H' : Hp) (a' b' : Int), But p H H' → PenAt H' p l ns a' b' → a ≤ a' → a' ≤ a + 40 → Q (.bl true) H'
theorem un65 {A : Around} (r : Room 2 A) : A.units + 65 < cLine := by
  have := r.un
  omega
theorem badB_kB {K : PySem.W.Frag} {H : Hp} {x : V} {S : String} (h : Plain K H x S) : PySem.W.kitOne K (.type S) (.type "bool") = some (isB x) := h.kBool
theorem eqv_ints (a b : List Int) : PyData.eqv (.list (a.map .int)) (.list (b.map .int)) = decide (a = b) := by
  show PyData.eqvAll _ _ = _
  induction a generalizing b with
  | nil => cases b <;> simp [PyData.eqvAll]
  | cons x r ih => cases b with
    | nil => simp [PyData.eqvAll]
    | cons y t =>
      rw [List.map_cons, List.map_cons]
      show (PyData.eqv (.int x) (.int y) && PyData.eqvAll _ _) = _
      rw [ih t]
      simp only [PyData.eqv, List.cons.injEq, Bool.decide_and]
      congr 1
/-- what a thing is beside a list of ints -/
structure ThingAt (K : PySem.W.Frag) (H : Hp) (due : List Int) (x : V) (d : PyData) : Prop where
  dp : Dp K H x d
  sh : SeqAt.shaped d = true
  pl : ∃ S, Plain K H x S
  eq : ((due.map PyData.int).any (fun z => PyData.eqv z d) && !isB x) = memV x due
theorem any_int (due : List Int) (i : Int) : ((due.map PyData.int).any fun z => PyData.eqv z (.int i)) = decide (i ∈ due) := by
  induction due with
  | nil => rfl
  | cons z r ih =>
    rw [List.map_cons, List.any_cons, ih]
    show ((z == i) || decide (i ∈ r)) = decide (i ∈ z :: r)
    by_cases h : z = i
    · subst h
      simp
    · have h2 : ¬ i = z := fun e => h e.symm
      simp [h, h2]
theorem any_none {due : List Int} {d : PyData} (h : ∀ i : Int, PyData.eqv (.int i) d = false) : ((due.map PyData.int).any fun z => PyData.eqv z d) = false := by
  rw [List.any_map]
  exact List.any_eq_false.mpr fun i _ => by
    show ¬ PyData.eqv (.int i) d = true
    rw [h]
    exact Bool.false_ne_true
theorem ThingAt.int {K : PySem.W.Frag} {H : Hp} {due : List Int} (i : Int) : ThingAt K H due (.int i) (.int i) := ⟨.int i, rfl, ⟨_, .int i⟩, by rw [any_int]; show (decide (i ∈ due) && !false) = decide (i ∈ due); simp⟩
theorem ThingAt.bl {K : PySem.W.Frag} {H : Hp} {due : List Int} (b : Bool) : ThingAt K H due (.bl b) (.bool b) := ⟨.bl b, rfl, ⟨_, .bl b⟩, by show (_ && !true) = false; simp⟩
theorem ThingAt.non {K : PySem.W.Frag} {H : Hp} {due : List Int} : ThingAt K H due .non .none := ⟨.non, rfl, ⟨_, .non⟩, by rw [any_none (d := .none) (fun i => rfl)]; rfl⟩
theorem ThingAt.str {K : PySem.W.Frag} {H : Hp} {due : List Int} (z : Str) (h : SeqAt.shaped (.str z) = true) : ThingAt K H due (.str z) (.str z) := ⟨.str z, h, ⟨_, .str z⟩, by rw [any_none (d := .str z) (fun i => rfl)]; rfl⟩
theorem ThingAt.tup {K : PySem.W.Frag} {H : Hp} {due : List Int} {t : Addr} {n : Int} (h : H t = some (.tup [.int n])) : ThingAt K H due (.ref t) (.tuple [.int n]) :=
  ⟨.tup (SqT.of h) (.cons (.int n) .nil), shaped_tup [n], ⟨_, .tup h⟩, by rw [any_none (d := .tuple [.int n]) (fun i => rfl)]; rfl⟩
theorem union_same (xs ys : List Int) : sortU (sortU xs ++ sortU ys) = sortU (xs ++ ys) := asc_ext (sortU_asc _) (sortU_asc _) fun x => by
  rw [mem_sortU, mem_sortU, List.mem_append, List.mem_append, mem_sortU, mem_sortU]
theorem all_none (ns ys : List Int) : decide ((ns.filter fun z => !decide (z ∈ ys)) = []) = ns.all fun z => decide (z ∈ sortU ys) := by
  rw [Bool.eq_iff_iff, decide_eq_true_iff, List.all_eq_true, List.filter_eq_nil_iff]
  refine ⟨fun h z hz => ?_, fun h z hz => ?_⟩
  · have := h z hz
    rw [decide_eq_true_iff, mem_sortU]
    by_cases c : z ∈ ys
    · exact c
    · exact absurd (by simp [c]) this
  · have := h z hz
    rw [decide_eq_true_iff, mem_sortU] at this
    simp [this]
theorem map_asc {ns : List Int} (n : Int) (h : ns.Pairwise (· < ·)) : sortU (ns.map fun z => z + n) = ns.map fun z => z + n := sortU_id (List.Pairwise.map _ (fun a b h => by omega) h)
theorem shift_same {ns : List Int} (ne : ns ≠ []) (n : Int) : decide ((ns.map fun z => z + n) = ns) = decide (V.int n = V.int 0) := by
  rw [Bool.eq_iff_iff, decide_eq_true_iff, decide_eq_true_iff]
  cases ns with
  | nil => exact absurd rfl ne
  | cons x r =>
    refine ⟨fun h => ?_, fun h => ?_⟩
    · have : x + n = x := (List.cons.inj h).1
      rw [show n = 0 by omega]
    · obtain rfl := V.int.inj h
      simp
theorem ite_nb {c : Bool} {A B : Prop} (h : c = true) (b : B) : if (!c) = true then A else B := by
  rw [h]
  exact iteF b
theorem ite_nef {α : Type} [DecidableEq α] {a : α} {A B : Prop} (b : B) : if decide (a ≠ a) = true then A else B := by
  rw [show decide (a ≠ a) = false from decide_eq_false (fun z => z rfl)]
  exact iteF b
theorem ite_ndf {α : Type} [DecidableEq α] {a : α} {A B : Prop} (b : B) : if (!decide (a = a)) = true then A else B := ite_nb (decide_eq_true rfl) b
theorem ite_list {a : List Int} {A B : Prop} (b : B) : if (!PyData.eqv (.list (a.map .int)) (.list (a.map .int))) = true then A else B := ite_nb (by rw [eqv_ints]; exact decide_eq_true rfl) b
theorem str_shaped : ∀ k : Nat, k ≤ 1000 → SeqAt.shaped (.str (Str.ofString (toString ((k : Nat) : Int)))) = true := by decide +kernel
theorem shows_nat : ∀ k : Nat, k ≤ 32 → (PyData.int ((k : Nat) : Int)).showable = true ∧ (PyData.int ((k : Nat) : Int)).shown.length ≤ PySem.sizeLine := by decide +kernel
section
variable {P : Program} {w : World} {K : PySem.W.Frag} {mg : Str → Option Value} {base : Heap} {CT CN CW CM uT uN uW uM : Addr} {fdT fdN fdW fdM : FuncData} {C : Addr}
abbrev N__law_kept : List Str := ["_law_pen_here", "_law_some", "_law_due", "_law_one", "_law_made", "_law_thing", "_law_is_so", "_law_more", "_law_other", "_law_whole", "_law_n"]
theorem sc__law_kept : FnScope N__law_kept ["_law_pen_here", "_law_some"] (defScope s__law_kept) := ⟨rfl, rfl, rfl, by decide +kernel, rfl, by decide +kernel, by decide +kernel⟩
set_option maxHeartbeats 4000000 in
theorem ok__law_kept {f fD fPk fOf fLP fLG fEq fLn fIt fIn fOr fLe fAd fGa : Addr} {fd fdD fdPk fdOf fdLP fdLG fdEq : FuncData} (F : Fun K "_law_kept" "_law_kept" s__law_kept f fd) (T : TR mg) (TU : TPat K mg C) (RC : PatCls K C)
    (GD : FnOk P w K mg base CX0 1 fD fdD ["_law_pen_here", "_law_many"] spDraw) (gD : mg "_law_draw" = some (.ref fD)) (kD : PySem.W.keepIn K (.ref fD) = true) (bD : Binds K fdD ["_law_pen_here", "_law_many"] [])
    (GPk : FnOk P w K mg base CX0 2 fPk fdPk ["_law_pen_here", "_law_some"] (spPick K)) (gPk : mg "_law_pick" = some (.ref fPk)) (kPk : PySem.W.keepIn K (.ref fPk) = true) (bPk : Binds K fdPk ["_law_pen_here", "_law_some"] [])
    (GOf : FnOk P w K mg base CX0 2 fOf fdOf ["_law_pen_here"] spOffs) (gOf : mg "_law_offsets" = some (.ref fOf)) (kOf : PySem.W.keepIn K (.ref fOf) = true) (bOf : Binds K fdOf ["_law_pen_here"] [])
    (GLP : FnOk P w K mg base CX0 7 fLP fdLP ["_law_some"] (spLPat C)) (gLP : mg "_law_pattern" = some (.ref fLP)) (kLP : PySem.W.keepIn K (.ref fLP) = true) (bLP : Binds K fdLP ["_law_some"] [])
    (GLG : FnOk P w K mg base CX0 1 fLG fdLG ["_law_some"] spLGaps) (gLG : mg "_law_gaps" = some (.ref fLG)) (kLG : PySem.W.keepIn K (.ref fLG) = true) (bLG : Binds K fdLG ["_law_some"] [])
    (OC : OwnCmp K C fEq) (GEq : FnOk P w K mg base CX0 1 fEq fdEq ["self", "other"] (spPEq C K)) (bEq : Binds K fdEq ["self", "other"] []) (GEqR : FnR P w K mg base CX0 1 fEq (spPEq C K))
    (nBo : PySem.W.findIn K (.ref C) "__bool__" = some none) (nLn : PySem.W.findIn K (.ref C) "__len__" = some (some (.ref fLn))) (nLn2 : PySem.W.isFn K (.ref fLn) = true) (GLn : FnR P w K mg base CX0 1 fLn (spPLen C))
    (nIt : PySem.W.findIn K (.ref C) "__iter__" = some (some (.ref fIt))) (nIt2 : PySem.W.isFn K (.ref fIt) = true) (GIt : ∀ b : Heap, FnR P w K mg b CX0 1 fIt (spPIter C b))
    (nIn : PySem.W.findIn K (.ref C) "__contains__" = some (some (.ref fIn))) (nIn2 : PySem.W.isFn K (.ref fIn) = true) (GIn : FnR P w K mg base CX0 2 fIn (spPIn C K))
    (oOr : OwnOp K C fOr "or") (GOr : FnR P w K mg base (L2.CX P w) 6 fOr (spPOr CT CM C K))
    (nLe : PySem.W.findIn K (.ref C) "__le__" = some (some (.ref fLe))) (nLe2 : PySem.W.isFn K (.ref fLe) = true) (GLe : FnR P w K mg base (L2.CX P w) 3 fLe (spPLe CT C K))
    (oAd : OwnOp K C fAd "add") (GAd : FnR P w K mg base (L2.CX P w) 6 fAd (spPAdd CT CN CM C K))
    (mGa : Meth K C "gaps" fGa) (GGa : FnR P w K mg base CX0 1 fGa (spPGaps C)) :
    FnG P w K mg base CX0 8 f fd ["_law_pen_here", "_law_some"] spKept := by
  refine F.okG sc__law_kept (fun vs H Q E h => ?_) (fun cdv A outer s H vs Q E hgd hr h => ?_)
  · obtain ⟨p, l, q, ns, a, b, xs, rfl, _⟩ := h
    rfl
  · obtain ⟨p, l, q, ns, a, b, xs, rfl, hP, ha, hq, nq, xne, lx, bx, k⟩ := h
    have hrP : Room 7 _ := hr
    have hrO : Room 6 _ := hr.mono (by decide)
    have hrE : Room 3 _ := hr.mono (by decide)
    have hrD2 : Room 2 _ := hr.mono (by decide)
    have hrD1 : Room 1 _ := hr.mono (by decide)
    refine ⟨_, (pss_cons (ps_set (i := 2) sc__law_kept.nd rfl (Or.inl rfl) (by exact (pe_callB (cr_sortS rfl) (by rfl) T.m_sorted (by decide +kernel) (pa_cons (pe_callTy (cr_setInts rfl) (by rfl) T.m_set (by decide +kernel) (pa_cons (pe_lc (own := [("_law_one", 3)]) (g := (gName 3)) (tt := tYes) rfl sc__law_kept.nd (pi_list (pv 1)) (blkOk_by (N := N__law_kept) (sc := defScope s__law_kept) (by decide +kernel)) (fun _ _ _ _ _ => (pg_name (i := 3) sc__law_kept.nd rfl (Or.inl rfl))) (fun _ _ _ _ _ => pts_nil) (fun _ _ _ _ _ => (pe_callTy call_int1 (by rfl) T.m_int (by decide +kernel) (pa_cons (pv 3) pa_nil)))) pa_nil)) pa_nil))))
 (pss_cons (ps_set (i := 4) sc__law_kept.nd rfl (Or.inl rfl) (by exact (pe_call GLP hrP rfl gLP kLP bLP .nil pass0 (pa_cons (pv 1) pa_nil))))
 (pss_cons (ps_if (PW.pt (pw_or (pt_cmpR (op_neP hrD2.units) (pe_fld (pv 4) rfl) (pe_callTy call_tupP (by rfl) T.m_tuple (by decide +kernel) (pa_cons (pv 2) pa_nil)) (nomark _)) (pw_or (pt_cmpR (op_neD hrD2.units) (pe_lc (own := [("_law_one", 3)]) (g := (gName 3)) (tt := tYes) rfl sc__law_kept.nd (pi_own (pv 4) nIt nIt2 GIt hrD1 pass0) (blkOk_by (N := N__law_kept) (sc := defScope s__law_kept) (by decide +kernel)) (fun _ _ _ _ _ => (pg_name (i := 3) sc__law_kept.nd rfl (Or.inl rfl))) (fun _ _ _ _ _ => pts_nil) (fun _ _ _ _ _ => (pv 3))) (pv 2) (nomark _)) (pw_or (pt_cmpR op_ne (pe_callB (call_reprG hgd hrD2.units) (by rfl) T.m_repr (by decide +kernel) (pa_cons (pe_callB (call_lenI GLn hrD2 nLn nLn2 pass0) (by rfl) T.m_len (by decide +kernel) (pa_cons (pv 4) pa_nil)) pa_nil)) (pe_callB (call_reprG hgd hrD2.units) (by rfl) T.m_repr (by decide +kernel) (pa_cons (pe_callB call_len_seq (by rfl) T.m_len (by decide +kernel) (pa_cons (pv 2) pa_nil)) pa_nil)) (nomark _)) (pw_or1 (pt_not (pt_truthI (pv 4) GLn hrD2 nBo nLn nLn2 pass0))))))) (pss_one (ps_ret pe_bl)) pss_nil)
 (pss_cons (ps_if (PW.pt (pw_or (pt_cmpR (op_neD hrD2.units) (pe_callTy call_list_of (by rfl) T.m_list (by decide +kernel) (pa_cons (pe_methR0 (pv 4) TU.cl mGa GGa hrD1 pass0) pa_nil)) (pe_call GLG hrD1 rfl gLG kLG bLG .nil pass0 (pa_cons (pv 2) pa_nil)) (nomark _)) (pw_or1 (pt_not (pt_val (pe_callB call_isi (by rfl) T.m_isinstance (by decide +kernel) (pa_cons (pe_methR0 (pv 4) TU.cl mGa GGa hrD1 pass0) (pa_cons (pe_bltn (v := .ty "tuple") (u := .type "tuple") rfl T.m_tuple (by decide +kernel) rfl) pa_nil)))))))) (pss_one (ps_ret pe_bl)) pss_nil)
 (pss_cons (ps_for PassesOwn.never rfl (pi_list (pe_lst (pa_cons (pe_ix ix_list (pv 2) pe_int (fun _ _ => rfl)) (pa_cons (pe_ix ix_list (pv 2) (pe_un un_neg pe_int) (fun _ _ => rfl)) (pa_cons (pe_op op_add (pe_ix ix_list (pv 2) (pe_un un_neg pe_int) (fun _ _ => rfl)) pe_int) (pa_cons pe_bl (pa_cons pe_non (pa_cons (pe_callTy call_str_int (by rfl) T.m_str (by decide +kernel) (pa_cons (pe_ix ix_list (pv 2) pe_int (fun _ _ => rfl)) pa_nil)) (pa_cons (pe_tup (pa_cons (pe_ix ix_list (pv 2) pe_int (fun _ _ => rfl)) pa_nil)) (pa_cons (pe_un un_neg pe_int) pa_nil)))))))))) (pg_name (i := 5) sc__law_kept.nd rfl (Or.inl rfl))
 (pss_cons (ps_set (i := 6) sc__law_kept.nd rfl (Or.inl rfl) (pe_and (pe_cmpR (op_inD (un65 hrD2)) (pv 5) (pv 2) (by rfl)) (pe_one (pe_not (pe_callB call_isi (by rfl) T.m_isinstance (by decide +kernel) (pa_cons (pv 5) (pa_cons (pe_bltn (v := .ty "bool") (u := .type "bool") rfl T.m_bool (by decide +kernel) rfl) pa_nil)))))))
 (pss_one (ps_if (pt_cmpR op_ne (pe_cmpR (op_inI GIn hrD2 nIn nIn2 pass0) (pv 5) (pv 4) (by rfl)) (pv 6) (nomark _)) (pss_one (ps_ret pe_bl)) pss_nil))))
 (pss_cons (ps_set (i := 7) sc__law_kept.nd rfl (Or.inr rfl) (by exact (pe_call GOf hrD2 rfl gOf kOf bOf .nil pass0 (pa_cons (pv 0) pa_nil))))
 (pss_cons (ps_par (i := 8) (j := 9) rfl sc__law_kept.nd rfl rfl (by decide) rfl rfl (pa_cons (pe_call GLP hrP rfl gLP kLP bLP .nil pass0 (pa_cons (pv 7) pa_nil)) (pa_cons (pe_call GLP hrP rfl gLP kLP bLP .nil pass0 (pa_cons (pe_op op_cat (pv 1) (pv 7)) pa_nil)) pa_nil)) rfl)
 (pss_cons (ps_if (PW.pt (pw_or (pt_cmpR (op_neOwn GEq OC bEq hrD2 pass0) (pe_op (op_own GOr oOr ot_or hrO passL) (pv 4) (pv 8)) (pv 9) (nomark _)) (pw_or (pt_cmpR op_ne (pe_cmpR (op_leOwn GLe nLe nLe2 hrE passL) (pv 4) (pv 8) (nomark _)) (pe_cmpR (op_eqD hrD2.units) (pe_lc (own := [("_law_one", 3)]) (g := (gName 3)) rfl sc__law_kept.nd (pi_list (pv 2)) (blkOk_by (N := N__law_kept) (sc := defScope s__law_kept) (by decide +kernel)) (fun _ _ _ _ _ => (pg_name (i := 3) sc__law_kept.nd rfl (Or.inl rfl))) (fun _ _ _ _ _ => (pts_one (pt_cmpR (show OpR _ (compareOp .NotIn) (rIn K true) from op_notIn_seq) (pv 3) (pv 7) (by rfl)))) (fun _ _ _ _ _ => (pv 3))) (pe_lst pa_nil) (nomark _)) (nomark _)) (pw_or1 (pt_not (pt_cmpR (op_leOwn GLe nLe nLe2 hrE passL) (pv 4) (pv 9) (nomark _))))))) (pss_one (ps_ret pe_bl)) pss_nil)
 (pss_cons (ps_set (i := 10) sc__law_kept.nd rfl (Or.inr rfl) (by exact (pe_call GPk hrD2 rfl gPk kPk bPk .nil pass0 (pa_cons (pv 0) (pa_cons (pe_lst (pa_cons pe_int (pa_cons pe_int (pa_cons pe_int (pa_cons (pe_op op_pow pe_int pe_int) (pa_cons (pe_call GD hrD1 rfl gD kD bD .nil pass0 (pa_cons (pv 0) (pa_cons pe_int pa_nil))) pa_nil)))))) pa_nil)))))
 (pss_cons (ps_if (PW.pt (pw_or (pt_cmpR (op_neD hrD2.units) (pe_callTy call_list_of (by rfl) T.m_list (by decide +kernel) (pa_cons (pe_fld (pe_op (op_own GAd oAd ot_add hrO passL) (pv 4) (pv 10)) rfl) pa_nil)) (pe_lc (own := [("_law_one", 3)]) (g := (gName 3)) (tt := tYes) rfl sc__law_kept.nd (pi_list (pv 2)) (blkOk_by (N := N__law_kept) (sc := defScope s__law_kept) (by decide +kernel)) (fun _ _ _ _ _ => (pg_name (i := 3) sc__law_kept.nd rfl (Or.inl rfl))) (fun _ _ _ _ _ => pts_nil) (fun _ _ _ _ _ => (pe_op op_add (pv 3) (pv 10)))) (nomark _)) (pw_or (pt_cmpR op_ne (pe_cmpR (op_eqOwn GEq OC bEq hrD1 pass0) (pe_op (op_own GAd oAd ot_add hrO passL) (pv 4) (pv 10)) (pv 4) (nomark _)) (pe_cmpR op_eq (pv 10) pe_int (nomark _)) (nomark _)) (pw_or (pt_cmpR (op_eqOwnP GEqR OC.eq OC.fn hrD1 pass0) (pv 4) (pv 2) (nomark _)) (pw_or1 (pt_cmpR (op_eqOwnP GEqR OC.eq OC.fn hrD1 pass0) (pv 4) (pe_callTy call_tupP (by rfl) T.m_tuple (by decide +kernel) (pa_cons (pv 2) pa_nil)) (nomark _))))))) (pss_one (ps_ret pe_bl)) pss_nil)
 (pss_one (ps_ret (pe_and (pe_cmpR op_eq (pe_cmpR (op_eqOwn GEq OC bEq hrD1 pass0) (pv 4) (pv 8) (nomark _)) (pe_cmpR (op_eqD hrD2.units) (pv 2) (pe_callB (cr_sortS rfl) (by rfl) T.m_sorted (by decide +kernel) (pa_cons (pe_callTy (cr_setInts rfl) (by rfl) T.m_set (by decide +kernel) (pa_cons (pe_lc (own := [("_law_one", 3)]) (g := (gName 3)) (tt := tYes) rfl sc__law_kept.nd (pi_list (pv 7)) (blkOk_by (N := N__law_kept) (sc := defScope s__law_kept) (by decide +kernel)) (fun _ _ _ _ _ => (pg_name (i := 3) sc__law_kept.nd rfl (Or.inl rfl))) (fun _ _ _ _ _ => pts_nil) (fun _ _ _ _ _ => (pe_callTy call_int1 (by rfl) T.m_int (by decide +kernel) (pa_cons (pv 3) pa_nil)))) pa_nil)) pa_nil)) (nomark _)) (nomark _)) (pe_one (pe_cmpR (op_neOwn GEq OC bEq hrD2 pass0) (pe_op (op_own GAd oAd ot_add hrO passL) (pv 4) pe_int) (pv 4) (nomark _)))))))))))))))), ?_⟩
    have ld := sortU_len xs
    have b0 : ∀ z ∈ sortU xs, 0 ≤ z ∧ z ≤ 1000 := fun z hz => bx z (mem_sortU.mp hz)
    refine ⟨_, rfl, q, rfl, ⟨_, SqL.of hq⟩, fun D hD => ?_⟩
    refine lc_it (walk_list (xs := xs.map V.int)) (fun i G => G = upd H D (.lst ((xs.take i).map V.int))) rfl (fun i G _ z => by rw [z]; exact SqL.of (Same.lay hD _ _ hq)) ?_ ?_
    · rintro i x G G' hi rfl ⟨rfl, hx⟩
      rw [List.getElem?_map] at hx
      obtain ⟨n, hn, rfl⟩ := Option.map_eq_some_iff.mp hx
      refine ⟨rfl, _, rfl, .inl ⟨n, rfl, _, upd_same, small_n (by rw [List.length_map, List.length_take]; omega), ?_⟩⟩
      rw [upd_upd, List.take_add_one, hn, List.map_append]
      rfl
    rintro G rfl
    rw [List.length_map, List.take_length]
    refine ⟨D, xs, rfl, SqL.of upd_same, by omega, fun S1 hS1 => ?_⟩
    refine ⟨S1, xs, rfl, upd_same, by omega, fun L hL => ?_⟩
    obtain ⟨s3, hL3⟩ := three (o3 := .lst ((sortU xs).map V.int)) hD hS1 hL
    have nL : H L = none := by
      cases e : H L with
      | none => rfl
      | some o => exact absurd (Same.lay hS1 _ _ (Same.lay hD _ _ e)) (by rw [hL]; exact fun z => nomatch z)
    generalize upd (upd (upd H D _) S1 _) L _ = H3 at s3 hL3 ⊢
    refine ⟨_, rfl, q, xs, rfl, s3 _ _ hq, xne, by omega, by omega, fun z hz => ⟨(bx z hz).1, Int.le_trans (bx z hz).2 (by decide)⟩, fun H4 m s4 pm => ?_⟩
    have hL4 := s4 _ _ hL3
    have hq4 := s4 _ _ (s3 _ _ hq)
    have hP4 : PenAt H4 p l ns a b := ⟨s4 _ _ (s3 _ _ hP.pen), s4 _ _ (s3 _ _ hP.cells), hP.few, hP.bits, hP.low⟩
    have bt4 : But p H H4 := But.of (fun _ _ z => s4 _ _ (s3 _ _ z))
    obtain ⟨dx, po, m1, m2⟩ := id pm
    -- the offsets
    refine ⟨_, rfl, m, C, dx, _, _, rfl, m1, TU.cl, TU.nO, fs_off _, _, rfl, L, _, rfl, .inl hL4, fun t1 H5 s5 ht1 => ?_⟩
    refine ⟨po, t1, sortU xs, sortU xs, rfl, rfl, s5 _ _ m2, ht1, _, rfl, ite_nef ?_⟩
    -- one by one
    have pm5 := pm.same s5
    refine ⟨_, rfl, m, dx, _, rfl, s5 _ _ m1, fun hb0 => ⟨m, sortU xs, rfl, pm5, fun it po2 hpo hit sz => ⟨it, po2, _, rfl, hit, sz, rfl, SqT.of hpo, fun D2 hD2 => ?_⟩⟩⟩
    refine lc_it (walk_tup (xs := (sortU xs).map V.int)) (fun i G => G = upd H5 D2 (.lst (((sortU xs).take i).map V.int))) rfl (fun i G _ z => by rw [z]; exact SqT.of (Same.lay hD2 _ _ hpo)) ?_ ?_
    · rintro i x G G' hi rfl ⟨rfl, hx⟩
      rw [List.getElem?_map] at hx
      obtain ⟨n, hn, rfl⟩ := Option.map_eq_some_iff.mp hx
      refine ⟨rfl, _, rfl, _, upd_same, small_n (by rw [List.length_map, List.length_take]; omega), ?_⟩
      rw [upd_upd, List.take_add_one, hn, List.map_append]
      rfl
    rintro G rfl
    rw [List.length_map, List.take_length]
    have y6 := Same.lay (o := .lst ((sortU xs).map V.int)) hD2
    have s6 : Same H4 (upd H5 D2 (.lst ((sortU xs).map V.int))) := fun _ _ z => y6 _ _ (s5 _ _ z)
    have hD2' : (upd H5 D2 (.lst ((sortU xs).map V.int))) D2 = some (.lst ((sortU xs).map V.int)) := upd_same
    generalize upd H5 D2 (.lst ((sortU xs).map V.int)) = H6 at s6 hD2' ⊢
    have hL6 := s6 _ _ hL4
    have m16 := s6 _ _ m1
    have pm6 := pm.same s6
    refine ⟨_, rfl, .list ((sortU xs).map .int), .list ((sortU xs).map .int), .lst (SqL.of hD2') (dp_ints _), .lst (SqL.of hL6) (dp_ints _), shaped_ints _, shaped_ints _, _, rfl, ite_list ?_⟩
    -- the length
    obtain ⟨sh, sl⟩ := shows_nat (sortU xs).length (by omega)
    refine ⟨_, rfl, m, dx, _, rfl, m16, m, sortU xs, rfl, pm6, _, rfl, by omega, by omega, .int ((sortU xs).length : Nat), .int ((sortU xs).length : Nat), rfl, (Dat1.d0 (.int _)).rd.v, sh, (by show 0 ≤ 20; decide), sl, _, rfl, L, _, rfl, .inl (SqL.of hL6), ?_⟩
    rw [List.length_map]
    refine ⟨.int ((sortU xs).length : Nat), .int ((sortU xs).length : Nat), rfl, (Dat1.d0 (.int _)).rd.v, sh, (by show 0 ≤ 20; decide), sl, rfl, _, rfl, ite_ndf ?_⟩
    have lpos : 0 < (sortU xs).length := List.length_pos_iff.mpr (sortU_ne xne)
    refine ⟨_, rfl, m, dx, _, rfl, m16, m, sortU xs, rfl, pm6, _, rfl, by omega, by omega, ite_nb (by rw [bne_iff_ne]; omega) ?_⟩
    -- the gaps
    have dl := diffs_len (sortU xs) (by omega)
    have dl2 := sortU_len (diffs (sortU xs))
    refine ⟨_, rfl, m, dx, _, rfl, m16, rfl, m, sortU xs, rfl, pm6, by omega, by omega, fun H7 g s7 hg => ?_⟩
    refine ⟨g, _, rfl, .inr (SqT.of hg), fun l8 hl8 => ?_⟩
    have s8 : Same H6 (upd H7 l8 (.lst ((sortU (diffs (sortU xs))).map V.int))) := fun _ _ z => Same.lay hl8 _ _ (s7 _ _ z)
    have h8 : (upd H7 l8 (.lst ((sortU (diffs (sortU xs))).map V.int))) l8 = some (.lst ((sortU (diffs (sortU xs))).map V.int)) := upd_same
    generalize upd H7 l8 (.lst ((sortU (diffs (sortU xs))).map V.int)) = H8 at s8 h8 ⊢
    refine ⟨_, rfl, L, sortU xs, rfl, s8 _ _ hL6, sortU_asc _, by omega, fun H9 r9 s9 h9 => ?_⟩
    refine ⟨.list ((sortU (diffs (sortU xs))).map .int), .list ((sortU (diffs (sortU xs))).map .int), .lst (SqL.of (s9 _ _ h8)) (dp_ints _), .lst (SqL.of h9) (dp_ints _), shaped_ints _, shaped_ints _, _, rfl, ite_list ?_⟩
    have s69 : Same H6 H9 := fun _ _ z => s9 _ _ (s8 _ _ z)
    refine ⟨_, rfl, m, dx, _, rfl, s69 _ _ m16, rfl, m, sortU xs, rfl, pm6.same s69, by omega, by omega, fun Ha g2 sa hg2 => ?_⟩
    refine ⟨_, _, _, _, _, rfl, .ty _, (Plain.tup (K := K) hg2).ty, rfl, _, rfl, ite_nb rfl ?_⟩
    have s6a : Same H6 Ha := fun _ _ z => sa _ _ (s69 _ _ z)
    have s4a : Same H4 Ha := fun _ _ z => s6a _ _ (s6 _ _ z)
    have hLa := s4a _ _ hL4
    have pma := pm.same s4a
    have btA : But p H Ha := bt4.trans (But.of s4a)
    have hPA : PenAt Ha p l ns a b := ⟨s4a _ _ hP4.pen, s4a _ _ hP4.cells, hP.few, hP.bits, hP.low⟩
    have hqa := s4a _ _ hq4
    have m1a := s4a _ _ m1
    -- the things
    obtain ⟨d0, hd0⟩ : ∃ d0, (sortU xs)[0]? = some d0 := ⟨_, List.getElem?_eq_getElem lpos⟩
    obtain ⟨ini, dn, hdn⟩ : ∃ ini dn, sortU xs = ini ++ [dn] := ⟨_, _, (List.dropLast_concat_getLast (sortU_ne xne)).symm⟩
    have b00 := b0 d0 (List.mem_of_getElem? hd0)
    have h0 : atI ((sortU xs).map V.int) 0 = some (V.int d0) := atI_nat (j := 0) (by rw [List.getElem?_map, hd0]; rfl)
    have hn : atI ((sortU xs).map V.int) (-1) = some (V.int dn) := by
      rw [hdn, List.map_append]
      exact atI_last _ _
    have lg : d0.natAbs.log2 < 1920 := by
      have := log_small (n := d0.toNat) (by omega)
      rw [Int.toNat_of_nonneg b00.1] at this
      exact this
    refine ⟨_, rfl, L, _, 0, .int d0, rfl, rfl, SqL.of hLa, h0, _, rfl, 1, rfl, L, _, -1, .int dn, rfl, rfl, SqL.of hLa, hn, _, rfl, 1, rfl, L, _, -1, .int dn, rfl, rfl, SqL.of hLa, hn, _, _, rfl, rfl, ?_⟩
    refine ⟨_, rfl, L, _, 0, .int d0, rfl, rfl, SqL.of hLa, h0, d0, rfl, lg, _, rfl, L, _, 0, .int d0, rfl, rfl, SqL.of hLa, h0, (by show 1 ≤ PySem.sizeLine; decide), fun t ht => ⟨1, rfl, (by show 8 ≤ PySem.sizeLine; decide), fun W hW => ?_⟩⟩
    have s5a := Same.lay (o := .tup [V.int d0]) ht
    have hta : (upd Ha t (.tup [V.int d0])) t = some (.tup [V.int d0]) := upd_same
    generalize hthe : [V.int d0, V.int dn, V.int (dn + 1), V.bl true, V.non, V.str (Str.ofString (toString d0)), V.ref t, V.int (-1)] = things
    have hthings : ∀ (G : Hp), Same (upd Ha t (.tup [V.int d0])) G → ∀ (i : Nat) (x : V), things[i]? = some x → ∃ d, ThingAt K G (sortU xs) x d := by
      subst hthe
      intro G sg i x hx
      have shs : SeqAt.shaped (.str (Str.ofString (toString d0))) = true := by
        have := str_shaped d0.toNat (by omega)
        rw [Int.toNat_of_nonneg b00.1] at this
        exact this
      rcases i with _ | _ | _ | _ | _ | _ | _ | _ | i
      · obtain rfl := Option.some.inj hx; exact ⟨_, .int _⟩
      · obtain rfl := Option.some.inj hx; exact ⟨_, .int _⟩
      · obtain rfl := Option.some.inj hx; exact ⟨_, .int _⟩
      · obtain rfl := Option.some.inj hx; exact ⟨_, .bl _⟩
      · obtain rfl := Option.some.inj hx; exact ⟨_, .non⟩
      · obtain rfl := Option.some.inj hx; exact ⟨_, .str _ shs⟩
      · obtain rfl := Option.some.inj hx; exact ⟨_, .tup (sg _ _ hta)⟩
      · obtain rfl := Option.some.inj hx; exact ⟨_, .int _⟩
      · cases hx
    have hlen : things.length ≤ 8 := by rw [← hthe]; exact Nat.le_refl _
    have s5b := Same.lay (o := .lst things) hW
    have hWb : (upd (upd Ha t (.tup [V.int d0])) W (.lst things)) W = some (.lst things) := upd_same
    replace hthings := fun (G : Hp) (sg : Same (upd (upd Ha t (.tup [V.int d0])) W (.lst things)) G) => hthings G (fun _ _ z => sg _ _ (s5b _ _ z))
    have sab : Same Ha (upd (upd Ha t (.tup [V.int d0])) W (.lst things)) := fun _ _ z => s5b _ _ (s5a _ _ z)
    generalize upd (upd Ha t (.tup [V.int d0])) W (.lst things) = Hb at hWb hthings sab ⊢
    refine ⟨W, rfl, ⟨_, SqL.of hWb⟩, for_it (walk_list (xs := things)) (fun i σ G => ∃ th so, σ = [some (.ref p), some (.ref q), some (.ref L), none, some (.ref m), th, so, none, none, none, none] ∧ G = Hb) ⟨none, none, rfl, rfl⟩ ?_ ?_ ?_⟩
    · rintro i σ G _ ⟨_, _, rfl, rfl⟩
      exact SqL.of hWb
    · rintro i x σ G G' hi ⟨_, _, rfl, rfl⟩ ⟨rfl, hx⟩
      obtain ⟨d, th⟩ := hthings _ (fun _ _ z => z) i x hx
      obtain ⟨S, pl⟩ := id th.pl
      have e := th.eq
      refine ⟨_, rfl, _, rfl, d, _, th.dp, .lst (SqL.of (sab _ _ hLa)) (dp_ints _), th.sh, shaped_ints _, _, rfl, ?_⟩
      cases hc : ((sortU xs).map PyData.int).any fun z => PyData.eqv z d with
      | false =>
        rw [hc] at e
        refine iteF ⟨_, rfl, _, rfl, m, dx, _, rfl, sab _ _ m1a, m, sortU xs, x, S, rfl, pma.same sab, pl, _, rfl, _, rfl, rfl, _, rfl, ?_⟩
        rw [← e]
        exact iteF ⟨_, _, rfl, rfl⟩
      | true =>
        rw [hc] at e
        refine iteT ⟨_, rfl, _, _, _, _, _, rfl, .ty _, pl.ty, pl.kBool, _, rfl, _, rfl, _, rfl, m, dx, _, rfl, sab _ _ m1a, m, sortU xs, x, S, rfl, pma.same sab, pl, _, rfl, _, rfl, rfl, _, rfl, ?_⟩
        rw [← e]
        exact ite_ndf ⟨_, _, rfl, rfl⟩
    rintro σ G ⟨th0, so0, rfl, rfl⟩
    have btB : But p H G := btA.trans (But.of sab)
    have hPB : PenAt G p l ns a b := ⟨sab _ _ hPA.pen, sab _ _ hPA.cells, hP.few, hP.bits, hP.low⟩
    have pmb := pma.same sab
    have hLb := sab _ _ hLa
    have hqb := sab _ _ hqa
    refine ⟨_, rfl, p, l, ns, a, b, rfl, hPB, by omega, fun Hc lo ys a1 b1 yne ly by_ a10 a11 btc hPc nlo hlo => ?_⟩
    have nLp : L ≠ p := (ne_of_none hP.pen nL).symm
    have nmp : m ≠ p := fun z => by
      rw [z, hP4.pen] at m1
      cases m1
    have npp : po ≠ p := fun z => by
      rw [z, hP4.pen] at m2
      cases (sortU xs) <;> cases m2
    have m1c := btc _ _ nmp (sab _ _ m1a)
    have m2c := btc _ _ npp (sab _ _ (s4a _ _ m2))
    have pmc : PatAt C Hc m (sortU xs) := ⟨dx, po, m1c, m2c⟩
    have hLc := btc _ _ nLp hLb
    have hqc := btc _ _ nq hqb
    have btC : But p H Hc := btB.trans btc
    have lys := sortU_len ys
    have bys : ∀ z ∈ ys, (0 : Int) ≤ z ∧ z ≤ 10 ^ 30 := fun z hz => ⟨(by_ z hz).1, Int.le_trans (by_ z hz).2 (by decide)⟩
    have bxs : ∀ z ∈ xs, (0 : Int) ≤ z ∧ z ≤ 10 ^ 30 := fun z hz => ⟨(bx z hz).1, Int.le_trans (bx z hz).2 (by decide)⟩
    have bxy : ∀ z ∈ xs ++ ys, (0 : Int) ≤ z ∧ z ≤ 10 ^ 30 := fun z hz => (List.mem_append.mp hz).elim (bxs z) (bys z)
    have lxy := sortU_len (xs ++ ys)
    rw [List.length_append] at lxy
    refine ⟨_, rfl, lo, ys, rfl, hlo, yne, by omega, by omega, bys, fun Hd o sd pod => ?_⟩
    refine ⟨_, rfl, _, rfl, q, lo, _, _, rfl, rfl, sd _ _ hqc, sd _ _ hlo, by rw [List.length_map, List.length_map]; have : PySem.sizeLine = 16777216 := rfl; omega, fun ca hca => ?_⟩
    have sda := Same.lay (o := .lst (xs.map V.int ++ ys.map V.int)) hca
    refine ⟨ca, xs ++ ys, rfl, by rw [List.map_append]; exact upd_same, fun z => xne (List.append_eq_nil_iff.mp z).1, by rw [List.length_append]; omega, by omega, bxy, fun He wh se pwe => ⟨_, _, rfl, ?_⟩⟩
    have sce : Same Hc He := fun _ _ z => se _ _ (sda _ _ (sd _ _ z))
    have poe := pod.same (fun _ _ z => se _ _ (sda _ _ z))
    clear sda se
    obtain ⟨dxo, poo, o1, o2⟩ := id poe
    obtain ⟨dxw, pow, w1, w2⟩ := id pwe
    have btE : But p H He := btC.trans (But.of sce)
    have hPE : PenAt He p l ns a1 b1 := ⟨sce _ _ hPc.pen, sce _ _ hPc.cells, hP.few, hP.bits, hPc.low⟩
    have m1e := sce _ _ m1c
    have pme := pmc.same sce
    have hLe := sce _ _ hLc
    have hloe := sce _ _ hlo
    have sne := sortU_ne xne
    have bb : ∀ z ∈ sortU xs ++ sortU ys, (0 : Int) ≤ z ∧ z ≤ 10 ^ 30 := fun z hz => (List.mem_append.mp hz).elim (fun h => bxs z (mem_sortU.mp h)) (fun h => bys z (mem_sortU.mp h))
    refine ⟨_, rfl, _, rfl, m, dx, _, rfl, m1e, .inl ⟨o, dxo, _, rfl, o1⟩, m, sortU xs, .ref o, rfl, pme, sne, by omega, .inl ⟨o, sortU ys, rfl, poe, by omega, (fun i hi => by rw [off_none bb] at hi; cases hi), fun _ => ⟨fun big => ?_, fun _ Hf u sf pu => ?_⟩⟩⟩
    · rw [union_same] at big
      omega
    rw [union_same] at pu
    obtain ⟨dxu, pou, u1, u2⟩ := id pu
    refine ⟨_, rfl, u, dxu, _, rfl, u1, .ins (sf _ _ w1), u, _, .ref wh, rfl, pu, .inl ⟨wh, _, rfl, pwe.same sf, _, rfl, _, rfl, ?_⟩⟩
    refine ite_ndf ?_
    have m1f := sf _ _ m1e
    refine ⟨_, rfl, _, rfl, m, dx, _, rfl, m1f, .inl ⟨o, dxo, _, rfl, sf _ _ o1⟩, m, sortU xs, .ref o, rfl, pme.same sf, by omega, .inl ⟨o, sortU ys, rfl, poe.same sf, fun Hg sg => ⟨_, rfl, ?_⟩⟩⟩
    have seg : Same He Hg := fun _ _ z => sg _ _ (sf _ _ z)
    have hLg := seg _ _ hLe
    have hlog := seg _ _ hloe
    refine ⟨_, rfl, L, rfl, ⟨_, SqL.of hLg⟩, fun D4 hD4 => ?_⟩
    refine lc_it (walk_list (xs := (sortU xs).map V.int)) (fun i G => G = upd Hg D4 (.lst ((((sortU xs).take i).filter fun z => !decide (z ∈ ys)).map V.int))) rfl (fun i G _ z => by rw [z]; exact SqL.of (Same.lay hD4 _ _ hLg)) ?_ ?_
    · rintro j x G1 G2 hj rfl ⟨rfl, hx⟩
      rw [List.getElem?_map] at hx
      obtain ⟨z, hz, rfl⟩ := Option.map_eq_some_iff.mp hx
      refine ⟨rfl, _, rfl, _, rfl, lo, _, rfl, .inl (SqL.of (Same.lay hD4 _ _ hlog)), rfl, flat_ints ys, _, rfl, ?_⟩
      have e : (((sortU xs).take (j + 1)).filter fun z => !decide (z ∈ ys)) = if (!decide (z ∈ ys)) = true then (((sortU xs).take j).filter fun z => !decide (z ∈ ys)) ++ [z] else ((sortU xs).take j).filter fun z => !decide (z ∈ ys) := by
        rw [List.take_add_one, hz, List.filter_append]
        by_cases c : z ∈ ys
        · simp [c]
        · simp [c]
      rw [e]
      show if (!inV (.int z) (ys.map V.int)) = true then _ else _
      rw [inV_ints]
      refine ite2 (fun c => ?_) (fun c => ?_)
      · rw [if_pos c]
        refine ⟨_, rfl, _, upd_same, ?_, ?_⟩
        · refine small_n ?_
          rw [List.length_map]
          exact Nat.le_trans (List.length_filter_le ..) (by rw [List.length_take]; omega)
        · rw [upd_upd, List.map_append]
          rfl
      · rw [if_neg c]
    rintro G1 rfl
    rw [List.length_map, List.take_length]
    refine ⟨(by show 0 ≤ PySem.sizeLine; decide), fun D5 hD5 => ?_⟩
    have sgh : Same Hg (upd (upd Hg D4 (.lst (((sortU xs).filter fun z => !decide (z ∈ ys)).map V.int))) D5 (.lst [])) := fun _ _ z => Same.lay hD5 _ _ (Same.lay hD4 _ _ z)
    refine ⟨.list (((sortU xs).filter fun z => !decide (z ∈ ys)).map .int), .list (([] : List Int).map .int), .lst (SqL.of (Same.lay hD5 _ _ upd_same)) (dp_ints _), .lst (SqL.of upd_same) .nil, shaped_ints _, rfl, ?_⟩
    rw [eqv_ints, all_none]
    refine ⟨rfl, _, rfl, ite_ndf ?_⟩
    generalize upd (upd Hg D4 (.lst (((sortU xs).filter fun z => !decide (z ∈ ys)).map V.int))) D5 (.lst []) = Hh at sgh ⊢
    have seh : Same He Hh := fun _ _ z => sgh _ _ (seg _ _ z)
    refine ⟨_, rfl, _, rfl, m, dx, _, rfl, seh _ _ m1e, .inl ⟨wh, dxw, _, rfl, seh _ _ w1⟩, m, sortU xs, .ref wh, rfl, pme.same seh, by omega, .inl ⟨wh, _, rfl, pwe.same seh, fun Hi si => ⟨_, rfl, _, rfl, ite_nb ?_ ?_⟩⟩⟩
    · exact List.all_eq_true.mpr fun z hz => decide_eq_true (mem_sortU.mpr (List.mem_append.mpr (.inl (mem_sortU.mp hz))))
    have sei : Same He Hi := fun _ _ z => si _ _ (seh _ _ z)
    have m1i := sei _ _ m1e
    have pmi := pme.same sei
    have hPi : PenAt Hi p l ns a1 b1 := ⟨sei _ _ hPE.pen, sei _ _ hPE.cells, hP.few, hP.bits, hPc.low⟩
    have btI : But p H Hi := btE.trans (But.of sei)
    have hLi := sei _ _ hLe
    have hloi := sei _ _ hloe
    have poi := poe.same sei
    refine ⟨_, rfl, _, _, rfl, rfl, ⟨by decide, by decide, by decide⟩, _, rfl, p, l, ns, a1, b1, 100, rfl, hPi, by omega, by decide, by decide +kernel, fun Hj dr a2 b2 d0 d1 a20 a21 btj hPj => ⟨(by show 5 ≤ PySem.sizeLine; decide), fun pk hpk => ?_⟩⟩
    have nkp : pk ≠ p := (ne_of_none hPj.pen hpk).symm
    refine ⟨p, l, pk, ns, a2, b2, _, rfl, hPj.new hpk, by omega, SqL.of upd_same, nkp, by show 0 < 5; decide, by show 5 ≤ 1000; decide, fun Hk ix v a3 b3 hv a30 a31 btk hPk => ?_⟩
    obtain ⟨n, rfl, n0, n1⟩ : ∃ n : Int, v = .int n ∧ 0 ≤ n ∧ n ≤ 10 ^ 20 := by
      rcases ix with _ | _ | _ | _ | _ | ix
      · obtain rfl := Option.some.inj hv; exact ⟨0, rfl, by decide, by decide⟩
      · obtain rfl := Option.some.inj hv; exact ⟨1, rfl, by decide, by decide⟩
      · obtain rfl := Option.some.inj hv; exact ⟨7, rfl, by decide, by decide⟩
      · obtain rfl := Option.some.inj hv; exact ⟨10 ^ 20, rfl, by decide, by decide⟩
      · obtain rfl := Option.some.inj hv; exact ⟨dr, rfl, d0, by omega⟩
      · cases hv
    have btik : But p Hi Hk := fun c o n e => btk _ _ n (Same.lay hpk _ _ (btj _ _ n e))
    have nop : o ≠ p := fun z => by
      have := sei _ _ o1
      rw [z, hPi.pen] at this
      cases this
    have noop : poo ≠ p := fun z => by
      have := sei _ _ o2
      rw [z, hPi.pen] at this
      cases (sortU ys) <;> cases this
    have nlop : lo ≠ p := fun z => by
      have := hloi
      rw [z, hPi.pen] at this
      cases ys with
      | nil => cases this
      | cons y r => cases this
    have m1k := btik _ _ nmp m1i
    have pmk : PatAt C Hk m (sortU xs) := ⟨dx, po, m1k, btik _ _ npp (sei _ _ (sce _ _ m2c))⟩
    have pok : PatAt C Hk o (sortU ys) := ⟨dxo, poo, btik _ _ nop (sei _ _ o1), btik _ _ noop (sei _ _ o2)⟩
    have hLk := btik _ _ nLp hLi
    have hlok := btik _ _ nlop hloi
    have btK : But p H Hk := btI.trans btik
    have asc := sortU_asc xs
    have bn : ∀ z ∈ (sortU xs).map (fun z => z + n), (0 : Int) ≤ z ∧ z ≤ 10 ^ 30 := fun z hz => by
      obtain ⟨y, hy, rfl⟩ := List.mem_map.mp hz
      have := bx y (mem_sortU.mp hy)
      omega
    have addOut : ∀ (G : Hp) (Q : VK), Same Hk G → (∀ H' u, Same G H' → PatAt C H' u ((sortU xs).map fun z => z + n) → Q (.ref u) H') → PatOut CT CM C G ((sortU xs).map fun z => z + n) Q E0 := fun G Q sg k =>
      ⟨(fun i hi => by rw [off_none bn] at hi; cases hi), fun _ => ⟨(fun big => by rw [map_asc n asc, List.length_map] at big; omega), fun _ H' u s' pu => k H' u s' (by rw [map_asc n asc] at pu; exact pu)⟩⟩
    have wn : withinV 0 (10 ^ 30) (.int n) = true := decide_eq_true ⟨n0, Int.le_trans n1 (by decide)⟩
    refine ⟨_, rfl, _, rfl, m, dx, _, rfl, m1k, .inr ⟨_, .int n⟩, m, sortU xs, .int n, _, rfl, pmk, sne, by omega, .int n, (fun z => by rw [wn] at z; cases z), fun n' e _ _ => ?_⟩
    cases e
    refine addOut _ _ (fun _ _ z => z) fun Hl u sl pu => ?_
    obtain ⟨dxu, pou, u1, u2⟩ := id pu
    refine ⟨u, C, dxu, _, _, rfl, u1, TU.cl, TU.nO, fs_off _, pou, _, rfl, .inr (SqT.of u2), fun ls hls => ?_⟩
    have slm := Same.lay (o := .lst (((sortU xs).map fun z => z + n).map V.int)) hls
    have hlsm : (upd Hl ls (.lst (((sortU xs).map fun z => z + n).map V.int))) ls = some (.lst (((sortU xs).map fun z => z + n).map V.int)) := upd_same
    have skm : Same Hk (upd Hl ls (.lst (((sortU xs).map fun z => z + n).map V.int))) := fun _ _ z => slm _ _ (sl _ _ z)
    generalize upd Hl ls (.lst (((sortU xs).map fun z => z + n).map V.int)) = Hm at hlsm skm ⊢
    have hLm := skm _ _ hLk
    refine ⟨_, rfl, L, rfl, ⟨_, SqL.of hLm⟩, fun D6 hD6 => ?_⟩
    refine lc_it (walk_list (xs := (sortU xs).map V.int)) (fun i G => G = upd Hm D6 (.lst ((((sortU xs).take i).map fun z => z + n).map V.int))) rfl (fun i G _ z => by rw [z]; exact SqL.of (Same.lay hD6 _ _ hLm)) ?_ ?_
    · rintro j x G1 G2 hj rfl ⟨rfl, hx⟩
      rw [List.getElem?_map] at hx
      obtain ⟨z, hz, rfl⟩ := Option.map_eq_some_iff.mp hx
      refine ⟨rfl, _, rfl, _, rfl, _, _, rfl, rfl, _, upd_same, small_n (by rw [List.length_map, List.length_map, List.length_take]; omega), ?_⟩
      rw [upd_upd, List.take_add_one, hz, List.map_append, List.map_append]
      rfl
    rintro G1 rfl
    rw [List.length_map, List.take_length]
    have sm6 := Same.lay (o := .lst (((sortU xs).map fun z => z + n).map V.int)) hD6
    refine ⟨.list (((sortU xs).map fun z => z + n).map .int), .list (((sortU xs).map fun z => z + n).map .int), .lst (SqL.of (sm6 _ _ hlsm)) (dp_ints _), .lst (SqL.of upd_same) (dp_ints _), shaped_ints _, shaped_ints _, _, rfl, ite_list ?_⟩
    have skn : Same Hk (upd Hm D6 (.lst (((sortU xs).map fun z => z + n).map V.int))) := fun _ _ z => sm6 _ _ (skm _ _ z)
    generalize upd Hm D6 (.lst (((sortU xs).map fun z => z + n).map V.int)) = Hn at skn ⊢
    refine ⟨_, rfl, _, rfl, m, dx, _, rfl, skn _ _ m1k, .inr ⟨_, .int n⟩, m, sortU xs, .int n, _, rfl, pmk.same skn, sne, by omega, .int n, (fun z => by rw [wn] at z; cases z), fun n' e _ _ => ?_⟩
    cases e
    refine addOut _ _ skn fun Ho u' so pu' => ?_
    obtain ⟨dxv, pov, v1, v2⟩ := id pu'
    have sko : Same Hk Ho := fun _ _ z => so _ _ (skn _ _ z)
    refine ⟨_, rfl, u', dxv, _, rfl, v1, .ins (sko _ _ m1k), u', _, .ref m, rfl, pu', .inl ⟨m, _, rfl, pmk.same sko, _, rfl, _, rfl, rfl, rfl, _, rfl, ?_⟩⟩
    show if (!decide (V.bl (decide (((sortU xs).map fun z => z + n) = sortU xs)) = V.bl (decide (V.int n = V.int 0)))) = true then _ else _
    rw [shift_same sne n]
    refine ite_ndf ?_
    refine ⟨_, rfl, _, rfl, m, dx, _, rfl, sko _ _ m1k, .inr ⟨_, .lst (sko _ _ hLk)⟩, m, _, .ref L, rfl, pmk.same sko, .inr ⟨_, .lst (sko _ _ hLk), _, rfl, _, rfl, iteF ?_⟩⟩
    refine ⟨_, rfl, _, rfl, L, _, rfl, .inl (sko _ _ hLk), fun t2 Hp sp ht2 => ?_⟩
    have skp : Same Hk Hp := fun _ _ z => sp _ _ (sko _ _ z)
    refine ⟨m, dx, _, rfl, skp _ _ m1k, .inr ⟨_, .tup ht2⟩, m, _, .ref t2, rfl, pmk.same skp, .inr ⟨_, .tup ht2, _, rfl, _, rfl, iteF ?_⟩⟩
    -- the last
    have m1p := skp _ _ m1k
    have pmp := pmk.same skp
    have pop := pok.same skp
    obtain ⟨dxo', poo', o1', o2'⟩ := id pop
    have hlop := skp _ _ hlok
    have hLp := skp _ _ hLk
    refine ⟨_, rfl, _, rfl, m, dx, _, rfl, m1p, .ins o1', m, _, .ref o, rfl, pmp, .inl ⟨o, _, rfl, pop, _, rfl, ?_⟩⟩
    refine ⟨_, rfl, _, rfl, lo, rfl, ⟨_, SqL.of hlop⟩, fun D7 hD7 => ?_⟩
    refine lc_it (walk_list (xs := ys.map V.int)) (fun i G => G = upd Hp D7 (.lst ((ys.take i).map V.int))) rfl (fun i G _ z => by rw [z]; exact SqL.of (Same.lay hD7 _ _ hlop)) ?_ ?_
    · rintro i x G G' hi rfl ⟨rfl, hx⟩
      rw [List.getElem?_map] at hx
      obtain ⟨y, hy, rfl⟩ := Option.map_eq_some_iff.mp hx
      refine ⟨rfl, _, rfl, .inl ⟨y, rfl, _, upd_same, small_n (by rw [List.length_map, List.length_take]; omega), ?_⟩⟩
      rw [upd_upd, List.take_add_one, hy, List.map_append]
      rfl
    rintro G rfl
    rw [List.length_map, List.take_length]
    refine ⟨D7, ys, rfl, SqL.of upd_same, by omega, fun S2 hS2 => ?_⟩
    refine ⟨S2, ys, rfl, upd_same, by omega, fun L2 hL2 => ?_⟩
    obtain ⟨sq, hL2'⟩ := three (o3 := .lst ((sortU ys).map V.int)) hD7 hS2 hL2
    generalize upd (upd (upd Hp D7 _) S2 _) L2 _ = Hq at sq hL2' ⊢
    refine ⟨.list ((sortU xs).map .int), .list ((sortU ys).map .int), .lst (SqL.of (sq _ _ hLp)) (dp_ints _), .lst (SqL.of hL2') (dp_ints _), shaped_ints _, shaped_ints _, ?_⟩
    rw [eqv_ints]
    refine ⟨rfl, _, rfl, ?_⟩
    show if decide (V.bl (decide (sortU xs = sortU ys)) = V.bl (decide (sortU xs = sortU ys))) = true then _ else _
    rw [decide_eq_true rfl]
    have b1 : ∀ z ∈ (sortU xs).map (fun z => z + 1), (0 : Int) ≤ z ∧ z ≤ 10 ^ 30 := fun z hz => by
      obtain ⟨y, hy, rfl⟩ := List.mem_map.mp hz
      have := bx y (mem_sortU.mp hy)
      omega
    have skq : Same Hk Hq := fun _ _ z => sq _ _ (skp _ _ z)
    refine iteT ⟨_, rfl, m, dx, _, rfl, skq _ _ m1k, .inr ⟨_, .int 1⟩, m, sortU xs, .int 1, _, rfl, pmk.same skq, sne, by omega, .int 1, (fun z => nomatch (show true = false from z)), fun n' e _ _ => ?_⟩
    cases e
    refine ⟨(fun i hi => by rw [off_none b1] at hi; cases hi), fun _ => ⟨(fun big => by rw [map_asc 1 asc, List.length_map] at big; omega), fun _ Hr u2 sr pu2 => ?_⟩⟩
    rw [map_asc 1 asc] at pu2
    obtain ⟨dxz, poz, z1, z2⟩ := id pu2
    have skr : Same Hk Hr := fun _ _ z => sr _ _ (skq _ _ z)
    refine ⟨_, rfl, u2, dxz, _, rfl, z1, .ins (skr _ _ m1k), u2, _, .ref m, rfl, pu2, .inl ⟨m, _, rfl, pmk.same skr, _, rfl, ?_⟩⟩
    show Q (.bl (!decide (((sortU xs).map fun z => z + 1) = sortU xs))) Hr
    rw [shift_same sne 1]
    exact k Hr a3 b3 (btK.trans (But.of skr)) ⟨skr _ _ hPk.pen, skr _ _ hPk.cells, hPk.few, hPk.bits, hPk.low⟩ (by omega) (by omega)
end
end Toy
set_option maxRecDepth 100000
namespace L2
open PySem PySem.Spec PyProof.Rows
/-- a def whose code object is known, by its body -/
theorem fnG_of {P : Program} {w : World} {K : PySem.W.Frag} {mg : Str → Option Value} {base : Heap} {x qual : Str} {st : Stmt} {f : Addr} {N ps : List Str} {k : Nat} {sp : Sp} {oc kV doc pm cdv ct : Value} {od an : Option Addr} {osl : Array (Option Value)}
    (lk : K.lookup f = some ⟨oc, od, .func (PySem.W.fnOf x qual (defArgs st) (defBody st) (defScope st) .none kV doc pm an cdv ct), osl⟩) (hcd : PySem.W.codeIn K cdv qual = true) (S : FnScope N ps (defScope st)) (len : ∀ vs H Q E, sp vs H Q E → vs.length = ps.length)
    (body : ∀ (A : Around) (outer : List Env) (s : Shared) (H : Hp) (vs : List V) (Q : VK) (E : XK), A.guards = some [] →
      Room k (A.deeper (envOfC qual (defScope st) s.heap.objs.size f cdv)) → sp vs H Q E →
      ∃ t, PSs (cxOf CX0 P w K mg base N qual (defScope st) f cdv A outer s H E).nox (defBody st) t ∧
        t { nx := fun _ H' => Q .non H', rt := Q } (start N vs) H) :
    FnG P w K mg base CX0 (k + 1) f (PySem.W.fnOf x qual (defArgs st) (defBody st) (defScope st) .none kV doc pm an cdv ct) ps sp := by
  refine ⟨len, fun A outer s H args us vs Q E gd hr e0 bi r h => ?_⟩
  have hn := len _ _ _ _ h
  have up : ∀ b o, base.get? b = some o → s.heap.get? b = some o := fun b o e => (e0.bs b o e).1
  have kin := e0.mod.kin.keeps up
  refine codeAny_call_function hr.depth (kin _ _ lk) rfl S.co S.gen rfl (PySem.W.codeRec_of kin hcd) (bi _ _ _ _ (wpAny_newFunctionEnv_cells S.kind ?_ ?_))
  · intro y hy
    have hm : y.1 ∈ ps := by
      obtain ⟨n, v⟩ := y
      exact (List.of_mem_zip hy).1
    exact (S.par _ hm).elim Or.inl fun q => Or.inr ⟨q, PySem.W.cellsFrom_some _ _ _ (.inl q)⟩
  · rintro env rfl s1 x
    refine ⟨(e0.mod.nolimit.keeps up).keeps x.toInCall.keep, codeAny_func ?_⟩
    obtain ⟨t, ht, hq⟩ := body A outer s H vs Q E gd (hr.deeper _) h
    have I := inv_start (CX := CX0) (P := P) (w := w) (K := K) (mg := mg) (base := base) (E := E) S hr.hd e0 hn r x
    refine wpAny_mono (ht.nox.run [] s1 (start N vs) H _ I hq) (fun fl s' hs => ?_) fun _ _ hs => hs
    cases fl with
    | next =>
      obtain ⟨_, H', J, q⟩ := hs
      exact ⟨V.non, H', J.os, J.bare, J.base, J.hok, rfl, q⟩
    | ret u =>
      obtain ⟨v, _, H', J, rv, q⟩ := hs
      exact ⟨v, H', J.os, J.bare, J.base, J.hok, rv, q⟩
    | brk =>
      obtain ⟨_, _, _, q⟩ := hs
      exact q.elim
    | cont =>
      obtain ⟨_, _, _, q⟩ := hs
      exact q.elim
end L2
set_option maxRecDepth 100000
namespace L2
open PySem PySem.Spec PyProof.Rows LamX
/-! the law's call, where nothing is being shown and one def makes lambdas: its code object at c, its table at t -/
theorem end_tab {P : Program} {w : World} {K : PySem.W.Frag} {mg mb : Str → Option Value} {k : Nat} {fa a c t : Addr} {fd : FuncData} {x : Str} {sp : Sp} {s₁ : Shared} {vs : List Value} {H : Hp}
    (KX : K.In s₁.heap) (hns : s₁.heap.Ns mainGlobals mg) (hb : s₁.heap.Ns builtinsNs mb) (hbb : ∀ y : Str, y ≠ "__name__" → mb y = bootBuiltins y) (lim : s₁.heap.NoLimit) (hg : s₁.gens = #[])
    (ht : s₁.heap.get? t = some { cls := .none, data := .fields #[] }) (nt : K.lookup t = none) (hc : PySem.W.CodeHd s₁.heap c t)
    (bm : ∃ (m : Addr) (om : Obj), mg "__builtins__" = some (.ref m) ∧ m ≠ builtinsNs ∧ s₁.heap.get? m = some om ∧ om.cls = .type "module" ∧ om.dict = some builtinsNs ∧ om.data = .plain)
    (ha : s₁.heap.get? a = some { cls := .type "list", data := .seq vs.toArray }) (hr : Room k callerA)
    (F : ∀ base : Heap, K.In base → base.Ns mainGlobals mg → TabB base mg c t → FnG P w K mg base CX0 k fa fd [x] sp) (bind : ∀ (s : Shared) (u : Value), BindsTo s fd ⟨[u], []⟩ [(x, u)])
    (hHt : H t = some (.tbl #[])) (hO : ∀ b, b ≠ t → H b = none ∨ ∃ o xs, H b = some (.frz o (.lst xs))) (hok : HOk P w H s₁.heap) (hA : ∀ b, b ≠ t → H b ≠ none → b = a) (hK : H a ≠ none → K.lookup a = none)
    (hsp : sp [.ref a] H (fun v _ => v = .bl true) fun _ _ _ => False) :
    codeAny (model P w) callerA (.call (.ref fa) ⟨[.ref a], []⟩) (fun r s' => r = .ok (.ret (.bool true)) ∧ OldK s₁.heap s'.heap ∧ s'.os = s₁.os ∧ AllBare s'.gens) s₁ := by
  have apart : ∀ {b : Addr} {o : Obj}, s₁.heap.get? b = some o → o.data ≠ .fields #[] → b ≠ t := by
    intro b o e d z
    rw [z, ht] at e
    have eo := Option.some.inj e
    exact d (by rw [← eo])
  have free : ∀ {b : Addr} {o : Obj}, s₁.heap.get? b = some o → o.data ≠ .fields #[] → (∀ v n, o.data ≠ .seq v n) → H b = none := by
    intro b o e d1 d2
    refine Classical.byContradiction fun n => ?_
    have eb := hA b (apart e d1) n
    subst eb
    have eo := Option.some.inj (e.symm.trans ha)
    exact d2 vs.toArray _ (by rw [eo])
  have ns' : ∀ {b : Addr} {m : Str → Option Value}, s₁.heap.Ns b m → (hidT s₁.heap H).Ns b m := by
    rintro b m ⟨o, es, ep, e, d, r⟩
    exact ⟨o, es, ep, hidT_get e (free e (by rw [d]; intro z; cases z) fun v n z => by rw [d] at z; cases z), d, r⟩
  have kb : K.In (hidT s₁.heap H) := by
    intro b o e
    refine hidT_get (KX b o e) (Classical.byContradiction fun n => ?_)
    by_cases eb : b = t
    · subst eb
      rw [nt] at e
      cases e
    · have e2 := hA b eb n
      subst e2
      rw [hK n] at e
      cases e
  have md : Mod K mg (hidT s₁.heap H) := by
    obtain ⟨mc, h1, h2⟩ := lim
    exact ⟨kb, ns' hns, ⟨mb, ns' hb, hbb⟩, ⟨mc, ns' h1, h2⟩⟩
  have tb : TabB (hidT s₁.heap H) mg c t := by
    obtain ⟨m, om, m1, m2, m3, m4, m5, m6⟩ := id bm
    have hm : H m = none := free m3 (by rw [m6]; intro z; cases z) fun v n z => by rw [m6] at z; cases z
    have gm : m ≠ mainGlobals := fun z => by
      obtain ⟨o, es, ep, e, d, _⟩ := hns
      rw [z, e] at m3
      have eo := Option.some.inj m3
      rw [← eo, d] at m6
      cases m6
    have mt : m ≠ t := apart m3 (by rw [m6]; intro z; cases z)
    refine ⟨?_, ⟨m, om, m1, m2, gm, mt, hidT_get m3 hm, m4, m5, m6⟩, fun z => ?_⟩
    · obtain ⟨o, us, fi, tf, fl, tg, inF, tx, tt, c1, c2, c3, c4, rest⟩ := hc
      refine ⟨o, us, fi, tf, fl, tg, inF, tx, tt, hidT_get c1 (free c1 (fun z => ?_) fun v n z => ?_), c2, c3, c4, rest⟩
      · rw [c3] at z
        have e := Data.fields.inj z
        rw [e] at c4
        simp at c4
      · rw [c3] at z
        cases z
    · obtain ⟨o, es, ep, e, d, _⟩ := hns
      rw [z, ht] at e
      have eo := Option.some.inj e
      rw [← eo] at d
      cases d
  have ev : Env0 P w K mg (hidT s₁.heap H) callerA [] s₁ H :=
    ⟨rfl, md, fun b o e => of_hidT e, Nat.le_of_eq (hidT_size _ _), trivial, fun b hb => (nomatch hb), hok, .of_eq hg⟩
  refine codeAny_mono ((F _ kb (ns' hns) tb).run callerA [] s₁ H _ [.ref a] [.ref a] _ _ rfl hr ev (bind s₁ (.ref a)) (.cons rfl .nil) hsp) fun r s' h => ?_
  cases r with
  | error e => exact (h : False).elim
  | ok fl =>
    cases fl with
    | next => exact (h : False).elim
    | brk => exact (h : False).elim
    | cont => exact (h : False).elim
    | ret u =>
      obtain ⟨v, H', os, bare, un, hok', r', q⟩ := h
      have q' : v = .bl true := q
      subst q'
      obtain rfl : u = Value.bool true := r'
      have keep : ∀ b o, b ≠ t → s₁.heap.get? b = some o → s'.heap.get? b = some o := by
        intro b o n e
        rcases hO b n with z | ⟨ob, xs, z⟩
        · exact un.keep b o e z (fun m => nomatch m) (fun m => nomatch m)
        · have e1 := (hok b _ z).1
          have e2 := (hok' b _ (un.frzs b ob _ z)).1
          exact (Option.some.inj (e.symm.trans e1)) ▸ e2
      obtain ⟨more, gt⟩ := un.tbls t #[] hHt
      have gt2 : s'.heap.get? t = some { cls := .none, data := .fields (#[] ++ more) } := hok' t _ gt
      refine ⟨rfl, ⟨fun b o e => ?_, fun b o e => ?_⟩, os, bare⟩
      · by_cases eb : b = t
        · subst eb
          have eo := Option.some.inj (e.symm.trans ht)
          subst eo
          exact .inr (.inl ⟨(hc.tab ht).isCodeTable, rfl, #[], more, rfl, gt2⟩)
        · exact .inl (keep b o eb e)
      · by_cases eb : b = t
        · subst eb
          exact ⟨_, gt2⟩
        · exact ⟨o, keep b o eb e⟩
theorem walk_tab {l : PySem.W.OpenLaw} {n k : Nat} {q : Program} {loose : List Str} {XP : (Str → Option Value) → Heap → Prop} {YP : World → Heap → Prop} {d : DefRec} {sp : PySem.W.Frag → Addr → Sp} {x : Str}
    (hn : l.most = some n) (hn2 : n ≤ sizeLine) (hdf : d.params.defaults = []) (hr : Room k callerA)
    (F : ∀ (w : World) (mg : Str → Option Value) (fa : Addr) (h : Heap), YP w h → h.Ns mainGlobals mg → mg d.name = some (.ref fa) →
      ∃ (K : PySem.W.Frag) (c t : Addr) (fd : FuncData), K.In h ∧ h.get? t = some { cls := .none, data := .fields #[] } ∧ K.lookup t = none ∧ PySem.W.CodeHd h c t ∧ (∀ (s : Shared) (u : Value), BindsTo s fd ⟨[u], []⟩ [(x, u)]) ∧
        ∀ base : Heap, K.In base → base.Ns mainGlobals mg → TabB base mg c t → FnG l.prog w K mg base CX0 k fa fd [x] (sp K t))
    (hsp : ∀ (K : PySem.W.Frag) (t : Addr) (H : Hp) (a : Addr) (ns : List Int), ns.length ≤ n → (∀ z ∈ ns, Builtin.Int.intBits z ≤ 1048576) → H t = some (.tbl #[]) → SqL K H a (ns.map V.int) → sp K t [.ref a] H (fun v _ => v = .bl true) fun _ _ _ => False) :
    PySem.W.WalkO q loose XP YP l.row.toRowW d [] (fun f vs => PySem.call f vs) := by
  refine Att.attach_callB hn hdf fun w s₀ s₁ mg mb fa o pm cd doc a vs ns G Y ho hd hcd hmg hobj hints hlen hbits hg => ?_
  obtain ⟨K, c, t, fd, KX, ht, nt, hc, b, f⟩ := F w mg fa _ Y G.T.g hmg
  have rv := vals_ints hints
  have lv := hints.length
  have nat_ : a ≠ t := fun z => by
    have e := hobj
    rw [z, ht] at e
    have eo := congrArg Obj.data (Option.some.inj e)
    cases eo
  have hl : ns.length ≤ sizeLine := Nat.le_trans hlen hn2
  cases hk : K.lookup a with
  | some oa =>
    have eo := Option.some.inj ((KX a oa hk).symm.trans hobj)
    subst eo
    refine end_tab (H := fun b => if b = t then some (.tbl #[]) else none) KX G.T.g G.T.b G.T.builtins G.T.nolimit hg ht nt hc G.T.bmain hobj hr f b (if_pos rfl) (fun b n => .inl (if_neg n)) (fun b u z => ?_) (fun b n z => absurd (if_neg n) z) (fun z => absurd (if_neg nat_) z) ?_
    · by_cases eb : b = t
      · subst eb
        have eu := Option.some.inj ((if_pos rfl).symm.trans z)
        subst eu
        exact ht
      · exact nomatch (if_neg eb).symm.trans z
    · exact hsp K t _ a ns hlen hbits (if_pos rfl) (.inr ⟨_, vs.toArray, _, hk, rfl, rfl, rfl, by rw [List.size_toArray, lv]; exact hl, by simpa using rv⟩)
  | none =>
    refine end_tab (H := fun b => if b = t then some (.tbl #[]) else if b = a then some (HO.frz { cls := .type "list", data := .seq vs.toArray } (.lst (ns.map V.int))) else none) KX G.T.g G.T.b G.T.builtins G.T.nolimit hg ht nt hc G.T.bmain hobj hr f b (if_pos rfl) (fun b n => ?_) (fun b u z => ?_) (fun b n z => ?_) (fun _ => hk) ?_
    · by_cases eb : b = a
      · exact .inr ⟨_, _, (if_neg n).trans (if_pos eb)⟩
      · exact .inl ((if_neg n).trans (if_neg eb))
    · by_cases eb : b = t
      · subst eb
        have eu := Option.some.inj ((if_pos rfl).symm.trans z)
        subst eu
        exact ht
      · have z2 := (if_neg eb).symm.trans z
        by_cases e2 : b = a
        · subst e2
          have eu := Option.some.inj ((if_pos rfl).symm.trans z2)
          subst eu
          exact ⟨hobj, by rw [List.length_map]; exact hl, vs, _, rv, hobj⟩
        · exact nomatch (if_neg e2).symm.trans z2
    · refine Classical.byContradiction fun e2 => z ((if_neg n).trans (if_neg e2))
    · exact hsp K t _ a ns hlen hbits (if_pos rfl) (.inl (.inr ⟨_, (if_neg nat_).trans (if_pos rfl)⟩))
end L2
set_option maxRecDepth 100000
namespace L2
open PySem PySem.Spec PyProof.Rows LamX
/-! the law's call, where nothing is being shown and several defs make lambdas: their code objects and tables in ts -/
theorem end_tabs {P : Program} {w : World} {K : PySem.W.Frag} {mg mb : Str → Option Value} {k : Nat} {fa a : Addr} {ts : List (Addr × Addr)} {fd : FuncData} {x : Str} {sp : Sp} {s₁ : Shared} {vs : List Value} {H : Hp}
    (KX : K.In s₁.heap) (hns : s₁.heap.Ns mainGlobals mg) (hb : s₁.heap.Ns builtinsNs mb) (hbb : ∀ y : Str, y ≠ "__name__" → mb y = bootBuiltins y) (lim : s₁.heap.NoLimit) (hg : s₁.gens = #[])
    (ht : ∀ p ∈ ts, s₁.heap.get? p.2 = some { cls := .none, data := .fields #[] }) (nt : ∀ p ∈ ts, K.lookup p.2 = none) (hc : ∀ p ∈ ts, PySem.W.CodeHd s₁.heap p.1 p.2)
    (bm : ∃ (m : Addr) (om : Obj), mg "__builtins__" = some (.ref m) ∧ m ≠ builtinsNs ∧ s₁.heap.get? m = some om ∧ om.cls = .type "module" ∧ om.dict = some builtinsNs ∧ om.data = .plain)
    (ha : s₁.heap.get? a = some { cls := .type "list", data := .seq vs.toArray }) (hr : Room k callerA)
    (F : ∀ base : Heap, K.In base → base.Ns mainGlobals mg → (∀ p ∈ ts, TabB base mg p.1 p.2) → FnG P w K mg base CX0 k fa fd [x] sp) (bind : ∀ (s : Shared) (u : Value), BindsTo s fd ⟨[u], []⟩ [(x, u)])
    (hHt : ∀ p ∈ ts, H p.2 = some (.tbl #[])) (hO : ∀ b, (∀ p ∈ ts, b ≠ p.2) → H b = none ∨ ∃ o xs, H b = some (.frz o (.lst xs))) (hok : HOk P w H s₁.heap) (hA : ∀ b, (∀ p ∈ ts, b ≠ p.2) → H b ≠ none → b = a) (hK : H a ≠ none → K.lookup a = none)
    (hsp : sp [.ref a] H (fun v _ => v = .bl true) fun _ _ _ => False) :
    codeAny (model P w) callerA (.call (.ref fa) ⟨[.ref a], []⟩) (fun r s' => r = .ok (.ret (.bool true)) ∧ OldK s₁.heap s'.heap ∧ s'.os = s₁.os ∧ AllBare s'.gens) s₁ := by
  have apart : ∀ {b : Addr} {o : Obj}, s₁.heap.get? b = some o → o.data ≠ .fields #[] → ∀ p ∈ ts, b ≠ p.2 := by
    intro b o e d p hp z
    rw [z, ht p hp] at e
    have eo := Option.some.inj e
    exact d (by rw [← eo])
  have free : ∀ {b : Addr} {o : Obj}, s₁.heap.get? b = some o → o.data ≠ .fields #[] → (∀ v n, o.data ≠ .seq v n) → H b = none := by
    intro b o e d1 d2
    refine Classical.byContradiction fun n => ?_
    have eb := hA b (apart e d1) n
    subst eb
    have eo := Option.some.inj (e.symm.trans ha)
    exact d2 vs.toArray _ (by rw [eo])
  have ns' : ∀ {b : Addr} {m : Str → Option Value}, s₁.heap.Ns b m → (hidT s₁.heap H).Ns b m := by
    rintro b m ⟨o, es, ep, e, d, r⟩
    exact ⟨o, es, ep, hidT_get e (free e (by rw [d]; intro z; cases z) fun v n z => by rw [d] at z; cases z), d, r⟩
  have kb : K.In (hidT s₁.heap H) := by
    intro b o e
    refine hidT_get (KX b o e) (Classical.byContradiction fun n => ?_)
    by_cases eb : ∃ p ∈ ts, b = p.2
    · obtain ⟨p, hp, eb⟩ := eb
      rw [eb, nt p hp] at e
      cases e
    · have e2 := hA b (fun p hp z => eb ⟨p, hp, z⟩) n
      subst e2
      rw [hK n] at e
      cases e
  have md : Mod K mg (hidT s₁.heap H) := by
    obtain ⟨mc, h1, h2⟩ := lim
    exact ⟨kb, ns' hns, ⟨mb, ns' hb, hbb⟩, ⟨mc, ns' h1, h2⟩⟩
  have tb : ∀ p ∈ ts, TabB (hidT s₁.heap H) mg p.1 p.2 := by
    intro p hp
    obtain ⟨m, om, m1, m2, m3, m4, m5, m6⟩ := id bm
    have hm : H m = none := free m3 (by rw [m6]; intro z; cases z) fun v n z => by rw [m6] at z; cases z
    have gm : m ≠ mainGlobals := fun z => by
      obtain ⟨o, es, ep, e, d, _⟩ := hns
      rw [z, e] at m3
      have eo := Option.some.inj m3
      rw [← eo, d] at m6
      cases m6
    have mt : m ≠ p.2 := apart m3 (by rw [m6]; intro z; cases z) p hp
    refine ⟨?_, ⟨m, om, m1, m2, gm, mt, hidT_get m3 hm, m4, m5, m6⟩, fun z => ?_⟩
    · obtain ⟨o, us, fi, tf, fl, tg, inF, tx, tt, c1, c2, c3, c4, rest⟩ := hc p hp
      refine ⟨o, us, fi, tf, fl, tg, inF, tx, tt, hidT_get c1 (free c1 (fun z => ?_) fun v n z => ?_), c2, c3, c4, rest⟩
      · rw [c3] at z
        have e := Data.fields.inj z
        rw [e] at c4
        simp at c4
      · rw [c3] at z
        cases z
    · obtain ⟨o, es, ep, e, d, _⟩ := hns
      rw [z, ht p hp] at e
      have eo := Option.some.inj e
      rw [← eo] at d
      cases d
  have ev : Env0 P w K mg (hidT s₁.heap H) callerA [] s₁ H :=
    ⟨rfl, md, fun b o e => of_hidT e, Nat.le_of_eq (hidT_size _ _), trivial, fun b hb => (nomatch hb), hok, .of_eq hg⟩
  refine codeAny_mono ((F _ kb (ns' hns) tb).run callerA [] s₁ H _ [.ref a] [.ref a] _ _ rfl hr ev (bind s₁ (.ref a)) (.cons rfl .nil) hsp) fun r s' h => ?_
  cases r with
  | error e => exact (h : False).elim
  | ok fl =>
    cases fl with
    | next => exact (h : False).elim
    | brk => exact (h : False).elim
    | cont => exact (h : False).elim
    | ret u =>
      obtain ⟨v, H', os, bare, un, hok', r', q⟩ := h
      have q' : v = .bl true := q
      subst q'
      obtain rfl : u = Value.bool true := r'
      have keep : ∀ b o, (∀ p ∈ ts, b ≠ p.2) → s₁.heap.get? b = some o → s'.heap.get? b = some o := by
        intro b o n e
        rcases hO b n with z | ⟨ob, xs, z⟩
        · exact un.keep b o e z (fun m => nomatch m) (fun m => nomatch m)
        · have e1 := (hok b _ z).1
          have e2 := (hok' b _ (un.frzs b ob _ z)).1
          exact (Option.some.inj (e.symm.trans e1)) ▸ e2
      refine ⟨rfl, ⟨fun b o e => ?_, fun b o e => ?_⟩, os, bare⟩
      · by_cases eb : ∃ p ∈ ts, b = p.2
        · obtain ⟨p, hp, eb⟩ := eb
          obtain ⟨more, gt⟩ := un.tbls p.2 #[] (hHt p hp)
          have gt2 : s'.heap.get? p.2 = some { cls := .none, data := .fields (#[] ++ more) } := hok' p.2 _ gt
          subst eb
          have eo := Option.some.inj (e.symm.trans (ht p hp))
          subst eo
          exact .inr (.inl ⟨((hc p hp).tab (ht p hp)).isCodeTable, rfl, #[], more, rfl, gt2⟩)
        · exact .inl (keep b o (fun p hp z => eb ⟨p, hp, z⟩) e)
      · by_cases eb : ∃ p ∈ ts, b = p.2
        · obtain ⟨p, hp, eb⟩ := eb
          obtain ⟨more, gt⟩ := un.tbls p.2 #[] (hHt p hp)
          have gt2 : s'.heap.get? p.2 = some { cls := .none, data := .fields (#[] ++ more) } := hok' p.2 _ gt
          subst eb
          exact ⟨_, gt2⟩
        · exact ⟨o, keep b o (fun p hp z => eb ⟨p, hp, z⟩) e⟩
open Classical in
theorem walk_tabs {l : PySem.W.OpenLaw} {n k : Nat} {q : Program} {loose : List Str} {XP : (Str → Option Value) → Heap → Prop} {YP : World → Heap → Prop} {d : DefRec} {sp : PySem.W.Frag → List (Addr × Addr) → Sp} {x : Str}
    (hn : l.most = some n) (hn2 : n ≤ sizeLine) (hdf : d.params.defaults = []) (hr : Room k callerA)
    (F : ∀ (w : World) (mg : Str → Option Value) (fa : Addr) (h : Heap), YP w h → h.Ns mainGlobals mg → mg d.name = some (.ref fa) →
      ∃ (K : PySem.W.Frag) (ts : List (Addr × Addr)) (fd : FuncData), K.In h ∧ (∀ p ∈ ts, h.get? p.2 = some { cls := .none, data := .fields #[] }) ∧ (∀ p ∈ ts, K.lookup p.2 = none) ∧ (∀ p ∈ ts, PySem.W.CodeHd h p.1 p.2) ∧ (∀ (s : Shared) (u : Value), BindsTo s fd ⟨[u], []⟩ [(x, u)]) ∧
        ∀ base : Heap, K.In base → base.Ns mainGlobals mg → (∀ p ∈ ts, TabB base mg p.1 p.2) → FnG l.prog w K mg base CX0 k fa fd [x] (sp K ts))
    (hsp : ∀ (K : PySem.W.Frag) (ts : List (Addr × Addr)) (H : Hp) (a : Addr) (ns : List Int), ns.length ≤ n → (∀ z ∈ ns, Builtin.Int.intBits z ≤ 1048576) → (∀ p ∈ ts, H p.2 = some (.tbl #[])) → SqL K H a (ns.map V.int) → sp K ts [.ref a] H (fun v _ => v = .bl true) fun _ _ _ => False) :
    PySem.W.WalkO q loose XP YP l.row.toRowW d [] (fun f vs => PySem.call f vs) := by
  refine Att.attach_callB hn hdf fun w s₀ s₁ mg mb fa o pm cd doc a vs ns G Y ho hd hcd hmg hobj hints hlen hbits hg => ?_
  obtain ⟨K, ts, fd, KX, ht, nt, hc, b, f⟩ := F w mg fa _ Y G.T.g hmg
  have rv := vals_ints hints
  have lv := hints.length
  have nat_ : ¬ ∃ p ∈ ts, a = p.2 := fun ⟨p, hp, z⟩ => by
    have e := hobj
    rw [z, ht p hp] at e
    have eo := congrArg Obj.data (Option.some.inj e)
    cases eo
  have hl : ns.length ≤ sizeLine := Nat.le_trans hlen hn2
  have no : ∀ {b : Addr}, (∀ p ∈ ts, b ≠ p.2) → ¬ ∃ p ∈ ts, b = p.2 := fun n ⟨p, hp, z⟩ => n p hp z
  cases hk : K.lookup a with
  | some oa =>
    have eo := Option.some.inj ((KX a oa hk).symm.trans hobj)
    subst eo
    refine end_tabs (H := fun b => if ∃ p ∈ ts, b = p.2 then some (.tbl #[]) else none) KX G.T.g G.T.b G.T.builtins G.T.nolimit hg ht nt hc G.T.bmain hobj hr f b (fun p hp => if_pos ⟨p, hp, rfl⟩) (fun b n => .inl (if_neg (no n))) (fun b u z => ?_) (fun b n z => absurd (if_neg (no n)) z) (fun z => absurd (if_neg nat_) z) ?_
    · by_cases eb : ∃ p ∈ ts, b = p.2
      · have eu := Option.some.inj ((if_pos eb).symm.trans z)
        subst eu
        obtain ⟨p, hp, eb⟩ := eb
        subst eb
        exact ht p hp
      · exact nomatch (if_neg eb).symm.trans z
    · exact hsp K ts _ a ns hlen hbits (fun p hp => if_pos ⟨p, hp, rfl⟩) (.inr ⟨_, vs.toArray, _, hk, rfl, rfl, rfl, by rw [List.size_toArray, lv]; exact hl, by simpa using rv⟩)
  | none =>
    refine end_tabs (H := fun b => if ∃ p ∈ ts, b = p.2 then some (.tbl #[]) else if b = a then some (HO.frz { cls := .type "list", data := .seq vs.toArray } (.lst (ns.map V.int))) else none) KX G.T.g G.T.b G.T.builtins G.T.nolimit hg ht nt hc G.T.bmain hobj hr f b (fun p hp => if_pos ⟨p, hp, rfl⟩) (fun b n => ?_) (fun b u z => ?_) (fun b n z => ?_) (fun _ => hk) ?_
    · by_cases eb : b = a
      · exact .inr ⟨_, _, (if_neg (no n)).trans (if_pos eb)⟩
      · exact .inl ((if_neg (no n)).trans (if_neg eb))
    · by_cases eb : ∃ p ∈ ts, b = p.2
      · have eu := Option.some.inj ((if_pos eb).symm.trans z)
        subst eu
        obtain ⟨p, hp, eb⟩ := eb
        subst eb
        exact ht p hp
      · have z2 := (if_neg eb).symm.trans z
        by_cases e2 : b = a
        · subst e2
          have eu := Option.some.inj ((if_pos rfl).symm.trans z2)
          subst eu
          exact ⟨hobj, by rw [List.length_map]; exact hl, vs, _, rv, hobj⟩
        · exact nomatch (if_neg e2).symm.trans z2
    · refine Classical.byContradiction fun e2 => z ((if_neg (no n)).trans (if_neg e2))
    · exact hsp K ts _ a ns hlen hbits (fun p hp => if_pos ⟨p, hp, rfl⟩) (.inl (.inr ⟨_, (if_neg nat_).trans (if_pos rfl)⟩))
end L2
set_option maxRecDepth 100000
namespace Toy
open PySem L2 TL LamX ClX StX
abbrev s__law_kinds_right : Stmt := top 26
abbrev qR : Str := "_law_kinds_right" ++ ".<locals>." ++ "<lambda>"
abbrev qLaw : Str := "law" ++ ".<locals>." ++ "<lambda>"
def T2 (a b : Addr) : List (Addr × Str) := [(a, qR), (b, qLaw)]
section
variable {a b : Addr}
theorem t2_cases {p : Addr × Str} (h : p ∈ T2 a b) : p = (a, qR) ∨ p = (b, qLaw) := by simpa [T2] using h
theorem t2_r : (a, qR) ∈ T2 a b := .head _
theorem t2_l : (b, qLaw) ∈ T2 a b := .tail _ (.head _)
theorem t2u_r (D : a ≠ b) : ∀ p ∈ T2 a b, p.1 = a → p.2 = qR := fun p h e => by
  rcases t2_cases h with rfl | rfl
  · rfl
  · exact absurd e.symm D
theorem t2u_l (D : a ≠ b) : ∀ p ∈ T2 a b, p.1 = b → p.2 = qLaw := fun p h e => by
  rcases t2_cases h with rfl | rfl
  · exact absurd e D
  · rfl
end
theorem tabs_but {p : Addr} {T : List (Addr × Str)} {G G' : Hp} {xs : List V} (hp : G p = some (.lst xs)) (bt : But p G G') (t : Tabs T G) : Tabs T G' := fun y hy => by
  obtain ⟨ps, h1, h2, h3⟩ := t y hy
  refine ⟨ps, bt _ _ (fun z => ?_) h1, h2, fun pos cv hc => ?_⟩
  · rw [z, hp] at h1
    cases h1
  · obtain ⟨c, e1, e2⟩ := h3 pos cv hc
    refine ⟨c, e1, bt _ _ (fun z => ?_) e2⟩
    rw [z, hp] at e2
    have e3 : HO.lst xs = HO.ext _ := Option.some.inj e2
    cases e3
theorem pen_ext {H H' : Hp} {p l : Addr} {ns : List Int} {a b : Int} (e : ExtN H H') (P : PenAt H p l ns a b) : PenAt H' p l ns a b := ⟨e _ _ P.pen (fun _ z => by cases z), e _ _ P.cells (fun _ z => by cases z), P.few, P.bits, P.low⟩
/-- the kinds: all the law of them -/
def spKinds (R L : Addr) : Sp := fun vs H Q _ => ∃ (p l : Addr) (ns : List Int) (a b : Int), vs = [.ref p] ∧ PenAt H p l ns a b ∧ a ≤ 900000 ∧ Tabs (T2 R L) H ∧
  ∀ (H' : Hp) (a' b' : Int), PenAt H' p l ns a' b' → a ≤ a' → a' ≤ a + 40 → Tabs (T2 R L) H' → Q (.bl true) H'
theorem tiled_row (w : Nat) (p : Int) : ∀ i, ((List.range i).flatMap fun (y : Nat) => (List.range w).map fun (x : Nat) => (0 + ((x : Nat) : Int)) + (0 + ((y : Nat) : Int)) * p).length = i * w
  | 0 => by simp
  | i + 1 => by
    rw [List.range_succ, List.flatMap_append, List.length_append, tiled_row w p i, Nat.succ_mul]
    simp
theorem tiled_len (w h p : Int) : (tiledN w h p).length = h.toNat * w.toNat := tiled_row _ _ _
theorem tiled_in {w h p : Int} (hw : w ≤ 5) (hh : h ≤ 6) (p0 : 0 ≤ p) (p1 : p ≤ 10 ^ 28) : ∀ z ∈ tiledN w h p, 0 ≤ z ∧ z ≤ 10 ^ 30 := fun z hz => by
  obtain ⟨y, hy, hz⟩ := List.mem_flatMap.mp hz
  obtain ⟨x, hx, rfl⟩ := List.mem_map.mp hz
  have h1 := List.mem_range.mp hy
  have h2 := List.mem_range.mp hx
  have h3 := mul_lt_of (m := 5) (n := 10 ^ 28) (show (0 : Int) ≤ 0 + (y : Int) by omega) (by omega) p0 p1
  omega
/-- plain things that are picked -/
inductive Odd1 (H : Hp) : V → PyData → Prop where
  | non : Odd1 H .non .none
  | bl (b : Bool) : Odd1 H (.bl b) (.bool b)
  | int (i : Int) : Odd1 H (.int i) (.int i)
  | str (z : Str) (h : SeqAt.shaped (.str z) = true) : Odd1 H (.str z) (.str z)
  | tup {t : Addr} {n : Int} (e : H t = some (.tup [.int n])) : Odd1 H (.ref t) (.tuple [.int n])
theorem Odd1.plain {K : PySem.W.Frag} {H : Hp} {v : V} {d : PyData} (h : Odd1 H v d) : ∃ S, Plain K H v S := by
  cases h with
  | non => exact ⟨_, .non⟩
  | bl b => exact ⟨_, .bl b⟩
  | int i => exact ⟨_, .int i⟩
  | str z _ => exact ⟨_, .str z⟩
  | tup e => exact ⟨_, .tup e⟩
theorem Odd1.dp {K : PySem.W.Frag} {H : Hp} {v : V} {d : PyData} (h : Odd1 H v d) : Dp K H v d ∧ SeqAt.shaped d = true := by
  cases h with
  | non => exact ⟨.non, rfl⟩
  | bl b => exact ⟨.bl b, rfl⟩
  | int i => exact ⟨.int i, rfl⟩
  | str z h => exact ⟨.str z, h⟩
  | tup e => exact ⟨.tup (SqT.of e) (.cons (.int _) .nil), shaped_tup [_]⟩
theorem Odd1.keep {H H' : Hp} {v : V} {d : PyData} (k : ∀ t xs, H t = some (.tup xs) → H' t = some (.tup xs)) (h : Odd1 H v d) : Odd1 H' v d := by
  cases h with
  | non => exact .non
  | bl b => exact .bl b
  | int i => exact .int i
  | str z h => exact .str z h
  | tup e => exact .tup (k _ _ e)
/-- pairs of texts -/
inductive RowsAt (G : Hp) : List V → List (Str × Str) → Prop where
  | nil : RowsAt G [] []
  | cons {t : Addr} {x y : Str} {r : List V} {ps : List (Str × Str)} (h : G t = some (.tup [.str x, .str y])) (k : RowsAt G r ps) : RowsAt G (.ref t :: r) ((x, y) :: ps)
theorem RowsAt.keep {G G' : Hp} {rs : List V} {ps : List (Str × Str)} (k : ∀ t xs, G t = some (.tup xs) → G' t = some (.tup xs)) (h : RowsAt G rs ps) : RowsAt G' rs ps := by
  induction h with
  | nil => exact .nil
  | cons h _ ih => exact .cons (k _ _ h) ih
theorem RowsAt.append {G : Hp} {rs rs' : List V} {ps ps' : List (Str × Str)} (h : RowsAt G rs ps) (k : RowsAt G rs' ps') : RowsAt G (rs ++ rs') (ps ++ ps') := by
  induction h with
  | nil => exact k
  | cons h _ ih => exact .cons h ih
def rowD (p : Str × Str) : PyData := .tuple [.str p.1, .str p.2]
theorem RowsAt.dp {K : PySem.W.Frag} {G : Hp} {rs : List V} {ps : List (Str × Str)} (h : RowsAt G rs ps) : DpAll K G rs (ps.map rowD) := by
  induction h with
  | nil => exact .nil
  | cons h _ ih => exact .cons (.tup (SqT.of h) (.cons (.str _) (.cons (.str _) .nil))) ih
theorem rows_shaped {ps : List (Str × Str)} (h : ∀ p ∈ ps, PyData.strOk p.1 = true ∧ PyData.strOk p.2 = true) : SeqAt.shaped (.list (ps.map rowD)) = true := by
  have z : ∀ ps : List (Str × Str), (∀ p ∈ ps, PyData.strOk p.1 = true ∧ PyData.strOk p.2 = true) → PyData.canLayAll0 (ps.map rowD) = true ∧ PyData.depthAll (ps.map rowD) ≤ 1 := by
    intro ps
    induction ps with
    | nil => exact fun _ => ⟨rfl, Nat.zero_le _⟩
    | cons x r ih =>
      intro hb
      obtain ⟨i1, i2⟩ := ih fun m hm => hb m (List.mem_cons_of_mem _ hm)
      obtain ⟨o1, o2⟩ := hb x List.mem_cons_self
      refine ⟨?_, ?_⟩
      · simp [rowD, PyData.canLayAll0, PyData.canLay0, i1, o1, o2]
      · have : PyData.depthAll ((x :: r).map rowD) = max (rowD x).depth (PyData.depthAll (r.map rowD)) := by simp [PyData.depthAll]
        rw [this]
        have e : (rowD x).depth = 1 := by simp [rowD, PyData.depth, PyData.depthAll]
        omega
  obtain ⟨z1, z2⟩ := z ps h
  have e : (PyData.list (ps.map rowD)).depth = 1 + PyData.depthAll (ps.map rowD) := by simp [PyData.depth, Nat.add_comm]
  have c : (PyData.list (ps.map rowD)).canLay0 = true := by simp [PyData.canLay0, z1]
  unfold SeqAt.shaped
  rw [c, e]
  exact decide_eq_true (by omega)
/-- all that stays between two of the calls that are heard -/
structure KS (R L p l : Addr) (ns : List Int) (a b : Int) (odd bad : V) (hh : Addr) (rs : List V) (ps : List (Str × Str)) (H : Hp) : Prop where
  pen : PenAt H p l ns a b
  tb : Tabs (T2 R L) H
  fo : ∃ d, Odd1 H odd d
  fb : ∃ d, Odd1 H bad d
  lay : H hh = some (.lst rs)
  rows : RowsAt H rs ps
  nhp : hh ≠ p
  nhl : hh ≠ l
section
variable {R L p l : Addr} {ns : List Int} {a b : Int} {odd bad : V} {hh : Addr} {rs : List V} {ps : List (Str × Str)} {H H' : Hp}
theorem KS.ext (k : KS R L p l ns a b odd bad hh rs ps H) (e : ExtN H H') (t : Tabs (T2 R L) H') : KS R L p l ns a b odd bad hh rs ps H' := by
  have kt : ∀ t xs, H t = some (.tup xs) → H' t = some (.tup xs) := fun t xs h => e _ _ h fun _ z => by cases z
  exact ⟨pen_ext e k.pen, t, k.fo.imp fun _ h => h.keep kt, k.fb.imp fun _ h => h.keep kt, e _ _ k.lay (fun _ z => by cases z), k.rows.keep kt, k.nhp, k.nhl⟩
theorem KS.same (k : KS R L p l ns a b odd bad hh rs ps H) (s : Same H H') : KS R L p l ns a b odd bad hh rs ps H' :=
  ⟨pen_same s k.pen, k.tb.ext s, k.fo.imp fun _ h => h.keep fun _ _ z => s _ _ z, k.fb.imp fun _ h => h.keep fun _ _ z => s _ _ z, s _ _ k.lay, k.rows.keep fun _ _ z => s _ _ z, k.nhp, k.nhl⟩
theorem KS.but {a' b' : Int} (k : KS R L p l ns a b odd bad hh rs ps H) (bt : But p H H') (P : PenAt H' p l ns a' b') : KS R L p l ns a' b' odd bad hh rs ps H' := by
  have kt : ∀ t xs, H t = some (.tup xs) → H' t = some (.tup xs) := fun t xs h => bt _ _ (fun z => by rw [z, k.pen.pen] at h; cases h) h
  exact ⟨P, tabs_but k.pen.pen bt k.tb, k.fo.imp fun _ h => h.keep kt, k.fb.imp fun _ h => h.keep kt, bt _ _ k.nhp k.lay, k.rows.keep kt, k.nhp, k.nhl⟩
theorem KS.app {q : Addr} {x y : Str} (k : KS R L p l ns a b odd bad hh rs ps H) (hq : H q = some (.tup [.str x, .str y])) : KS R L p l ns a b odd bad hh (rs ++ [.ref q]) (ps ++ [(x, y)]) (upd H hh (.lst (rs ++ [.ref q]))) := by
  have kt : ∀ t xs, H t = some (.tup xs) → (upd H hh (.lst (rs ++ [.ref q]))) t = some (.tup xs) := fun t xs h => by
    rw [upd_ne (fun z => by rw [z, k.lay] at h; cases h)]
    exact h
  exact ⟨⟨by rw [upd_ne k.nhp.symm]; exact k.pen.pen, by rw [upd_ne k.nhl.symm]; exact k.pen.cells, k.pen.few, k.pen.bits, k.pen.low⟩, tabs_but k.lay (But.put (But.refl _ _)) k.tb, k.fo.imp fun _ h => h.keep kt, k.fb.imp fun _ h => h.keep kt, upd_same, (k.rows.append (.cons hq .nil)).keep kt, k.nhp, k.nhl⟩
theorem KS.odds {o' b' : V} (k : KS R L p l ns a b odd bad hh rs ps H) (h1 : ∃ d, Odd1 H o' d) (h2 : ∃ d, Odd1 H b' d) : KS R L p l ns a b o' b' hh rs ps H := ⟨k.pen, k.tb, h1, h2, k.lay, k.rows, k.nhp, k.nhl⟩
variable {CT CN CM : Addr} {K : PySem.W.Frag}
/-- one call more is heard -/
theorem app_step {D : Ends} {σ : St} {t : XK → TE} {x y : Str} (k : KS R L p l ns a b odd bad hh rs ps H) (h11 : σ[11]? = some (some (.ref hh))) (lr : rs.length ≤ 20)
    (h : ∀ (H1 : Hp) (E : XK) (Q : VK), KS R L p l ns a b odd bad hh rs ps H1 → (∀ cls dd H2 a' b', Told CT CN CM H2 cls dd (.str x) (.str y) → KS R L p l ns a' b' odd bad hh rs ps H2 → a ≤ a' → a' ≤ a + 1 → E cls dd H2) → t E σ H1 Q)
    (hn : ∀ (H3 : Hp) (rs' : List V) (a' b' : Int), KS R L p l ns a' b' odd bad hh rs' (ps ++ [(x, y)]) H3 → rs'.length = rs.length + 1 → a ≤ a' → a' ≤ a + 1 → D.nx σ H3) :
    tDrop (tBM K "list" rAppend (tVar 11) (tCons (tLam (T2 R L) (TTH CT CN CM) t) tNil)) D σ H := by
  refine ⟨_, h11, .inl ⟨rfl, _, SqL.of k.lay⟩, k.tb, fun H1 e1 t1 => ?_⟩
  refine h H1 _ _ (k.ext e1 t1) fun cls dd H2 a' b' hT k2 h1 h2 => ⟨_, _, hT, fun H3 q s3 hq => ?_⟩
  have k3 := k2.same s3
  refine ⟨hh, rs, .ref q, rfl, rfl, k3.lay, small_n (by omega), ?_⟩
  exact hn _ _ a' b' (k3.app hq) (by rw [List.length_append]; rfl) h1 h2
theorem told_tile {d : Addr} {v : V} {z : Str} (h : H d = some (.xd [("part", v)])) (s : Shows H v z) : Told CT CN CM H (.ref CT) (some d) (.str "tile") (.str z) := ⟨d, rfl, .inl ⟨rfl, v, v, z, h, s, rfl, rfl⟩⟩
theorem told_number {d : Addr} {v : V} {z : Str} (h : H d = some (.xd [("value", v)])) (s : Shows H v z) : Told CT CN CM H (.ref CN) (some d) (.str "number") (.str z) := ⟨d, rfl, .inr (.inl ⟨rfl, v, v, z, h, s, rfl, rfl⟩)⟩
theorem told_many {d : Addr} {v u : V} {z : Str} (h : H d = some (.xd [("most", v), ("what", u)])) (s : Shows H v z) : Told CT CN CM H (.ref CM) (some d) (.str "many") (.str z) := ⟨d, rfl, .inr (.inr ⟨rfl, v, u, z, h, s, rfl, rfl⟩)⟩
theorem shows_str {z w : Str} (h1 : (PyData.str z).showable = true) (h2 : (PyData.str z).shown = w) (h3 : w.length ≤ 1000) : Shows H (.str z) w := ⟨.str z, .d0 (.str z), h1, (by show 0 ≤ 20; decide), by rw [h2]; have : PySem.sizeLine = 16777216 := rfl; omega, h2⟩
theorem shows_int {z : Int} {w : Str} (h1 : (PyData.int z).showable = true) (h2 : (PyData.int z).shown = w) (h3 : w.length ≤ 1000) : Shows H (.int z) w := ⟨.int z, .d0 (.int z), h1, (by show 0 ≤ 20; decide), by rw [h2]; have : PySem.sizeLine = 16777216 := rfl; omega, h2⟩
theorem row_lit {x y : Str} {σ : St} {Q : VK} (h : ∀ G t, Same H G → G t = some (.tup [.str x, .str y]) → Q (.ref t) G) : tTup (tCons (tC (.str x)) (tCons (tC (.str y)) tNil)) σ H Q := ⟨(by show 2 ≤ PySem.sizeLine; decide), fun t ht => h _ t (Same.lay ht) upd_same⟩
end
section
variable {K : PySem.W.Frag} {CT CN CM C : Addr} {H : Hp}
theorem keep_new {x dx q : Addr} {xs : List V} (nx : H x = none) (ndx : H dx = none) (nq : (upd (upd H dx (.own x)) x (.ins C dx [])) q = none) : Same H (upd (upd (upd H dx (.own x)) x (.ins C dx [])) q (.tup xs)) := fun c o e => by
  have g2 : (upd (upd H dx (.own x)) x (.ins C dx [])) c = some o := by
    rw [upd_ne (ne_of_none e nx), upd_ne (ne_of_none e ndx)]
    exact e
  rw [upd_ne (ne_of_none g2 nq)]
  exact g2
/-- C(*xs) with a bad one -/
theorem make_bad {xs : List V} {i : Nat} {Q : VK} {E : XK} (pl : ∀ x ∈ xs, ∀ G, Same H G → ∃ S, Plain K G x S) (l : xs.length ≤ 4000) (hb : badOff xs = some i)
    (k : ∀ d H', H d = none → Same H H' → H' d = some (.xd [("part", .int (i : Nat))]) → E (.ref CT) (some d) H') :
    ∀ x dx, H x = none → H dx = none → dx ≠ x → spMk CT CM C K (.ref x :: xs) (upd (upd H dx (.own x)) x (.ins C dx [])) (fun v H2 => v = .non ∧ Q (.ref x) H2) E := by
  intro x dx nx ndx hne
  have sz : PySem.sizeLine = 16777216 := rfl
  refine ⟨_, _, rfl, by omega, fun q nq => ⟨x, dx, q, _, rfl, ?_, upd_same, (fun y hy => pl y hy _ (keep_new nx ndx nq)), by omega, ?_, ?_, ?_⟩⟩
  · rw [upd_ne (fun z => by rw [z, upd_same] at nq; cases nq)]
    exact upd_same
  · intro j hj d H' hd bt hx
    obtain rfl : i = j := Option.some.inj (hb.symm.trans hj)
    have sm := keep_new (xs := xs) nx ndx nq
    exact k d H' (sm.free hd) (fun c o e => bt c o (ne_of_none e nx) (sm _ _ e)) hx
  · intro z
    rw [z] at hb
    cases hb
  · intro ns _ _ hn
    rw [hb] at hn
    cases hn
theorem make_none {Q : VK} {E : XK} (k : ∀ d H', H d = none → Same H H' → H' d = some (.xd [("part", .str "offsets")]) → E (.ref CT) (some d) H') :
    ∀ x dx, H x = none → H dx = none → dx ≠ x → spMk CT CM C K [.ref x] (upd (upd H dx (.own x)) x (.ins C dx [])) (fun v H2 => v = .non ∧ Q (.ref x) H2) E := by
  intro x dx nx ndx hne
  refine ⟨_, _, rfl, (by show 0 ≤ PySem.sizeLine; decide), fun q nq => ⟨x, dx, q, _, rfl, ?_, upd_same, (fun y hy => nomatch hy), (by show 0 ≤ 4000; decide), (fun i hi => nomatch hi), ?_, (fun ns _ z => absurd rfl z)⟩⟩
  · rw [upd_ne (fun z => by rw [z, upd_same] at nq; cases nq)]
    exact upd_same
  · intro _ d H' hd bt hx
    have sm := keep_new (xs := []) nx ndx nq
    exact k d H' (sm.free hd) (fun c o e => bt c o (ne_of_none e nx) (sm _ _ e)) hx
theorem out_one {n : Int} {Q : VK} {E : XK} (h0 : 0 ≤ n) (h1 : n ≤ 10 ^ 30) (k : ∀ H' x, Same H H' → PatAt C H' x [n] → Q (.ref x) H') : PatOut CT CM C H [n] Q E :=
  ⟨(fun i hi => by rw [off_none (zs := [n]) (fun z hz => by rw [List.mem_singleton.mp hz]; exact ⟨h0, h1⟩)] at hi; cases hi), fun _ => ⟨(fun big => absurd big (by show ¬ 32 < 1; decide)), fun _ H' x s pa => k H' x s pa⟩⟩
theorem mk_one {n : Int} {σ : St} {Q : VK} {E : XK} (h0 : 0 ≤ n) (h1 : n ≤ 10 ^ 30) (k : ∀ H' x, Same H H' → PatAt C H' x [n] → Q (.ref x) H') : tMakeR C (spMk CT CM C K) E (tCons (tC (.int n)) tNil) σ H Q :=
  make_pat (zs := [n]) (fun z => nomatch z) (by show 1 ≤ 4000; decide) (by show 1 < 64; decide) (out_one h0 h1 k)
variable {R L p l : Addr} {ns : List Int} {a b : Int} {odd bad : V} {hh : Addr} {rs : List V} {ps : List (Str × Str)}
theorem pick_other {σ : St} {Q : VK} (k : KS R L p l ns a b odd bad hh rs ps H) (h0 : σ[0]? = some (some (.ref p))) (la : a ≤ 1000000)
    (h : ∀ H' v S a' b', Plain K H' v S → KS R L p l ns a' b' odd bad hh rs ps H' → a ≤ a' → a' ≤ a + 1 → But p H H' → Q v H') :
    tCall (spPick K) [] E0 (tCons (tVar 0) (tCons (tLst (tCons (tC .non) (tCons (tC (.int 0)) (tCons (tTup (tCons (tC (.int 0)) tNil)) (tCons (tC (.str "0")) (tCons (tLst (tCons (tC (.int 1)) tNil)) tNil)))))) tNil)) σ H Q := by
  refine ⟨_, h0, (by show 1 ≤ PySem.sizeLine; decide), fun t1 ht1 => ⟨(by show 1 ≤ PySem.sizeLine; decide), fun t2 ht2 => ⟨(by show 5 ≤ PySem.sizeLine; decide), fun t3 ht3 => ?_⟩⟩⟩
  have z1 := Same.lay (o := .tup [V.int 0]) ht1
  have z2 := Same.lay (o := .lst [V.int 1]) ht2
  have z3 := Same.lay (o := .lst [V.non, V.int 0, V.ref t1, V.str "0", V.ref t2]) ht3
  have n1 : t1 ≠ p := (ne_of_none k.pen.pen ht1).symm
  have n2 : t2 ≠ p := (ne_of_none (z1 _ _ k.pen.pen) ht2).symm
  have n3 : t3 ≠ p := (ne_of_none (z2 _ _ (z1 _ _ k.pen.pen)) ht3).symm
  have k3 := ((k.same z1).same z2).same z3
  refine ⟨p, l, t3, ns, a, b, _, rfl, k3.pen, by omega, SqL.of upd_same, n3, by show 0 < 5; decide, by show 5 ≤ 1000; decide, fun H' ix v a' b' hv h1 h2 bt P' => ?_⟩
  have kk := k3.but bt P'
  have g1 := bt _ _ n1 (z3 _ _ (z2 _ _ (upd_same (H := H) (a := t1))))
  have g2 := bt _ _ n2 (z3 _ _ (upd_same (H := upd H t1 (.tup [V.int 0])) (a := t2)))
  have bb : But p H H' := fun c o n e => bt c o n (z3 _ _ (z2 _ _ (z1 _ _ e)))
  rcases ix with _ | _ | _ | _ | _ | ix
  · obtain rfl := Option.some.inj hv; exact h H' _ _ a' b' .non kk h1 h2 bb
  · obtain rfl := Option.some.inj hv; exact h H' _ _ a' b' (.int _) kk h1 h2 bb
  · obtain rfl := Option.some.inj hv; exact h H' _ _ a' b' (.tup g1) kk h1 h2 bb
  · obtain rfl := Option.some.inj hv; exact h H' _ _ a' b' (.str _) kk h1 h2 bb
  · obtain rfl := Option.some.inj hv; exact h H' _ _ a' b' (.lst g2) kk h1 h2 bb
  · cases hv
/-- a value that fits no offset, and how it shows -/
def wrongs : List (V × PyData) := [(.non, .none), (.int (-1), .int (-1)), (.bl true, .bool true), (.str "1", .str "1"), (.int (10 ^ 30 + 1), .int (10 ^ 30 + 1))]
structure WrongV (v : V) (z : Str) : Prop where
  dat : ∀ G, Shows G v z
  odd : ∀ G, ∃ d, Odd1 G v d
  out : withinV 0 (10 ^ 30) v = false
  ok : PyData.strOk z = true
theorem wrong_of {v : V} {d : PyData} (h : ∀ G, Dat1 G v d) (o : ∀ G, Odd1 G v d) (s : d.showable = true) (dp : d.depth ≤ 20) (l : d.shown.length ≤ 1000) (w : withinV 0 (10 ^ 30) v = false) (k : PyData.strOk d.shown = true) : ∃ z, WrongV v z :=
  ⟨d.shown, ⟨fun G => ⟨d, h G, s, dp, by have : PySem.sizeLine = 16777216 := rfl; omega, rfl⟩, fun G => ⟨d, o G⟩, w, k⟩⟩
theorem pat_but {p m : Addr} {xs : List V} {ms : List Int} {H' : Hp} (hp : H p = some (.lst xs)) (bt : But p H H') (h : PatAt C H m ms) : PatAt C H' m ms := by
  obtain ⟨dx, po, h1, h2⟩ := h
  exact ⟨dx, po, bt _ _ (fun z => by rw [z, hp] at h1; cases h1) h1, bt _ _ (fun z => by rw [z, hp] at h2; cases h2) h2⟩
end
section
variable {P : Program} {w : World} {K : PySem.W.Frag} {mg : Str → Option Value} {base : Heap} {CT CN CM B : Addr} {C : Addr} {mc : Value}
abbrev N__law_kinds_right : List Str := ["_law_pen_here", "_law_step", "_law_many", "_law_k", "_law_wide", "_law_high", "_law_due", "_law_x", "_law_one", "_law_odd", "_law_bad", "_law_heard_here", "_law_wrong"]
theorem sc__law_kinds_right : FnScope N__law_kinds_right ["_law_pen_here"] (defScope s__law_kinds_right) := ⟨rfl, rfl, rfl, by decide +kernel, rfl, by decide +kernel, by decide +kernel⟩
set_option maxHeartbeats 8000000 in
theorem ok__law_kinds_right {f fD fPk fHe fEq fOr fLe fAd fPI c TR_ TL pSd gSd pTi gTi : Addr} {fdD fdPk fdEq fdSd fdTi : FuncData} {gK1 gK2 : List Value → List Value → List Value} {oc kV doc pm ct : Value} {od an : Option Addr} {osl : Array (Option Value)} {och kVh doch pmh cdvh cth : Value} {odh anh : Option Addr} {oslh : Array (Option Value)}
    (lk : K.lookup f = some ⟨oc, od, .func (PySem.W.fnOf "_law_kinds_right" "_law_kinds_right" (defArgs s__law_kinds_right) (defBody s__law_kinds_right) (defScope s__law_kinds_right) .none kV doc pm an (.ref c) ct), osl⟩) (hcd : PySem.W.codeIn K (.ref c) "_law_kinds_right" = true) (TBR : TabB base mg c TR_) (dis : TR_ ≠ TL)
    (T : TR mg) (TU : TPat K mg C) (RC : PatCls K C) (THd : THeard K mg CT CN CM B)
    (GD : FnOk P w K mg base CX0 1 fD fdD ["_law_pen_here", "_law_many"] spDraw) (gD : mg "_law_draw" = some (.ref fD)) (kD : PySem.W.keepIn K (.ref fD) = true) (bD : Binds K fdD ["_law_pen_here", "_law_many"] [])
    (GPk : FnOk P w K mg base CX0 2 fPk fdPk ["_law_pen_here", "_law_some"] (spPick K)) (gPk : mg "_law_pick" = some (.ref fPk)) (kPk : PySem.W.keepIn K (.ref fPk) = true) (bPk : Binds K fdPk ["_law_pen_here", "_law_some"] [])
    (rcR : CRead K C mc) (smSd : SMet K C mc "strided" pSd gSd) (GSd : FnR P w K mg base (L2.CX P w) 6 gSd (spStrided CT CM C K)) (GSdK : FnOk P w K mg base (L2.CX P w) 6 gSd fdSd ["lanes", "stride"] (spStrided CT CM C K)) (kSd : KBn K fdSd ["lanes", "stride"] 0 ["stride", "lanes"] gK1 (fun vs zs => vs ++ zs.reverse))
    (smTi : SMet K C mc "tiled" pTi gTi) (GTi : FnR P w K mg base (L2.CX P w) 6 gTi (spTiled CT CM C K)) (GTiK : FnOk P w K mg base (L2.CX P w) 6 gTi fdTi ["width", "height", "pitch"] (spTiled CT CM C K)) (kTi : KBn K fdTi ["width", "height", "pitch"] 0 ["height", "pitch", "width"] gK2 (fun vs zs => vs ++ (zs.drop 2 ++ zs.take 2)))
    (OC : OwnCmp K C fEq) (GEq : FnOk P w K mg base CX0 1 fEq fdEq ["self", "other"] (spPEq C K)) (bEq : Binds K fdEq ["self", "other"] [])
    (oOr : OwnOp K C fOr "or") (GOr : FnR P w K mg base (L2.CX P w) 6 fOr (spPOr CT CM C K))
    (nLe : PySem.W.findIn K (.ref C) "__le__" = some (some (.ref fLe))) (nLe2 : PySem.W.isFn K (.ref fLe) = true) (GLe : FnR P w K mg base (L2.CX P w) 3 fLe (spPLe CT C K))
    (oAd : OwnOp K C fAd "add") (GAd : FnR P w K mg base (L2.CX P w) 6 fAd (spPAdd CT CN CM C K))
    (MPI : Mk K C fPI) (GPI : FnR P w K mg base (L2.CX P w) 4 fPI (spMk CT CM C K))
    (gHe : mg "_law_heard" = some (.ref fHe)) (kHe : PySem.W.keepIn K (.ref fHe) = true) (lkHe : K.lookup fHe = some ⟨och, odh, .func (PySem.W.fnOf "_law_heard" "_law_heard" (defArgs s__law_heard) (defBody s__law_heard) (defScope s__law_heard) .none kVh doch pmh anh cdvh cth), oslh⟩) (hcHe : PySem.W.codeIn K cdvh "_law_heard" = true)
    (bHe : L2.Binds K (PySem.W.fnOf "_law_heard" "_law_heard" (defArgs s__law_heard) (defBody s__law_heard) (defScope s__law_heard) .none kVh doch pmh anh cdvh cth) ["_law_ask"] []) :
    FnG P w K mg base CX0 9 f (PySem.W.fnOf "_law_kinds_right" "_law_kinds_right" (defArgs s__law_kinds_right) (defBody s__law_kinds_right) (defScope s__law_kinds_right) .none kV doc pm an (.ref c) ct) ["_law_pen_here"] (spKinds TR_ TL) := by
  refine fnG_of lk hcd sc__law_kinds_right (fun vs H Q E h => ?_) (fun A outer s H vs Q E hgd hr h => ?_)
  · obtain ⟨p, l, ns, a, b, rfl, _⟩ := h
    rfl
  · obtain ⟨p, l, ns, a, b, rfl, hP, ha, hTb, k⟩ := h
    have hrH : Room 8 _ := hr
    have hrO : Room 6 _ := hr.mono (by decide)
    have hrD2 : Room 2 _ := hr.mono (by decide)
    have hrD1 : Room 1 _ := hr.mono (by decide)
    refine ⟨_, (pss_cons (ps_asg (pe_tup (pa_cons (pe_call GPk hrD2 rfl gPk kPk bPk .nil pass0 (pa_cons (pv 0) (pa_cons (pe_lst (pa_cons pe_int (pa_cons pe_int (pa_cons pe_int (pa_cons (pe_op op_pow pe_int pe_int) (pa_cons (pe_call GD hrD1 rfl gD kD bD .nil pass0 (pa_cons (pv 0) (pa_cons pe_int pa_nil))) pa_nil)))))) pa_nil))) (pa_cons (pe_op op_add pe_int (pe_call GD hrD1 rfl gD kD bD .nil pass0 (pa_cons (pv 0) (pa_cons pe_int pa_nil)))) pa_nil))) (pg_tup rfl (pgs_cons (pg_name (i := 1) sc__law_kinds_right.nd rfl (Or.inr rfl)) (pgs_cons (pg_name (i := 2) sc__law_kinds_right.nd rfl (Or.inl rfl)) pgs_nil))))
 (pss_cons (ps_if (pt_cmpR (op_neD hrD2.units) (pe_callTy call_list_of (by rfl) T.m_list (by decide +kernel) (pa_cons (pe_fld (pe_smeth (pe_glob (v := .ref C) rfl TU.gC rfl) rcR smSd GSd hrO passL (pa_cons (pv 2) (pa_cons (pv 1) pa_nil))) rfl) pa_nil)) (pe_callB (cr_sortS rfl) (by rfl) T.m_sorted (by decide +kernel) (pa_cons (pe_callTy (cr_setInts rfl) (by rfl) T.m_set (by decide +kernel) (pa_cons (pe_lc (own := [("_law_k", 3)]) (g := (gName 3)) (tt := tYes) rfl sc__law_kinds_right.nd (pi_range1 rfl T.m_range (pa_cons (pv 2) pa_nil)) (blkOk_by (N := N__law_kinds_right) (sc := defScope s__law_kinds_right) (by decide +kernel)) (fun _ _ _ _ _ => (pg_name (i := 3) sc__law_kinds_right.nd rfl (Or.inl rfl))) (fun _ _ _ _ _ => pts_nil) (fun _ _ _ _ _ => (pe_op op_mul (pv 1) (pv 3)))) pa_nil)) pa_nil)) (nomark _)) (pss_one (ps_ret pe_bl)) pss_nil)
 (pss_cons (ps_par (i := 4) (j := 5) rfl sc__law_kinds_right.nd rfl rfl (by decide) rfl rfl (pa_cons (pe_op op_add pe_int (pe_call GD hrD1 rfl gD kD bD .nil pass0 (pa_cons (pv 0) (pa_cons pe_int pa_nil)))) (pa_cons (pe_op op_add pe_int (pe_call GD hrD1 rfl gD kD bD .nil pass0 (pa_cons (pv 0) (pa_cons pe_int pa_nil)))) pa_nil)) rfl)
 (pss_cons (ps_set (i := 6) sc__law_kinds_right.nd rfl (Or.inl rfl) (pe_lst pa_nil))
 (pss_cons (ps_for PassesOwn.never rfl (pi_range1 rfl T.m_range (pa_cons (pv 5) pa_nil)) (pg_name (i := 3) sc__law_kinds_right.nd rfl (Or.inr rfl))
 (pss_one (ps_set (i := 6) sc__law_kinds_right.nd rfl (Or.inl rfl) (pe_op op_cat (pv 6) (pe_lc (own := [("_law_x", 7)]) (g := (gName 7)) (tt := tYes) rfl sc__law_kinds_right.nd (pi_range1 rfl T.m_range (pa_cons (pv 4) pa_nil)) (blkOk_by (N := N__law_kinds_right) (sc := defScope s__law_kinds_right) (by decide +kernel)) (fun _ _ _ _ _ => (pg_name (i := 7) sc__law_kinds_right.nd rfl (Or.inl rfl))) (fun _ _ _ _ _ => pts_nil) (fun _ _ _ _ _ => (pe_op op_add (pv 7) (pe_op op_mul (pv 3) (pv 1)))))))))
 (pss_cons (ps_if (pt_cmpR (op_neD hrD2.units) (pe_callTy call_list_of (by rfl) T.m_list (by decide +kernel) (pa_cons (pe_fld (pe_smethK (pe_glob (v := .ref C) rfl TU.gC rfl) rcR smTi GTiK hrO kTi passL (pk_cons (pv 5) (pk_cons (pv 1) (pk_cons (pv 4) pk_nil)))) rfl) pa_nil)) (pe_callB (cr_sortS rfl) (by rfl) T.m_sorted (by decide +kernel) (pa_cons (pe_callTy (cr_setInts rfl) (by rfl) T.m_set (by decide +kernel) (pa_cons (pe_lc (own := [("_law_one", 8)]) (g := (gName 8)) (tt := tYes) rfl sc__law_kinds_right.nd (pi_list (pv 6)) (blkOk_by (N := N__law_kinds_right) (sc := defScope s__law_kinds_right) (by decide +kernel)) (fun _ _ _ _ _ => (pg_name (i := 8) sc__law_kinds_right.nd rfl (Or.inl rfl))) (fun _ _ _ _ _ => pts_nil) (fun _ _ _ _ _ => (pe_callTy call_int1 (by rfl) T.m_int (by decide +kernel) (pa_cons (pv 8) pa_nil)))) pa_nil)) pa_nil)) (nomark _)) (pss_one (ps_ret pe_bl)) pss_nil)
 (pss_cons (ps_if (pt_cmpR (op_neOwn GEq OC bEq hrD2 pass0) (pe_smethK (pe_glob (v := .ref C) rfl TU.gC rfl) rcR smSd GSdK hrO kSd passL (pk_cons (pv 1) (pk_cons (pv 2) pk_nil))) (pe_smeth (pe_glob (v := .ref C) rfl TU.gC rfl) rcR smSd GSd hrO passL (pa_cons (pv 2) (pa_cons (pv 1) pa_nil))) (nomark _)) (pss_one (ps_ret pe_bl)) pss_nil)
 (pss_cons (ps_set (i := 9) sc__law_kinds_right.nd rfl (Or.inr rfl) (by exact (pe_call GPk hrD2 rfl gPk kPk bPk .nil pass0 (pa_cons (pv 0) (pa_cons (pe_lst (pa_cons pe_non (pa_cons pe_int (pa_cons pe_int (pa_cons pe_bl (pa_cons pe_str (pa_cons (pe_tup (pa_cons pe_int pa_nil)) (pa_cons (pe_un un_neg pe_int) (pa_cons (pe_op op_pow pe_int pe_int) pa_nil))))))))) pa_nil)))))
 (pss_cons (ps_set (i := 10) sc__law_kinds_right.nd rfl (Or.inr rfl) (by exact (pe_call GPk hrD2 rfl gPk kPk bPk .nil pass0 (pa_cons (pv 0) (pa_cons (pe_lst (pa_cons pe_non (pa_cons (pe_un un_neg pe_int) (pa_cons pe_bl (pa_cons pe_str (pa_cons (pe_tup (pa_cons pe_int pa_nil)) (pa_cons (pe_op op_add (pe_op op_pow pe_int pe_int) pe_int) (pa_cons (pe_op op_pow pe_int pe_int) pa_nil)))))))) pa_nil)))))
 (pss_cons (ps_set (i := 11) sc__law_kinds_right.nd rfl (Or.inl rfl) (pe_lst (pa_cons (pe_lamcall (T := T2 TR_ TL) (TT := TTH CT CN CM) (k := 6) (t := (fun E => (tSMeth C (spStrided CT CM C K) E (tC (.ref C)) (tCons (tVar 9) (tCons (tVar 10) tNil))))) rfl gHe kHe lkHe hcHe bHe sc__law_heard rfl (Or.inl rfl) (heard_gives THd hrH hgd) TBR rfl t2_r (t2u_r dis) hrH (lamS_by (show lamSB (defScope s__law_kinds_right) _ = true by decide +kernel)) rfl (fun _ _ _ _ _ => rfl) (fun A outer s H E f c' hr => (pe_smeth (pe_glob (v := .ref C) rfl TU.gC rfl) rcR smSd GSd hr (passes_call (takes_of rfl rfl rfl rfl) fun _ _ _ _ h => h) (pa_cons (pv 9) (pa_cons (pv 10) pa_nil))))) pa_nil)))
 (pss_cons (ps_expr (pe_bm PySem.F.plainAttrs_list PySem.F.slot_list_append PySem.F.type_list_append mt_append (pv 11) (pa_cons (pe_lamcall (T := T2 TR_ TL) (TT := TTH CT CN CM) (k := 6) (t := (fun E => (tSMeth C (spStrided CT CM C K) E (tC (.ref C)) (tCons (tC (.int 32)) (tCons (tVar 10) tNil))))) rfl gHe kHe lkHe hcHe bHe sc__law_heard rfl (Or.inl rfl) (heard_gives THd hrH hgd) TBR rfl t2_r (t2u_r dis) hrH (lamS_by (show lamSB (defScope s__law_kinds_right) _ = true by decide +kernel)) rfl (fun _ _ _ _ _ => rfl) (fun A outer s H E f c' hr => (pe_smeth (pe_glob (v := .ref C) rfl TU.gC rfl) rcR smSd GSd hr (passes_call (takes_of rfl rfl rfl rfl) fun _ _ _ _ h => h) (pa_cons pe_int (pa_cons (pv 10) pa_nil))))) pa_nil)))
 (pss_cons (ps_expr (pe_bm PySem.F.plainAttrs_list PySem.F.slot_list_append PySem.F.type_list_append mt_append (pv 11) (pa_cons (pe_lamcall (T := T2 TR_ TL) (TT := TTH CT CN CM) (k := 6) (t := (fun E => (tSMeth C (spTiled CT CM C K) E (tC (.ref C)) (tCons (tVar 9) (tCons (tVar 9) (tCons (tVar 10) tNil)))))) rfl gHe kHe lkHe hcHe bHe sc__law_heard rfl (Or.inl rfl) (heard_gives THd hrH hgd) TBR rfl t2_r (t2u_r dis) hrH (lamS_by (show lamSB (defScope s__law_kinds_right) _ = true by decide +kernel)) rfl (fun _ _ _ _ _ => rfl) (fun A outer s H E f c' hr => (pe_smeth (pe_glob (v := .ref C) rfl TU.gC rfl) rcR smTi GTi hr (passes_call (takes_of rfl rfl rfl rfl) fun _ _ _ _ h => h) (pa_cons (pv 9) (pa_cons (pv 9) (pa_cons (pv 10) pa_nil)))))) pa_nil)))
 (pss_cons (ps_expr (pe_bm PySem.F.plainAttrs_list PySem.F.slot_list_append PySem.F.type_list_append mt_append (pv 11) (pa_cons (pe_lamcall (T := T2 TR_ TL) (TT := TTH CT CN CM) (k := 6) (t := (fun E => (tSMeth C (spTiled CT CM C K) E (tC (.ref C)) (tCons (tC (.int 1)) (tCons (tVar 9) (tCons (tVar 10) tNil)))))) rfl gHe kHe lkHe hcHe bHe sc__law_heard rfl (Or.inl rfl) (heard_gives THd hrH hgd) TBR rfl t2_r (t2u_r dis) hrH (lamS_by (show lamSB (defScope s__law_kinds_right) _ = true by decide +kernel)) rfl (fun _ _ _ _ _ => rfl) (fun A outer s H E f c' hr => (pe_smeth (pe_glob (v := .ref C) rfl TU.gC rfl) rcR smTi GTi hr (passes_call (takes_of rfl rfl rfl rfl) fun _ _ _ _ h => h) (pa_cons pe_int (pa_cons (pv 9) (pa_cons (pv 10) pa_nil)))))) pa_nil)))
 (pss_cons (ps_expr (pe_bm PySem.F.plainAttrs_list PySem.F.slot_list_append PySem.F.type_list_append mt_append (pv 11) (pa_cons (pe_lamcall (T := T2 TR_ TL) (TT := TTH CT CN CM) (k := 6) (t := (fun E => (tSMeth C (spTiled CT CM C K) E (tC (.ref C)) (tCons (tC (.int 1)) (tCons (tC (.int 1)) (tCons (tVar 10) tNil)))))) rfl gHe kHe lkHe hcHe bHe sc__law_heard rfl (Or.inl rfl) (heard_gives THd hrH hgd) TBR rfl t2_r (t2u_r dis) hrH (lamS_by (show lamSB (defScope s__law_kinds_right) _ = true by decide +kernel)) rfl (fun _ _ _ _ _ => rfl) (fun A outer s H E f c' hr => (pe_smeth (pe_glob (v := .ref C) rfl TU.gC rfl) rcR smTi GTi hr (passes_call (takes_of rfl rfl rfl rfl) fun _ _ _ _ h => h) (pa_cons pe_int (pa_cons pe_int (pa_cons (pv 10) pa_nil)))))) pa_nil)))
 (pss_cons (ps_expr (pe_bm PySem.F.plainAttrs_list PySem.F.slot_list_append PySem.F.type_list_append mt_append (pv 11) (pa_cons (pe_lamcall (T := T2 TR_ TL) (TT := TTH CT CN CM) (k := 6) (t := (fun E => (tSMeth C (spTiled CT CM C K) E (tC (.ref C)) (tCons (tC (.int 11)) (tCons (tC (.int 3)) (tCons (tC (.int 11)) tNil)))))) rfl gHe kHe lkHe hcHe bHe sc__law_heard rfl (Or.inl rfl) (heard_gives THd hrH hgd) TBR rfl t2_r (t2u_r dis) hrH (lamS_by (show lamSB (defScope s__law_kinds_right) _ = true by decide +kernel)) rfl (fun _ _ _ _ _ => rfl) (fun A outer s H E f c' hr => (pe_smeth (pe_glob (v := .ref C) rfl TU.gC rfl) rcR smTi GTi hr (passes_call (takes_of rfl rfl rfl rfl) fun _ _ _ _ h => h) (pa_cons pe_int (pa_cons pe_int (pa_cons pe_int pa_nil)))))) pa_nil)))
 (pss_cons (ps_expr (pe_bm PySem.F.plainAttrs_list PySem.F.slot_list_append PySem.F.type_list_append mt_append (pv 11) (pa_cons (pe_lamcall (T := T2 TR_ TL) (TT := TTH CT CN CM) (k := 6) (t := (fun E => (tMakeR C (spMk CT CM C K) E (tCons (tC (.int 0)) (tCons (tOp (rI CPow fun i j => .int (i ^ j.toNat)) (tC (.int 10)) (tC (.int 30))) (tCons (tIf (tTest (tOp (rNeD K) (tVar 10) (tOp (rI0 fun i j => .int (i + j)) (tOp (rI CPow fun i j => .int (i ^ j.toNat)) (tC (.int 10)) (tC (.int 28))) (tC (.int 1))))) (tVar 10) (tOp (rI0 fun i j => .int (i + j)) (tOp (rI CPow fun i j => .int (i ^ j.toNat)) (tC (.int 10)) (tC (.int 30))) (tC (.int 1)))) (tCons (tC .non) tNil))))))) rfl gHe kHe lkHe hcHe bHe sc__law_heard rfl (Or.inl rfl) (heard_gives THd hrH hgd) TBR rfl t2_r (t2u_r dis) hrH (lamS_by (show lamSB (defScope s__law_kinds_right) _ = true by decide +kernel)) rfl (fun _ _ _ _ _ => rfl) (fun A outer s H E f c' hr => (StX.pe_makeR MPI GPI (hr.mono (by decide)) rfl TU.gC (passes_call (takes_of rfl rfl rfl rfl) fun _ _ _ _ h => h) (pa_cons pe_int (pa_cons (pe_op op_pow pe_int pe_int) (pa_cons (pe_ifExp (pt_cmpR (op_neD hr.units) (pv 10) (pe_op op_add (pe_op op_pow pe_int pe_int) pe_int) (nomark _)) (pv 10) (pe_op op_add (pe_op op_pow pe_int pe_int) pe_int)) (pa_cons pe_non pa_nil))))))) pa_nil)))
 (pss_cons (ps_expr (pe_bm PySem.F.plainAttrs_list PySem.F.slot_list_append PySem.F.type_list_append mt_append (pv 11) (pa_cons (pe_lamcall (T := T2 TR_ TL) (TT := TTH CT CN CM) (k := 6) (t := (fun E => (tMakeR0 C (spMk CT CM C K) E))) rfl gHe kHe lkHe hcHe bHe sc__law_heard rfl (Or.inl rfl) (heard_gives THd hrH hgd) TBR rfl t2_r (t2u_r dis) hrH (lamS_by (show lamSB (defScope s__law_kinds_right) _ = true by decide +kernel)) rfl (fun _ _ _ _ _ => rfl) (fun A outer s H E f c' hr => (pe_makeR0 MPI GPI (hr.mono (by decide)) rfl TU.gC (passes_call (takes_of rfl rfl rfl rfl) fun _ _ _ _ h => h)))) pa_nil)))
 (pss_cons (ps_expr (pe_bm PySem.F.plainAttrs_list PySem.F.slot_list_append PySem.F.type_list_append mt_append (pv 11) (pa_cons (pe_lamcall (T := T2 TR_ TL) (TT := TTH CT CN CM) (k := 6) (t := (fun E => (tOp (rOwnOp K C (spPOr CT CM C K) E) (tMakeR C (spMk CT CM C K) E (tCons (tC (.int 0)) tNil)) (tCall (spPick K) [] E0 (tCons (tVar 0) (tCons (tLst (tCons (tC .non) (tCons (tC (.int 0)) (tCons (tTup (tCons (tC (.int 0)) tNil)) (tCons (tC (.str "0")) (tCons (tLst (tCons (tC (.int 1)) tNil)) tNil)))))) tNil)))))) rfl gHe kHe lkHe hcHe bHe sc__law_heard rfl (Or.inl rfl) (heard_gives THd hrH hgd) TBR rfl t2_r (t2u_r dis) hrH (lamS_by (show lamSB (defScope s__law_kinds_right) _ = true by decide +kernel)) rfl (fun _ _ _ _ _ => rfl) (fun A outer s H E f c' hr => (pe_op (op_own GOr oOr ot_or hr (passes_call (takes_of rfl rfl rfl rfl) fun _ _ _ _ h => h)) (StX.pe_makeR MPI GPI (hr.mono (by decide)) rfl TU.gC (passes_call (takes_of rfl rfl rfl rfl) fun _ _ _ _ h => h) (pa_cons pe_int pa_nil)) (pe_call GPk (hr.mono (by decide)) rfl gPk kPk bPk .nil pass0 (pa_cons (pv 0) (pa_cons (pe_lst (pa_cons pe_non (pa_cons pe_int (pa_cons (pe_tup (pa_cons pe_int pa_nil)) (pa_cons pe_str (pa_cons (pe_lst (pa_cons pe_int pa_nil)) pa_nil)))))) pa_nil)))))) pa_nil)))
 (pss_cons (ps_expr (pe_bm PySem.F.plainAttrs_list PySem.F.slot_list_append PySem.F.type_list_append mt_append (pv 11) (pa_cons (pe_lamcall (T := T2 TR_ TL) (TT := TTH CT CN CM) (k := 6) (t := (fun E => (tOp (rOwnC C (spPLe CT C K) E K) (tMakeR C (spMk CT CM C K) E (tCons (tC (.int 0)) tNil)) (tCall (spPick K) [] E0 (tCons (tVar 0) (tCons (tLst (tCons (tC .non) (tCons (tC (.int 0)) (tCons (tTup (tCons (tC (.int 0)) tNil)) (tCons (tC (.str "0")) (tCons (tLst (tCons (tC (.int 1)) tNil)) tNil)))))) tNil)))))) rfl gHe kHe lkHe hcHe bHe sc__law_heard rfl (Or.inl rfl) (heard_gives THd hrH hgd) TBR rfl t2_r (t2u_r dis) hrH (lamS_by (show lamSB (defScope s__law_kinds_right) _ = true by decide +kernel)) rfl (fun _ _ _ _ _ => rfl) (fun A outer s H E f c' hr => (pe_cmpR (op_leOwn GLe nLe nLe2 (hr.mono (by decide)) (passes_call (takes_of rfl rfl rfl rfl) fun _ _ _ _ h => h)) (StX.pe_makeR MPI GPI (hr.mono (by decide)) rfl TU.gC (passes_call (takes_of rfl rfl rfl rfl) fun _ _ _ _ h => h) (pa_cons pe_int pa_nil)) (pe_call GPk (hr.mono (by decide)) rfl gPk kPk bPk .nil pass0 (pa_cons (pv 0) (pa_cons (pe_lst (pa_cons pe_non (pa_cons pe_int (pa_cons (pe_tup (pa_cons pe_int pa_nil)) (pa_cons pe_str (pa_cons (pe_lst (pa_cons pe_int pa_nil)) pa_nil)))))) pa_nil))) (nomark _)))) pa_nil)))
 (pss_cons (ps_set (i := 12) sc__law_kinds_right.nd rfl (Or.inr rfl) (by exact (pe_call GPk hrD2 rfl gPk kPk bPk .nil pass0 (pa_cons (pv 0) (pa_cons (pe_lst (pa_cons pe_non (pa_cons (pe_un un_neg pe_int) (pa_cons pe_bl (pa_cons pe_str (pa_cons (pe_op op_add (pe_op op_pow pe_int pe_int) pe_int) pa_nil)))))) pa_nil)))))
 (pss_cons (ps_expr (pe_bm PySem.F.plainAttrs_list PySem.F.slot_list_append PySem.F.type_list_append mt_append (pv 11) (pa_cons (pe_lamcall (T := T2 TR_ TL) (TT := TTH CT CN CM) (k := 6) (t := (fun E => (tOp (rOwnOp K C (spPAdd CT CN CM C K) E) (tMakeR C (spMk CT CM C K) E (tCons (tC (.int 1)) tNil)) (tVar 12)))) rfl gHe kHe lkHe hcHe bHe sc__law_heard rfl (Or.inl rfl) (heard_gives THd hrH hgd) TBR rfl t2_r (t2u_r dis) hrH (lamS_by (show lamSB (defScope s__law_kinds_right) _ = true by decide +kernel)) rfl (fun _ _ _ _ _ => rfl) (fun A outer s H E f c' hr => (pe_op (op_own GAd oAd ot_add hr (passes_call (takes_of rfl rfl rfl rfl) fun _ _ _ _ h => h)) (StX.pe_makeR MPI GPI (hr.mono (by decide)) rfl TU.gC (passes_call (takes_of rfl rfl rfl rfl) fun _ _ _ _ h => h) (pa_cons pe_int pa_nil)) (pv 12)))) pa_nil)))
 (pss_cons (ps_expr (pe_bm PySem.F.plainAttrs_list PySem.F.slot_list_append PySem.F.type_list_append mt_append (pv 11) (pa_cons (pe_lamcall (T := T2 TR_ TL) (TT := TTH CT CN CM) (k := 6) (t := (fun E => (tOp (rOwnOp K C (spPAdd CT CN CM C K) E) (tMakeR C (spMk CT CM C K) E (tCons (tC (.int 1)) tNil)) (tOp (rI CPow fun i j => .int (i ^ j.toNat)) (tC (.int 10)) (tC (.int 30)))))) rfl gHe kHe lkHe hcHe bHe sc__law_heard rfl (Or.inl rfl) (heard_gives THd hrH hgd) TBR rfl t2_r (t2u_r dis) hrH (lamS_by (show lamSB (defScope s__law_kinds_right) _ = true by decide +kernel)) rfl (fun _ _ _ _ _ => rfl) (fun A outer s H E f c' hr => (pe_op (op_own GAd oAd ot_add hr (passes_call (takes_of rfl rfl rfl rfl) fun _ _ _ _ h => h)) (StX.pe_makeR MPI GPI (hr.mono (by decide)) rfl TU.gC (passes_call (takes_of rfl rfl rfl rfl) fun _ _ _ _ h => h) (pa_cons pe_int pa_nil)) (pe_op op_pow pe_int pe_int)))) pa_nil)))
 (pss_cons (ps_set (i := 6) sc__law_kinds_right.nd rfl (Or.inl rfl) (pe_lst (pa_cons (pe_tup (pa_cons pe_str (pa_cons pe_str pa_nil))) (pa_cons (pe_tup (pa_cons pe_str (pa_cons pe_str pa_nil))) (pa_cons (pe_tup (pa_cons pe_str (pa_cons pe_str pa_nil))) (pa_cons (pe_tup (pa_cons pe_str (pa_cons pe_str pa_nil))) (pa_cons (pe_tup (pa_cons pe_str (pa_cons pe_str pa_nil))) (pa_cons (pe_tup (pa_cons pe_str (pa_cons pe_str pa_nil))) pa_nil))))))))
 (pss_cons (ps_set (i := 6) sc__law_kinds_right.nd rfl (Or.inl rfl) (pe_op op_cat (pv 6) (pe_lst (pa_cons (pe_tup (pa_cons pe_str (pa_cons pe_str pa_nil))) (pa_cons (pe_tup (pa_cons pe_str (pa_cons pe_str pa_nil))) (pa_cons (pe_tup (pa_cons pe_str (pa_cons pe_str pa_nil))) (pa_cons (pe_tup (pa_cons pe_str (pa_cons pe_str pa_nil))) (pa_cons (pe_tup (pa_cons pe_str (pa_cons (pe_callB (call_reprG hgd hrD2.units) (by rfl) T.m_repr (by decide +kernel) (pa_cons (pv 12) pa_nil)) pa_nil))) pa_nil))))))))
 (pss_one (ps_ret (pe_cmpR (op_eqD hrD2.units) (pv 11) (pe_op op_cat (pv 6) (pe_lst (pa_cons (pe_tup (pa_cons pe_str (pa_cons pe_str pa_nil))) pa_nil))) (nomark _)))))))))))))))))))))))))))), ?_⟩
    have sz : PySem.sizeLine = 16777216 := rfl
    refine ⟨_, rfl, _, _, rfl, rfl, ⟨by decide, by decide, by decide⟩, _, rfl, p, l, ns, a, b, 50, rfl, hP, by omega, by decide, by decide +kernel, fun H1 dr a1 b1 d0 d1 h10 h11 bt1 P1 => ⟨(by show 5 ≤ PySem.sizeLine; decide), fun pk hpk => ?_⟩⟩
    have npk : pk ≠ p := (ne_of_none P1.pen hpk).symm
    refine ⟨p, l, pk, ns, a1, b1, _, rfl, P1.new hpk, by omega, SqL.of upd_same, npk, by show 0 < 5; decide, by show 5 ≤ 1000; decide, fun H2 ix v a2 b2 hv h20 h21 bt2 P2 => ?_⟩
    obtain ⟨st, rfl, s0, s1⟩ : ∃ n : Int, v = .int n ∧ 0 ≤ n ∧ n ≤ 10 ^ 28 := by
      rcases ix with _ | _ | _ | _ | _ | ix
      · obtain rfl := Option.some.inj hv; exact ⟨0, rfl, by decide, by decide⟩
      · obtain rfl := Option.some.inj hv; exact ⟨1, rfl, by decide, by decide⟩
      · obtain rfl := Option.some.inj hv; exact ⟨5, rfl, by decide, by decide⟩
      · obtain rfl := Option.some.inj hv; exact ⟨10 ^ 28, rfl, by decide, by decide⟩
      · obtain rfl := Option.some.inj hv; exact ⟨dr, rfl, d0, by omega⟩
      · cases hv
    have tb2 : Tabs (T2 TR_ TL) H2 := tabs_but (P1.new hpk).pen bt2 ((tabs_but hP.pen bt1 hTb).ext (Same.lay hpk))
    clear bt1 bt2 hpk hTb P1
    refine ⟨_, rfl, p, l, ns, a2, b2, 32, rfl, P2, by omega, by decide, by decide +kernel, fun H3 mn a3 b3 m0 m1 h30 h31 bt3 P3 => ⟨_, _, rfl, rfl, (by show 2 ≤ PySem.sizeLine; decide), fun tq htq => ⟨tq, _, rfl, SqT.of upd_same, rfl, _, _, rfl, _, _, rfl, rfl, ?_⟩⟩⟩
    have tb3 := (tabs_but P2.pen bt3 tb2).ext (Same.lay (o := .tup [V.int st, V.int (1 + mn)]) htq)
    have P4 := pen_same (Same.lay (o := .tup [V.int st, V.int (1 + mn)]) htq) P3
    generalize upd H3 tq (.tup [V.int st, V.int (1 + mn)]) = H4 at tb3 P4 ⊢
    clear bt3 htq tb2 P2 P3
    have y1 : 1 ≤ (1 + mn) := by omega
    have y2 : (1 + mn) ≤ 32 := by omega
    have w1 : withinV 1 32 (.int (1 + mn)) = true := decide_eq_true ⟨y1, y2⟩
    have w2 : withinV 0 (10 ^ 28) (.int st) = true := decide_eq_true ⟨s0, s1⟩
    have tf : ∀ {A : Prop} {b : Bool}, b = true → b = false → A := fun h g => nomatch h.symm.trans g
    refine ⟨rfl, _, rfl, _, rfl, _, _, _, _, rfl, .int _, .int _, tf w1, (fun _ => tf w2), fun n s e1 e2 _ _ _ _ H5 x s5 px => ?_⟩
    obtain rfl : 1 + mn = n := V.int.inj e1
    obtain rfl : st = s := V.int.inj e2
    obtain ⟨dx, xo, x1, x2⟩ := id px
    refine ⟨x, C, dx, _, _, rfl, x1, TU.cl, TU.nO, fs_off _, xo, _, rfl, .inr (SqT.of x2), fun l6 hl6 => ?_⟩
    have s6 := Same.lay (o := .lst ((sortU (stridedN (1 + mn) st)).map V.int)) hl6
    have g6 : (upd H5 l6 (.lst ((sortU (stridedN (1 + mn) st)).map V.int))) l6 = some (.lst ((sortU (stridedN (1 + mn) st)).map V.int)) := upd_same
    have s46 : Same H4 (upd H5 l6 (.lst ((sortU (stridedN (1 + mn) st)).map V.int))) := fun _ _ z => s6 _ _ (s5 _ _ z)
    generalize upd H5 l6 (.lst ((sortU (stridedN (1 + mn) st)).map V.int)) = H6 at g6 s46 ⊢
    refine ⟨_, rfl, (1 + mn), rfl, by omega, by omega, fun D hD => ?_⟩
    refine lc_it walk_range (fun i G => G = upd H6 D (.lst (((List.range i).map fun (i : Nat) => (0 + ((i : Nat) : Int)) * st).map V.int))) rfl (fun _ _ _ _ => trivial) ?_ ?_
    · rintro i x G G' hi rfl ⟨rfl, rfl⟩
      refine ⟨rfl, _, rfl, _, rfl, _, _, rfl, rfl, .inr ⟨by omega, by omega⟩, _, upd_same, small_n (by rw [List.length_map, List.length_map, List.length_range]; omega), ?_⟩
      rw [upd_upd, List.range_succ, List.map_append, List.map_append]
      show upd H6 D (.lst (_ ++ [V.int (st * (0 + (i : Int)))])) = upd H6 D (.lst (_ ++ [V.int ((0 + (i : Int)) * st)]))
      rw [Int.mul_comm st]
    rintro G rfl
    have ls := sortU_len (stridedN (1 + mn) st)
    have lt : (stridedN (1 + mn) st).length ≤ 32 := by
      unfold stridedN
      rw [List.length_map, List.length_range]
      omega
    refine ⟨D, stridedN (1 + mn) st, rfl, SqL.of upd_same, by omega, fun S1 hS1 => ?_⟩
    refine ⟨S1, stridedN (1 + mn) st, rfl, upd_same, by omega, fun L1 hL1 => ?_⟩
    obtain ⟨s7, g7⟩ := three (o3 := .lst ((sortU (stridedN (1 + mn) st)).map V.int)) hD hS1 hL1
    generalize upd (upd (upd H6 D _) S1 _) L1 _ = H7 at s7 g7 ⊢
    refine ⟨.list ((sortU (stridedN (1 + mn) st)).map .int), .list ((sortU (stridedN (1 + mn) st)).map .int), .lst (SqL.of (s7 _ _ g6)) (dp_ints _), .lst (SqL.of g7) (dp_ints _), shaped_ints _, shaped_ints _, _, rfl, ite_list ?_⟩
    have s47 : Same H4 H7 := fun _ _ z => s7 _ _ (s46 _ _ z)
    have tb7 := tb3.ext s47
    have P7 := pen_same s47 P4
    clear s47 s46 hD hS1 hL1 s7 g7 hl6 s6 g6 px s5 x1 x2 P4 tb3
    refine ⟨_, rfl, p, l, ns, a3, b3, 5, rfl, P7, by omega, by decide, by decide +kernel, fun H8 wd a4 b4 v0 v1 h40 h41 bt4 P8 => ⟨_, _, rfl, rfl, _, rfl, p, l, ns, a4, b4, 6, rfl, P8, by omega, by decide, by decide +kernel, fun H9 hg a5 b5 v2 v3 h50 h51 bt5 P9 => ⟨_, _, rfl, rfl, _, _, rfl, ?_⟩⟩⟩
    have tb9 := tabs_but P8.pen bt5 (tabs_but P7.pen bt4 tb7)
    clear bt4 bt5 tb7 P7 P8
    refine ⟨(by show 0 ≤ PySem.sizeLine; decide), fun du hdu => ?_⟩
    have q1 := Same.lay (o := .lst []) hdu
    have P10 := pen_same q1 P9
    have tb10 := tb9.ext q1
    have hdu1 : (upd H9 du (.lst [])) du = some (.lst []) := upd_same
    generalize upd H9 du (.lst []) = Ha at P10 tb10 hdu1 ⊢
    clear q1 hdu P9 tb9
    have wl : (1 + wd).toNat ≤ 5 := by omega
    refine ⟨_, rfl, 1 + hg, rfl, by omega, by omega, for_it walk_range (fun i σ G => ∃ (u3 : Option V) (d : Addr), σ = [some (.ref p), some (.int st), some (.int (1 + mn)), u3, some (.int (1 + wd)), some (.int (1 + hg)), some (.ref d), none, none, none, none, none, none] ∧ Same Ha G ∧
      G d = some (.lst (((List.range i).flatMap fun (y : Nat) => (List.range (1 + wd).toNat).map fun (x : Nat) => (0 + ((x : Nat) : Int)) + (0 + ((y : Nat) : Int)) * st).map V.int))) ⟨_, du, rfl, Same.refl _, hdu1⟩ (fun _ _ _ _ _ => trivial) ?_ ?_⟩
    · rintro i x σ G G' hi ⟨u3, d, rfl, sG, hd⟩ ⟨rfl, rfl⟩
      have hi2 : i < (1 + hg).toNat := hi
      refine ⟨_, rfl, _, rfl, 1 + wd, rfl, by omega, by omega, fun D hD => ?_⟩
      refine lc_it walk_range (fun j G1 => G1 = upd G' D (.lst (((List.range j).map fun (x : Nat) => (0 + ((x : Nat) : Int)) + (0 + ((i : Nat) : Int)) * st).map V.int))) rfl (fun _ _ _ _ => trivial) ?_ ?_
      · rintro j x G1 G2 hj rfl ⟨rfl, rfl⟩
        have hj2 : j < (1 + wd).toNat := hj
        refine ⟨rfl, _, rfl, _, rfl, _, rfl, _, _, rfl, rfl, .inl ⟨by omega, by omega⟩, _, _, rfl, rfl, _, upd_same, small_n (by rw [List.length_map, List.length_map, List.length_range]; omega), ?_⟩
        rw [upd_upd, List.range_succ, List.map_append, List.map_append]
        rfl
      rintro G1 rfl
      have y5 := Same.lay (o := .lst (((List.range (1 + wd).toNat).map fun (x : Nat) => (0 + ((x : Nat) : Int)) + (0 + ((i : Nat) : Int)) * st).map V.int)) hD
      have rl := tiled_row (1 + wd).toNat st i
      have h6 : i * (1 + wd).toNat ≤ 6 * 5 := Nat.mul_le_mul (by omega) wl
      refine ⟨d, D, _, _, rfl, rfl, y5 _ _ hd, upd_same, by rw [List.length_map, List.length_map, List.length_map, List.length_range]; omega, fun r hr => ?_⟩
      have y6 := Same.lay (o := .lst (((List.range i).flatMap fun (y : Nat) => (List.range (1 + wd).toNat).map fun (x : Nat) => (0 + ((x : Nat) : Int)) + (0 + ((y : Nat) : Int)) * st).map V.int ++ ((List.range (1 + wd).toNat).map fun (x : Nat) => (0 + ((x : Nat) : Int)) + (0 + ((i : Nat) : Int)) * st).map V.int)) hr
      refine ⟨_, r, rfl, fun _ _ z => y6 _ _ (y5 _ _ (sG _ _ z)), ?_⟩
      rw [upd_same, List.range_succ, List.flatMap_append, List.map_append]
      simp
    rintro σ Hb ⟨u3, d, rfl, sab, hdb⟩
    have hdb : Hb d = some (.lst ((tiledN (1 + wd) (1 + hg) st).map V.int)) := hdb
    have tl_ := tiled_len (1 + wd) (1 + hg) st
    have t30 : (1 + hg).toNat * (1 + wd).toNat ≤ 6 * 5 := Nat.mul_le_mul (by omega) wl
    have tl2 := sortU_len (tiledN (1 + wd) (1 + hg) st)
    have tin := tiled_in (w := 1 + wd) (h := 1 + hg) (by omega) (by omega) s0 s1
    have w3 : withinV 1 32 (.int (1 + wd)) = true := decide_eq_true ⟨by omega, by omega⟩
    have w4 : withinV 1 32 (.int (1 + hg)) = true := decide_eq_true ⟨by omega, by omega⟩
    refine ⟨rfl, _, rfl, _, rfl, _, rfl, rfl, _, _, _, _, _, _, rfl, .int _, .int _, .int _, tf w3, (fun _ => tf w4), (fun _ _ => tf w2), fun ww hh pp e1 e2 e3 _ _ _ _ _ _ => ?_⟩
    obtain rfl : 1 + wd = ww := V.int.inj e1
    obtain rfl : 1 + hg = hh := V.int.inj e2
    obtain rfl : st = pp := V.int.inj e3
    refine ⟨by omega, (fun i hi => by rw [off_none tin] at hi; cases hi), fun _ => ⟨(fun big => by omega), fun _ Hc x sc px => ?_⟩⟩
    obtain ⟨dx, xo, x1, x2⟩ := id px
    refine ⟨x, C, dx, _, _, rfl, x1, TU.cl, TU.nO, fs_off _, xo, _, rfl, .inr (SqT.of x2), fun l6 hl6 => ?_⟩
    have s6 := Same.lay (o := .lst ((sortU (tiledN (1 + wd) (1 + hg) st)).map V.int)) hl6
    have g6 : (upd Hc l6 (.lst ((sortU (tiledN (1 + wd) (1 + hg) st)).map V.int))) l6 = some (.lst ((sortU (tiledN (1 + wd) (1 + hg) st)).map V.int)) := upd_same
    have sbd : Same Hb (upd Hc l6 (.lst ((sortU (tiledN (1 + wd) (1 + hg) st)).map V.int))) := fun _ _ z => s6 _ _ (sc _ _ z)
    generalize upd Hc l6 (.lst ((sortU (tiledN (1 + wd) (1 + hg) st)).map V.int)) = Hd at g6 sbd ⊢
    have hdd := sbd _ _ hdb
    refine ⟨_, rfl, d, rfl, ⟨_, SqL.of hdd⟩, fun D hD => ?_⟩
    refine lc_it (walk_list (xs := (tiledN (1 + wd) (1 + hg) st).map V.int)) (fun i G => G = upd Hd D (.lst (((tiledN (1 + wd) (1 + hg) st).take i).map V.int))) rfl (fun i G _ z => by rw [z]; exact SqL.of (Same.lay hD _ _ hdd)) ?_ ?_
    · rintro i x G G' hi rfl ⟨rfl, hx⟩
      rw [List.getElem?_map] at hx
      obtain ⟨n, hn, rfl⟩ := Option.map_eq_some_iff.mp hx
      refine ⟨rfl, _, rfl, .inl ⟨n, rfl, _, upd_same, small_n (by rw [List.length_map, List.length_take]; omega), ?_⟩⟩
      rw [upd_upd, List.take_add_one, hn, List.map_append]
      rfl
    rintro G rfl
    rw [List.length_map, List.take_length]
    refine ⟨D, tiledN (1 + wd) (1 + hg) st, rfl, SqL.of upd_same, by omega, fun S2 hS2 => ?_⟩
    refine ⟨S2, tiledN (1 + wd) (1 + hg) st, rfl, upd_same, by omega, fun L2 hL2 => ?_⟩
    obtain ⟨s7, g7⟩ := three (o3 := .lst ((sortU (tiledN (1 + wd) (1 + hg) st)).map V.int)) hD hS2 hL2
    generalize upd (upd (upd Hd D _) S2 _) L2 _ = He at s7 g7 ⊢
    refine ⟨.list ((sortU (tiledN (1 + wd) (1 + hg) st)).map .int), .list ((sortU (tiledN (1 + wd) (1 + hg) st)).map .int), .lst (SqL.of (s7 _ _ g6)) (dp_ints _), .lst (SqL.of g7) (dp_ints _), shaped_ints _, shaped_ints _, _, rfl, ite_list ?_⟩
    have sae : Same Ha He := fun _ _ z => s7 _ _ (sbd _ _ (sab _ _ z))
    have P11 := pen_same sae P10
    have tb11 := tb10.ext sae
    clear sae s7 g7 hL2 hS2 hD hdd sbd g6 s6 hl6 x1 x2 px sc tin hdb sab P10 tb10 hdu1
    refine ⟨rfl, _, rfl, _, rfl, rfl, _, _, _, _, rfl, .int _, .int _, tf w1, (fun _ => tf w2), fun n s e1 e2 _ _ _ _ Hf u sf pu => ?_⟩
    obtain rfl : 1 + mn = n := V.int.inj e1
    obtain rfl : st = s := V.int.inj e2
    refine ⟨rfl, _, rfl, _, rfl, _, _, _, _, rfl, .int _, .int _, tf w1, (fun _ => tf w2), fun n s e1 e2 _ _ _ _ Hg v sg pv => ?_⟩
    obtain rfl : 1 + mn = n := V.int.inj e1
    obtain rfl : st = s := V.int.inj e2
    obtain ⟨dxu, uo, u1, u2⟩ := id (pu.same sg)
    obtain ⟨dxv, vo, v1', v2'⟩ := id pv
    refine ⟨u, dxu, _, rfl, u1, .ins v1', u, _, .ref v, rfl, pu.same sg, .inl ⟨v, _, rfl, pv, _, rfl, _, rfl, ite_ndf ?_⟩⟩
    have P12 := pen_same (fun _ _ z => sg _ _ (sf _ _ z)) P11
    have tb12 : Tabs (T2 TR_ TL) Hg := tb11.ext (fun _ _ z => sg _ _ (sf _ _ z))
    clear u1 u2 v1' v2' pu pv sg sf P11 tb11
    refine ⟨_, rfl, (by show 1 ≤ PySem.sizeLine; decide), fun t4 ht4 => ⟨1, rfl, _, _, rfl, rfl, ⟨by decide, by decide, by decide⟩, (by show 8 ≤ PySem.sizeLine; decide), fun ok hok => ?_⟩⟩
    have z1 := Same.lay (o := .tup [V.int 4]) ht4
    have z2 := Same.lay (o := .lst [V.non, V.int 0, V.int 33, V.bl true, V.str "4", V.ref t4, V.int (-1), V.int ((10 : Int) ^ (30 : Int).toNat)]) hok
    have nt4 : t4 ≠ p := (ne_of_none P12.pen ht4).symm
    have nok : ok ≠ p := (ne_of_none (z1 _ _ P12.pen) hok).symm
    refine ⟨p, l, ok, ns, a5, b5, _, rfl, pen_same z2 (pen_same z1 P12), by omega, SqL.of upd_same, nok, by show 0 < 8; decide, by show 8 ≤ 1000; decide, fun Hh ix odd a6 b6 hodd h60 h61 bt6 P13 => ?_⟩
    have tb13 := tabs_but (pen_same z2 (pen_same z1 P12)).pen bt6 ((tb12.ext z1).ext z2)
    have ht4' := bt6 _ _ nt4 (z2 _ _ (upd_same (H := Hg) (a := t4)))
    have od : ∃ d, Odd1 Hh odd d := by
      rcases ix with _ | _ | _ | _ | _ | _ | _ | _ | ix
      · obtain rfl := Option.some.inj hodd; exact ⟨_, .non⟩
      · obtain rfl := Option.some.inj hodd; exact ⟨_, .int _⟩
      · obtain rfl := Option.some.inj hodd; exact ⟨_, .int _⟩
      · obtain rfl := Option.some.inj hodd; exact ⟨_, .bl _⟩
      · obtain rfl := Option.some.inj hodd; exact ⟨_, .str _ (by decide +kernel)⟩
      · obtain rfl := Option.some.inj hodd; exact ⟨_, .tup ht4'⟩
      · obtain rfl := Option.some.inj hodd; exact ⟨_, .int _⟩
      · obtain rfl := Option.some.inj hodd; exact ⟨_, .int _⟩
      · cases hodd
    have wo : withinV 1 32 odd = false := by
      rcases ix with _ | _ | _ | _ | _ | _ | _ | _ | ix
      · obtain rfl := Option.some.inj hodd; rfl
      · obtain rfl := Option.some.inj hodd; rfl
      · obtain rfl := Option.some.inj hodd; rfl
      · obtain rfl := Option.some.inj hodd; rfl
      · obtain rfl := Option.some.inj hodd; rfl
      · obtain rfl := Option.some.inj hodd; rfl
      · obtain rfl := Option.some.inj hodd; rfl
      · obtain rfl := Option.some.inj hodd; decide +kernel
      · cases hodd
    clear hodd ht4' bt6 z1 z2 hok ht4 P12 tb12 nt4 nok
    refine ⟨_, rfl, 1, rfl, (by show 1 ≤ PySem.sizeLine; decide), fun t4 ht4 => ⟨_, _, rfl, rfl, ⟨by decide, by decide, by decide⟩, _, _, rfl, rfl, _, _, rfl, rfl, ⟨by decide, by decide, by decide⟩, (by show 7 ≤ PySem.sizeLine; decide), fun ok hok => ?_⟩⟩
    have z1 := Same.lay (o := .tup [V.int 1]) ht4
    have z2 := Same.lay (o := .lst [V.non, V.int (-1), V.bl true, V.str "1", V.ref t4, V.int ((10 : Int) ^ (28 : Int).toNat + 1), V.int ((10 : Int) ^ (38 : Int).toNat)]) hok
    have nt4 : t4 ≠ p := (ne_of_none P13.pen ht4).symm
    have nok : ok ≠ p := (ne_of_none (z1 _ _ P13.pen) hok).symm
    refine ⟨p, l, ok, ns, a6, b6, _, rfl, pen_same z2 (pen_same z1 P13), by omega, SqL.of upd_same, nok, by show 0 < 7; decide, by show 7 ≤ 1000; decide, fun Hi ix bad a7 b7 hbad h70 h71 bt7 P14 => ?_⟩
    have tb14 := tabs_but (pen_same z2 (pen_same z1 P13)).pen bt7 ((tb13.ext z1).ext z2)
    have ht4' := bt7 _ _ nt4 (z2 _ _ (upd_same (H := Hh) (a := t4)))
    have od2 : ∃ d, Odd1 Hi odd d := od.imp fun _ h => h.keep fun t xs z => bt7 _ _ (fun e => by rw [e, P13.pen] at z; cases z) (z2 _ _ (z1 _ _ z))
    have bd : ∃ d, Odd1 Hi bad d := by
      rcases ix with _ | _ | _ | _ | _ | _ | _ | ix
      · obtain rfl := Option.some.inj hbad; exact ⟨_, .non⟩
      · obtain rfl := Option.some.inj hbad; exact ⟨_, .int _⟩
      · obtain rfl := Option.some.inj hbad; exact ⟨_, .bl _⟩
      · obtain rfl := Option.some.inj hbad; exact ⟨_, .str _ (by decide +kernel)⟩
      · obtain rfl := Option.some.inj hbad; exact ⟨_, .tup ht4'⟩
      · obtain rfl := Option.some.inj hbad; exact ⟨_, .int _⟩
      · obtain rfl := Option.some.inj hbad; exact ⟨_, .int _⟩
      · cases hbad
    have wb : withinV 0 (10 ^ 28) bad = false ∧ (withinV 0 (10 ^ 30) bad = false ∨ bad = .int (10 ^ 28 + 1)) := by
      rcases ix with _ | _ | _ | _ | _ | _ | _ | ix
      · obtain rfl := Option.some.inj hbad; exact ⟨rfl, .inl rfl⟩
      · obtain rfl := Option.some.inj hbad; exact ⟨rfl, .inl rfl⟩
      · obtain rfl := Option.some.inj hbad; exact ⟨rfl, .inl rfl⟩
      · obtain rfl := Option.some.inj hbad; exact ⟨rfl, .inl rfl⟩
      · obtain rfl := Option.some.inj hbad; exact ⟨rfl, .inl rfl⟩
      · obtain rfl := Option.some.inj hbad; exact ⟨by decide +kernel, .inr rfl⟩
      · obtain rfl := Option.some.inj hbad; exact ⟨by decide +kernel, .inl (by decide +kernel)⟩
      · cases hbad
    obtain ⟨wb, wb2⟩ := wb
    clear hbad ht4' bt7 z1 z2 hok ht4 P13 tb13 nt4 nok od
    -- the first call that is heard
    have e28 : Hi = Hi := rfl
    have pl2 : ∀ {G : Hp}, Same Hi G → True := fun _ => trivial
    refine ⟨tb14, fun Hj ej tbj => ?_⟩
    have odj : ∃ d, Odd1 Hj odd d := od2.imp fun _ h => h.keep fun t xs z => ej _ _ z fun _ y => by cases y
    have bdj : ∃ d, Odd1 Hj bad d := bd.imp fun _ h => h.keep fun t xs z => ej _ _ z fun _ y => by cases y
    obtain ⟨So, po⟩ := odj.choose_spec.plain (K := K)
    obtain ⟨Sb, pb⟩ := bdj.choose_spec.plain (K := K)
    have P15 := pen_ext ej P14
    refine ⟨rfl, _, rfl, _, rfl, _, _, _, _, rfl, po, pb, fun _ dd Hk hd sk hx => ?_, (fun z => tf z wo), fun n s e1 e2 n0 n1 _ _ => absurd (show withinV 1 32 odd = true by rw [show odd = V.int n from e1]; exact decide_eq_true ⟨n0, n1⟩) (by rw [wo]; exact fun z => nomatch z)⟩
    refine ⟨_, _, told_tile hx (shows_str (w := "'lanes'") (by decide +kernel) (by decide +kernel) (by decide +kernel)), fun Hl q1 sl hq1 => ⟨(by show 1 ≤ PySem.sizeLine; decide), fun hh hhh => ?_⟩⟩
    have skl : Same Hj Hl := fun _ _ z => sl _ _ (sk _ _ z)
    have K1 : KS TR_ TL p l ns a7 b7 odd bad hh [.ref q1] [("tile", "'lanes'")] (upd Hl hh (.lst [.ref q1])) := by
      have k0 : KS TR_ TL p l ns a7 b7 odd bad hh [.ref q1] [("tile", "'lanes'")] (upd Hl hh (.lst [.ref q1])) :=
        ⟨pen_same (Same.lay hhh) (pen_same skl P15), (tbj.ext skl).ext (Same.lay hhh), odj.imp fun _ h => h.keep fun _ _ z => Same.lay hhh _ _ (skl _ _ z), bdj.imp fun _ h => h.keep fun _ _ z => Same.lay hhh _ _ (skl _ _ z), upd_same, .cons (Same.lay hhh _ _ hq1) .nil, (ne_of_none (skl _ _ P15.pen) hhh).symm, (ne_of_none (skl _ _ P15.cells) hhh).symm⟩
      exact k0
    generalize upd Hl hh (.lst [.ref q1]) = G1 at K1 ⊢
    have l1 : ([V.ref q1] : List V).length = 1 := rfl
    generalize [V.ref q1] = r1 at K1 l1
    clear hhh skl hq1 sl sk hx hd P15 pb po bdj odj ej tbj tb14 P14 od2 bd e28 pl2
    have eb : (PyData.str "stride").showable = true := by decide +kernel
    -- 2: stride
    refine app_step (CT := CT) (CN := CN) (CM := CM) (K := K) (x := "tile") (y := "'stride'") K1 rfl (by omega) (fun H1 E Q k1 hE => ?_) (fun G2 r2 a8 b8 K2 l2 h80 h81 => ?_)
    · obtain ⟨Sb, pb⟩ := k1.fb.choose_spec.plain (K := K)
      exact ⟨rfl, _, rfl, _, _, _, _, rfl, .int _, pb, tf (by decide +kernel), (fun _ _ dd Hk hd sk hx => hE _ _ _ _ _ (told_tile hx (shows_str (by decide +kernel) (by decide +kernel) (by decide +kernel))) (k1.same sk) (by omega) (by omega)), fun n s e1 e2 _ _ s0 s1 => absurd (show withinV 0 (10 ^ 28) bad = true by rw [show bad = V.int s from e2]; exact decide_eq_true ⟨s0, s1⟩) (by rw [wb]; exact fun z => nomatch z)⟩
    -- 3: width
    refine app_step (CT := CT) (CN := CN) (CM := CM) (K := K) (x := "tile") (y := "'width'") K2 rfl (by omega) (fun H1 E Q k1 hE => ?_) (fun G3 r3 a9 b9 K3 l3 h90 h91 => ?_)
    · obtain ⟨Sb, pb⟩ := k1.fb.choose_spec.plain (K := K)
      obtain ⟨So, po⟩ := k1.fo.choose_spec.plain (K := K)
      exact ⟨rfl, _, rfl, _, rfl, _, rfl, _, _, _, _, _, _, rfl, po, po, pb, (fun _ dd Hk hd sk hx => hE _ _ _ _ _ (told_tile hx (shows_str (by decide +kernel) (by decide +kernel) (by decide +kernel))) (k1.same sk) (by omega) (by omega)), (fun z => tf z wo), (fun z => tf z wo), fun w' h' p' e1 _ _ m0 m1 _ _ _ _ => absurd (show withinV 1 32 odd = true by rw [show odd = V.int w' from e1]; exact decide_eq_true ⟨m0, m1⟩) (by rw [wo]; exact fun z => nomatch z)⟩
    -- 4: height
    refine app_step (CT := CT) (CN := CN) (CM := CM) (K := K) (x := "tile") (y := "'height'") K3 rfl (by omega) (fun H1 E Q k1 hE => ?_) (fun G4 r4 aa bb K4 l4 ha0 ha1 => ?_)
    · obtain ⟨Sb, pb⟩ := k1.fb.choose_spec.plain (K := K)
      obtain ⟨So, po⟩ := k1.fo.choose_spec.plain (K := K)
      exact ⟨rfl, _, rfl, _, rfl, _, _, _, _, _, _, rfl, .int _, po, pb, tf (by decide +kernel), (fun _ _ dd Hk hd sk hx => hE _ _ _ _ _ (told_tile hx (shows_str (by decide +kernel) (by decide +kernel) (by decide +kernel))) (k1.same sk) (by omega) (by omega)), (fun _ z => tf z wo), fun w' h' p' _ e2 _ _ _ m0 m1 _ _ => absurd (show withinV 1 32 odd = true by rw [show odd = V.int h' from e2]; exact decide_eq_true ⟨m0, m1⟩) (by rw [wo]; exact fun z => nomatch z)⟩
    -- 5: pitch
    refine app_step (CT := CT) (CN := CN) (CM := CM) (K := K) (x := "tile") (y := "'pitch'") K4 rfl (by omega) (fun H1 E Q k1 hE => ?_) (fun G5 r5 ab bb5 K5 l5 hb0 hb1 => ?_)
    · obtain ⟨Sb, pb⟩ := k1.fb.choose_spec.plain (K := K)
      exact ⟨rfl, _, rfl, _, _, _, _, _, _, rfl, .int _, .int _, pb, tf (by decide +kernel), (fun _ => tf (by decide +kernel)), (fun _ _ _ dd Hk hd sk hx => hE _ _ _ _ _ (told_tile hx (shows_str (by decide +kernel) (by decide +kernel) (by decide +kernel))) (k1.same sk) (by omega) (by omega)), fun w' h' p' _ _ e3 _ _ _ _ m0 m1 => absurd (show withinV 0 (10 ^ 28) bad = true by rw [show bad = V.int p' from e3]; exact decide_eq_true ⟨m0, m1⟩) (by rw [wb]; exact fun z => nomatch z)⟩
    -- 6: too many
    refine app_step (CT := CT) (CN := CN) (CM := CM) (K := K) (x := "many") (y := "32") K5 rfl (by omega) (fun H1 E Q k1 hE => ?_) (fun G6 r6 ac bc K6 l6 hc0 hc1 => ?_)
    · have t33 : (sortU (tiledN 11 3 11)).length = 33 := by decide +kernel
      have tin : ∀ z ∈ tiledN 11 3 11, (0 : Int) ≤ z ∧ z ≤ 10 ^ 30 := by decide +kernel
      refine ⟨rfl, _, _, _, _, _, _, rfl, .int _, .int _, .int _, tf (by decide +kernel), (fun _ => tf (by decide +kernel)), (fun _ _ => tf (by decide +kernel)), fun w' h' p' e1 e2 e3 _ _ _ _ _ _ => ?_⟩
      obtain rfl : (11 : Int) = w' := V.int.inj e1
      obtain rfl : (3 : Int) = h' := V.int.inj e2
      obtain rfl : (11 : Int) = p' := V.int.inj e3
      exact ⟨by omega, (fun i hi => by rw [off_none tin] at hi; cases hi), fun _ => ⟨(fun _ dd Hk hd sk hx => hE _ _ _ _ _ (told_many hx (shows_int (by decide +kernel) (by decide +kernel) (by decide +kernel))) (k1.same sk) (by omega) (by omega)), fun few => by omega⟩⟩
    -- 7: the third is bad
    refine app_step (CT := CT) (CN := CN) (CM := CM) (K := K) (x := "tile") (y := "2") K6 rfl (by omega) (fun H1 E Q k1 hE => ?_) (fun G7 r7 ad bd7 K7 l7 hd0 hd1 => ?_)
    · obtain ⟨db, ob⟩ := k1.fb
      obtain ⟨dpb, shb⟩ := ob.dp (K := K)
      have fin : ∀ u : V, withinV 0 (10 ^ 30) u = false → (∀ G, Same H1 G → ∃ S, Plain K G u S) → ∀ x dx, H1 x = none → H1 dx = none → dx ≠ x → spMk CT CM C K [.ref x, .int 0, .int ((10 : Int) ^ (30 : Int).toNat), u, .non] (upd (upd H1 dx (.own x)) x (.ins C dx [])) (fun v H2 => v = .non ∧ Q (.ref x) H2) E := fun u hu hpu => by
        refine make_bad (xs := [.int 0, .int ((10 : Int) ^ (30 : Int).toNat), u, .non]) (i := 2) (fun y hy G sg => ?_) (by show 4 ≤ 4000; decide) (badOff_at (fun j hj => ?_) (by show 2 < 4; decide) hu) (fun dd Hk hd sk hx => hE _ _ _ _ _ (told_tile hx (shows_int (by decide +kernel) (by decide +kernel) (by decide +kernel))) (k1.same sk) (by omega) (by omega))
        · simp only [List.mem_cons, List.not_mem_nil, or_false] at hy
          rcases hy with rfl | rfl | rfl | rfl
          · exact ⟨_, .int _⟩
          · exact ⟨_, .int _⟩
          · exact hpu G sg
          · exact ⟨_, .non⟩
        · match j, hj with
          | 0, _ => exact (by decide +kernel : withinV 0 (10 ^ 30) (.int 0) = true)
          | 1, _ => exact (by decide +kernel : withinV 0 (10 ^ 30) (.int ((10 : Int) ^ (30 : Int).toNat)) = true)
      refine ⟨_, _, rfl, rfl, ⟨by decide, by decide, by decide⟩, _, rfl, _, _, rfl, rfl, ⟨by decide, by decide, by decide⟩, _, _, rfl, rfl, db, .int ((10 : Int) ^ (28 : Int).toNat + 1), dpb, .int _, shb, rfl, _, rfl, ?_⟩
      cases he : PyData.eqv db (.int ((10 : Int) ^ (28 : Int).toNat + 1)) with
      | true => exact iteF ⟨_, _, rfl, rfl, ⟨by decide, by decide, by decide⟩, _, _, rfl, rfl, fin _ (by decide +kernel) (fun G _ => ⟨_, .int _⟩)⟩
      | false =>
        have hu : withinV 0 (10 ^ 30) bad = false := by
          rcases wb2 with h | h
          · exact h
          · rw [h] at ob
            cases ob
            exact absurd he (by decide +kernel)
        exact iteT ⟨_, rfl, fin bad hu (fun G sg => (ob.keep fun _ _ z => sg _ _ z).plain)⟩
    -- 8: none
    refine app_step (CT := CT) (CN := CN) (CM := CM) (K := K) (x := "tile") (y := "'offsets'") K7 rfl (by omega) (fun H1 E Q k1 hE => ?_) (fun G8 r8 ae be K8 l8 he0 he1 => ?_)
    · exact make_none (fun dd Hk hd sk hx => hE _ _ _ _ _ (told_tile hx (shows_str (by decide +kernel) (by decide +kernel) (by decide +kernel))) (k1.same sk) (by omega) (by omega))
    -- 9: |
    refine app_step (CT := CT) (CN := CN) (CM := CM) (K := K) (x := "tile") (y := "'other'") K8 rfl (by omega) (fun H1 E Q k1 hE => ?_) (fun G9 r9 af bf K9 l9 hf0 hf1 => ?_)
    · unfold tOp
      refine mk_one (by decide) (by decide) fun H2 m s2 pm => ?_
      have k2 := k1.same s2
      refine pick_other k2 rfl (by omega) fun H3 v S a' b' pv k3 hl hr bt => ?_
      have pm3 := pat_but k2.pen.pen bt pm
      obtain ⟨dx, po, m1, m2⟩ := id pm3
      exact ⟨m, dx, _, rfl, m1, .inr ⟨S, pv⟩, m, [0], v, rfl, pm3, (fun z => nomatch z), by decide, .inr ⟨S, pv, fun dd Hk hd sk hx => hE _ _ _ _ _ (told_tile hx (shows_str (by decide +kernel) (by decide +kernel) (by decide +kernel))) (k3.same sk) hl hr⟩⟩
    -- 10: <=
    refine app_step (CT := CT) (CN := CN) (CM := CM) (K := K) (x := "tile") (y := "'other'") K9 rfl (by omega) (fun H1 E Q k1 hE => ?_) (fun G10 r10 ag bg K10 l10 hg0 hg1 => ?_)
    · unfold tOp
      refine mk_one (by decide) (by decide) fun H2 m s2 pm => ?_
      have k2 := k1.same s2
      refine pick_other k2 rfl (by omega) fun H3 v S a' b' pv k3 hl hr bt => ?_
      have pm3 := pat_but k2.pen.pen bt pm
      obtain ⟨dx, po, m1, m2⟩ := id pm3
      exact ⟨m, dx, _, rfl, m1, .inr ⟨S, pv⟩, m, [0], v, rfl, pm3, by decide, .inr ⟨S, pv, fun dd Hk hd sk hx => hE _ _ _ _ _ (told_tile hx (shows_str (by decide +kernel) (by decide +kernel) (by decide +kernel))) (k3.same sk) hl hr⟩⟩
    -- a wrong number
    refine ⟨_, rfl, 1, rfl, _, _, rfl, rfl, ⟨by decide, by decide, by decide⟩, _, _, rfl, rfl, (by show 5 ≤ PySem.sizeLine; decide), fun ok hok => ?_⟩
    have z2 := Same.lay (o := .lst [V.non, V.int (-1), V.bl true, V.str "1", V.int ((10 : Int) ^ (30 : Int).toNat + 1)]) hok
    have nok : ok ≠ p := (ne_of_none K10.pen.pen hok).symm
    refine ⟨p, l, ok, ns, ag, bg, _, rfl, (K10.same z2).pen, by omega, SqL.of upd_same, nok, by show 0 < 5; decide, by show 5 ≤ 1000; decide, fun Gw ix wv ah bh hwv hh0 hh1 bth Pw => ?_⟩
    have Kw := (K10.same z2).but bth Pw
    obtain ⟨wz, hw⟩ : ∃ z, WrongV wv z := by
      rcases ix with _ | _ | _ | _ | _ | ix
      · obtain rfl := Option.some.inj hwv
        exact wrong_of (fun _ => .d0 .non) (fun _ => .non) (by decide +kernel) (by decide) (by decide +kernel) rfl (by decide +kernel)
      · obtain rfl := Option.some.inj hwv
        exact wrong_of (fun _ => .d0 (.int _)) (fun _ => .int _) (by decide +kernel) (by decide) (by decide +kernel) rfl (by decide +kernel)
      · obtain rfl := Option.some.inj hwv
        exact wrong_of (fun _ => .d0 (.bl _)) (fun _ => .bl _) (by decide +kernel) (by decide) (by decide +kernel) rfl (by decide +kernel)
      · obtain rfl := Option.some.inj hwv
        exact wrong_of (fun _ => .d0 (.str _)) (fun _ => .str _ (by decide +kernel)) (by decide +kernel) (by decide) (by decide +kernel) rfl (by decide +kernel)
      · obtain rfl := Option.some.inj hwv
        exact wrong_of (fun _ => .d0 (.int _)) (fun _ => .int _) (by decide +kernel) (by decide) (by decide +kernel) (by decide +kernel) (by decide +kernel)
      · cases hwv
    have Kw := Kw.odds (hw.odd _) (hw.odd _)
    clear hwv bth z2 hok K10
    -- 11: + a wrong number
    refine app_step (CT := CT) (CN := CN) (CM := CM) (K := K) (x := "number") (y := wz) Kw rfl (by omega) (fun H1 E Q k1 hE => ?_) (fun G11 r11 ai bi K11 l11 hi0 hi1 => ?_)
    · unfold tOp
      refine mk_one (by decide) (by decide) fun H2 m s2 pm => ?_
      obtain ⟨dx, po, m1, m2⟩ := id pm
      obtain ⟨Sw, pw⟩ := (hw.odd H2).choose_spec.plain (K := K)
      have k2 := k1.same s2
      exact ⟨_, rfl, m, dx, _, rfl, m1, .inr ⟨Sw, pw⟩, m, [1], wv, Sw, rfl, pm, (fun z => nomatch z), by decide, pw, (fun _ dd Hk hd sk hx => hE _ _ _ _ _ (told_number hx (hw.dat _)) (k2.same sk) (by omega) (by omega)), fun n e n0 n1 => absurd (show withinV 0 (10 ^ 30) wv = true by rw [e]; exact decide_eq_true ⟨n0, n1⟩) (by rw [hw.out]; exact fun z => nomatch z)⟩
    -- 12: + beyond the greatest
    refine app_step (CT := CT) (CN := CN) (CM := CM) (K := K) (x := "tile") (y := "0") K11 rfl (by omega) (fun H1 E Q k1 hE => ?_) (fun G12 r12 aj bj K12 l12 hj0 hj1 => ?_)
    · unfold tOp
      refine mk_one (by decide) (by decide) fun H2 m s2 pm => ?_
      obtain ⟨dx, po, m1, m2⟩ := id pm
      have k2 := k1.same s2
      refine ⟨_, _, rfl, rfl, ⟨by decide, by decide, by decide⟩, m, dx, _, rfl, m1, .inr ⟨_, .int _⟩, m, [1], .int ((10 : Int) ^ (30 : Int).toNat), _, rfl, pm, (fun z => nomatch z), by decide, .int _, tf (by decide +kernel), fun n e n0 n1 => ?_⟩
      obtain rfl : (10 : Int) ^ (30 : Int).toNat = n := V.int.inj e
      have hb0 : badOff (([1].map fun z => z + (10 : Int) ^ (30 : Int).toNat).map V.int) = some 0 := by decide +kernel
      refine ⟨fun i hi dd Hk hd sk hx => ?_, fun hn => ?_⟩
      · obtain rfl : 0 = i := Option.some.inj (hb0.symm.trans hi)
        exact hE _ _ _ _ _ (told_tile hx (shows_int (by decide +kernel) (by decide +kernel) (by decide +kernel))) (k2.same sk) (by omega) (by omega)
      · rw [hb0] at hn
        cases hn
    -- what is due
    refine ⟨(by show 2 ≤ PySem.sizeLine; decide), fun t1 ht1 => ⟨(by show 2 ≤ PySem.sizeLine; decide), fun t2 ht2 => ⟨(by show 2 ≤ PySem.sizeLine; decide), fun t3 ht3 => ⟨(by show 2 ≤ PySem.sizeLine; decide), fun t4 ht4 => ⟨(by show 2 ≤ PySem.sizeLine; decide), fun t5 ht5 => ⟨(by show 2 ≤ PySem.sizeLine; decide), fun t6 ht6 => ⟨(by show 6 ≤ PySem.sizeLine; decide), fun La hLa => ?_⟩⟩⟩⟩⟩⟩⟩
    have y1 := Same.lay (o := .tup [V.str "tile", V.str "'lanes'"]) ht1
    have K12 := K12.same y1
    have g1 : (upd G12 t1 (.tup [V.str "tile", V.str "'lanes'"])) t1 = _ := upd_same
    generalize upd G12 t1 (.tup [V.str "tile", V.str "'lanes'"]) = E1 at K12 g1 ht2 ht3 ht4 ht5 ht6 hLa ⊢
    have y2 := Same.lay (o := .tup [V.str "tile", V.str "'stride'"]) ht2
    have K12 := K12.same y2
    have g2 : (upd E1 t2 (.tup [V.str "tile", V.str "'stride'"])) t2 = _ := upd_same
    have g1 := y2 _ _ g1
    generalize upd E1 t2 (.tup [V.str "tile", V.str "'stride'"]) = E2 at K12 g1 g2 ht3 ht4 ht5 ht6 hLa ⊢
    have y3 := Same.lay (o := .tup [V.str "tile", V.str "'width'"]) ht3
    have K12 := K12.same y3
    have g3 : (upd E2 t3 (.tup [V.str "tile", V.str "'width'"])) t3 = _ := upd_same
    have g1 := y3 _ _ g1
    have g2 := y3 _ _ g2
    generalize upd E2 t3 (.tup [V.str "tile", V.str "'width'"]) = E3 at K12 g1 g2 g3 ht4 ht5 ht6 hLa ⊢
    have y4 := Same.lay (o := .tup [V.str "tile", V.str "'height'"]) ht4
    have K12 := K12.same y4
    have g4 : (upd E3 t4 (.tup [V.str "tile", V.str "'height'"])) t4 = _ := upd_same
    have g1 := y4 _ _ g1
    have g2 := y4 _ _ g2
    have g3 := y4 _ _ g3
    generalize upd E3 t4 (.tup [V.str "tile", V.str "'height'"]) = E4 at K12 g1 g2 g3 g4 ht5 ht6 hLa ⊢
    have y5 := Same.lay (o := .tup [V.str "tile", V.str "'pitch'"]) ht5
    have K12 := K12.same y5
    have g5 : (upd E4 t5 (.tup [V.str "tile", V.str "'pitch'"])) t5 = _ := upd_same
    have g1 := y5 _ _ g1
    have g2 := y5 _ _ g2
    have g3 := y5 _ _ g3
    have g4 := y5 _ _ g4
    generalize upd E4 t5 (.tup [V.str "tile", V.str "'pitch'"]) = E5 at K12 g1 g2 g3 g4 g5 ht6 hLa ⊢
    have y6 := Same.lay (o := .tup [V.str "many", V.str "32"]) ht6
    have K12 := K12.same y6
    have g6 : (upd E5 t6 (.tup [V.str "many", V.str "32"])) t6 = _ := upd_same
    have g1 := y6 _ _ g1
    have g2 := y6 _ _ g2
    have g3 := y6 _ _ g3
    have g4 := y6 _ _ g4
    have g5 := y6 _ _ g5
    generalize upd E5 t6 (.tup [V.str "many", V.str "32"]) = E6 at K12 g1 g2 g3 g4 g5 g6 hLa ⊢
    have y7 := Same.lay (o := .lst [V.ref t1, V.ref t2, V.ref t3, V.ref t4, V.ref t5, V.ref t6]) hLa
    have K12 := K12.same y7
    have g1 := y7 _ _ g1
    have g2 := y7 _ _ g2
    have g3 := y7 _ _ g3
    have g4 := y7 _ _ g4
    have g5 := y7 _ _ g5
    have g6 := y7 _ _ g6
    have gLa : (upd E6 La (.lst [V.ref t1, V.ref t2, V.ref t3, V.ref t4, V.ref t5, V.ref t6])) La = some (.lst [V.ref t1, V.ref t2, V.ref t3, V.ref t4, V.ref t5, V.ref t6]) := upd_same
    change gName 6 (V.ref La) _ (upd E6 La (.lst [V.ref t1, V.ref t2, V.ref t3, V.ref t4, V.ref t5, V.ref t6])) _
    generalize upd E6 La (.lst [V.ref t1, V.ref t2, V.ref t3, V.ref t4, V.ref t5, V.ref t6]) = E7 at K12 gLa g1 g2 g3 g4 g5 g6 ⊢
    refine ⟨_, rfl, (by show 2 ≤ PySem.sizeLine; decide), fun t8 ht8 => ⟨(by show 2 ≤ PySem.sizeLine; decide), fun t9 ht9 => ⟨(by show 2 ≤ PySem.sizeLine; decide), fun t10 ht10 => ⟨(by show 2 ≤ PySem.sizeLine; decide), fun t11 ht11 => ?_⟩⟩⟩⟩
    have y8 := Same.lay (o := .tup [V.str "tile", V.str "2"]) ht8
    have K12 := K12.same y8
    have g8 : (upd E7 t8 (.tup [V.str "tile", V.str "2"])) t8 = _ := upd_same
    have g1 := y8 _ _ g1
    have g2 := y8 _ _ g2
    have g3 := y8 _ _ g3
    have g4 := y8 _ _ g4
    have g5 := y8 _ _ g5
    have g6 := y8 _ _ g6
    have gLa := y8 _ _ gLa
    generalize upd E7 t8 (.tup [V.str "tile", V.str "2"]) = E8 at K12 g1 g2 g3 g4 g5 g6 gLa g8 ht9 ht10 ht11 ⊢
    have y9 := Same.lay (o := .tup [V.str "tile", V.str "'offsets'"]) ht9
    have K12 := K12.same y9
    have g9 : (upd E8 t9 (.tup [V.str "tile", V.str "'offsets'"])) t9 = _ := upd_same
    have g1 := y9 _ _ g1
    have g2 := y9 _ _ g2
    have g3 := y9 _ _ g3
    have g4 := y9 _ _ g4
    have g5 := y9 _ _ g5
    have g6 := y9 _ _ g6
    have gLa := y9 _ _ gLa
    have g8 := y9 _ _ g8
    generalize upd E8 t9 (.tup [V.str "tile", V.str "'offsets'"]) = E9 at K12 g1 g2 g3 g4 g5 g6 gLa g8 g9 ht10 ht11 ⊢
    have y10 := Same.lay (o := .tup [V.str "tile", V.str "'other'"]) ht10
    have K12 := K12.same y10
    have g10 : (upd E9 t10 (.tup [V.str "tile", V.str "'other'"])) t10 = _ := upd_same
    have g1 := y10 _ _ g1
    have g2 := y10 _ _ g2
    have g3 := y10 _ _ g3
    have g4 := y10 _ _ g4
    have g5 := y10 _ _ g5
    have g6 := y10 _ _ g6
    have gLa := y10 _ _ gLa
    have g8 := y10 _ _ g8
    have g9 := y10 _ _ g9
    generalize upd E9 t10 (.tup [V.str "tile", V.str "'other'"]) = E10 at K12 g1 g2 g3 g4 g5 g6 gLa g8 g9 g10 ht11 ⊢
    have y11 := Same.lay (o := .tup [V.str "tile", V.str "'other'"]) ht11
    have K12 := K12.same y11
    have g11 : (upd E10 t11 (.tup [V.str "tile", V.str "'other'"])) t11 = _ := upd_same
    have g1 := y11 _ _ g1
    have g2 := y11 _ _ g2
    have g3 := y11 _ _ g3
    have g4 := y11 _ _ g4
    have g5 := y11 _ _ g5
    have g6 := y11 _ _ g6
    have gLa := y11 _ _ gLa
    have g8 := y11 _ _ g8
    have g9 := y11 _ _ g9
    have g10 := y11 _ _ g10
    generalize upd E10 t11 (.tup [V.str "tile", V.str "'other'"]) = E11 at K12 g1 g2 g3 g4 g5 g6 gLa g8 g9 g10 g11 ⊢
    obtain ⟨dw, d1, d2, d3, d4, d5⟩ := hw.dat E11
    refine ⟨_, rfl, wv, dw, rfl, d1.rd.v, d2, d3, d4, (by show 2 ≤ PySem.sizeLine; decide), fun t12 ht12 => ⟨(by show 5 ≤ PySem.sizeLine; decide), fun Lb hLb => ?_⟩⟩
    have y12 := Same.lay (o := .tup [V.str "number", V.str dw.shown]) ht12
    have K12 := K12.same y12
    have g12 : (upd E11 t12 (.tup [V.str "number", V.str dw.shown])) t12 = some (.tup [V.str "number", V.str wz]) := by rw [upd_same, d5]
    have g1 := y12 _ _ g1
    have g2 := y12 _ _ g2
    have g3 := y12 _ _ g3
    have g4 := y12 _ _ g4
    have g5 := y12 _ _ g5
    have g6 := y12 _ _ g6
    have gLa := y12 _ _ gLa
    have g8 := y12 _ _ g8
    have g9 := y12 _ _ g9
    have g10 := y12 _ _ g10
    have g11 := y12 _ _ g11
    generalize upd E11 t12 (.tup [V.str "number", V.str dw.shown]) = E12 at K12 hLb g1 g2 g3 g4 g5 g6 gLa g8 g9 g10 g11 g12 ⊢
    have y13 := Same.lay (o := .lst [V.ref t8, V.ref t9, V.ref t10, V.ref t11, V.ref t12]) hLb
    have K12 := K12.same y13
    have g1 := y13 _ _ g1
    have g2 := y13 _ _ g2
    have g3 := y13 _ _ g3
    have g4 := y13 _ _ g4
    have g5 := y13 _ _ g5
    have g6 := y13 _ _ g6
    have gLa := y13 _ _ gLa
    have g8 := y13 _ _ g8
    have g9 := y13 _ _ g9
    have g10 := y13 _ _ g10
    have g11 := y13 _ _ g11
    have g12 := y13 _ _ g12
    have gLb : (upd E12 Lb (.lst [V.ref t8, V.ref t9, V.ref t10, V.ref t11, V.ref t12])) Lb = some (.lst [V.ref t8, V.ref t9, V.ref t10, V.ref t11, V.ref t12]) := upd_same
    refine ⟨La, Lb, _, _, rfl, rfl, gLa, gLb, (by show 6 + 5 ≤ PySem.sizeLine; decide), fun Lc hLc => ?_⟩
    generalize upd E12 Lb (.lst [V.ref t8, V.ref t9, V.ref t10, V.ref t11, V.ref t12]) = E13 at K12 hLc g1 g2 g3 g4 g5 g6 gLa g8 g9 g10 g11 g12 gLb ⊢
    have y14 := Same.lay (o := .lst ([V.ref t1, V.ref t2, V.ref t3, V.ref t4, V.ref t5, V.ref t6] ++ [V.ref t8, V.ref t9, V.ref t10, V.ref t11, V.ref t12])) hLc
    have K12 := K12.same y14
    have g1 := y14 _ _ g1
    have g2 := y14 _ _ g2
    have g3 := y14 _ _ g3
    have g4 := y14 _ _ g4
    have g5 := y14 _ _ g5
    have g6 := y14 _ _ g6
    have gLa := y14 _ _ gLa
    have g8 := y14 _ _ g8
    have g9 := y14 _ _ g9
    have g10 := y14 _ _ g10
    have g11 := y14 _ _ g11
    have g12 := y14 _ _ g12
    have gLb := y14 _ _ gLb
    have gLc : (upd E13 Lc (.lst ([V.ref t1, V.ref t2, V.ref t3, V.ref t4, V.ref t5, V.ref t6] ++ [V.ref t8, V.ref t9, V.ref t10, V.ref t11, V.ref t12]))) Lc = some (.lst ([V.ref t1, V.ref t2, V.ref t3, V.ref t4, V.ref t5, V.ref t6] ++ [V.ref t8, V.ref t9, V.ref t10, V.ref t11, V.ref t12])) := upd_same
    change gName 6 (V.ref Lc) _ (upd E13 Lc (.lst ([V.ref t1, V.ref t2, V.ref t3, V.ref t4, V.ref t5, V.ref t6] ++ [V.ref t8, V.ref t9, V.ref t10, V.ref t11, V.ref t12]))) _
    generalize upd E13 Lc (.lst ([V.ref t1, V.ref t2, V.ref t3, V.ref t4, V.ref t5, V.ref t6] ++ [V.ref t8, V.ref t9, V.ref t10, V.ref t11, V.ref t12])) = E14 at K12 g1 g2 g3 g4 g5 g6 gLa g8 g9 g10 g11 g12 gLb gLc ⊢
    refine ⟨_, rfl, _, rfl, (by show 2 ≤ PySem.sizeLine; decide), fun t15 ht15 => ⟨(by show 1 ≤ PySem.sizeLine; decide), fun Ld hLd => ⟨Lc, Ld, _, _, rfl, rfl, Same.lay hLd _ _ (Same.lay ht15 _ _ gLc), upd_same, (by show 11 + 1 ≤ PySem.sizeLine; decide), fun Le hLe => ?_⟩⟩⟩
    have y15 := Same.lay (o := .tup [V.str "tile", V.str "0"]) ht15
    have g15 : (upd E14 t15 (.tup [V.str "tile", V.str "0"])) t15 = some (.tup [V.str "tile", V.str "0"]) := upd_same
    have y16 := Same.lay (o := .lst [V.ref t15]) hLd
    have y17 := Same.lay (o := .lst (([V.ref t1, V.ref t2, V.ref t3, V.ref t4, V.ref t5, V.ref t6] ++ [V.ref t8, V.ref t9, V.ref t10, V.ref t11, V.ref t12]) ++ [V.ref t15])) hLe
    have s147 : Same E14 (upd (upd (upd E14 t15 (.tup [V.str "tile", V.str "0"])) Ld (.lst [V.ref t15])) Le (.lst (([V.ref t1, V.ref t2, V.ref t3, V.ref t4, V.ref t5, V.ref t6] ++ [V.ref t8, V.ref t9, V.ref t10, V.ref t11, V.ref t12]) ++ [V.ref t15]))) := fun _ _ z => y17 _ _ (y16 _ _ (y15 _ _ z))
    have K12 := K12.same s147
    have g15 := y17 _ _ (y16 _ _ g15)
    have g1 := s147 _ _ g1
    have g2 := s147 _ _ g2
    have g3 := s147 _ _ g3
    have g4 := s147 _ _ g4
    have g5 := s147 _ _ g5
    have g6 := s147 _ _ g6
    have gLa := s147 _ _ gLa
    have g8 := s147 _ _ g8
    have g9 := s147 _ _ g9
    have g10 := s147 _ _ g10
    have g11 := s147 _ _ g11
    have g12 := s147 _ _ g12
    have gLb := s147 _ _ gLb
    have gLc := s147 _ _ gLc
    have gLe : (upd (upd (upd E14 t15 (.tup [V.str "tile", V.str "0"])) Ld (.lst [V.ref t15])) Le (.lst (([V.ref t1, V.ref t2, V.ref t3, V.ref t4, V.ref t5, V.ref t6] ++ [V.ref t8, V.ref t9, V.ref t10, V.ref t11, V.ref t12]) ++ [V.ref t15]))) Le = some (.lst (([V.ref t1, V.ref t2, V.ref t3, V.ref t4, V.ref t5, V.ref t6] ++ [V.ref t8, V.ref t9, V.ref t10, V.ref t11, V.ref t12]) ++ [V.ref t15])) := upd_same
    generalize upd (upd (upd E14 t15 (.tup [V.str "tile", V.str "0"])) Ld (.lst [V.ref t15])) Le (.lst (([V.ref t1, V.ref t2, V.ref t3, V.ref t4, V.ref t5, V.ref t6] ++ [V.ref t8, V.ref t9, V.ref t10, V.ref t11, V.ref t12]) ++ [V.ref t15])) = E15 at K12 g15 gLe g1 g2 g3 g4 g5 g6 gLa g8 g9 g10 g11 g12 gLb gLc ⊢
    have R1 : RowsAt E15 r12 [("tile", "'lanes'"), ("tile", "'stride'"), ("tile", "'width'"), ("tile", "'height'"), ("tile", "'pitch'"), ("many", "32"), ("tile", "2"), ("tile", "'offsets'"), ("tile", "'other'"), ("tile", "'other'"), ("number", wz), ("tile", "0")] := K12.rows
    have R2 : RowsAt E15 (([V.ref t1, V.ref t2, V.ref t3, V.ref t4, V.ref t5, V.ref t6] ++ [V.ref t8, V.ref t9, V.ref t10, V.ref t11, V.ref t12]) ++ [V.ref t15]) [("tile", "'lanes'"), ("tile", "'stride'"), ("tile", "'width'"), ("tile", "'height'"), ("tile", "'pitch'"), ("many", "32"), ("tile", "2"), ("tile", "'offsets'"), ("tile", "'other'"), ("tile", "'other'"), ("number", wz), ("tile", "0")] := .cons g1 (.cons g2 (.cons g3 (.cons g4 (.cons g5 (.cons g6 (.cons g8 (.cons g9 (.cons g10 (.cons g11 (.cons g12 (.cons g15 .nil)))))))))))
    have shp : SeqAt.shaped (.list (List.map rowD [("tile", "'lanes'"), ("tile", "'stride'"), ("tile", "'width'"), ("tile", "'height'"), ("tile", "'pitch'"), ("many", "32"), ("tile", "2"), ("tile", "'offsets'"), ("tile", "'other'"), ("tile", "'other'"), ("number", wz), ("tile", "0")])) = true := rows_shaped fun p hp => by
      simp only [List.mem_cons, List.not_mem_nil, or_false] at hp
      rcases hp with rfl | rfl | rfl | rfl | rfl | rfl | rfl | rfl | rfl | rfl | rfl | rfl <;> first | exact ⟨by decide +kernel, by decide +kernel⟩ | exact ⟨(by show PyData.strOk "number" = true; decide +kernel), hw.ok⟩
    refine ⟨.list (List.map rowD [("tile", "'lanes'"), ("tile", "'stride'"), ("tile", "'width'"), ("tile", "'height'"), ("tile", "'pitch'"), ("many", "32"), ("tile", "2"), ("tile", "'offsets'"), ("tile", "'other'"), ("tile", "'other'"), ("number", wz), ("tile", "0")]), .list (List.map rowD [("tile", "'lanes'"), ("tile", "'stride'"), ("tile", "'width'"), ("tile", "'height'"), ("tile", "'pitch'"), ("many", "32"), ("tile", "2"), ("tile", "'offsets'"), ("tile", "'other'"), ("tile", "'other'"), ("number", wz), ("tile", "0")]), .lst (SqL.of K12.lay) R1.dp, .lst (SqL.of gLe) R2.dp, shp, shp, ?_⟩
    rw [PySem.SeqAt.eqv_refl _ (SeqAt.canLay_of_shaped shp)]
    exact k E15 aj bj K12.pen (by omega) (by omega) K12.tb
end
end Toy
set_option maxRecDepth 100000
namespace Toy
open PySem L2 TL LamX ClX StX
abbrev s_law : Stmt := top 27
def spTabs (K : PySem.W.Frag) (ts : List (Addr × Addr)) : Sp := fun vs H Q _ => ∃ (a : Addr) (ns : List Int), vs = [.ref a] ∧ SqL K H a (ns.map V.int) ∧ ns.length ≤ 63 ∧ (∀ z ∈ ns, Builtin.Int.intBits z ≤ 1048576) ∧ (∀ p ∈ ts, H p.2 = some (.tbl #[])) ∧ ∀ H', Q (.bl true) H'
theorem shaped_row {x y : Str} (h : PyData.strOk x = true) (k : PyData.strOk y = true) : SeqAt.shaped (.tuple [.str x, .str y]) = true ∧ PyData.eqv (.tuple [.str x, .str y]) (.tuple [.str x, .str y]) = true := by
  constructor
  · simp [SeqAt.shaped, PyData.canLay0, PyData.canLayAll0, PyData.depth, PyData.depthAll, h, k]
  · simp [PyData.eqv, PyData.eqvAll]
theorem pat_ext {C m : Addr} {H H' : Hp} {ms : List Int} (e : ExtN H H') (h : PatAt C H m ms) : PatAt C H' m ms := by
  obtain ⟨dx, po, h1, h2⟩ := h
  exact ⟨dx, po, e _ _ h1 (fun _ z => by cases z), e _ _ h2 (fun _ z => by cases z)⟩
theorem ti_out {CT CM C : Addr} {H : Hp} {w h p : Int} {Q : VK} {E : XK} (l : (sortU (tiledN w h p)).length ≤ 32) (tin : ∀ z ∈ tiledN w h p, (0 : Int) ≤ z ∧ z ≤ 10 ^ 30)
    (k : ∀ H' x, Same H H' → PatAt C H' x (sortU (tiledN w h p)) → Q (.ref x) H') : (sortU (tiledN w h p)).length < 64 ∧ PatOut CT CM C H (tiledN w h p) Q E :=
  ⟨by omega, (fun i hi => by rw [off_none tin] at hi; cases hi), fun _ => ⟨(fun big => by omega), fun _ H' x s pa => k H' x s pa⟩⟩
theorem t881 : sortU (tiledN 8 8 1) = (List.range 15).map fun (i : Nat) => (0 + ((i : Nat) : Int)) := by decide +kernel
theorem t32 : (sortU (tiledN 32 32 0)).length = 32 := by decide +kernel
theorem t29 : (sortU (tiledN 20 10 1)).length = 29 := by decide +kernel
theorem b881 : ∀ z ∈ tiledN 8 8 1, (0 : Int) ≤ z ∧ z ≤ 10 ^ 30 := by decide +kernel
theorem b32 : ∀ z ∈ tiledN 32 32 0, (0 : Int) ≤ z ∧ z ≤ 10 ^ 30 := by decide +kernel
theorem b29 : ∀ z ∈ tiledN 20 10 1, (0 : Int) ≤ z ∧ z ≤ 10 ^ 30 := by decide +kernel
theorem wide5 : sortU (sortU (stridedN 32 1) ++ [5]) = sortU (stridedN 32 1) := by decide +kernel
theorem wideL : (sortU (stridedN 32 1)).length = 32 := by decide +kernel
theorem wide40 : (sortU (sortU (stridedN 32 1) ++ [40])).length = 33 := by decide +kernel
theorem wideB : ∀ z ∈ sortU (stridedN 32 1), (0 : Int) ≤ z ∧ z ≤ 10 ^ 30 := by decide +kernel
theorem make_patR {CT CM C : Addr} {K : PySem.W.Frag} {H : Hp} {zs : List Int} {R : Addr → Hp → Prop} {E : XK} (ne : zs ≠ []) (l : zs.length ≤ 4000) (l64 : (sortU zs).length < 64) (h : PatOut CT CM C H zs (fun v H' => match v with | .ref x => R x H' | _ => False) E) :
    ∀ x dx, H x = none → H dx = none → dx ≠ x → spMk CT CM C K (.ref x :: zs.map V.int) (upd (upd H dx (.own x)) x (.ins C dx [])) (fun v H2 => v = .non ∧ R x H2) E :=
  make_pat (Q := fun v H' => match v with | .ref x => R x H' | _ => False) ne l l64 h
theorem o922 : sortU [9, 2, 2] = [2, 9] := by decide +kernel
theorem s45 : sortU (diffs (sortU (stridedN 4 5))) = [5, 10, 15] := by decide +kernel
theorem s45l : (sortU (stridedN 4 5)).length ≤ 32 := by decide +kernel
theorem s19 : sortU (diffs (sortU (stridedN 1 9))) = [] := by decide +kernel
theorem s19l : (sortU (stridedN 1 9)).length ≤ 32 := by decide +kernel
theorem t224 : sortU (tiledN 2 2 4) = [0, 1, 4, 5] := by decide +kernel
theorem t321 : sortU (tiledN 3 2 1) = [0, 1, 2, 3] := by decide +kernel
theorem b224 : ∀ z ∈ tiledN 2 2 4, (0 : Int) ≤ z ∧ z ≤ 10 ^ 30 := by decide +kernel
theorem b321 : ∀ z ∈ tiledN 3 2 1, (0 : Int) ≤ z ∧ z ≤ 10 ^ 30 := by decide +kernel
theorem b922 : ∀ z ∈ ([9, 2, 2] : List Int), (0 : Int) ≤ z ∧ z ≤ 10 ^ 30 := by decide +kernel
def toldD : PyData := .list [.tuple (([2, 9] : List Int).map .int), .tuple (([5, 10, 15] : List Int).map .int), .tuple (([0, 1, 4, 5] : List Int).map .int), .tuple (([0, 1, 2, 3] : List Int).map .int)]
theorem told_shaped : SeqAt.shaped toldD = true := by decide +kernel
theorem told_eqv : PyData.eqv toldD toldD = true := by decide +kernel
section
variable {P : Program} {w : World} {K : PySem.W.Frag} {mg : Str → Option Value} {base : Heap} {CT CN CM B : Addr} {C : Addr} {mc : Value}
abbrev N_law : List Str := ["_law_script", "_law_pen_here", "_law_turn", "_law_wide", "_law_told"]
theorem sc_law : FnScope N_law ["_law_script"] (defScope s_law) := ⟨rfl, rfl, rfl, by decide +kernel, rfl, by decide +kernel, by decide +kernel⟩
set_option maxHeartbeats 8000000 in
theorem ok_law {f fPn fOf fKe fKi fHe fEq fOr fLn fGa fPI c TR_ TL cR cL pSd gSd pTi gTi : Addr} {fdPn fdOf fdKe fdKi fdEq : FuncData} {oc kV doc pm ct : Value} {od an : Option Addr} {osl : Array (Option Value)} {och kVh doch pmh cdvh cth : Value} {odh anh : Option Addr} {oslh : Array (Option Value)}
    (lk : K.lookup f = some ⟨oc, od, .func (PySem.W.fnOf "law" "law" (defArgs s_law) (defBody s_law) (defScope s_law) .none kV doc pm an (.ref c) ct), osl⟩) (hcd : PySem.W.codeIn K (.ref c) "law" = true) (TBl : TabB base mg c TL) (dis : TR_ ≠ TL)
    (T : TR mg) (TU : TPat K mg C) (RC : PatCls K C) (THd : THeard K mg CT CN CM B)
    (GPn : FnOk P w K mg base CX0 1 fPn fdPn ["_law_script"] (spPen K)) (gPn : mg "_law_pen" = some (.ref fPn)) (kPn : PySem.W.keepIn K (.ref fPn) = true) (bPn : Binds K fdPn ["_law_script"] [])
    (GOf : FnOk P w K mg base CX0 2 fOf fdOf ["_law_pen_here"] spOffs) (gOf : mg "_law_offsets" = some (.ref fOf)) (kOf : PySem.W.keepIn K (.ref fOf) = true) (bOf : Binds K fdOf ["_law_pen_here"] [])
    (GKe : FnG P w K mg base CX0 8 fKe fdKe ["_law_pen_here", "_law_some"] spKept) (gKe : mg "_law_kept" = some (.ref fKe)) (kKe : PySem.W.keepIn K (.ref fKe) = true) (bKe : Binds K fdKe ["_law_pen_here", "_law_some"] [])
    (GKi : FnG P w K mg base CX0 9 fKi fdKi ["_law_pen_here"] (spKinds TR_ TL)) (gKi : mg "_law_kinds_right" = some (.ref fKi)) (kKi : PySem.W.keepIn K (.ref fKi) = true) (bKi : Binds K fdKi ["_law_pen_here"] [])
    (rcR : CRead K C mc) (smSd : SMet K C mc "strided" pSd gSd) (GSd : FnR P w K mg base (L2.CX P w) 6 gSd (spStrided CT CM C K))
    (smTi : SMet K C mc "tiled" pTi gTi) (GTi : FnR P w K mg base (L2.CX P w) 6 gTi (spTiled CT CM C K))
    (OC : OwnCmp K C fEq) (GEq : FnOk P w K mg base CX0 1 fEq fdEq ["self", "other"] (spPEq C K)) (bEq : Binds K fdEq ["self", "other"] [])
    (nLn : PySem.W.findIn K (.ref C) "__len__" = some (some (.ref fLn))) (nLn2 : PySem.W.isFn K (.ref fLn) = true) (GLn : FnR P w K mg base CX0 1 fLn (spPLen C))
    (oOr : OwnOp K C fOr "or") (GOr : FnR P w K mg base (L2.CX P w) 6 fOr (spPOr CT CM C K))
    (mGa : Meth K C "gaps" fGa) (GGa : FnR P w K mg base CX0 1 fGa (spPGaps C))
    (MPI : Mk K C fPI) (GPI : FnR P w K mg base (L2.CX P w) 4 fPI (spMk CT CM C K))
    (gHe : mg "_law_heard" = some (.ref fHe)) (kHe : PySem.W.keepIn K (.ref fHe) = true) (lkHe : K.lookup fHe = some ⟨och, odh, .func (PySem.W.fnOf "_law_heard" "_law_heard" (defArgs s__law_heard) (defBody s__law_heard) (defScope s__law_heard) .none kVh doch pmh anh cdvh cth), oslh⟩) (hcHe : PySem.W.codeIn K cdvh "_law_heard" = true)
    (bHe : L2.Binds K (PySem.W.fnOf "_law_heard" "_law_heard" (defArgs s__law_heard) (defBody s__law_heard) (defScope s__law_heard) .none kVh doch pmh anh cdvh cth) ["_law_ask"] []) :
    FnG P w K mg base CX0 10 f (PySem.W.fnOf "law" "law" (defArgs s_law) (defBody s_law) (defScope s_law) .none kV doc pm an (.ref c) ct) ["_law_script"] (spTabs K [(cR, TR_), (cL, TL)]) := by
  refine fnG_of lk hcd sc_law (fun vs H Q E h => ?_) (fun A outer s H vs Q E hgd hr h => ?_)
  · obtain ⟨a, ns, rfl, _⟩ := h
    rfl
  · obtain ⟨a, ns, rfl, hS, hl, hb, hTs, k⟩ := h
    have hrT : Room 9 _ := hr
    have hrO8 : Room 8 _ := hr.mono (by decide)
    have hrH : Room 8 _ := hr.mono (by decide)
    have hrO : Room 6 _ := hr.mono (by decide)
    have hrD2 : Room 2 _ := hr.mono (by decide)
    have hrD1 : Room 1 _ := hr.mono (by decide)
    have sz : PySem.sizeLine = 16777216 := rfl
    refine ⟨_, (pss_cons (ps_set (i := 1) sc_law.nd rfl (Or.inl rfl) (by exact (pe_call GPn hrD1 rfl gPn kPn bPn .nil pass0 (pa_cons (pv 0) pa_nil))))
 (pss_cons (ps_for PassesOwn.never rfl (pi_range1 rfl T.m_range (pa_cons pe_int pa_nil)) (pg_name (i := 2) sc_law.nd rfl (Or.inl rfl))
 (pss_one (ps_if (PW.pt (pw_or (pt_not (pt_val (pe_callG GKe hgd hrO8 rfl gKe kKe bKe .nil pass0 (pa_cons (pv 1) (pa_cons (pe_call GOf hrD2 rfl gOf kOf bOf .nil pass0 (pa_cons (pv 1) pa_nil)) pa_nil))))) (pw_or1 (pt_not (pt_val (pe_callG GKi hgd hrT rfl gKi kKi bKi .nil pass0 (pa_cons (pv 1) pa_nil))))))) (pss_one (ps_ret pe_bl)) pss_nil)))
 (pss_cons (ps_set (i := 3) sc_law.nd rfl (Or.inr rfl) (pe_smeth (pe_glob (v := .ref C) rfl TU.gC rfl) rcR smSd GSd hrO passL (pa_cons pe_int (pa_cons pe_int pa_nil))))
 (pss_cons (ps_if (PW.pt (pw_or (pt_cmpR (op_neOwn GEq OC bEq hrD2 pass0) (pe_op (op_own GOr oOr ot_or hrO passL) (pv 3) (StX.pe_makeR MPI GPI (hrO.mono (by decide)) rfl TU.gC passL (pa_cons pe_int pa_nil))) (pv 3) (nomark _)) (pw_or1 (pt_cmpR (op_neD hrD2.units) (pe_lamcall (T := T2 TR_ TL) (TT := TTH CT CN CM) (k := 6) (t := (fun E => (tOp (rOwnOp K C (spPOr CT CM C K) E) (tVar 3) (tMakeR C (spMk CT CM C K) E (tCons (tC (.int 40)) tNil))))) rfl gHe kHe lkHe hcHe bHe sc__law_heard rfl (Or.inl rfl) (heard_gives THd hrH hgd) TBl rfl t2_l (t2u_l dis) hrH (lamS_by (show lamSB (defScope s_law) _ = true by decide +kernel)) rfl (fun _ _ _ _ _ => rfl) (fun A outer s H E f c' hr => (pe_op (op_own GOr oOr ot_or hr (passes_call (takes_of rfl rfl rfl rfl) fun _ _ _ _ h => h)) (pv 3) (StX.pe_makeR MPI GPI (hr.mono (by decide)) rfl TU.gC (passes_call (takes_of rfl rfl rfl rfl) fun _ _ _ _ h => h) (pa_cons pe_int pa_nil))))) (pe_tup (pa_cons pe_str (pa_cons pe_str pa_nil))) (nomark _))))) (pss_one (ps_ret pe_bl)) pss_nil)
 (pss_cons (ps_if (PW.pt (pw_or (pt_cmpR (op_neP hrD2.units) (pe_fld (pe_smeth (pe_glob (v := .ref C) rfl TU.gC rfl) rcR smTi GTi hrO passL (pa_cons pe_int (pa_cons pe_int (pa_cons pe_int pa_nil)))) rfl) (pe_tupRg rfl rfl T.m_tuple (prg_1 rfl T.m_range pe_int)) (nomark _)) (pw_or1 (pt_cmpR (op_neD hrD2.units) (pe_lst (pa_cons (pe_callB (call_lenI GLn hrD2 nLn nLn2 pass0) (by rfl) T.m_len (by decide +kernel) (pa_cons (pe_smeth (pe_glob (v := .ref C) rfl TU.gC rfl) rcR smTi GTi hrO passL (pa_cons pe_int (pa_cons pe_int (pa_cons pe_int pa_nil)))) pa_nil)) (pa_cons (pe_callB (call_lenI GLn hrD2 nLn nLn2 pass0) (by rfl) T.m_len (by decide +kernel) (pa_cons (pe_smeth (pe_glob (v := .ref C) rfl TU.gC rfl) rcR smTi GTi hrO passL (pa_cons pe_int (pa_cons pe_int (pa_cons pe_int pa_nil)))) pa_nil)) pa_nil))) (pe_lst (pa_cons pe_int (pa_cons pe_int pa_nil))) (nomark _))))) (pss_one (ps_ret pe_bl)) pss_nil)
 (pss_cons (ps_set (i := 4) sc_law.nd rfl (Or.inl rfl) (pe_lst (pa_cons (pe_fld (StX.pe_makeR MPI GPI (hrO.mono (by decide)) rfl TU.gC passL (pa_cons pe_int (pa_cons pe_int (pa_cons pe_int pa_nil)))) rfl) (pa_cons (pe_methR0 (pe_smeth (pe_glob (v := .ref C) rfl TU.gC rfl) rcR smSd GSd hrO passL (pa_cons pe_int (pa_cons pe_int pa_nil))) TU.cl mGa GGa hrD1 pass0) (pa_cons (pe_fld (pe_smeth (pe_glob (v := .ref C) rfl TU.gC rfl) rcR smTi GTi hrO passL (pa_cons pe_int (pa_cons pe_int (pa_cons pe_int pa_nil)))) rfl) (pa_cons (pe_fld (pe_smeth (pe_glob (v := .ref C) rfl TU.gC rfl) rcR smTi GTi hrO passL (pa_cons pe_int (pa_cons pe_int (pa_cons pe_int pa_nil)))) rfl) pa_nil))))))
 (pss_one (ps_ret (pe_and (pe_cmpR (op_eqD hrD2.units) (pv 4) (pe_lst (pa_cons (pe_tup (pa_cons pe_int (pa_cons pe_int pa_nil))) (pa_cons (pe_tup (pa_cons pe_int (pa_cons pe_int (pa_cons pe_int pa_nil)))) (pa_cons (pe_tup (pa_cons pe_int (pa_cons pe_int (pa_cons pe_int (pa_cons pe_int pa_nil))))) (pa_cons (pe_tup (pa_cons pe_int (pa_cons pe_int (pa_cons pe_int (pa_cons pe_int pa_nil))))) pa_nil))))) (nomark _)) (pe_one (pe_cmpR (op_eqD hrD2.units) (pe_methR0 (pe_smeth (pe_glob (v := .ref C) rfl TU.gC rfl) rcR smSd GSd hrO passL (pa_cons pe_int (pa_cons pe_int pa_nil))) TU.cl mGa GGa hrD1 pass0) (pe_tup pa_nil) (nomark _)))))))))))), ?_⟩
    refine ⟨_, rfl, a, ns, rfl, hS, hl, hb, fun H1 p l s1 np P1 => ?_⟩
    have tf : ∀ {A : Prop} {b : Bool}, b = true → b = false → A := fun h g => nomatch h.symm.trans g
    refine ⟨6, rfl, by decide, by decide, for_it walk_range (fun i σ G => ∃ (a' b' : Int) (u2 : Option V), σ = [some (.ref a), some (.ref p), u2, none, none] ∧ PenAt G p l ns a' b' ∧ a' ≤ 140 * (i : Int) ∧ Tabs (T2 TR_ TL) G) ?_ (fun _ _ _ _ _ => trivial) ?_ ?_⟩
    · refine ⟨0, 0, none, rfl, P1, by omega, fun y hy => ?_⟩
      have h1 := hTs _ List.mem_cons_self
      have h2 := hTs _ (List.mem_cons_of_mem _ List.mem_cons_self)
      rcases t2_cases hy with rfl | rfl
      · exact TabS.nil (s1 _ _ h1)
      · exact TabS.nil (s1 _ _ h2)
    · rintro i v σ G G' hi ⟨a', b', u2, rfl, PG, ha, tb⟩ ⟨rfl, rfl⟩
      have hi2 : i < 6 := hi
      refine ⟨_, rfl, _, rfl, p, l, ns, a', b', rfl, PG, by omega, fun G1 q1 xs a1 b1 xne lx rx h11 h12 bt1 PP1 hn1 hq1 => ?_⟩
      have nq1 : q1 ≠ p := (ne_of_none PG.pen hn1).symm
      have tb1 := tabs_but PG.pen bt1 tb
      refine ⟨p, l, q1, ns, a1, b1, xs, rfl, PP1, by omega, hq1, nq1, xne, lx, rx, fun G2 a2 b2 bt2 P2 h21 h22 => ⟨_, rfl, iteF ?_⟩⟩
      have tb2 := tabs_but PP1.pen bt2 tb1
      exact ⟨_, rfl, p, l, ns, a2, b2, rfl, P2, by omega, tb2, fun G3 a3 b3 P3 h31 h32 tb3 => ⟨_, rfl, iteF ⟨a3, b3, _, rfl, P3, by omega, tb3⟩⟩⟩
    rintro σ G ⟨a', b', u2, rfl, PG, ha, tb⟩
    refine ⟨rfl, _, _, _, _, rfl, .int _, .int _, tf (by decide +kernel), (fun _ => tf (by decide +kernel)), fun n s e1 e2 _ _ _ _ G1 x s1' px => ?_⟩
    obtain rfl : (32 : Int) = n := V.int.inj e1
    obtain rfl : (1 : Int) = s := V.int.inj e2
    have tb1 := tb.ext s1'
    have w5 := wide5
    have wL := wideL
    have w40 := wide40
    have wB := wideB
    generalize sortU (stridedN 32 1) = ws at px w5 wL w40 wB
    have wne : ws ≠ [] := fun z => by rw [z] at wL; cases wL
    refine ⟨_, rfl, ?_⟩
    refine mk_one (by decide) (by decide) fun G2 m s2 pm => ?_
    have px2 := px.same s2
    obtain ⟨dx, xo, x1, x2⟩ := id px2
    obtain ⟨dm, mo, m1, m2⟩ := id pm
    have b5 : ∀ z ∈ ws ++ [5], (0 : Int) ≤ z ∧ z ≤ 10 ^ 30 := fun z hz => (List.mem_append.mp hz).elim (wB z) fun h => by rw [List.mem_singleton.mp h]; decide +kernel
    have b40 : ∀ z ∈ ws ++ [40], (0 : Int) ≤ z ∧ z ≤ 10 ^ 30 := fun z hz => (List.mem_append.mp hz).elim (wB z) fun h => by rw [List.mem_singleton.mp h]; decide +kernel
    refine ⟨x, dx, _, rfl, x1, .inl ⟨m, dm, _, rfl, m1⟩, x, ws, .ref m, rfl, px2, wne, by omega, .inl ⟨m, [5], rfl, pm, by decide, (fun i hi => by rw [off_none b5] at hi; cases hi), fun _ => ⟨(fun big => by rw [w5] at big; omega), fun _ G3 u s3 pu => ?_⟩⟩⟩
    rw [w5] at pu
    obtain ⟨du, uo, u1, u2'⟩ := id pu
    refine ⟨_, rfl, u, du, _, rfl, u1, .ins (s3 _ _ x1), u, _, .ref x, rfl, pu, .inl ⟨x, ws, rfl, px2.same s3, _, rfl, _, rfl, ite_ndf ?_⟩⟩
    have tb3 := tb1.ext (fun _ _ z => s3 _ _ (s2 _ _ z))
    have px3 := px2.same s3
    refine ⟨tb3, fun G4 e4 tb4 => ⟨_, rfl, ?_⟩⟩
    have px4 := pat_ext e4 px3
    refine mk_one (by decide) (by decide) fun G5 m5 s5 pm5 => ?_
    have px5 := px4.same s5
    obtain ⟨dx5, xo5, x15, x25⟩ := id px5
    obtain ⟨dm5, mo5, m15, m25⟩ := id pm5
    refine ⟨x, dx5, _, rfl, x15, .inl ⟨m5, dm5, _, rfl, m15⟩, x, ws, .ref m5, rfl, px5, wne, by omega, .inl ⟨m5, [40], rfl, pm5, by decide, (fun i hi => by rw [off_none b40] at hi; cases hi), fun _ => ⟨(fun _ dd Hk hd sk hx => ?_), fun few => by omega⟩⟩⟩
    refine ⟨_, _, told_many hx (shows_int (w := "32") (by decide +kernel) (by decide +kernel) (by decide +kernel)), fun G7 q7 s7 hq7 => ⟨(by show 2 ≤ PySem.sizeLine; decide), fun t8 ht8 => ?_⟩⟩
    obtain ⟨sh, er⟩ := shaped_row (x := "many") (y := "32") (by decide +kernel) (by decide +kernel)
    refine ⟨.tuple [.str "many", .str "32"], .tuple [.str "many", .str "32"], .tup (SqT.of (Same.lay ht8 _ _ hq7)) (.cons (.str _) (.cons (.str _) .nil)), .tup (SqT.of upd_same) (.cons (.str _) (.cons (.str _) .nil)), sh, sh, _, rfl, ite_nb er ?_⟩
    generalize upd G7 t8 (.tup [V.str "many", V.str "32"]) = G8
    -- tiled
    refine ⟨rfl, _, _, _, _, _, _, rfl, .int _, .int _, .int _, tf (by decide +kernel), (fun _ => tf (by decide +kernel)), (fun _ _ => tf (by decide +kernel)), fun w' h' p' e1 e2 e3 _ _ _ _ _ _ => ?_⟩
    obtain rfl : (8 : Int) = w' := V.int.inj e1
    obtain rfl : (8 : Int) = h' := V.int.inj e2
    obtain rfl : (1 : Int) = p' := V.int.inj e3
    refine ti_out (by rw [t881]; decide) b881 fun G9 y sy py => ?_
    rw [t881] at py
    obtain ⟨dy, yo, y1, y2⟩ := id py
    refine ⟨y, C, dy, _, _, rfl, y1, TU.cl, TU.nO, fs_off _, 15, rfl, RgOk.of_le (by decide) (by decide) (by decide) (by decide), fun q hq => ⟨yo, q, _, (List.range 15).map fun (i : Nat) => (0 + ((i : Nat) : Int)), rfl, rfl, Same.lay hq _ _ y2, ?_, _, rfl, ite_nef ?_⟩⟩
    · rw [upd_same]
      rfl
    generalize upd G9 q (.tup (rgV 0 15)) = G10
    clear y1 y2 py sy hq
    refine ⟨rfl, _, _, _, _, _, _, rfl, .int _, .int _, .int _, tf (by decide +kernel), (fun _ => tf (by decide +kernel)), (fun _ _ => tf (by decide +kernel)), fun w' h' p' e1 e2 e3 _ _ _ _ _ _ => ?_⟩
    obtain rfl : (32 : Int) = w' := V.int.inj e1
    obtain rfl : (32 : Int) = h' := V.int.inj e2
    obtain rfl : (0 : Int) = p' := V.int.inj e3
    refine ti_out (by rw [t32]; decide) b32 fun G11 y sy py => ?_
    obtain ⟨dy, yo, y1, y2⟩ := id py
    have l32 := t32
    refine ⟨y, dy, _, rfl, y1, y, _, rfl, py, _, rfl, by omega, by omega, rfl, _, _, _, _, _, _, rfl, .int _, .int _, .int _, tf (by decide +kernel), (fun _ => tf (by decide +kernel)), (fun _ _ => tf (by decide +kernel)), fun w' h' p' e1 e2 e3 _ _ _ _ _ _ => ?_⟩
    obtain rfl : (20 : Int) = w' := V.int.inj e1
    obtain rfl : (10 : Int) = h' := V.int.inj e2
    obtain rfl : (1 : Int) = p' := V.int.inj e3
    refine ti_out (by rw [t29]; decide) b29 fun G12 y' sy' py' => ?_
    obtain ⟨dy', yo', y1', y2'⟩ := id py'
    have l29 := t29
    refine ⟨y', dy', _, rfl, y1', y', _, rfl, py', _, rfl, by omega, by omega, (by show 2 ≤ PySem.sizeLine; decide), fun la hla => ⟨(by show 2 ≤ PySem.sizeLine; decide), fun lb hlb => ?_⟩⟩
    rw [l32, l29]
    refine ⟨.list (([32, 29] : List Int).map .int), .list (([32, 29] : List Int).map .int), .lst (SqL.of (Same.lay hlb _ _ upd_same)) (dp_ints [32, 29]), .lst (SqL.of upd_same) (dp_ints [32, 29]), shaped_ints _, shaped_ints _, _, rfl, ite_list ?_⟩
    generalize upd (upd G12 la _) lb _ = G13
    clear hla hlb y1 y2 py sy y1' y2' py' sy'
    -- what is told
    refine fun o1 d1 no1 nd1 hne1 => ?_
    refine ⟨.ref o1, [.int 9, .int 2, .int 2], rfl, (by show 3 ≤ PySem.sizeLine; decide), fun q nq => ⟨o1, d1, q, [.int 9, .int 2, .int 2], rfl, ?_, upd_same, ?_, (by show 3 ≤ 4000; decide), ?_, ?_, ?_⟩⟩
    · rw [upd_ne (fun z => by rw [z, upd_same] at nq; cases nq)]
      exact upd_same
    · intro y hy
      simp only [List.mem_cons, List.not_mem_nil, or_false] at hy
      rcases hy with rfl | rfl | rfl
      · exact ⟨_, .int _⟩
      · exact ⟨_, .int _⟩
      · exact ⟨_, .int _⟩
    · intro i hi
      have z := off_none b922
      rw [show ([9, 2, 2] : List Int).map V.int = [V.int 9, V.int 2, V.int 2] from rfl, hi] at z
      cases z
    · intro z
      cases z
    intro ns0 en _ _
    obtain rfl : [9, 2, 2] = ns0 := map_int_inj (a := [9, 2, 2]) en
    refine ⟨by rw [o922]; decide, fun big => absurd big (by rw [o922]; decide), fun _ G14 bt14 pu => ⟨rfl, ?_⟩⟩
    rw [o922] at pu
    obtain ⟨du, uo, u1, u2'⟩ := id pu
    refine ⟨o1, C, du, _, _, rfl, u1, TU.cl, TU.nO, fs_off _, ?_⟩
    refine ⟨rfl, _, _, _, _, rfl, .int _, .int _, tf (by decide +kernel), (fun _ => tf (by decide +kernel)), fun n s e1 e2 _ _ _ _ G15 y s15 py => ?_⟩
    obtain rfl : (4 : Int) = n := V.int.inj e1
    obtain rfl : (5 : Int) = s := V.int.inj e2
    obtain ⟨dy, yo, y1, y2⟩ := id py
    refine ⟨y, dy, _, rfl, y1, rfl, y, _, rfl, py, s45l, by rw [s45]; decide, fun G16 g s16 hg => ?_⟩
    rw [s45] at hg
    refine ⟨rfl, _, _, _, _, _, _, rfl, .int _, .int _, .int _, tf (by decide +kernel), (fun _ => tf (by decide +kernel)), (fun _ _ => tf (by decide +kernel)), fun w' h' p' e1 e2 e3 _ _ _ _ _ _ => ?_⟩
    obtain rfl : (2 : Int) = w' := V.int.inj e1
    obtain rfl : (2 : Int) = h' := V.int.inj e2
    obtain rfl : (4 : Int) = p' := V.int.inj e3
    refine ti_out (by rw [t224]; decide) b224 fun G17 v7 s17 pv => ?_
    rw [t224] at pv
    obtain ⟨dv, vo, v1, v2⟩ := id pv
    refine ⟨v7, C, dv, _, _, rfl, v1, TU.cl, TU.nO, fs_off _, ?_⟩
    refine ⟨rfl, _, _, _, _, _, _, rfl, .int _, .int _, .int _, tf (by decide +kernel), (fun _ => tf (by decide +kernel)), (fun _ _ => tf (by decide +kernel)), fun w' h' p' e1 e2 e3 _ _ _ _ _ _ => ?_⟩
    obtain rfl : (3 : Int) = w' := V.int.inj e1
    obtain rfl : (2 : Int) = h' := V.int.inj e2
    obtain rfl : (1 : Int) = p' := V.int.inj e3
    refine ti_out (by rw [t321]; decide) b321 fun G18 v8 s18 pw => ?_
    rw [t321] at pw
    obtain ⟨dw, wo, w1, w2⟩ := id pw
    refine ⟨v8, C, dw, _, _, rfl, w1, TU.cl, TU.nO, fs_off _, (by show 4 ≤ PySem.sizeLine; decide), fun tl htl => ?_⟩
    have k1 := s18 _ _ (s17 _ _ (s16 _ _ (s15 _ _ u2')))
    have k2 := s18 _ _ (s17 _ _ hg)
    have k3 := s18 _ _ v2
    have y19 := Same.lay (o := .lst [V.ref uo, V.ref g, V.ref vo, V.ref wo]) htl
    have h19 : (upd G18 tl (.lst [V.ref uo, V.ref g, V.ref vo, V.ref wo])) tl = some (.lst [V.ref uo, V.ref g, V.ref vo, V.ref wo]) := upd_same
    have k1 := y19 _ _ k1
    have k2 := y19 _ _ k2
    have k3 := y19 _ _ k3
    have k4 := y19 _ _ w2
    change gName 4 (V.ref tl) _ (upd G18 tl (.lst [V.ref uo, V.ref g, V.ref vo, V.ref wo])) _
    generalize upd G18 tl (.lst [V.ref uo, V.ref g, V.ref vo, V.ref wo]) = G19 at h19 k1 k2 k3 k4 ⊢
    refine ⟨_, rfl, (by show 2 ≤ PySem.sizeLine; decide), fun a1 ha1 => ⟨(by show 3 ≤ PySem.sizeLine; decide), fun a2 ha2 => ⟨(by show 4 ≤ PySem.sizeLine; decide), fun a3 ha3 => ⟨(by show 4 ≤ PySem.sizeLine; decide), fun a4 ha4 => ⟨(by show 4 ≤ PySem.sizeLine; decide), fun a5 ha5 => ?_⟩⟩⟩⟩⟩
    have q1 := Same.lay (o := .tup [V.int 2, V.int 9]) ha1
    have q2 := Same.lay (o := .tup [V.int 5, V.int 10, V.int 15]) ha2
    have q3 := Same.lay (o := .tup [V.int 0, V.int 1, V.int 4, V.int 5]) ha3
    have q4 := Same.lay (o := .tup [V.int 0, V.int 1, V.int 2, V.int 3]) ha4
    have q5 := Same.lay (o := .lst [V.ref a1, V.ref a2, V.ref a3, V.ref a4]) ha5
    refine ⟨toldD, toldD, .lst (SqL.of (q5 _ _ (q4 _ _ (q3 _ _ (q2 _ _ (q1 _ _ h19)))))) (.cons (.tup (SqT.of (q5 _ _ (q4 _ _ (q3 _ _ (q2 _ _ (q1 _ _ k1)))))) (dp_ints _)) (.cons (.tup (SqT.of (q5 _ _ (q4 _ _ (q3 _ _ (q2 _ _ (q1 _ _ k2)))))) (dp_ints _)) (.cons (.tup (SqT.of (q5 _ _ (q4 _ _ (q3 _ _ (q2 _ _ (q1 _ _ k3)))))) (dp_ints _)) (.cons (.tup (SqT.of (q5 _ _ (q4 _ _ (q3 _ _ (q2 _ _ (q1 _ _ k4)))))) (dp_ints _)) .nil)))),
      .lst (SqL.of upd_same) (.cons (.tup (SqT.of (q5 _ _ (q4 _ _ (q3 _ _ (q2 _ _ upd_same))))) (dp_ints [2, 9])) (.cons (.tup (SqT.of (q5 _ _ (q4 _ _ (q3 _ _ upd_same)))) (dp_ints [5, 10, 15])) (.cons (.tup (SqT.of (q5 _ _ (q4 _ _ upd_same))) (dp_ints [0, 1, 4, 5])) (.cons (.tup (SqT.of (q5 _ _ upd_same)) (dp_ints [0, 1, 2, 3])) .nil)))), told_shaped, told_shaped, ?_⟩
    rw [told_eqv]
    refine ⟨_, rfl, iteT ?_⟩
    refine ⟨rfl, _, _, _, _, rfl, .int _, .int _, tf (by decide +kernel), (fun _ => tf (by decide +kernel)), fun n s e1 e2 _ _ _ _ G20 z s20 pz => ?_⟩
    obtain rfl : (1 : Int) = n := V.int.inj e1
    obtain rfl : (9 : Int) = s := V.int.inj e2
    obtain ⟨dz, zo, z1, z2⟩ := id pz
    refine ⟨z, dz, _, rfl, z1, rfl, z, _, rfl, pz, s19l, by rw [s19]; decide, fun G21 g1 s21 hg1 => ?_⟩
    rw [s19] at hg1
    refine ⟨(by show 0 ≤ PySem.sizeLine; decide), fun em hem => ⟨.tuple [], .tuple [], .tup (SqT.of (Same.lay hem _ _ hg1)) .nil, .tup (SqT.of upd_same) .nil, rfl, rfl, k _⟩⟩
end
end Toy
set_option maxRecDepth 100000
namespace L2
open PySem PySem.Spec PyProof.Rows
/-- what the written part says of an own error class below B, itself right below ValueError -/
def XL (K : PySem.W.Frag) (C B : Addr) : Prop := ∃ nm q N bs sn sub ab col dd k0 k1 k2 k3 k5, K.lookup C = some (excClassObj nm q C N bs (.ref B :: PySem.HandSPX.veTail) true sn sub ab col dd k0 k1 k2 k3 k5 "ValueError.__new__")
theorem XL.cls {K : PySem.W.Frag} {C B : Addr} (h : XL K C B) : ∃ cd : ClassData, PySem.W.clsIn K C = some cd ∧ cd.mro = .ref C :: .ref B :: PySem.HandSPX.veTail ∧ cd.hasDict = true := by
  obtain ⟨nm, q, N, bs, sn, sub, ab, col, dd, k0, k1, k2, k3, k5, e⟩ := h
  refine ⟨_, by unfold PySem.W.clsIn; rw [e] <;> rfl, rfl, rfl⟩
theorem XL.ty {K : PySem.W.Frag} {C B : Addr} (h : XL K C B) : PySem.W.typeIn K (.ref C) = some (.type "type") := by
  obtain ⟨nm, q, N, bs, sn, sub, ab, col, dd, k0, k1, k2, k3, k5, e⟩ := h
  show (K.lookup C).map (·.cls) = _
  rw [e]
  rfl
theorem XL.mro {K : PySem.W.Frag} {C B : Addr} (h : XL K C B) (x : Value) : PySem.W.mroIn K C x = some ((.ref C :: .ref B :: PySem.HandSPX.veTail).contains x) := by
  obtain ⟨cd, e, m, _⟩ := h.cls
  unfold PySem.W.mroIn
  rw [e, Option.bind_some, m]
  rfl
theorem XL.isC {K : PySem.W.Frag} {C B : Addr} (h : XL K C B) : (PySem.W.clsIn K C).isSome = true := by
  obtain ⟨cd, e, _⟩ := h.cls
  rw [e]
  rfl
theorem XL.dict {K : PySem.W.Frag} {C B : Addr} (h : XL K C B) : PySem.W.hasDictIn K C = true := by
  obtain ⟨cd, e, _, d⟩ := h.cls
  unfold PySem.W.hasDictIn
  rw [e]
  exact d
theorem XL.x {K : PySem.W.Frag} {C B : Addr} (h : XL K C B) (sa : PySem.W.findIn K (.ref C) "__setattr__" = some (some (.builtin "object.__setattr__"))) (ga : PySem.W.findIn K (.ref C) "__getattribute__" = some (some (.builtin "BaseException.__getattribute__")))
    (gg : PySem.W.findIn K (.ref C) "__getattr__" = some none) (ca : PySem.W.findIn K (.ref C) "__class__" = some (some (.builtin "object.__class__"))) (kC : PySem.W.keepIn K (.ref C) = true)
    (gs : PySem.W.specialIn K (.builtin "object.__class__") "__get__" = some (some (.builtin "getset_descriptor.__get__"))) (tk : PySem.W.takesIn K (.builtin "object.__class__") = some true) : XvC K C where
  oex := {
    cls := by
      obtain ⟨nm, q, N, bs, sn, sub, ab, col, dd, k0, k1, k2, k3, k5, e⟩ := h
      exact ⟨nm, q, N, bs, _, sn, sub, ab, col, dd, k0, k1, k2, k3, k5, e, by show PySem.HandSPX.refsVE PySem.HandSPX.veTail = true; decide +kernel⟩
    sa := sa
    exC := (h.mro _).trans (by simp)
    tyC := h.ty
    kC := kC }
  ga := ga
  gg := gg
  dd := h.dict
  ic := h.isC
  ca := ca
  gs := gs
  tk := tk
  mo := (h.mro _).trans (by simp)
theorem kit_own {K : PySem.W.Frag} {C B D : Addr} (h : XL K C B) (hd : (PySem.W.clsIn K D).isSome = true) (ht : PySem.W.typeIn K (.ref D) = some (.type "type")) : PySem.W.kitOne K (.ref C) (.ref D) = some (decide (C = D) || decide (B = D)) := by
  unfold PySem.W.kitOne
  by_cases e : C = D
  · subst e
    simp
  · have e1 : (Value.ref C == Value.ref D) = false := by simpa using e
    rw [e1, if_neg Bool.false_ne_true]
    unfold PySem.W.kitCls
    have e2 : ((PySem.W.clsIn K D).isSome && PySem.W.typeIn K (.ref D) == some (.type "type")) = true := by rw [hd, ht]; rfl
    show (if ((PySem.W.clsIn K D).isSome && PySem.W.typeIn K (.ref D) == some (.type "type")) = true then PySem.W.mroIn K C (.ref D) else none) = _
    rw [if_pos e2, h.mro]
    have e3 : (Value.ref D == Value.ref C) = false := by simpa using fun z => e z.symm
    by_cases e4 : B = D
    · subst e4
      simp [e]
    · have e5 : ¬ D = B := fun z => e4 z.symm
      have e7 : (Value.ref D == Value.ref B) = false := by simpa using e5
      rw [decide_eq_false e, decide_eq_false e4]
      rw [List.contains_cons, e3, List.contains_cons, e7]
      rfl
theorem kit_ve {K : PySem.W.Frag} {C B : Addr} (h : XL K C B) : PySem.W.kitOne K (.ref C) (.type "ValueError") = some true := by
  unfold PySem.W.kitOne
  have e1 : (Value.ref C == Value.type "ValueError") = false := rfl
  rw [e1, if_neg Bool.false_ne_true]
  show (if PySem.W.kitMeta "ValueError" = true then PySem.W.mroIn K C (.type "ValueError") else none) = _
  rw [if_pos (by decide +kernel), h.mro]
  simp
end L2
set_option maxRecDepth 100000
namespace L2
open PySem PySem.Spec PyProof.Rows
/-! facts of the top as Bools of the written part -/
/-- an own error class right below B, itself right below ValueError -/
def xlB (K : PySem.W.Frag) (C B : Addr) : Bool := match K.lookup C with
  | some ⟨.type "type", _, .cls cd, sl⟩ => (match cd.mro, sl.toList with
    | .ref C' :: .ref B' :: rest, [_, _, _, _, some (.builtin n), _] => decide (C' = C) && (decide (B' = B) && (decide (n = "ValueError.__new__") && (!cd.hasDel && (cd.hasDict && decide (rest = PySem.HandSPX.veTail)))))
    | _, _ => false)
  | _ => false
theorem xl_of {K : PySem.W.Frag} {C B : Addr} (q : xlB K C B = true) : XL K C B := by
  unfold xlB at q
  split at q
  · rename_i dd cd sl ho
    split at q
    · rename_i C' B' rest k0 k1 k2 k3 n k5 hm hs
      simp only [Bool.and_eq_true, decide_eq_true_eq, Bool.not_eq_true'] at q
      obtain ⟨rfl, rfl, rfl, hdel, hdict, rfl⟩ := q
      obtain ⟨nm, bs, mro, ns, qn, hd, sn, sub, ab, col, del⟩ := cd
      dsimp only at hm hdel hdict
      subst hm hdel hdict
      have hsl : sl = #[k0, k1, k2, k3, some (.builtin "ValueError.__new__"), k5] := by
        obtain ⟨l⟩ := sl
        simp only at hs
        rw [hs]
      subst hsl
      exact ⟨nm, qn, ns, bs, sn, sub, ab, col, dd, k0, k1, k2, k3, k5, ho⟩
    · cases q
  · cases q
/-- what is asked of such a class beside -/
def xcB (K : PySem.W.Frag) (C : Addr) : Bool := decide (PySem.W.findIn K (.ref C) "__setattr__" = some (some (.builtin "object.__setattr__"))) && (decide (PySem.W.findIn K (.ref C) "__getattribute__" = some (some (.builtin "BaseException.__getattribute__"))) &&
  (decide (PySem.W.findIn K (.ref C) "__getattr__" = some none) && (decide (PySem.W.findIn K (.ref C) "__class__" = some (some (.builtin "object.__class__"))) && (PySem.W.keepIn K (.ref C) &&
  (decide (PySem.W.specialIn K (.builtin "object.__class__") "__get__" = some (some (.builtin "getset_descriptor.__get__"))) && decide (PySem.W.takesIn K (.builtin "object.__class__") = some true))))))
theorem xc_of {K : PySem.W.Frag} {C B : Addr} (l : XL K C B) (q : xcB K C = true) : XvC K C := by
  unfold xcB at q
  simp only [Bool.and_eq_true, decide_eq_true_eq] at q
  obtain ⟨h1, h2, h3, h4, h5, h6, h7⟩ := q
  exact l.x h1 h2 h3 h4 h5 h6 h7
/-- a property's getter -/
def getterOf (K : PySem.W.Frag) (p : Addr) : Addr := match PySem.W.recIn K p "property" with
  | some (.ref g :: _) => g
  | _ => 0
def propB (K : PySem.W.Frag) (C : Addr) (f : Str) : Bool := decide (PySem.W.findIn K (.ref C) f = some (some (.ref (He.ma K C f)))) && (decide (PySem.W.specialIn K (.ref (He.ma K C f)) "__get__" = some (some (.builtin "property.__get__"))) &&
  (decide (PySem.W.takesIn K (.ref (He.ma K C f)) = some true) && (match PySem.W.recIn K (He.ma K C f) "property" with
    | some (.ref _ :: _) => true
    | _ => false)))
theorem prop_of {K : PySem.W.Frag} {C : Addr} {f : Str} (q : propB K C f = true) : PropOf K C f (He.ma K C f) (getterOf K (He.ma K C f)) := by
  unfold propB at q
  simp only [Bool.and_eq_true, decide_eq_true_eq] at q
  obtain ⟨h1, h2, h3, h4⟩ := q
  refine ⟨h1, h2, h3, ?_⟩
  split at h4
  · rename_i g rest e
    exact ⟨rest, by unfold getterOf; rw [e]⟩
  · cases h4
/-- a def without defaults -/
theorem fun_of {K : PySem.W.Frag} {x qual : Str} {st : Stmt} {f : Addr} {fd : FuncData} (F : FunD K x qual (defArgs st) (defBody st) (defScope st) [] [] f fd) : Fun K x qual st f fd := by
  obtain ⟨oc, od, dV, kV, doc, pm, an, cdv, ct, osl, rfl, lk, hc, hd, _⟩ := F.ex
  rcases hd with ⟨_, rfl⟩ | ⟨n, _⟩
  · exact ⟨⟨oc, od, kV, doc, pm, an, cdv, ct, osl, rfl, lk, hc⟩, F.kp⟩
  · exact absurd rfl n
end L2
set_option maxRecDepth 100000
namespace L2
open PySem PySem.Spec PyProof.Rows He
/-! a head by defs at told places, one Bool, and the table of one def that makes lambdas -/
structure DefA where
  at_ : PySem.W.Frag → Addr
  name : Str
  qual : Str
  st : Stmt
def fnA (K : PySem.W.Frag) (d : DefA) : FnW := match K.lookup (d.at_ K) with
  | some ⟨_, _, .func fd, _⟩ => some (fd.name, fd.qualname, fd.params, fd.body, fd.scope, fd.globals, fd.closure, fd.builtins)
  | _ => none
def DefA.val (d : DefA) : FnW := some (d.name, d.qual, defArgs d.st, .stmts (defBody d.st), defScope d.st, mainGlobals, [], builtinsNs)
def DefA.ok (K : PySem.W.Frag) (d : DefA) : Bool := PySem.W.keepIn K (.ref (d.at_ K)) && (match K.lookup (d.at_ K) with
  | some ⟨_, _, .func fd, _⟩ => PySem.W.codeIn K fd.code d.qual && decide (fd.defaults = .none)
  | _ => false)
theorem DefA.to {K : PySem.W.Frag} {d : DefA} (e : fnA K d = d.val) (c : d.ok K = true) : ∃ fd, Fun K d.name d.qual d.st (d.at_ K) fd := by
  obtain ⟨kp, c2⟩ := ba c
  unfold fnA at e
  split at e
  · rename_i oc od fd osl q
    rw [q] at c2
    obtain ⟨m1, m2, m3, m4, m5, m6, m7, m8, m9, m10, m11, m12, m13, m14, m15⟩ := fd
    have e2 := Option.some.inj e
    simp only [Prod.mk.injEq] at e2
    obtain ⟨h1, h2, h3, h4, h5, h6, h7, h8⟩ := e2
    subst h1 h2 h3 h4 h5 h6 h7 h8
    obtain ⟨k1, k2⟩ := ba c2
    have k3 := of_decide_eq_true k2
    dsimp only at k3
    subst k3
    exact ⟨_, ⟨oc, od, _, _, _, _, _, _, osl, rfl, q, k1⟩, kp⟩
  · cases e
structure SaysH (ds : List DefA) (p : Defn) (ex : PySem.W.Frag → Bool) (h : Heap) (K : PySem.W.Frag) : Prop where
  more : ex K = true
  defs : ∀ d ∈ ds, ∃ fd, Fun K d.name d.qual d.st (d.at_ K) fd
  hd : PySem.W.codeHdIn K (cT K p).1 (cT K p).2 = true
  out : K.lookup (cT K p).2 = none
  empty : h.get? (cT K p).2 = some { cls := .none, data := .fields #[] }
def obsH (n : Nat) (ds : List DefA) (p : Defn) (ex : PySem.W.Frag → Bool) (g : Addr → Option Obj) : Bool × List FnW :=
  (ex (frT g (asD g n)) && ((ds.all fun d => d.ok (frT g (asD g n))) && tabsB g [p] (frT g (asD g n))), ds.map (fnA (frT g (asD g n))))
theorem says_of {n : Nat} {ds : List DefA} {p : Defn} {ex : PySem.W.Frag → Bool} {h : Heap} (e : obsH n ds p ex h.get? = (true, ds.map DefA.val)) : SaysH ds p ex h (frT h.get? (asD h.get? n)) := by
  have e1 : (ex (frT h.get? (asD h.get? n)) && ((ds.all fun d => d.ok (frT h.get? (asD h.get? n))) && tabsB h.get? [p] (frT h.get? (asD h.get? n)))) = true := congrArg (·.1) e
  have e2 : ds.map (fnA (frT h.get? (asD h.get? n))) = ds.map DefA.val := congrArg (·.2) e
  obtain ⟨x1, x2⟩ := ba e1
  obtain ⟨x3, x4⟩ := ba x2
  obtain ⟨y1, y2⟩ := ba (List.all_eq_true.mp x4 p (List.mem_singleton.mpr rfl))
  obtain ⟨o, o1, o2⟩ : ∃ o, h.get? (cT (frT h.get? (asD h.get? n)) p).2 = some o ∧ emptyTab o = true := by
    split at y2
    · rename_i o q
      exact ⟨o, q, y2⟩
    · cases y2
  refine ⟨x1, fun d hd => ?_, y1, frT_none o1 o2, by rw [o1, emptyTab_eq o2]⟩
  obtain ⟨i, hi, ei⟩ := List.mem_iff_getElem.mp hd
  refine DefA.to ?_ (List.all_eq_true.mp x3 d hd)
  have z : (ds.map (fnA (frT h.get? (asD h.get? n))))[i]? = (ds.map DefA.val)[i]? := by rw [e2]
  rw [List.getElem?_map, List.getElem?_map, List.getElem?_eq_getElem hi, ei] at z
  exact Option.some.inj z
def hookH (n : Nat) (ds : List DefA) (p : Defn) (ex : PySem.W.Frag → Bool) : PySem.W.Hook where
  α := Bool × List FnW
  obs := fun s => obsH n ds p ex s.heap.get?
  val := fun _ => (true, ds.map DefA.val)
  says := fun _ h => ∃ K : PySem.W.Frag, K.In h ∧ SaysH ds p ex h K
  of := fun _ _ e => ⟨_, frT_in, says_of e⟩
  keeps := fun _ _ _ ⟨K, hK, c⟩ k => ⟨K, PySem.W.Frag.In.keeps hK k, ⟨c.more, c.defs, c.hd, c.out, k _ _ c.empty⟩⟩
theorem obsH_eq {n : Nat} {ds : List DefA} {p : Defn} {ex : PySem.W.Frag → Bool} {g : Addr → Option Obj} {s : Shared} (h : ∀ a, g a = s.heap.get? a) : obsH n ds p ex g = (hookH n ds p ex).obs s := by
  obtain rfl : g = s.heap.get? := funext h
  rfl
end L2
set_option maxRecDepth 100000
namespace L2
open PySem PySem.Spec PyProof.Rows He
/-! a head by defs at told places, one Bool, and the tables of several defs that make lambdas -/
structure SaysHs (ds : List DefA) (ps : List Defn) (ex : PySem.W.Frag → Bool) (h : Heap) (K : PySem.W.Frag) : Prop where
  more : ex K = true
  defs : ∀ d ∈ ds, ∃ fd, Fun K d.name d.qual d.st (d.at_ K) fd
  hd : ∀ p ∈ ps, PySem.W.codeHdIn K (cT K p).1 (cT K p).2 = true
  out : ∀ p ∈ ps, K.lookup (cT K p).2 = none
  empty : ∀ p ∈ ps, h.get? (cT K p).2 = some { cls := .none, data := .fields #[] }
def obsHs (n : Nat) (ds : List DefA) (ps : List Defn) (ex : PySem.W.Frag → Bool) (g : Addr → Option Obj) : Bool × List FnW :=
  (ex (frT g (asD g n)) && ((ds.all fun d => d.ok (frT g (asD g n))) && tabsB g ps (frT g (asD g n))), ds.map (fnA (frT g (asD g n))))
theorem saysHs_of {n : Nat} {ds : List DefA} {ps : List Defn} {ex : PySem.W.Frag → Bool} {h : Heap} (e : obsHs n ds ps ex h.get? = (true, ds.map DefA.val)) : SaysHs ds ps ex h (frT h.get? (asD h.get? n)) := by
  have e1 : (ex (frT h.get? (asD h.get? n)) && ((ds.all fun d => d.ok (frT h.get? (asD h.get? n))) && tabsB h.get? ps (frT h.get? (asD h.get? n)))) = true := congrArg (·.1) e
  have e2 : ds.map (fnA (frT h.get? (asD h.get? n))) = ds.map DefA.val := congrArg (·.2) e
  obtain ⟨x1, x2⟩ := ba e1
  obtain ⟨x3, x4⟩ := ba x2
  have one : ∀ p ∈ ps, PySem.W.codeHdIn (frT h.get? (asD h.get? n)) (cT (frT h.get? (asD h.get? n)) p).1 (cT (frT h.get? (asD h.get? n)) p).2 = true ∧ ∃ o, h.get? (cT (frT h.get? (asD h.get? n)) p).2 = some o ∧ emptyTab o = true := fun p hp => by
    obtain ⟨y1, y2⟩ := ba (List.all_eq_true.mp x4 p hp)
    refine ⟨y1, ?_⟩
    split at y2
    · rename_i o q
      exact ⟨o, q, y2⟩
    · cases y2
  refine ⟨x1, fun d hd => ?_, fun p hp => (one p hp).1, fun p hp => ?_, fun p hp => ?_⟩
  · obtain ⟨i, hi, ei⟩ := List.mem_iff_getElem.mp hd
    refine DefA.to ?_ (List.all_eq_true.mp x3 d hd)
    have z : (ds.map (fnA (frT h.get? (asD h.get? n))))[i]? = (ds.map DefA.val)[i]? := by rw [e2]
    rw [List.getElem?_map, List.getElem?_map, List.getElem?_eq_getElem hi, ei] at z
    exact Option.some.inj z
  · obtain ⟨_, o, o1, o2⟩ := one p hp
    exact frT_none o1 o2
  · obtain ⟨_, o, o1, o2⟩ := one p hp
    rw [o1, emptyTab_eq o2]
def hookHs (n : Nat) (ds : List DefA) (ps : List Defn) (ex : PySem.W.Frag → Bool) : PySem.W.Hook where
  α := Bool × List FnW
  obs := fun s => obsHs n ds ps ex s.heap.get?
  val := fun _ => (true, ds.map DefA.val)
  says := fun _ h => ∃ K : PySem.W.Frag, K.In h ∧ SaysHs ds ps ex h K
  of := fun _ _ e => ⟨_, frT_in, saysHs_of e⟩
  keeps := fun _ _ _ ⟨K, hK, c⟩ k => ⟨K, PySem.W.Frag.In.keeps hK k, ⟨c.more, c.defs, c.hd, c.out, fun p hp => k _ _ (c.empty p hp)⟩⟩
theorem obsHs_eq {n : Nat} {ds : List DefA} {ps : List Defn} {ex : PySem.W.Frag → Bool} {g : Addr → Option Obj} {s : Shared} (h : ∀ a, g a = s.heap.get? a) : obsHs n ds ps ex g = (hookHs n ds ps ex).obs s := by
  obtain rfl : g = s.heap.get? := funext h
  rfl
end L2
set_option maxRecDepth 100000
namespace L2
open PySem PySem.Spec PyProof.Rows He
/-! the head once more: defs with defaults besides, and the interpreter's own statics -/
def frC (g : Addr → Option Obj) (n : Nat) : PySem.W.Frag := frT g (He5.asA g n)
structure SaysHc (ds : List DefA) (dd : List He5.DefA) (ps : List Defn) (ex : PySem.W.Frag → Bool) (h : Heap) (K : PySem.W.Frag) : Prop where
  more : ex K = true
  defs : ∀ d ∈ ds, ∃ fd, Fun K d.name d.qual d.st (d.at_ K) fd
  defd : ∀ d ∈ dd, ∃ fd, FunD K d.name d.qual d.params d.body d.scope (d.dvs K) (d.kws K) (d.at_ K) fd
  hd : ∀ p ∈ ps, PySem.W.codeHdIn K (cT K p).1 (cT K p).2 = true
  out : ∀ p ∈ ps, K.lookup (cT K p).2 = none
  empty : ∀ p ∈ ps, h.get? (cT K p).2 = some { cls := .none, data := .fields #[] }
def obsHc (n : Nat) (ds : List DefA) (dd : List He5.DefA) (ps : List Defn) (ex : PySem.W.Frag → Bool) (g : Addr → Option Obj) : Bool × List FnW :=
  (ex (frC g n) && ((ds.all fun d => d.ok (frC g n)) && ((dd.all fun d => d.ok (frC g n)) && tabsB g ps (frC g n))), ds.map (fnA (frC g n)) ++ dd.map fun d => He5.fnA (frC g n) (d.at_ (frC g n)))
def valHc (ds : List DefA) (dd : List He5.DefA) : Bool × List FnW := (true, ds.map DefA.val ++ dd.map He5.DefA.val)
theorem saysHc_of {n : Nat} {ds : List DefA} {dd : List He5.DefA} {ps : List Defn} {ex : PySem.W.Frag → Bool} {h : Heap} (e : obsHc n ds dd ps ex h.get? = valHc ds dd) : SaysHc ds dd ps ex h (frC h.get? n) := by
  have e1 : (ex (frC h.get? n) && ((ds.all fun d => d.ok (frC h.get? n)) && ((dd.all fun d => d.ok (frC h.get? n)) && tabsB h.get? ps (frC h.get? n)))) = true := congrArg (·.1) e
  have e2 : ds.map (fnA (frC h.get? n)) ++ (dd.map fun d => He5.fnA (frC h.get? n) (d.at_ (frC h.get? n))) = ds.map DefA.val ++ dd.map He5.DefA.val := congrArg (·.2) e
  obtain ⟨x1, x2⟩ := ba e1
  obtain ⟨x3, x4⟩ := ba x2
  obtain ⟨x5, x6⟩ := ba x4
  obtain ⟨e3, e4⟩ := List.append_inj e2 (by rw [List.length_map, List.length_map])
  have one : ∀ p ∈ ps, PySem.W.codeHdIn (frC h.get? n) (cT (frC h.get? n) p).1 (cT (frC h.get? n) p).2 = true ∧ ∃ o, h.get? (cT (frC h.get? n) p).2 = some o ∧ emptyTab o = true := fun p hp => by
    obtain ⟨y1, y2⟩ := ba (List.all_eq_true.mp x6 p hp)
    refine ⟨y1, ?_⟩
    split at y2
    · rename_i o q
      exact ⟨o, q, y2⟩
    · cases y2
  refine ⟨x1, fun d hd => ?_, fun d hd => ?_, fun p hp => (one p hp).1, fun p hp => ?_, fun p hp => ?_⟩
  · obtain ⟨i, hi, ei⟩ := List.mem_iff_getElem.mp hd
    refine DefA.to ?_ (List.all_eq_true.mp x3 d hd)
    have z : (ds.map (fnA (frC h.get? n)))[i]? = (ds.map DefA.val)[i]? := by rw [e3]
    rw [List.getElem?_map, List.getElem?_map, List.getElem?_eq_getElem hi, ei] at z
    exact Option.some.inj z
  · obtain ⟨i, hi, ei⟩ := List.mem_iff_getElem.mp hd
    refine He5.DefA.funD ?_ (List.all_eq_true.mp x5 d hd)
    have z : (dd.map fun d => He5.fnA (frC h.get? n) (d.at_ (frC h.get? n)))[i]? = (dd.map He5.DefA.val)[i]? := by rw [e4]
    rw [List.getElem?_map, List.getElem?_map, List.getElem?_eq_getElem hi, ei] at z
    exact Option.some.inj z
  · obtain ⟨_, o, o1, o2⟩ := one p hp
    exact frT_none o1 o2
  · obtain ⟨_, o, o1, o2⟩ := one p hp
    rw [o1, emptyTab_eq o2]
def hookHc (n : Nat) (ds : List DefA) (dd : List He5.DefA) (ps : List Defn) (ex : PySem.W.Frag → Bool) : PySem.W.Hook where
  α := Bool × List FnW
  obs := fun s => obsHc n ds dd ps ex s.heap.get?
  val := fun _ => valHc ds dd
  says := fun _ h => ∃ K : PySem.W.Frag, K.In h ∧ SaysHc ds dd ps ex h K
  of := fun _ _ e => ⟨_, frT_in, saysHc_of e⟩
  keeps := fun _ _ _ ⟨K, hK, c⟩ k => ⟨K, PySem.W.Frag.In.keeps hK k, ⟨c.more, c.defs, c.defd, c.hd, c.out, fun p hp => k _ _ (c.empty p hp)⟩⟩
theorem obsHc_eq {n : Nat} {ds : List DefA} {dd : List He5.DefA} {ps : List Defn} {ex : PySem.W.Frag → Bool} {g : Addr → Option Obj} {s : Shared} (h : ∀ a, g a = s.heap.get? a) : obsHc n ds dd ps ex g = (hookHc n ds dd ps ex).obs s := by
  obtain rfl : g = s.heap.get? := funext h
  rfl
/-- a class's attributes are read as a type's are -/
def creadB (K : PySem.W.Frag) (C : Addr) : Bool := PySem.W.readsIn K C (.type "type") && eqO (PySem.W.specialIn K (.ref C) "__getattribute__") (some (some (.builtin "type.__getattribute__")))
theorem cread_of {K : PySem.W.Frag} {C : Addr} (h : creadB K C = true) : ClX.CRead K C (.type "type") := by
  obtain ⟨h1, h2⟩ := ba h
  exact ⟨h1, eqO_ok h2⟩
def cmB (K : PySem.W.Frag) (C : Addr) (m : Str) : Bool := He5.wrapB K C "classmethod" "classmethod.__get__" m && PySem.W.fnIn K (He5.wf K C "classmethod" m)
theorem cm_of {K : PySem.W.Frag} {C : Addr} {m : Str} (h : cmB K C m = true) : ClX.CMet K C (.type "type") m (He.ma K C m) (He5.wf K C "classmethod" m) := by
  obtain ⟨h1, h2⟩ := ba h
  exact He5.cmet_of h1 h2
end L2
set_option maxRecDepth 100000
namespace Toy
open PySem L2 LamX
/-! the head: what the top leaves, by one run -/
abbrev R : PySem.W.OpenRow := PySem.W.OpenLaw.row PySem.Challenge.rw_lanebanks_k47_patterns_made
def fa : List He.Fa := [.glo "is_integer", .glo "is_within", .glo "whole_in", .glo "_law_pen", .glo "_law_draw", .glo "_law_pick", .glo "_law_offsets", .glo "_law_gaps", .glo "_law_pattern", .glo "_law_heard", .glo "_law_kept", .glo "_law_kinds_right", .glo "law", .glo "BankError", .glo "BadTile", .glo "BadNumber", .glo "BadText", .glo "TooMany", .glo "Pattern", .free "isinstance", .free "int", .free "bool", .free "len", .free "all", .free "str", .free "list", .free "tuple", .free "range", .free "set", .free "sorted", .free "iter", .free "repr", .free "enumerate", .free "abs", .int "MOST_OFFSETS" 32, .int "GREATEST" (10 ^ 30), .int "GREATEST_STEP" (10 ^ 28), .str "DIGITS" "0123456789", .cls "Pattern", .noat "Pattern" "offsets", .meth "Pattern" "gaps", .noat "BadTile" "part", .noat "BadNumber" "value", .noat "BadText" "line", .noat "BadText" "word", .noat "TooMany" "what", .noat "TooMany" "most", .mkr "Pattern", .exm "BadTile" "BankError" true, .exm "BadNumber" "BankError" true, .exm "TooMany" "BankError" true]
def initB (K : PySem.W.Frag) (x : Str) : Bool := decide (PySem.W.findIn K (.ref (He.ga K x)) "__init__" = some (some (.ref (He.ma K (He.ga K x) "__init__")))) && decide (PySem.W.typeIn K (.ref (He.ma K (He.ga K x) "__init__")) = some (.type "function"))
def kitB' (K : PySem.W.Frag) (x y : Str) (b : Bool) : Bool := decide (PySem.W.kitOne K (.ref (He.ga K x)) (.ref (He.ga K y)) = some b)
def ex (K : PySem.W.Frag) : Bool := (fa.all fun f => f.ok K) && (xlB K (He.ga K "BadTile") (He.ga K "BankError") && (xlB K (He.ga K "BadNumber") (He.ga K "BankError") && (xlB K (He.ga K "BadText") (He.ga K "BankError") && (xlB K (He.ga K "TooMany") (He.ga K "BankError") && (xcB K (He.ga K "BadTile") && (xcB K (He.ga K "BadNumber") && (xcB K (He.ga K "BadText") && (xcB K (He.ga K "TooMany") && (initB K "BadTile" && (initB K "BadNumber" && (initB K "BadText" && (initB K "TooMany" && (kitB' K "BadTile" "BadTile" true && (kitB' K "BadTile" "BadNumber" false && (kitB' K "BadTile" "BadText" false && (kitB' K "BadTile" "TooMany" false && (kitB' K "BadNumber" "BadTile" false && (kitB' K "BadNumber" "BadNumber" true && (kitB' K "BadNumber" "BadText" false && (kitB' K "BadNumber" "TooMany" false && (kitB' K "BadText" "BadTile" false && (kitB' K "BadText" "BadNumber" false && (kitB' K "BadText" "BadText" true && (kitB' K "BadText" "TooMany" false && (kitB' K "TooMany" "BadTile" false && (kitB' K "TooMany" "BadNumber" false && (kitB' K "TooMany" "BadText" false && (kitB' K "TooMany" "TooMany" true && (ownB K (He.ga K "Pattern") && (rclsB K (He.ga K "Pattern") && (methB K (He.ga K "Pattern") "__len__" && (methB K (He.ga K "Pattern") "__iter__" && (methB K (He.ga K "Pattern") "__contains__" && (methB K (He.ga K "Pattern") "__le__" && (ownOpB K (He.ga K "Pattern") "or" "__or__" "__ror__" && (ownOpB K (He.ga K "Pattern") "add" "__add__" "__radd__" && (creadB K (He.ga K "Pattern") && (cmB K (He.ga K "Pattern") "read" && (smB K (He.ga K "Pattern") "strided" && (smB K (He.ga K "Pattern") "tiled" && (decide (PySem.W.findIn K (.ref (He.ga K "Pattern")) "__bool__" = some none) && (decide ((He.cT K ("_law_kinds_right", none)).2 ≠ (He.cT K ("law", none)).2)))))))))))))))))))))))))))))))))))))))))))
def ds : List DefA := [
⟨fun K => He.ga K "is_integer", "is_integer", "is_integer", s_is_integer⟩,
  ⟨fun K => He.ga K "is_within", "is_within", "is_within", s_is_within⟩,
  ⟨fun K => He.ga K "whole_in", "whole_in", "whole_in", s_whole_in⟩,
  ⟨fun K => He.ga K "_law_pen", "_law_pen", "_law_pen", s__law_pen⟩,
  ⟨fun K => He.ga K "_law_draw", "_law_draw", "_law_draw", s__law_draw⟩,
  ⟨fun K => He.ga K "_law_pick", "_law_pick", "_law_pick", s__law_pick⟩,
  ⟨fun K => He.ga K "_law_offsets", "_law_offsets", "_law_offsets", s__law_offsets⟩,
  ⟨fun K => He.ga K "_law_gaps", "_law_gaps", "_law_gaps", s__law_gaps⟩,
  ⟨fun K => He.ga K "_law_pattern", "_law_pattern", "_law_pattern", s__law_pattern⟩,
  ⟨fun K => He.ga K "_law_heard", "_law_heard", "_law_heard", s__law_heard⟩,
  ⟨fun K => He.ga K "_law_kept", "_law_kept", "_law_kept", s__law_kept⟩,
  ⟨fun K => He.ga K "_law_kinds_right", "_law_kinds_right", "_law_kinds_right", s__law_kinds_right⟩,
  ⟨fun K => He.ga K "law", "law", "law", s_law⟩,
  ⟨fun K => He.ma K (He.ga K "BadTile") "__init__", "__init__", "BadTile.__init__", s_BadTile⟩,
  ⟨fun K => He.ma K (He.ga K "BadNumber") "__init__", "__init__", "BadNumber.__init__", s_BadNumber⟩,
  ⟨fun K => He.ma K (He.ga K "BadText") "__init__", "__init__", "BadText.__init__", s_BadText⟩,
  ⟨fun K => He.ma K (He.ga K "TooMany") "__init__", "__init__", "TooMany.__init__", s_TooMany⟩,
  ⟨fun K => He.ma K (He.ga K "Pattern") "__init__", "__init__", "Pattern.__init__", s_Pattern___init__⟩,
  ⟨fun K => He.ma K (He.ga K "Pattern") "__eq__", "__eq__", "Pattern.__eq__", s_Pattern___eq__⟩,
  ⟨fun K => He.ma K (He.ga K "Pattern") "__len__", "__len__", "Pattern.__len__", s_Pattern___len__⟩,
  ⟨fun K => He.ma K (He.ga K "Pattern") "__iter__", "__iter__", "Pattern.__iter__", s_Pattern___iter__⟩,
  ⟨fun K => He.ma K (He.ga K "Pattern") "__contains__", "__contains__", "Pattern.__contains__", s_Pattern___contains__⟩,
  ⟨fun K => He.ma K (He.ga K "Pattern") "__or__", "__or__", "Pattern.__or__", s_Pattern___or__⟩,
  ⟨fun K => He.ma K (He.ga K "Pattern") "__le__", "__le__", "Pattern.__le__", s_Pattern___le__⟩,
  ⟨fun K => He.ma K (He.ga K "Pattern") "__add__", "__add__", "Pattern.__add__", s_Pattern___add__⟩,
  ⟨fun K => He.ma K (He.ga K "Pattern") "gaps", "gaps", "Pattern.gaps", s_Pattern_gaps⟩,
  ⟨fun K => He5.wf K (He.ga K "Pattern") "classmethod" "read", "read", "Pattern.read", s_Pattern_read⟩,
  ⟨fun K => He5.wf K (He.ga K "Pattern") "staticmethod" "strided", "strided", "Pattern.strided", s_Pattern_strided⟩,
  ⟨fun K => He5.wf K (He.ga K "Pattern") "staticmethod" "tiled", "tiled", "Pattern.tiled", s_Pattern_tiled⟩]
def tabsOf : List He.Defn := [("_law_kinds_right", none), ("law", none)]
def dd : List He5.DefA := []
abbrev hk : PySem.W.Hook := hookHc 6 ds dd tabsOf ex
def ob (s : PySem.W.SharedT) : Bool × List He.FnW := obsHc 6 ds dd tabsOf ex (HandSHeadRun.getT s)
theorem ob_eq (s : PySem.W.SharedT) : ob s = hk.obs s.abs := obsHc_eq (HandSHeadRun.getT_eq s)
def names : List Str := ["__name__", "is_integer", "is_within", "BankError", "BadTile", "BadNumber", "BadText", "TooMany", "DIGITS", "whole_in", "GREATEST", "MOST_OFFSETS"]
def names2 : List Str := ["GREATEST_STEP", "Pattern", "_law_pen", "_law_draw", "_law_pick", "_law_offsets", "_law_gaps", "_law_pattern", "_law_heard", "_law_kept", "_law_kinds_right"]
set_option maxHeartbeats 0 in
theorem run (w : World) : HandSHeadRun.RunEqI R (PySem.W.view R.prog [27]) hk ob 4000 (names ++ names2) w := by
  unfold HandSHeadRun.RunEqI
  kernel_rfl
end Toy
set_option maxRecDepth 100000
namespace Toy
open PySem L2 LamX
set_option maxHeartbeats 4000000 in
theorem facts {P : Program} {w : World} {K : PySem.W.Frag} {h : Heap} {mg : Str → Option Value} {f : Addr} (X : K.In h) (G : h.Ns mainGlobals mg) (hfa : mg ("law" : Str) = some (.ref f)) (c : SaysHc ds dd tabsOf ex h K) :
    ∃ fd : FuncData, (∀ (s : Shared) (v : Value), BindsTo s fd ⟨[v], []⟩ [("_law_script", v)]) ∧ ∀ base : Heap, K.In base → base.Ns mainGlobals mg → (∀ p ∈ tabsOf.map (He.cT K), TabB base mg p.1 p.2) →
      FnG P w K mg base CX0 10 f fd ["_law_script"] (spTabs K (tabsOf.map (He.cT K))) := by
  have z0 := c.more
  unfold ex at z0
  obtain ⟨f0, z1⟩ := He.ba z0
  obtain ⟨xBadTile, z2⟩ := He.ba z1
  obtain ⟨xBadNumber, z3⟩ := He.ba z2
  obtain ⟨xBadText, z4⟩ := He.ba z3
  obtain ⟨xTooMany, z5⟩ := He.ba z4
  obtain ⟨yBadTile, z6⟩ := He.ba z5
  obtain ⟨yBadNumber, z7⟩ := He.ba z6
  obtain ⟨yBadText, z8⟩ := He.ba z7
  obtain ⟨yTooMany, z9⟩ := He.ba z8
  obtain ⟨iBadTile, z10⟩ := He.ba z9
  obtain ⟨iBadNumber, z11⟩ := He.ba z10
  obtain ⟨iBadText, z12⟩ := He.ba z11
  obtain ⟨iTooMany, z13⟩ := He.ba z12
  obtain ⟨kBadTileBadTile, z14⟩ := He.ba z13
  obtain ⟨kBadTileBadNumber, z15⟩ := He.ba z14
  obtain ⟨kBadTileBadText, z16⟩ := He.ba z15
  obtain ⟨kBadTileTooMany, z17⟩ := He.ba z16
  obtain ⟨kBadNumberBadTile, z18⟩ := He.ba z17
  obtain ⟨kBadNumberBadNumber, z19⟩ := He.ba z18
  obtain ⟨kBadNumberBadText, z20⟩ := He.ba z19
  obtain ⟨kBadNumberTooMany, z21⟩ := He.ba z20
  obtain ⟨kBadTextBadTile, z22⟩ := He.ba z21
  obtain ⟨kBadTextBadNumber, z23⟩ := He.ba z22
  obtain ⟨kBadTextBadText, z24⟩ := He.ba z23
  obtain ⟨kBadTextTooMany, z25⟩ := He.ba z24
  obtain ⟨kTooManyBadTile, z26⟩ := He.ba z25
  obtain ⟨kTooManyBadNumber, z27⟩ := He.ba z26
  obtain ⟨kTooManyBadText, z28⟩ := He.ba z27
  obtain ⟨kTooManyTooMany, z29⟩ := He.ba z28
  obtain ⟨ow, z30⟩ := He.ba z29
  obtain ⟨rc, z31⟩ := He.ba z30
  obtain ⟨ln, z32⟩ := He.ba z31
  obtain ⟨it, z33⟩ := He.ba z32
  obtain ⟨cn, z34⟩ := He.ba z33
  obtain ⟨le, z35⟩ := He.ba z34
  obtain ⟨oo, z36⟩ := He.ba z35
  obtain ⟨oa, z37⟩ := He.ba z36
  obtain ⟨cr, z38⟩ := He.ba z37
  obtain ⟨cm_read, z39⟩ := He.ba z38
  obtain ⟨sms, z40⟩ := He.ba z39
  obtain ⟨smt, z41⟩ := He.ba z40
  obtain ⟨bo, z42⟩ := He.ba z41
  have pp01 := z42
  have fi : ∀ (i : Nat) (q : He.Fa), fa[i]? = some q → q.ok K = true := fun i q hq => List.all_eq_true.mp f0 q (List.mem_of_getElem? hq)
  have di : ∀ (i : Nat) (d : DefA), ds[i]? = some d → ∃ fd, Fun K d.name d.qual d.st (d.at_ K) fd := fun i d hd => c.defs d (List.mem_of_getElem? hd)
  obtain ⟨fd_is_integer, F_is_integer'⟩ := di 0 _ rfl
  have F_is_integer : Fun K "is_integer" "is_integer" s_is_integer (He.ga K "is_integer") fd_is_integer := F_is_integer'
  have b_is_integer : Binds K fd_is_integer ["value"] [] := F_is_integer.binds (ps := ["value"]) fun _ _ _ _ _ _ us hl => match us, hl with | [_], _ => rfl
  obtain ⟨fd_is_within, F_is_within'⟩ := di 1 _ rfl
  have F_is_within : Fun K "is_within" "is_within" s_is_within (He.ga K "is_within") fd_is_within := F_is_within'
  have b_is_within : Binds K fd_is_within ["value", "least", "most"] [] := F_is_within.binds (ps := ["value", "least", "most"]) fun _ _ _ _ _ _ us hl => match us, hl with | [_, _, _], _ => rfl
  obtain ⟨fd_whole_in, F_whole_in'⟩ := di 2 _ rfl
  have F_whole_in : Fun K "whole_in" "whole_in" s_whole_in (He.ga K "whole_in") fd_whole_in := F_whole_in'
  have b_whole_in : Binds K fd_whole_in ["word", "most"] [] := F_whole_in.binds (ps := ["word", "most"]) fun _ _ _ _ _ _ us hl => match us, hl with | [_, _], _ => rfl
  obtain ⟨fd__law_pen, F__law_pen'⟩ := di 3 _ rfl
  have F__law_pen : Fun K "_law_pen" "_law_pen" s__law_pen (He.ga K "_law_pen") fd__law_pen := F__law_pen'
  have b__law_pen : Binds K fd__law_pen ["_law_script"] [] := F__law_pen.binds (ps := ["_law_script"]) fun _ _ _ _ _ _ us hl => match us, hl with | [_], _ => rfl
  obtain ⟨fd__law_draw, F__law_draw'⟩ := di 4 _ rfl
  have F__law_draw : Fun K "_law_draw" "_law_draw" s__law_draw (He.ga K "_law_draw") fd__law_draw := F__law_draw'
  have b__law_draw : Binds K fd__law_draw ["_law_pen_here", "_law_many"] [] := F__law_draw.binds (ps := ["_law_pen_here", "_law_many"]) fun _ _ _ _ _ _ us hl => match us, hl with | [_, _], _ => rfl
  obtain ⟨fd__law_pick, F__law_pick'⟩ := di 5 _ rfl
  have F__law_pick : Fun K "_law_pick" "_law_pick" s__law_pick (He.ga K "_law_pick") fd__law_pick := F__law_pick'
  have b__law_pick : Binds K fd__law_pick ["_law_pen_here", "_law_some"] [] := F__law_pick.binds (ps := ["_law_pen_here", "_law_some"]) fun _ _ _ _ _ _ us hl => match us, hl with | [_, _], _ => rfl
  obtain ⟨fd__law_offsets, F__law_offsets'⟩ := di 6 _ rfl
  have F__law_offsets : Fun K "_law_offsets" "_law_offsets" s__law_offsets (He.ga K "_law_offsets") fd__law_offsets := F__law_offsets'
  have b__law_offsets : Binds K fd__law_offsets ["_law_pen_here"] [] := F__law_offsets.binds (ps := ["_law_pen_here"]) fun _ _ _ _ _ _ us hl => match us, hl with | [_], _ => rfl
  obtain ⟨fd__law_gaps, F__law_gaps'⟩ := di 7 _ rfl
  have F__law_gaps : Fun K "_law_gaps" "_law_gaps" s__law_gaps (He.ga K "_law_gaps") fd__law_gaps := F__law_gaps'
  have b__law_gaps : Binds K fd__law_gaps ["_law_some"] [] := F__law_gaps.binds (ps := ["_law_some"]) fun _ _ _ _ _ _ us hl => match us, hl with | [_], _ => rfl
  obtain ⟨fd__law_pattern, F__law_pattern'⟩ := di 8 _ rfl
  have F__law_pattern : Fun K "_law_pattern" "_law_pattern" s__law_pattern (He.ga K "_law_pattern") fd__law_pattern := F__law_pattern'
  have b__law_pattern : Binds K fd__law_pattern ["_law_some"] [] := F__law_pattern.binds (ps := ["_law_some"]) fun _ _ _ _ _ _ us hl => match us, hl with | [_], _ => rfl
  obtain ⟨fd__law_heard, F__law_heard'⟩ := di 9 _ rfl
  have F__law_heard : Fun K "_law_heard" "_law_heard" s__law_heard (He.ga K "_law_heard") fd__law_heard := F__law_heard'
  have b__law_heard : Binds K fd__law_heard ["_law_ask"] [] := F__law_heard.binds (ps := ["_law_ask"]) fun _ _ _ _ _ _ us hl => match us, hl with | [_], _ => rfl
  obtain ⟨fd__law_kept, F__law_kept'⟩ := di 10 _ rfl
  have F__law_kept : Fun K "_law_kept" "_law_kept" s__law_kept (He.ga K "_law_kept") fd__law_kept := F__law_kept'
  have b__law_kept : Binds K fd__law_kept ["_law_pen_here", "_law_some"] [] := F__law_kept.binds (ps := ["_law_pen_here", "_law_some"]) fun _ _ _ _ _ _ us hl => match us, hl with | [_, _], _ => rfl
  obtain ⟨fd__law_kinds_right, F__law_kinds_right'⟩ := di 11 _ rfl
  have F__law_kinds_right : Fun K "_law_kinds_right" "_law_kinds_right" s__law_kinds_right (He.ga K "_law_kinds_right") fd__law_kinds_right := F__law_kinds_right'
  have b__law_kinds_right : Binds K fd__law_kinds_right ["_law_pen_here"] [] := F__law_kinds_right.binds (ps := ["_law_pen_here"]) fun _ _ _ _ _ _ us hl => match us, hl with | [_], _ => rfl
  obtain ⟨fd_law, F_law'⟩ := di 12 _ rfl
  have F_law : Fun K "law" "law" s_law (He.ga K "law") fd_law := F_law'
  have b_law : Binds K fd_law ["_law_script"] [] := F_law.binds (ps := ["_law_script"]) fun _ _ _ _ _ _ us hl => match us, hl with | [_], _ => rfl
  obtain ⟨fd_BadTile___init__, F_BadTile___init__'⟩ := di 13 _ rfl
  have F_BadTile___init__ : Fun K "__init__" "BadTile.__init__" s_BadTile (He.ma K (He.ga K "BadTile") "__init__") fd_BadTile___init__ := F_BadTile___init__'
  have b_BadTile___init__ : Binds K fd_BadTile___init__ ["self", "part"] [] := F_BadTile___init__.binds (ps := ["self", "part"]) fun _ _ _ _ _ _ us hl => match us, hl with | [_, _], _ => rfl
  obtain ⟨fd_BadNumber___init__, F_BadNumber___init__'⟩ := di 14 _ rfl
  have F_BadNumber___init__ : Fun K "__init__" "BadNumber.__init__" s_BadNumber (He.ma K (He.ga K "BadNumber") "__init__") fd_BadNumber___init__ := F_BadNumber___init__'
  have b_BadNumber___init__ : Binds K fd_BadNumber___init__ ["self", "value"] [] := F_BadNumber___init__.binds (ps := ["self", "value"]) fun _ _ _ _ _ _ us hl => match us, hl with | [_, _], _ => rfl
  obtain ⟨fd_BadText___init__, F_BadText___init__'⟩ := di 15 _ rfl
  have F_BadText___init__ : Fun K "__init__" "BadText.__init__" s_BadText (He.ma K (He.ga K "BadText") "__init__") fd_BadText___init__ := F_BadText___init__'
  have b_BadText___init__ : Binds K fd_BadText___init__ ["self", "line", "word"] [] := F_BadText___init__.binds (ps := ["self", "line", "word"]) fun _ _ _ _ _ _ us hl => match us, hl with | [_, _, _], _ => rfl
  obtain ⟨fd_TooMany___init__, F_TooMany___init__'⟩ := di 16 _ rfl
  have F_TooMany___init__ : Fun K "__init__" "TooMany.__init__" s_TooMany (He.ma K (He.ga K "TooMany") "__init__") fd_TooMany___init__ := F_TooMany___init__'
  have b_TooMany___init__ : Binds K fd_TooMany___init__ ["self", "what", "most"] [] := F_TooMany___init__.binds (ps := ["self", "what", "most"]) fun _ _ _ _ _ _ us hl => match us, hl with | [_, _, _], _ => rfl
  obtain ⟨fd_Pattern___init__, F_Pattern___init__'⟩ := di 17 _ rfl
  have F_Pattern___init__ : Fun K "__init__" "Pattern.__init__" s_Pattern___init__ (He.ma K (He.ga K "Pattern") "__init__") fd_Pattern___init__ := F_Pattern___init__'
  skip
  obtain ⟨fd_Pattern___eq__, F_Pattern___eq__'⟩ := di 18 _ rfl
  have F_Pattern___eq__ : Fun K "__eq__" "Pattern.__eq__" s_Pattern___eq__ (He.ma K (He.ga K "Pattern") "__eq__") fd_Pattern___eq__ := F_Pattern___eq__'
  have b_Pattern___eq__ : Binds K fd_Pattern___eq__ ["self", "other"] [] := F_Pattern___eq__.binds (ps := ["self", "other"]) fun _ _ _ _ _ _ us hl => match us, hl with | [_, _], _ => rfl
  obtain ⟨fd_Pattern___len__, F_Pattern___len__'⟩ := di 19 _ rfl
  have F_Pattern___len__ : Fun K "__len__" "Pattern.__len__" s_Pattern___len__ (He.ma K (He.ga K "Pattern") "__len__") fd_Pattern___len__ := F_Pattern___len__'
  have b_Pattern___len__ : Binds K fd_Pattern___len__ ["self"] [] := F_Pattern___len__.binds (ps := ["self"]) fun _ _ _ _ _ _ us hl => match us, hl with | [_], _ => rfl
  obtain ⟨fd_Pattern___iter__, F_Pattern___iter__'⟩ := di 20 _ rfl
  have F_Pattern___iter__ : Fun K "__iter__" "Pattern.__iter__" s_Pattern___iter__ (He.ma K (He.ga K "Pattern") "__iter__") fd_Pattern___iter__ := F_Pattern___iter__'
  have b_Pattern___iter__ : Binds K fd_Pattern___iter__ ["self"] [] := F_Pattern___iter__.binds (ps := ["self"]) fun _ _ _ _ _ _ us hl => match us, hl with | [_], _ => rfl
  obtain ⟨fd_Pattern___contains__, F_Pattern___contains__'⟩ := di 21 _ rfl
  have F_Pattern___contains__ : Fun K "__contains__" "Pattern.__contains__" s_Pattern___contains__ (He.ma K (He.ga K "Pattern") "__contains__") fd_Pattern___contains__ := F_Pattern___contains__'
  have b_Pattern___contains__ : Binds K fd_Pattern___contains__ ["self", "x"] [] := F_Pattern___contains__.binds (ps := ["self", "x"]) fun _ _ _ _ _ _ us hl => match us, hl with | [_, _], _ => rfl
  obtain ⟨fd_Pattern___or__, F_Pattern___or__'⟩ := di 22 _ rfl
  have F_Pattern___or__ : Fun K "__or__" "Pattern.__or__" s_Pattern___or__ (He.ma K (He.ga K "Pattern") "__or__") fd_Pattern___or__ := F_Pattern___or__'
  have b_Pattern___or__ : Binds K fd_Pattern___or__ ["self", "other"] [] := F_Pattern___or__.binds (ps := ["self", "other"]) fun _ _ _ _ _ _ us hl => match us, hl with | [_, _], _ => rfl
  obtain ⟨fd_Pattern___le__, F_Pattern___le__'⟩ := di 23 _ rfl
  have F_Pattern___le__ : Fun K "__le__" "Pattern.__le__" s_Pattern___le__ (He.ma K (He.ga K "Pattern") "__le__") fd_Pattern___le__ := F_Pattern___le__'
  have b_Pattern___le__ : Binds K fd_Pattern___le__ ["self", "other"] [] := F_Pattern___le__.binds (ps := ["self", "other"]) fun _ _ _ _ _ _ us hl => match us, hl with | [_, _], _ => rfl
  obtain ⟨fd_Pattern___add__, F_Pattern___add__'⟩ := di 24 _ rfl
  have F_Pattern___add__ : Fun K "__add__" "Pattern.__add__" s_Pattern___add__ (He.ma K (He.ga K "Pattern") "__add__") fd_Pattern___add__ := F_Pattern___add__'
  have b_Pattern___add__ : Binds K fd_Pattern___add__ ["self", "other"] [] := F_Pattern___add__.binds (ps := ["self", "other"]) fun _ _ _ _ _ _ us hl => match us, hl with | [_, _], _ => rfl
  obtain ⟨fd_Pattern_gaps, F_Pattern_gaps'⟩ := di 25 _ rfl
  have F_Pattern_gaps : Fun K "gaps" "Pattern.gaps" s_Pattern_gaps (He.ma K (He.ga K "Pattern") "gaps") fd_Pattern_gaps := F_Pattern_gaps'
  have b_Pattern_gaps : Binds K fd_Pattern_gaps ["self"] [] := F_Pattern_gaps.binds (ps := ["self"]) fun _ _ _ _ _ _ us hl => match us, hl with | [_], _ => rfl
  obtain ⟨fd_Pattern_read, F_Pattern_read'⟩ := di 26 _ rfl
  have F_Pattern_read : Fun K "read" "Pattern.read" s_Pattern_read (He5.wf K (He.ga K "Pattern") "classmethod" "read") fd_Pattern_read := F_Pattern_read'
  have b_Pattern_read : Binds K fd_Pattern_read ["cls", "text"] [] := F_Pattern_read.binds (ps := ["cls", "text"]) fun _ _ _ _ _ _ us hl => match us, hl with | [_, _], _ => rfl
  obtain ⟨fd_Pattern_strided, F_Pattern_strided'⟩ := di 27 _ rfl
  have F_Pattern_strided : Fun K "strided" "Pattern.strided" s_Pattern_strided (He5.wf K (He.ga K "Pattern") "staticmethod" "strided") fd_Pattern_strided := F_Pattern_strided'
  have b_Pattern_strided : Binds K fd_Pattern_strided ["lanes", "stride"] [] := F_Pattern_strided.binds (ps := ["lanes", "stride"]) fun _ _ _ _ _ _ us hl => match us, hl with | [_, _], _ => rfl
  obtain ⟨fd_Pattern_tiled, F_Pattern_tiled'⟩ := di 28 _ rfl
  have F_Pattern_tiled : Fun K "tiled" "Pattern.tiled" s_Pattern_tiled (He5.wf K (He.ga K "Pattern") "staticmethod" "tiled") fd_Pattern_tiled := F_Pattern_tiled'
  have b_Pattern_tiled : Binds K fd_Pattern_tiled ["width", "height", "pitch"] [] := F_Pattern_tiled.binds (ps := ["width", "height", "pitch"]) fun _ _ _ _ _ _ us hl => match us, hl with | [_, _, _], _ => rfl
  have ddi : ∀ (i : Nat) (d : He5.DefA), dd[i]? = some d → ∃ fd, FunD K d.name d.qual d.params d.body d.scope (d.dvs K) (d.kws K) (d.at_ K) fd := fun i d hd => c.defd d (List.mem_of_getElem? hd)
  have g_is_integer := He.glo_ok X G (fi 0 (.glo "is_integer") rfl)
  have g_is_within := He.glo_ok X G (fi 1 (.glo "is_within") rfl)
  have g_whole_in := He.glo_ok X G (fi 2 (.glo "whole_in") rfl)
  have g__law_pen := He.glo_ok X G (fi 3 (.glo "_law_pen") rfl)
  have g__law_draw := He.glo_ok X G (fi 4 (.glo "_law_draw") rfl)
  have g__law_pick := He.glo_ok X G (fi 5 (.glo "_law_pick") rfl)
  have g__law_offsets := He.glo_ok X G (fi 6 (.glo "_law_offsets") rfl)
  have g__law_gaps := He.glo_ok X G (fi 7 (.glo "_law_gaps") rfl)
  have g__law_pattern := He.glo_ok X G (fi 8 (.glo "_law_pattern") rfl)
  have g__law_heard := He.glo_ok X G (fi 9 (.glo "_law_heard") rfl)
  have g__law_kept := He.glo_ok X G (fi 10 (.glo "_law_kept") rfl)
  have g__law_kinds_right := He.glo_ok X G (fi 11 (.glo "_law_kinds_right") rfl)
  have g_law := He.glo_ok X G (fi 12 (.glo "law") rfl)
  have g_BankError := He.glo_ok X G (fi 13 (.glo "BankError") rfl)
  have g_BadTile := He.glo_ok X G (fi 14 (.glo "BadTile") rfl)
  have g_BadNumber := He.glo_ok X G (fi 15 (.glo "BadNumber") rfl)
  have g_BadText := He.glo_ok X G (fi 16 (.glo "BadText") rfl)
  have g_TooMany := He.glo_ok X G (fi 17 (.glo "TooMany") rfl)
  have g_Pattern := He.glo_ok X G (fi 18 (.glo "Pattern") rfl)
  have m_isinstance := He.free_ok X G (fi 19 (.free "isinstance") rfl)
  have m_int := He.free_ok X G (fi 20 (.free "int") rfl)
  have m_bool := He.free_ok X G (fi 21 (.free "bool") rfl)
  have m_len := He.free_ok X G (fi 22 (.free "len") rfl)
  have m_all := He.free_ok X G (fi 23 (.free "all") rfl)
  have m_str := He.free_ok X G (fi 24 (.free "str") rfl)
  have m_list := He.free_ok X G (fi 25 (.free "list") rfl)
  have m_tuple := He.free_ok X G (fi 26 (.free "tuple") rfl)
  have m_range := He.free_ok X G (fi 27 (.free "range") rfl)
  have m_set := He.free_ok X G (fi 28 (.free "set") rfl)
  have m_sorted := He.free_ok X G (fi 29 (.free "sorted") rfl)
  have m_iter := He.free_ok X G (fi 30 (.free "iter") rfl)
  have m_repr := He.free_ok X G (fi 31 (.free "repr") rfl)
  have m_enumerate := He.free_ok X G (fi 32 (.free "enumerate") rfl)
  have m_abs := He.free_ok X G (fi 33 (.free "abs") rfl)
  have c_MOST_OFFSETS := He.int_ok X G (fi 34 (.int "MOST_OFFSETS" 32) rfl)
  have c_GREATEST := He.int_ok X G (fi 35 (.int "GREATEST" (10 ^ 30)) rfl)
  have c_GREATEST_STEP := He.int_ok X G (fi 36 (.int "GREATEST_STEP" (10 ^ 28)) rfl)
  have e := hfa.symm.trans g_law
  cases e
  have xl_BadTile := xl_of xBadTile
  have xc_BadTile := xc_of xl_BadTile yBadTile
  obtain ⟨n_BadTile, t_BadTile⟩ := He.ba iBadTile
  have n_BadTile' := of_decide_eq_true n_BadTile
  have t_BadTile' := of_decide_eq_true t_BadTile
  have xl_BadNumber := xl_of xBadNumber
  have xc_BadNumber := xc_of xl_BadNumber yBadNumber
  obtain ⟨n_BadNumber, t_BadNumber⟩ := He.ba iBadNumber
  have n_BadNumber' := of_decide_eq_true n_BadNumber
  have t_BadNumber' := of_decide_eq_true t_BadNumber
  have xl_BadText := xl_of xBadText
  have xc_BadText := xc_of xl_BadText yBadText
  obtain ⟨n_BadText, t_BadText⟩ := He.ba iBadText
  have n_BadText' := of_decide_eq_true n_BadText
  have t_BadText' := of_decide_eq_true t_BadText
  have xl_TooMany := xl_of xTooMany
  have xc_TooMany := xc_of xl_TooMany yTooMany
  obtain ⟨n_TooMany, t_TooMany⟩ := He.ba iTooMany
  have n_TooMany' := of_decide_eq_true n_TooMany
  have t_TooMany' := of_decide_eq_true t_TooMany
  have T : TR mg := ⟨m_isinstance, m_int, m_bool, m_len, m_all, m_str, m_list, m_tuple, m_range, m_set, m_sorted, m_iter, m_repr, m_enumerate, He.str_ok X G (fi 37 (.str "DIGITS" "0123456789") rfl), c_GREATEST⟩
  have TBo : TB mg := ⟨m_int, m_abs, m_len, m_list⟩
  have TE : TErr K mg (He.ga K "BadTile") (He.ga K "BadNumber") (He.ga K "BadText") (He.ga K "TooMany") (He.ma K (He.ga K "BadTile") "__init__") (He.ma K (He.ga K "BadNumber") "__init__") (He.ma K (He.ga K "BadText") "__init__") (He.ma K (He.ga K "TooMany") "__init__") fd_BadTile___init__ fd_BadNumber___init__ fd_BadText___init__ fd_TooMany___init__ := ⟨g_BadTile, ⟨xc_BadTile, n_BadTile', t_BadTile'⟩, F_BadTile___init__, He.noat_ok (fi 41 (.noat "BadTile" "part") rfl), b_BadTile___init__, g_BadNumber, ⟨xc_BadNumber, n_BadNumber', t_BadNumber'⟩, F_BadNumber___init__, He.noat_ok (fi 42 (.noat "BadNumber" "value") rfl), b_BadNumber___init__, g_BadText, ⟨xc_BadText, n_BadText', t_BadText'⟩, F_BadText___init__, He.noat_ok (fi 43 (.noat "BadText" "line") rfl), He.noat_ok (fi 44 (.noat "BadText" "word") rfl), b_BadText___init__, g_TooMany, ⟨xc_TooMany, n_TooMany', t_TooMany'⟩, F_TooMany___init__, He.noat_ok (fi 45 (.noat "TooMany" "what") rfl), He.noat_ok (fi 46 (.noat "TooMany" "most") rfl), b_TooMany___init__⟩
  have TU : TPat K mg (He.ga K "Pattern") := ⟨He.cls_ok (fi 38 (.cls "Pattern") rfl), He.noat_ok (fi 39 (.noat "Pattern" "offsets") rfl), g_Pattern⟩
  have MPI := He.mkr_ok (fi 47 (.mkr "Pattern") rfl)
  have mGa := He.meth_ok (fi 40 (.meth "Pattern" "gaps") rfl)
  have OC := own_of ow
  have RC := rcls_of TU.cl rc
  obtain ⟨nLn, nLn2⟩ := meth_of ln
  obtain ⟨nIt, nIt2⟩ := meth_of it
  obtain ⟨nIn, nIn2⟩ := meth_of cn
  obtain ⟨nLe, nLe2⟩ := meth_of le
  have oOr := ownOp_of (nm := "or") (m := "__or__") (r := "__ror__") (by decide +kernel) (by decide +kernel) oo
  have oAd := ownOp_of (nm := "add") (m := "__add__") (r := "__radd__") (by decide +kernel) (by decide +kernel) oa
  have nBo := of_decide_eq_true bo
  have rcR := cread_of cr
  have cmR := cm_of cm_read
  have smSd := sm_of sms
  have smTi := sm_of smt
  have bvI : BindV fd_Pattern___init__ "self" "offsets" PySem.sizeLine := by
    obtain ⟨oc, od, kV, doc, pm, an, cdv, ct, osl, e, _, _⟩ := F_Pattern___init__.ex
    subst e
    exact bindV_any (fun _ => rfl) (fun _ _ => rfl) (fun _ _ _ _ => rfl) _
  obtain ⟨och, odh, kVh, doch, pmh, anh, cdvh, cth, oslh, eh, lkHe, hcHe⟩ := id F__law_heard.ex
  subst eh
  have THd : THeard K mg (He.ga K "BadTile") (He.ga K "BadNumber") (He.ga K "TooMany") (He.ga K "BankError") := ⟨g_BankError, TE.gBadTile, xc_BadTile, He.noat_ok (fi 41 (.noat "BadTile" "part") rfl), He.exm_ok (fi 48 (.exm "BadTile" "BankError" true) rfl), TE.gBadNumber, xc_BadNumber, He.noat_ok (fi 42 (.noat "BadNumber" "value") rfl), He.exm_ok (fi 49 (.exm "BadNumber" "BankError" true) rfl), TE.gTooMany, xc_TooMany, He.noat_ok (fi 46 (.noat "TooMany" "most") rfl), He.exm_ok (fi 50 (.exm "TooMany" "BankError" true) rfl), of_decide_eq_true kBadTileBadTile, of_decide_eq_true kBadTileBadNumber, of_decide_eq_true kBadTileTooMany, of_decide_eq_true kBadNumberBadTile, of_decide_eq_true kBadNumberBadNumber, of_decide_eq_true kBadNumberTooMany, of_decide_eq_true kTooManyBadTile, of_decide_eq_true kTooManyBadNumber, of_decide_eq_true kTooManyTooMany, m_isinstance, m_repr, m_len⟩
  have vrot : ∀ {zs : List V} {ws : List Value}, Vals zs ws → Vals (zs.drop 2 ++ zs.take 2) (ws.drop 2 ++ ws.take 2) := fun q => by
    cases q with
    | nil => exact .nil
    | cons a q =>
      cases q with
      | nil => exact .cons a .nil
      | cons b q => exact Vals.append q (.cons a (.cons b .nil))
  have kSd : KBn K fd_Pattern_strided ["lanes", "stride"] 0 ["stride", "lanes"] (fun us ws => us ++ ws.reverse) (fun vs zs => vs ++ zs.reverse) := F_Pattern_strided.kbn 0 ["stride", "lanes"] _ _ (fun _ _ _ _ _ _ us ws l1 l2 => match us, ws, l1, l2 with | [], [_, _], _, _ => rfl) fun r q => r.append q.rev
  have kTi : KBn K fd_Pattern_tiled ["width", "height", "pitch"] 0 ["height", "pitch", "width"] (fun us ws => us ++ (ws.drop 2 ++ ws.take 2)) (fun vs zs => vs ++ (zs.drop 2 ++ zs.take 2)) := F_Pattern_tiled.kbn 0 ["height", "pitch", "width"] _ _ (fun _ _ _ _ _ _ us ws l1 l2 => match us, ws, l1, l2 with | [], [_, _, _], _, _ => rfl) fun r q => r.append (vrot q)
  obtain ⟨ocM, odM, kVM, docM, pmM, anM, cdvM, ctM, oslM, eM, lkM, hcM⟩ := id F__law_kinds_right.ex
  obtain ⟨ocl, odl, kVl, docl, pml, anl, cdvl, ctl, osll, el, lkL, hcL⟩ := id F_law.ex
  subst eM el
  obtain ⟨c0, rfl⟩ := He.codeIn_ref hcM
  obtain ⟨c1, rfl⟩ := He.codeIn_ref hcL
  have ec0 : He.codeOf K ("_law_kinds_right", none) = c0 := He.codeOf_eq lkM rfl
  have ec1 : He.codeOf K ("law", none) = c1 := He.codeOf_eq lkL rfl
  have dis := of_decide_eq_true pp01
  refine ⟨PySem.W.fnOf "law" "law" (defArgs s_law) (defBody s_law) (defScope s_law) .none kVl docl pml anl (.ref c1) ctl, fun s v => .of_eq rfl, fun base _ _ tb => ?_⟩
  have TBR : TabB base mg c0 (He.cT K ("_law_kinds_right", none)).2 := by
    rw [← ec0]
    exact tb _ List.mem_cons_self
  have TBl : TabB base mg c1 (He.cT K ("law", none)).2 := by
    rw [← ec1]
    exact tb _ (List.mem_cons_of_mem _ List.mem_cons_self)
  have GD : FnOk P w K mg base CX0 1 _ fd__law_draw ["_law_pen_here", "_law_many"] spDraw := ok__law_draw F__law_draw TBo
  have GPk : FnOk P w K mg base CX0 2 _ fd__law_pick ["_law_pen_here", "_law_some"] (spPick K) := ok__law_pick F__law_pick TBo F__law_draw g__law_draw b__law_draw
  have GPn : FnOk P w K mg base CX0 1 _ fd__law_pen ["_law_script"] (spPen K) := ok__law_pen F__law_pen TBo
  have GW := ok_is_within (P := P) (w := w) (base := base) F_is_within T F_is_integer g_is_integer b_is_integer
  have GWh := ok_whole_in (P := P) (w := w) (base := base) F_whole_in T
  have GPI := ok_Pattern_init (P := P) (w := w) (base := base) F_Pattern___init__ bvI T c_MOST_OFFSETS TE TU GW g_is_within F_is_within.kp b_is_within
  have GEq := ok_Pattern_eq (P := P) (w := w) (base := base) F_Pattern___eq__ T TU RC
  have GEqR : FnR P w K mg base CX0 1 _ (spPEq (He.ga K "Pattern") K) := (FnOk.raw GEq b_Pattern___eq__ .nil).imp fun vs H Q E h => by rw [List.append_nil]; exact h
  have GLn : FnR P w K mg base CX0 1 _ (spPLen (He.ga K "Pattern")) := (FnOk.raw (ok_Pattern_len (P := P) (w := w) (base := base) F_Pattern___len__ T TU) b_Pattern___len__ .nil).imp fun vs H Q E h => by rw [List.append_nil]; exact h
  have GIt : ∀ b : Heap, FnR P w K mg b CX0 1 _ (spPIter (He.ga K "Pattern") b) := fun b => (FnOk.raw (ok_Pattern_iter (P := P) (w := w) (base := b) F_Pattern___iter__ T TU) b_Pattern___iter__ .nil).imp fun vs H Q E h => by rw [List.append_nil]; exact h
  have GIn : FnR P w K mg base CX0 2 _ (spPIn (He.ga K "Pattern") K) := (FnOk.raw (ok_Pattern_in (P := P) (w := w) (base := base) F_Pattern___contains__ T TU F_is_integer g_is_integer b_is_integer) b_Pattern___contains__ .nil).imp fun vs H Q E h => by rw [List.append_nil]; exact h
  have GOr : FnR P w K mg base (L2.CX P w) 6 _ (spPOr (He.ga K "BadTile") (He.ga K "TooMany") (He.ga K "Pattern") K) := (FnOk.raw (ok_Pattern_or (P := P) (w := w) (base := base) F_Pattern___or__ T TE TU RC MPI GPI) b_Pattern___or__ .nil).imp fun vs H Q E h => by rw [List.append_nil]; exact h
  have GLe : FnR P w K mg base (L2.CX P w) 3 _ (spPLe (He.ga K "BadTile") (He.ga K "Pattern") K) := (FnOk.raw (ok_Pattern_le (P := P) (w := w) (base := base) F_Pattern___le__ T TE TU RC) b_Pattern___le__ .nil).imp fun vs H Q E h => by rw [List.append_nil]; exact h
  have GAd : FnR P w K mg base (L2.CX P w) 6 _ (spPAdd (He.ga K "BadTile") (He.ga K "BadNumber") (He.ga K "TooMany") (He.ga K "Pattern") K) := (FnOk.raw (ok_Pattern_add (P := P) (w := w) (base := base) F_Pattern___add__ T TE TU GW g_is_within F_is_within.kp b_is_within MPI GPI) b_Pattern___add__ .nil).imp fun vs H Q E h => by rw [List.append_nil]; exact h
  have GGa : FnR P w K mg base CX0 1 _ (spPGaps (He.ga K "Pattern")) := (FnOk.raw (ok_Pattern_gaps (P := P) (w := w) (base := base) F_Pattern_gaps T TU) b_Pattern_gaps .nil).imp fun vs H Q E h => by rw [List.append_nil]; exact h
  have GSdK := ok_Pattern_strided (P := P) (w := w) (base := base) F_Pattern_strided T c_MOST_OFFSETS c_GREATEST_STEP TE TU GW g_is_within F_is_within.kp b_is_within MPI GPI
  have GTiK := ok_Pattern_tiled (P := P) (w := w) (base := base) F_Pattern_tiled T c_MOST_OFFSETS c_GREATEST_STEP TE TU GW g_is_within F_is_within.kp b_is_within MPI GPI
  have GSd : FnR P w K mg base (L2.CX P w) 6 _ (spStrided (He.ga K "BadTile") (He.ga K "TooMany") (He.ga K "Pattern") K) := (FnOk.raw GSdK b_Pattern_strided .nil).imp fun vs H Q E h => by rw [List.append_nil]; exact h
  have GTi : FnR P w K mg base (L2.CX P w) 6 _ (spTiled (He.ga K "BadTile") (He.ga K "TooMany") (He.ga K "Pattern") K) := (FnOk.raw GTiK b_Pattern_tiled .nil).imp fun vs H Q E h => by rw [List.append_nil]; exact h
  have GRd := ok_Pattern_read (P := P) (w := w) (base := base) F_Pattern_read T c_MOST_OFFSETS TE TU GWh g_whole_in F_whole_in.kp b_whole_in MPI GPI
  have GOf := ok__law_offsets (P := P) (w := w) (base := base) F__law_offsets T GD g__law_draw F__law_draw.kp b__law_draw
  have GLP := ok__law_pattern (P := P) (w := w) (base := base) F__law_pattern T TU rcR cmR GRd b_Pattern_read
  have GLG := ok__law_gaps (P := P) (w := w) (base := base) F__law_gaps T
  have GKe := ok__law_kept (P := P) (w := w) (base := base) F__law_kept T TU RC GD g__law_draw F__law_draw.kp b__law_draw GPk g__law_pick F__law_pick.kp b__law_pick GOf g__law_offsets F__law_offsets.kp b__law_offsets GLP g__law_pattern F__law_pattern.kp b__law_pattern GLG g__law_gaps F__law_gaps.kp b__law_gaps OC GEq b_Pattern___eq__ GEqR nBo nLn nLn2 GLn nIt nIt2 GIt nIn nIn2 GIn oOr GOr nLe nLe2 GLe oAd GAd mGa GGa
  have GKi := ok__law_kinds_right (P := P) (w := w) (base := base) lkM hcM TBR dis T TU RC THd GD g__law_draw F__law_draw.kp b__law_draw GPk g__law_pick F__law_pick.kp b__law_pick rcR smSd GSd GSdK kSd smTi GTi GTiK kTi OC GEq b_Pattern___eq__ oOr GOr nLe nLe2 GLe oAd GAd MPI GPI g__law_heard F__law_heard.kp lkHe hcHe b__law_heard
  exact ok_law lkL hcL TBl dis T TU RC THd GPn g__law_pen F__law_pen.kp b__law_pen GOf g__law_offsets F__law_offsets.kp b__law_offsets GKe g__law_kept F__law_kept.kp b__law_kept GKi g__law_kinds_right F__law_kinds_right.kp b__law_kinds_right rcR smSd GSd smTi GTi OC GEq b_Pattern___eq__ nLn nLn2 GLn oOr GOr mGa GGa MPI GPI g__law_heard F__law_heard.kp lkHe hcHe b__law_heard

end Toy
open PySem PySem.W PySem.Calls PyProof.Rows
set_option maxRecDepth 100000 in
set_option maxHeartbeats 0 in
theorem PySem.Challenge.cw_lanebanks_k47_patterns_made_holds : PySem.Challenge.rw_lanebanks_k47_patterns_made.Holds := by
  w_on; o_law
  refine HandSHeadRun.head_imp (r := OpenLaw.row PySem.Challenge.rw_lanebanks_k47_patterns_made) (q := view (OpenLaw.row PySem.Challenge.rw_lanebanks_k47_patterns_made).prog [27]) (H := Toy.hk) (ob := Toy.ob) (M := 4000) (loose := Toy.names ++ Toy.names2) (d := HandSHeadRun.topDef (OpenLaw.row PySem.Challenge.rw_lanebanks_k47_patterns_made).prog 27) (kwd := []) Toy.ob_eq
    Toy.run (by kernel_rfl) (by kernel_rfl) (by kernel_rfl) (by rfl) (by first | assumption | decide +kernel) (by decide +kernel) ⟨rfl, rfl, rfl, rfl, rfl, by decide +kernel⟩ ?hw ?hc
  case hw => w_witness2
  case hc =>
    refine L2.walk_tabs (l := PySem.Challenge.rw_lanebanks_k47_patterns_made) (n := 63) (k := 10) (x := "_law_script") (sp := fun K ts => Toy.spTabs K ts) rfl (by decide) (by kernel_rfl) ⟨rfl, by decide, by decide⟩ ?F (fun K ts H a ns hl hb hT hS => ⟨a, ns, rfl, hS, hl, hb, hT, fun _ => rfl⟩)
    intro w mg fa h Y G hmg0
    obtain ⟨K, KX, c⟩ := Y
    have hmg : mg ("law" : PySem.Str) = some (.ref fa) := by
      have e : (HandSHeadRun.topDef (OpenLaw.row PySem.Challenge.rw_lanebanks_k47_patterns_made).prog 27).name = ("law" : PySem.Str) := by kernel_rfl
      rw [← e]
      exact hmg0
    obtain ⟨fd, hb, hF⟩ := Toy.facts (P := (PySem.Challenge.rw_lanebanks_k47_patterns_made).prog) (w := w) KX G hmg c
    refine ⟨K, Toy.tabsOf.map (He.cT K), fd, KX, fun p hp => ?_, fun p hp => ?_, fun p hp => ?_, hb, hF⟩
    all_goals
      obtain ⟨d, hd, rfl⟩ := List.mem_map.mp hp
    · exact c.empty d hd
    · exact c.out d hd
    · exact PySem.W.codeHd_of_K KX (c.hd d hd)
