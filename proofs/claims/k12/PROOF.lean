import PyProof.Rows.All
import Wide.All
import OpenK.AllK
import Wide.FinOn
import HandS.ForMost
import HandS.Wide
import HandS.Style
import HandS.Zip
import HandS.MakeKwOnly
import HandS.MakeKw
import HandS.Walk
import HandS.TupAny
import HandS.Star
import HandS.Conv
import HandS.TupMul
import KE.KRevSl
import HandS.Strs
import HandS.Codes
import HandS.SetFor
import HandS.Text
import HandS.WordsList
import KE.KUnpackStar
import PyProof.Draws
import HandS.Iter
import KE.GoesEnumKw
import PyProof.CallStr
import PyProof.CallFns
import HandS.List
import HandS.Exc
import HandS.ExcOwn
import HandS.ExcInit
import HandS.ExcSuper
import HandS.WordsExc
import KE.KExcIs
import KE.KIsAll
import PyProof.StrOps2
import PyProof.ListStr
import HandS.Steps
import HandS.FStr
import KE.DataEq
import HandS.Defaults
import HandS.RaiseMore
import PySem.Challenge.RW_whateverboxes_k12_texts_of_systems_bent
set_option Elab.async false
set_option linter.all false
set_option maxRecDepth 100000
set_option maxHeartbeats 4000000
namespace GL
open PySem PySem.Spec PyProof.Rows L2

/-- nothing that guards itself against its own turn is under way -/
def Calm (A : Around) : Prop := A.guards = some []
theorem Calm.deeper {A : Around} (g : Calm A) (env : Env) : Calm (A.deeper env) := g
theorem Calm.make {A : Around} (g : Calm A) (C : Addr) (us : List Value) (kw : List (Str × Value)) : Calm (A.under (.builtin "type.__call__" ⟨.ref C :: us, kw⟩)) := by
  unfold Calm at *
  simp only [Around.under, Code.guards, Code.isGuard, guardIds]
  first | exact g | (rw [g]; rfl) | (simp [g])

/-- a def keeps its promise wherever no guard is under way -/
structure FnG (P : Program) (w : World) (K : PySem.W.Frag) (mg : Str → Option Value) (base : Heap) (CX : CXT) (k : Nat) (f : Addr) (fd : FuncData) (ps : List Str) (sp : Sp) : Prop where
  len : ∀ vs H Q E, sp vs H Q E → vs.length = ps.length
  run : ∀ (A : Around) (outer : List Env) (s : Shared) (H : Hp) (args : Args) (us : List Value) (vs : List V) (Q : VK) (E : XK),
    Room k A → Calm A → Env0 P w K mg base A outer s H → BindsTo s fd args (ps.zip us) → Vals vs us → sp vs H Q E →
    codeAny (model P w) A (.call (.ref f) args) (CR CX outer P w H s Q E) s
section
variable {P : Program} {w : World} {K : PySem.W.Frag} {mg : Str → Option Value} {base : Heap} {CX : CXT} {j k : Nat} {f : Addr} {fd : FuncData} {ps : List Str} {sp sp' : Sp}
theorem FnG.up (F : FnG P w K mg base CX j f fd ps sp) (h : j ≤ k) : FnG P w K mg base CX k f fd ps sp where
  len := F.len
  run := fun A outer s H args us vs Q E r g => F.run A outer s H args us vs Q E (r.mono h) g
theorem FnG.of (F : FnOk P w K mg base CX k f fd ps sp) : FnG P w K mg base CX k f fd ps sp where
  len := F.len
  run := fun A outer s H args us vs Q E r _ => F.run A outer s H args us vs Q E r
end

/-! what is known of a def of the text by its callers -/
structure DefG (P : Program) (w : World) (K : PySem.W.Frag) (mg : Str → Option Value) (base : Heap) (k : Nat) (x : Str) (ps : List Str) (sp : Sp) : Prop where
  ex : ∃ (f : Addr) (fd : FuncData), FnG P w K mg base CX0 k f fd ps sp ∧ mg x = some (.ref f) ∧ PySem.W.keepIn K (.ref f) = true ∧ Binds K fd ps []

section
variable {X : Cx} {CX : CXT} {k n : Nat} {f C : Addr} {fd : FuncData} {ps ks : List Str} {sp : Sp} {dvs : List V} {ds : List Value} {E : XK} {x m : Str} {p pos apos : Pos} {e o : Expr} {es : List Expr} {ta : TE} {t tk : TA} {kws : List Keyword}
variable {g : List Value → List Value → List Value} {gV : List V → List V → List V}

theorem out_of {pins : List (Addr × Obj)} {σ : L2.St} {H : Hp} {s : Shared} {Q : VK} (hx : Passes CX X E) (I : Inv X pins σ H s) :
    ∀ (r : Result) (s' : Shared), CR CX X.stack X.prog X.w H s Q E r s' → (match r with | .ok (.ret u) => EP X pins σ Q u s' | .ok _ => False | .error e => X.xe e s')
  | .error e, s', q => hx pins σ H s e s' I q
  | .ok (.ret _), _, q => I.after q
  | .ok .next, _, q => q
  | .ok .brk, _, q => q
  | .ok .cont, _, q => q

theorem runG {pins : List (Addr × Obj)} {σ : L2.St} {H : Hp} {s : Shared} {Q : VK} {us : List Value} {vs : List V} (F : FnG X.prog X.w X.K X.mg X.base CX k f fd ps sp) (hr : Room k X.A) (hc : Calm X.A)
    (hb : Binds X.K fd ps ds) (hd : Vals dvs ds) (hx : Passes CX X E) (I : Inv X pins σ H s) (r : Vals vs us) (h : sp (vs ++ dvs) H Q E) :
    wpAny (model X.prog X.w) X.A (call (.ref f) us) (EP X pins σ Q) X.xe s := by
  have both : Vals (vs ++ dvs) (us ++ ds) := Vals.append r hd
  have long : (us ++ ds).length = ps.length := both.length.symm.trans (F.len _ _ _ _ h)
  have go := F.run X.A X.stack s H ⟨us, []⟩ (us ++ ds) (vs ++ dvs) Q E hr hc I.env0 (hb s us I.kIn long) both h
  refine wpAny_call (codeAny_mono go fun r' s' q => ?_)
  have z := out_of hx I r' s' q
  match r', z with
  | .error _, z => exact z
  | .ok (.ret _), z => exact z

theorem pe_def (D : DefG X.prog X.w X.K X.mg X.base k x ps sp) (hr : Room k X.A) (hc : Calm X.A) (hg : Gl X x) (ha : PA X (e :: es) t) (hdb : (x == ("__debug__" : Str)) = false := by decide)
    (he : starEach (e :: es) X.env = (false, eval e X.env) :: starEach es X.env := by rfl) (hpl : (backTo pos (starEach es X.env)).any (·.1) = false := by rfl) :
    PE X (.Call (.Name x p) (e :: es) [] pos) (tCall sp [] E0 t) := by
  obtain ⟨f, fd, F, hm, hk, hb⟩ := D.ex
  exact ⟨fun pins s σ H Q I h => wpAny_Call_Name_kw (ld_glob I hg hm (PySem.W.callWith_K (h₀ := X.base) I.ok.mod.kin hk
    (thn (ha.run pos pins s σ H _ I h) fun us s1 ⟨vs, H1, I1, r, q⟩ => ⟨I1.kIn, runG F hr hc hb .nil pass0 I1 r q⟩) he hpl) hdb)⟩

/-- a method with positional arguments -/
theorem pe_methG {pl : Sem Bool} (he : PE X o ta) (c : Cls X.K C) (hm : Meth X.K C m f) (F : FnG X.prog X.w X.K X.mg X.base CX k f fd ps sp) (hr : Room k X.A) (hc : Calm X.A) (hb : Binds X.K fd ps ds) (hd : Vals dvs ds) (hx : Passes CX X E)
    (ha : PA X (e :: es) t) (hst : starEach (e :: es) X.env = (false, eval e X.env) :: starEach es X.env := by rfl) (hpl : (backTo pos (starEach es X.env)).any (·.1) = false := by rfl)
    (ht : eval (.Call (.Attribute o m apos) (e :: es) [] pos) X.env = (eval o X.env >>= fun ov => standAt apos.atName >>= fun _ => holding [ov] (getMethod ov m pl) >>= fun fx =>
      callWith pos fx.1 fx.2 (backTo pos (starEach (e :: es) X.env)) (backToKw pos (keywordEach [] X.env))) := by rfl) :
    PE X (.Call (.Attribute o m apos) (e :: es) [] pos) (tMeth C m sp dvs E ta t) := by
  constructor
  intro pins s σ H Q I h
  refine PySem.W.methodCall_KW (pl := pl) (thn (he.run pins s σ H _ I h) ?_) ht
  rintro u s1 ⟨_, H1, I1, rx, a, dx, fs, rfl, ea, l, q⟩
  obtain rfl : u = .ref a := rx
  refine getmeth_ok I1 ea c hm l (PySem.W.callWith_K (first := [.ref a]) (h₀ := X.base) I.ok.mod.kin hm.kp (thn (ha.run pos pins s1 σ H1 _ I1 q) ?_) hst hpl)
  rintro us s2 ⟨vs, H2, I2, r, q2⟩
  exact ⟨I2.kIn, runG (us := .ref a :: us) (vs := .ref a :: vs) F hr hc hb hd hx I2 (.cons rfl r) q2⟩

/-- how keywords alone bind behind a receiver -/
def tMethK (C : Addr) (m : Str) (sp : Sp) (n : Nat) (gV : List V → List V → List V) (E : XK) (ta : TE) (tk : TA) : TE := fun σ H Q => ta σ H fun x H1 => ∃ a dx fs, x = .ref a ∧ H1 a = some (.ins C dx fs) ∧ fs.lookup m = none ∧
  tk σ H1 fun zs H2 => zs.length = n ∧ sp (gV [x] zs) H2 Q E
theorem runKG {pins : List (Addr × Obj)} {σ : L2.St} {H : Hp} {s : Shared} {Q : VK} {us ws : List Value} {vs zs : List V} (F : FnG X.prog X.w X.K X.mg X.base CX k f fd ps sp) (hr : Room k X.A) (hc : Calm X.A) (hb : KBn X.K fd ps n ks g gV) (hx : Passes CX X E)
    (I : Inv X pins σ H s) (r : Vals vs us) (rz : Vals zs ws) (l1 : vs.length = n) (l2 : zs.length = ks.length) (h : sp (gV vs zs) H Q E) :
    wpAny (model X.prog X.w) X.A (call (.ref f) us (ks.zip ws)) (EP X pins σ Q) X.xe s := by
  have go := F.run X.A X.stack s H ⟨us, ks.zip ws⟩ (g us ws) (gV vs zs) Q E hr hc I.env0 (hb.to s us ws I.kIn (r.length.symm.trans l1) (rz.length.symm.trans l2)) (hb.rel r rz) h
  refine wpAny_call (codeAny_mono go fun r' s' q => ?_)
  have z := out_of hx I r' s' q
  match r', z with
  | .error _, z => exact z
  | .ok (.ret _), z => exact z
theorem pe_methKG {pl : Sem Bool} (he : PE X o ta) (c : Cls X.K C) (hm : Meth X.K C m f) (F : FnG X.prog X.w X.K X.mg X.base CX k f fd ps sp) (hr : Room k X.A) (hc : Calm X.A) (hb : KBn X.K fd ps 1 ks g gV) (hx : Passes CX X E)
    (hkw : PK X kws tk) (hall : (backToKw pos (keywordEach kws X.env)).all (·.1.isSome) = true := by rfl) (hks : (backToKw pos (keywordEach kws X.env)).filterMap (·.1) = ks := by rfl)
    (hpl : ((backTo pos (starEach [] X.env)).any (·.1) || (backToKw pos (keywordEach kws X.env)).any (·.1.isNone)) = false := by rfl)
    (ht : eval (.Call (.Attribute o m apos) [] kws pos) X.env = (eval o X.env >>= fun ov => standAt apos.atName >>= fun _ => holding [ov] (getMethod ov m pl) >>= fun fx =>
      callWith pos fx.1 fx.2 (backTo pos (starEach [] X.env)) (backToKw pos (keywordEach kws X.env))) := by rfl) :
    PE X (.Call (.Attribute o m apos) [] kws pos) (tMethK C m sp ks.length gV E ta tk) := by
  constructor
  intro pins s σ H Q I h
  refine PySem.W.methodCall_KW (pl := pl) (thn (he.run pins s σ H _ I h) ?_) ht
  rintro u s1 ⟨_, H1, I1, rx, a, dx, fs, rfl, ea, l, q⟩
  obtain rfl : u = .ref a := rx
  refine getmeth_ok I1 ea c hm l (PySem.W.callWith_KW0 (first := [.ref a]) (h₀ := X.base) I.ok.mod.kin hm.kp hall (thn (hkw.run pos pins s1 σ H1 _ I1 q) ?_) hpl)
  rintro ws s2 ⟨zs, H2, I2, rz, l2, q2⟩
  refine ⟨I2.kIn, ?_⟩
  rw [hks]
  exact runKG (us := [.ref a]) (vs := [.ref a]) F hr hc hb hx I2 (.cons rfl .nil) rz rfl l2 q2

/-- a new instance, then its __init__ with what binds -/
theorem makeG {pins : List (Addr × Obj)} {σ : L2.St} {H : Hp} {s : Shared} {Q : VK} {us : List Value} {kw : List (Str × Value)} {all : List Value} {av : Addr → List V} (M : Mk X.K C f) (F : FnG X.prog X.w X.K X.mg X.base CX k f fd ps sp) (hr : Room (k + 1) X.A) (hc : Calm X.A)
    (hx : Passes CX X E) (I : Inv X pins σ H s)
    (hb : ∀ s' : Shared, X.K.In s'.heap → BindsTo s' fd ⟨.ref (s.heap.objs.size + 1) :: us, kw⟩ (ps.zip all)) (r : Vals (av (s.heap.objs.size + 1)) all)
    (h : ∀ x dx, H x = none → H dx = none → dx ≠ x → sp (av x) (upd (upd H dx (.own x)) x (.ins C dx [])) (fun v H2 => v = .non ∧ Q (.ref x) H2) E) :
    wpAny (model X.prog X.w) X.A (call (.ref C) us kw) (EP X pins σ Q) X.xe s := by
  have q0 := h (s.heap.objs.size + 1) s.heap.objs.size (I.hok.fresh (Nat.le_succ _)) (I.hok.fresh (Nat.le_refl _)) (Nat.ne_of_lt (Nat.lt_succ_self _))
  have J := Inv.made (C := C) I
  have go := F.run _ X.stack _ _ ⟨Value.ref (s.heap.objs.size + 1) :: us, kw⟩ all _ _ E (hr.make C us kw) (hc.make C us kw) (J.env0.make C us kw) (hb _ J.kIn) r q0
  refine wpAny_call (make_map (f := f) I.kIn M.makes M.init (beq_iff_eq.mp M.fn) (codeAny_mono go fun r' s' q => ?_))
  match r', q with
  | .error e, q => exact hx pins σ _ _ e s' J q
  | .ok (.ret u), q =>
    obtain ⟨v, H', I3, rv, ev, q3⟩ := J.after q
    cases ev
    exact ⟨rv, ⟨V.ref (s.heap.objs.size + 1), H', I3, rfl, q3⟩⟩
theorem pe_makeG (M : Mk X.K C f) (F : FnG X.prog X.w X.K X.mg X.base CX k f fd ps sp) (hr : Room (k + 1) X.A) (hc : Calm X.A) (hg : Gl X x) (hm : X.mg x = some (.ref C)) (hb : Binds X.K fd ps ds) (hd : Vals dvs ds) (hx : Passes CX X E)
    (ha : PA X (e :: es) t) (hdb : (x == ("__debug__" : Str)) = false := by decide) (he : starEach (e :: es) X.env = (false, eval e X.env) :: starEach es X.env := by rfl) (hpl : (backTo pos (starEach es X.env)).any (·.1) = false := by rfl) :
    PE X (.Call (.Name x p) (e :: es) [] pos) (tMake C sp dvs E t) := by
  constructor
  intro pins s σ H Q I h
  refine wpAny_Call_Name_kw (ld_glob I hg hm (PySem.W.callWith_K (h₀ := X.base) I.ok.mod.kin M.kp (thn (ha.run pos pins s σ H _ I h) ?_) he hpl) hdb)
  rintro us s1 ⟨vs, H1, I1, r, q⟩
  have r2 : Vals (V.ref (s1.heap.objs.size + 1) :: (vs ++ dvs)) (Value.ref (s1.heap.objs.size + 1) :: (us ++ ds)) := .cons rfl (Vals.append r hd)
  have q0 := q (s1.heap.objs.size + 1) s1.heap.objs.size (I1.hok.fresh (Nat.le_succ _)) (I1.hok.fresh (Nat.le_refl _)) (Nat.ne_of_lt (Nat.lt_succ_self _))
  exact ⟨I1.kIn, makeG (av := fun x => .ref x :: (vs ++ dvs)) M F hr hc hx I1 (fun s' X' => hb s' (Value.ref (s1.heap.objs.size + 1) :: us) X' (r2.length.symm.trans (F.len _ _ _ _ q0))) r2 q⟩
theorem pe_makeKG0 (M : Mk X.K C f) (F : FnG X.prog X.w X.K X.mg X.base CX k f fd ps sp) (hr : Room (k + 1) X.A) (hc : Calm X.A) (hg : Gl X x) (hm : X.mg x = some (.ref C)) (hb : KBn X.K fd ps 1 ks g gV) (hx : Passes CX X E) (hkw : PK X kws tk)
    (hall : (backToKw pos (keywordEach kws X.env)).all (·.1.isSome) = true := by rfl) (hks : (backToKw pos (keywordEach kws X.env)).filterMap (·.1) = ks := by rfl) (hdb : (x == ("__debug__" : Str)) = false := by decide)
    (hpl : ((backTo pos (starEach [] X.env)).any (·.1) || (backToKw pos (keywordEach kws X.env)).any (·.1.isNone)) = false := by rfl) :
    PE X (.Call (.Name x p) [] kws pos) (tMakeK C 0 ks.length sp gV E tNil tk) := by
  constructor
  intro pins s σ H Q I h
  refine wpAny_Call_Name_kw (ld_glob I hg hm (PySem.W.callWith_KW0 (h₀ := X.base) I.ok.mod.kin M.kp hall (thn (hkw.run pos pins s σ H _ I h) ?_) hpl) hdb)
  rintro ws s2 ⟨zs, H2, I2, rz, _, l2, q2⟩
  refine ⟨I2.kIn, ?_⟩
  rw [hks]
  exact makeG (av := fun x => gV [.ref x] zs) M F hr hc hx I2 (fun s' X' => hb.to s' [Value.ref (s2.heap.objs.size + 1)] ws X' rfl (rz.length.symm.trans l2)) (hb.rel (.cons rfl .nil) rz) q2

/-- repr of what reads as data -/
theorem call_reprD (hc : Calm X.A) (hu : X.A.units + 100 < cLine) : CallR X (.builtin "repr") (fun xs H Q => ∃ (a : Addr) (d : PyData), xs = [.ref a] ∧ Dp X.K H (.ref a) d ∧ d.showable = true ∧ d.hasDict = false ∧ d.depth ≤ 64 ∧ d.shown.length ≤ sizeLine ∧ Q (.str d.shown) H) := by
  intro pins s σ H xs us Q I r h
  obtain ⟨a, d, rfl, hd, hs, hn, hdp, hz, q⟩ := h
  obtain ⟨as, rd⟩ := Dp.reads I d (.ref a) (.ref a) hd rfl
  rw [Vals.ref1 r]
  exact repr_of_reads' rd hs (PyData.noDict_hsm hn) hc (by omega) (fun _ _ e => e) (fun h' u tk hk => ⟨.str _, H, I.kept hk, ⟨_, rfl⟩, q⟩) hz
end

section
variable {P : Program} {w : World} {K : PySem.W.Frag} {mg : Str → Option Value} {base : Heap}
/-- a def's promise, by its body: whatever its defaults -/
theorem okR {x qual : Str} {params : Arguments} {body : List Stmt} {scope : Scope} {dV kV doc pm cdv ct oc : Value} {an od : Option Addr} {osl : Array (Option Value)} {f : Addr} {N ps : List Str} {k : Nat} {sp : Sp}
    (lk : K.lookup f = some ⟨oc, od, .func (PySem.W.fnOf x qual params body scope dV kV doc pm an cdv ct), osl⟩) (code : PySem.W.codeIn K cdv qual = true) (S : FnScope N ps scope) (len : ∀ vs H Q E, sp vs H Q E → vs.length = ps.length)
    (walk : ∀ (cdv : Value) (A : Around) (outer : List Env) (s : Shared) (H : Hp) (vs : List V) (Q : VK) (E : XK), Room k (A.deeper (envOfC qual scope s.heap.objs.size f cdv)) → Calm (A.deeper (envOfC qual scope s.heap.objs.size f cdv)) → sp vs H Q E →
      ∃ t, PSs (cxOf CX0 P w K mg base N qual scope f cdv A outer s H E).nox body t ∧ t { nx := fun _ H' => Q .non H', rt := Q } (start N vs) H) : FnG P w K mg base CX0 (k + 1) f (PySem.W.fnOf x qual params body scope dV kV doc pm an cdv ct) ps sp := by
  refine ⟨len, ?_⟩
  intro A outer s H args us vs Q E room calm e0 bnd rel want
  have long := len _ _ _ _ want
  have up : ∀ b o, base.get? b = some o → s.heap.get? b = some o := fun b o e => (e0.bs b o e).1
  have kin : K.In s.heap := e0.mod.kin.keeps up
  have lim : s.heap.NoLimit := e0.mod.nolimit.keeps up
  have kinds : ∀ y ∈ ps.zip us, scope.names.lookup y.1 = some .local ∨ (scope.names.lookup y.1 = some .cell ∧ ((cellsFrom (s.heap.objs.size + 1) scope.names []).lookup y.1).isSome = true) := by
    rintro ⟨n, v⟩ hy
    exact (S.par n (List.of_mem_zip hy).1).imp id fun q => ⟨q, PySem.W.cellsFrom_some _ _ _ (.inl q)⟩
  refine codeAny_call_function room.depth (kin _ _ lk) rfl S.co S.gen rfl (PySem.W.codeRec_of kin code) (bnd _ _ _ _ (wpAny_newFunctionEnv_cells S.kind kinds ?_))
  rintro env rfl s1 x
  obtain ⟨t, deriv, reads⟩ := walk cdv A outer s H vs Q E (room.deeper _) (calm.deeper _) want
  have I : Inv (cxOf CX0 P w K mg base N qual scope f cdv A outer s H E) [] (start N vs) H s1 := inv_start S room.hd e0 long rel x
  refine ⟨lim.keeps x.toInCall.keep, codeAny_func (wpAny_mono (deriv.nox.run [] s1 (start N vs) H _ I reads) ?_ fun _ _ z => z)⟩
  intro fl s' hs
  match fl, hs with
  | .ret u, ⟨v, _, H', J, rv, q⟩ => exact ⟨v, H', J.os, J.bare, J.base, J.hok, rv, q⟩
  | .next, ⟨_, H', J, q⟩ => exact ⟨V.non, H', J.os, J.bare, J.base, J.hok, rfl, q⟩
  | .brk, ⟨_, _, _, q⟩ => exact q.elim
  | .cont, ⟨_, _, _, q⟩ => exact q.elim

theorem okG {x qual : Str} {st : Stmt} {f : Addr} {fd : FuncData} {N ps : List Str} {k : Nat} {sp : Sp} (F : Fun K x qual st f fd) (S : FnScope N ps (defScope st)) (len : ∀ vs H Q E, sp vs H Q E → vs.length = ps.length)
    (walk : ∀ (cdv : Value) (A : Around) (outer : List Env) (s : Shared) (H : Hp) (vs : List V) (Q : VK) (E : XK), Room k (A.deeper (envOfC qual (defScope st) s.heap.objs.size f cdv)) → Calm (A.deeper (envOfC qual (defScope st) s.heap.objs.size f cdv)) → sp vs H Q E →
      ∃ t, PSs (cxOf CX0 P w K mg base N qual (defScope st) f cdv A outer s H E).nox (defBody st) t ∧ t { nx := fun _ H' => Q .non H', rt := Q } (start N vs) H) : FnG P w K mg base CX0 (k + 1) f fd ps sp := by
  obtain ⟨oc, od, kV, doc, pm, an, cdv, ct, osl, rfl, lk, code⟩ := F.ex
  exact okR lk code S len walk
theorem okD {x qual : Str} {st : Stmt} {dvs : List V} {kws : List (Str × V)} {f : Addr} {fd : FuncData} {N ps : List Str} {k : Nat} {sp : Sp} (F : FunD K x qual (defArgs st) (defBody st) (defScope st) dvs kws f fd) (S : FnScope N ps (defScope st)) (len : ∀ vs H Q E, sp vs H Q E → vs.length = ps.length)
    (walk : ∀ (cdv : Value) (A : Around) (outer : List Env) (s : Shared) (H : Hp) (vs : List V) (Q : VK) (E : XK), Room k (A.deeper (envOfC qual (defScope st) s.heap.objs.size f cdv)) → Calm (A.deeper (envOfC qual (defScope st) s.heap.objs.size f cdv)) → sp vs H Q E →
      ∃ t, PSs (cxOf CX0 P w K mg base N qual (defScope st) f cdv A outer s H E).nox (defBody st) t ∧ t { nx := fun _ H' => Q .non H', rt := Q } (start N vs) H) : FnG P w K mg base CX0 (k + 1) f fd ps sp := by
  obtain ⟨oc, od, dV, kV, doc, pm, an, cdv, ct, osl, rfl, lk, code, _, _⟩ := F.ex
  exact okR lk code S len walk

/-- the law's call, where the caller guards nothing -/
theorem lawG {mb : Str → Option Value} {k : Nat} {fa a : Addr} {fd : FuncData} {x : Str} {sp : Sp} {s₁ : Shared} {vs : List Value} {ns : List Int}
    (KX : K.In s₁.heap) (hns : s₁.heap.Ns mainGlobals mg) (hb : s₁.heap.Ns builtinsNs mb) (hbb : ∀ x : Str, x ≠ "__name__" → mb x = bootBuiltins x) (hlim : s₁.heap.NoLimit) (hg : s₁.gens = #[])
    (ha : s₁.heap.get? a = some { cls := .type "list", data := .seq vs.toArray }) (hi : IntsAre vs ns) (hl : ns.length ≤ sizeLine) (hr : Room k callerA)
    (F : ∀ base : Heap, K.In base → base.Ns mainGlobals mg → FnG P w K mg base CX0 k fa fd [x] sp) (hbind : ∀ (s : Shared) (u : Value), BindsTo s fd ⟨[u], []⟩ [(x, u)])
    (hsp : ∀ H : Hp, Only H → SqL K H a (ns.map V.int) → sp [.ref a] H (fun v _ => v = .bl true) fun _ _ _ => False) :
    codeAny (model P w) callerA (.call (.ref fa) ⟨[.ref a], []⟩) (fun r s' => r = .ok (.ret (.bool true)) ∧ OldK s₁.heap s'.heap ∧ s'.os = s₁.os ∧ AllBare s'.gens) s₁ := by
  have rel := vals_ints hi
  have core : ∀ H : Hp, Only H → SqL K H a (ns.map V.int) → HOk P w H s₁.heap → (∀ b, H b ≠ none → b = a) → (H a ≠ none → K.lookup a = none) →
      codeAny (model P w) callerA (.call (.ref fa) ⟨[.ref a], []⟩) (fun r s' => r = .ok (.ret (.bool true)) ∧ OldK s₁.heap s'.heap ∧ s'.os = s₁.os ∧ AllBare s'.gens) s₁ := by
    intro H only sq hok alone free
    have off : ∀ {b : Addr}, b ≠ a → H b = none := fun {b} ne => Classical.byContradiction fun z => ne (alone b z)
    have dictOff : ∀ {b : Addr} {o : Obj} {es : Array DictEntry} {ep : Nat}, s₁.heap.get? b = some o → o.data = .dict es ep → H b = none := by
      intro b o es ep e d
      refine off fun eq => ?_
      rw [eq, ha] at e
      cases e
      exact Data.noConfusion d
    have nsK : ∀ {b : Addr} {m : Str → Option Value}, s₁.heap.Ns b m → (hidT s₁.heap H).Ns b m := by
      rintro b m ⟨o, es, ep, e, d, r⟩
      exact ⟨o, es, ep, hidT_get e (dictOff e d), d, r⟩
    have kb : K.In (hidT s₁.heap H) := by
      intro b o e
      refine hidT_get (KX b o e) (Classical.byContradiction fun z => ?_)
      have eq := alone b z
      rw [eq] at z e
      rw [free z] at e
      cases e
    have md : Mod K mg (hidT s₁.heap H) := ⟨kb, nsK hns, ⟨mb, nsK hb, hbb⟩, let ⟨mc, h1, h2⟩ := hlim; ⟨mc, nsK h1, h2⟩⟩
    have e0 : Env0 P w K mg (hidT s₁.heap H) callerA [] s₁ H := ⟨rfl, md, fun b o e => of_hidT e, Nat.le_of_eq (hidT_size _ _), trivial, (fun b z => nomatch z), hok, .of_eq hg⟩
    have go := (F _ kb (nsK hns)).run callerA [] s₁ H ⟨[.ref a], []⟩ [.ref a] [.ref a] _ _ hr rfl e0 (hbind s₁ (.ref a)) (.cons rfl .nil) (hsp H only sq)
    refine codeAny_mono go fun r s' h => ?_
    match r, h with
    | .ok (.ret u), ⟨v, H', os, bare, un, hok', r', q⟩ =>
      have q' : v = .bl true := q
      subst q'
      obtain rfl : u = Value.bool true := r'
      refine ⟨rfl, OldK.of_keep fun b o e => ?_, os, bare⟩
      rcases only b with z | ⟨ob, xs, z⟩
      · exact un.keep b o e z (fun y => nomatch y) (fun y => nomatch y)
      · obtain ⟨e1, _⟩ := hok b _ z
        obtain ⟨e2, _⟩ := hok' b _ (un.frzs b ob _ z)
        exact e.symm.trans e1 ▸ e2
  have lenV := hi.length
  cases hk : K.lookup a with
  | some o =>
    have e := ha.symm.trans (KX a o hk)
    cases e
    exact core (fun _ => none) (fun _ => .inl rfl) (.inr ⟨_, vs.toArray, _, hk, rfl, rfl, rfl, by rw [List.size_toArray, lenV]; exact hl, by simpa using rel⟩) (fun b u z => nomatch z) (fun b z => absurd rfl z) fun z => absurd rfl z
  | none =>
    have at_ : ∀ b, (if b = a then some (HO.frz { cls := .type "list", data := .seq vs.toArray } (.lst (ns.map V.int))) else none) ≠ none → b = a := fun b z => Classical.byContradiction fun y => z (if_neg y)
    refine core (fun b => if b = a then some (.frz { cls := .type "list", data := .seq vs.toArray } (.lst (ns.map V.int))) else none) (fun b => ?_) (.inl (.inr ⟨{ cls := .type "list", data := .seq vs.toArray }, if_pos rfl⟩)) (fun b u z => ?_) at_ fun _ => hk
    · by_cases hb : b = a
      · exact .inr ⟨_, _, if_pos hb⟩
      · exact .inl (if_neg hb)
    · have eb : b = a := at_ b (fun y => nomatch (y.symm.trans z))
      subst eb
      have z' := (if_pos rfl).symm.trans z
      cases z'
      exact ⟨ha, by rw [List.length_map]; exact hl, vs, _, rel, ha⟩
end
theorem walkG {l : PySem.W.OpenLaw} {n k : Nat} {q : Program} {loose : List Str} {XP : (Str → Option Value) → Heap → Prop} {YP : World → Heap → Prop} {d : DefRec} {K : Params → PySem.W.Frag} {sp : PySem.W.Frag → Sp} {x : Str}
    (hn : l.most = some n) (hn2 : n ≤ sizeLine) (hdf : d.params.defaults = []) (hr : Room k callerA)
    (hY : ∀ (w : World) (h : Heap), YP w h → (K w.params).In h)
    (F : ∀ (w : World) (mg : Str → Option Value) (fa : Addr) (h : Heap), (K w.params).In h → h.Ns mainGlobals mg → mg d.name = some (.ref fa) →
      ∃ fd : FuncData, (∀ (s : Shared) (u : Value), BindsTo s fd ⟨[u], []⟩ [(x, u)]) ∧
        ∀ base : Heap, (K w.params).In base → base.Ns mainGlobals mg → FnG l.prog w (K w.params) mg base CX0 k fa fd [x] (sp (K w.params)))
    (hsp : ∀ (K : PySem.W.Frag) (H : Hp) (a : Addr) (ns : List Int), ns.length ≤ n → Only H → SqL K H a (ns.map V.int) → sp K [.ref a] H (fun v _ => v = .bl true) fun _ _ _ => False) :
    PySem.W.WalkO q loose XP YP l.row.toRowW d [] (fun f vs => PySem.call f vs) := by
  refine Att.attach_call hn hdf ?_
  intro w s₀ s₁ mg mb fa o pm cd doc a vs ns G Y ho hd hcd hmg hobj hints hlen hg
  obtain ⟨fd, hb, hF⟩ := F w mg fa _ (hY w _ Y) G.T.g hmg
  exact lawG (hY w _ Y) G.T.g G.T.b G.T.builtins G.T.nolimit hg hobj hints (Nat.le_trans hlen hn2) hr hF hb fun H o s => hsp _ H a ns hlen o s
end GL
namespace GL
open PySem PySem.Spec PyProof.Rows L2
section
variable {K : PySem.W.Frag} {H H' : Hp}
theorem dpa_ints : ∀ ns : List Int, DpAll K H (ns.map V.int) (ns.map PyData.int)
  | [] => .nil
  | n :: r => .cons (.int n) (dpa_ints r)
theorem dpa_strs : ∀ ns : List Str, DpAll K H (ns.map V.str) (ns.map PyData.str)
  | [] => .nil
  | n :: r => .cons (.str n) (dpa_strs r)
theorem dpa_bls : ∀ ns : List Bool, DpAll K H (ns.map V.bl) (ns.map PyData.bool)
  | [] => .nil
  | n :: r => .cons (.bl n) (dpa_bls r)
theorem lay_ints : ∀ ns : List Int, PyData.canLayAll0 (ns.map PyData.int) = true
  | [] => rfl
  | n :: r => by
    show (PyData.canLay0 (.int n) && PyData.canLayAll0 (r.map PyData.int)) = true
    rw [lay_ints r]; rfl
theorem depth_ints : ∀ ns : List Int, PyData.depthAll (ns.map PyData.int) = 0
  | [] => rfl
  | n :: r => by
    show max (PyData.depth (.int n)) (PyData.depthAll (r.map PyData.int)) = 0
    rw [depth_ints r]; rfl
theorem depth_strs : ∀ ns : List Str, PyData.depthAll (ns.map PyData.str) = 0
  | [] => rfl
  | n :: r => by
    show max (PyData.depth (.str n)) (PyData.depthAll (r.map PyData.str)) = 0
    rw [depth_strs r]; rfl
theorem shaped_ints (ns : List Int) : SeqAt.shaped (.list (ns.map PyData.int)) = true := by
  unfold SeqAt.shaped
  rw [show PyData.canLay0 (.list (ns.map PyData.int)) = PyData.canLayAll0 (ns.map PyData.int) from rfl, lay_ints ns]
  rw [show PyData.depth (.list (ns.map PyData.int)) = PyData.depthAll (ns.map PyData.int) + 1 from rfl, depth_ints ns]
  rfl
theorem eqv_ints_nil : ∀ ns : List Int, PyData.eqv (.list (ns.map PyData.int)) (.list []) = decide (ns = [])
  | [] => rfl
  | n :: r => by
    rw [decide_eq_false (show ¬ (n :: r = []) from List.cons_ne_nil n r)]
    rfl

/-! ### what stays -/
theorem Same.new {p : Addr} {o : HO} (h : H p = none) : Same H (upd H p o) := fun b u e => by
  rw [upd_ne (ne_of_none e h)]; exact e
theorem Same.tup {a : Addr} {xs : List V} (e : Same H H') (h : SqT K H a xs) : SqT K H' a xs := by
  rcases h with (h | ⟨o, h⟩) | h
  · exact .inl (.inl (e _ _ h))
  · exact .inl (.inr ⟨o, e _ _ h⟩)
  · exact .inr h
theorem tofT {a : Addr} {xs : List V} (h : H a = some (.tup xs)) : SqT K H a xs := .inl (.inl h)
theorem tofL {a : Addr} {xs : List V} (h : H a = some (.lst xs)) : SqL K H a xs := .inl (.inl h)
theorem small {n : Nat} (h : n ≤ 100000) : n ≤ sizeLine := Nat.le_trans h (by decide)
theorem smallt {n : Nat} (h : n < 100000) : n < sizeLine := Nat.lt_of_lt_of_le h (by decide)

/-! ### the deck of the laws: a dict of a list of ints and an int -/
def deckD (g : Addr) (m : Int) : List (Key × V) := [(Sum.inr "great", .ref g), (Sum.inr "mixed", .int m)]
theorem gm0 : ¬ (("great" : Str) = "mixed") := by decide +kernel
theorem gm : ¬ ((Sum.inr ("great" : Str) : Key) = (Sum.inr ("mixed" : Str) : Key)) := by
  intro e
  injection e with e1
  exact gm0 e1
theorem deck_great (g : Addr) (m : Int) : valV (deckD g m) (Sum.inr "great" : Key) = some (.ref g) := valV_pos rfl
theorem deck_mixed (g : Addr) (m : Int) : valV (deckD g m) (Sum.inr "mixed" : Key) = some (.int m) := by
  unfold deckD
  rw [valV_neg gm, valV_pos rfl]
theorem deck_put (g : Addr) (m m' : Int) : putK (deckD g m) (Sum.inr "mixed" : Key) (.int m') = deckD g m' := by
  unfold putK deckD
  simp only [List.any_cons, List.any_nil, List.map_cons, List.map_nil, decide_eq_false gm, decide_true, Bool.or_true, Bool.false_or, Bool.or_false, if_true]
  rw [if_neg gm]
/-- all but the deck stays -/
structure Mv (d g : Addr) (H H' : Hp) : Prop where
  keep : ∀ b o, H b = some o → b ≠ d → b ≠ g → H' b = some o
structure Deck (H : Hp) (d g : Addr) : Prop where
  ex : ∃ (m : Int) (L : List Int), H d = some (.dK (deckD g m)) ∧ H g = some (.lst (L.map V.int)) ∧ L.length ≤ 63 ∧ 0 ≤ m ∧ m < 2147483587
theorem Deck.ne {d g : Addr} (D : Deck H d g) : d ≠ g := by
  obtain ⟨m, L, h1, h2, _⟩ := D.ex
  exact ne_of h1 h2 (fun z => nomatch z)
theorem Deck.same {d g : Addr} (D : Deck H d g) (s : Same H H') : Deck H' d g := by
  obtain ⟨m, L, h1, h2, r⟩ := D.ex
  exact ⟨⟨m, L, s _ _ h1, s _ _ h2, r⟩⟩
theorem Mv.refl {d g : Addr} : Mv d g H H := ⟨fun _ _ h _ _ => h⟩
theorem Mv.trans {d g : Addr} {H1 H2 H3 : Hp} (a : Mv d g H1 H2) (b : Mv d g H2 H3) : Mv d g H1 H3 := ⟨fun p o h n1 n2 => b.keep p o (a.keep p o h n1 n2) n1 n2⟩
theorem Mv.of {d g : Addr} (s : Same H H') : Mv d g H H' := ⟨fun p o h _ _ => s p o h⟩
theorem Mv.at {d g a : Addr} {o : HO} (m : Mv d g H H') (h : H a = some o) (n : a ≠ d ∧ a ≠ g) : H' a = some o := m.keep _ _ h n.1 n.2
/-- what is new stands apart from the deck -/
theorem Deck.off {d g p : Addr} (D : Deck H d g) (h : H p = none) : p ≠ d ∧ p ≠ g := by
  obtain ⟨m, L, h1, h2, r⟩ := D.ex
  exact ⟨(ne_of_none h1 h).symm, (ne_of_none h2 h).symm⟩
theorem Deck.new {d g p : Addr} {o : HO} (D : Deck H d g) (h : H p = none) : Deck (upd H p o) d g := D.same (Same.new h)
/-- what was new before is new or ours -/
theorem Mv.free {d g p : Addr} (D : Deck H d g) (m : Mv d g H H') (D' : Deck H' d g) (h : H' p = none) : H p = none := by
  have n := D'.off h
  cases e : H p with
  | none => rfl
  | some o => rw [m.keep p o e n.1 n.2] at h; cases h
/-- a change of what was not there -/
theorem Mv.mut {d g p : Addr} {o : HO} (m : Mv d g H H') (h : H p = none) : Mv d g H (upd H' p o) := ⟨fun b u hb n1 n2 => by
  rw [upd_ne (ne_of_none hb h)]
  exact m.keep b u hb n1 n2⟩
theorem Deck.mut {d g p : Addr} {o : HO} (D : Deck H d g) (n : p ≠ d ∧ p ≠ g) : Deck (upd H p o) d g := by
  obtain ⟨m, L, h1, h2, r⟩ := D.ex
  exact ⟨⟨m, L, by rw [upd_ne n.1.symm]; exact h1, by rw [upd_ne n.2.symm]; exact h2, r⟩⟩
def spDraw : Sp := fun vs H Q _ => ∃ (d g : Addr) (n : Int), vs = [.ref d, .int n] ∧ Deck H d g ∧ 0 < n ∧ n < 2 ^ 250 ∧
  ∀ (r : Int) (H' : Hp), 0 ≤ r → r < n → Deck H' d g → Mv d g H H' → Q (.int r) H'
end
def spPickL : Sp := fun vs H Q _ => ∃ (d g a : Addr) (xs : List V), vs = [.ref d, .ref a] ∧ Deck H d g ∧ H a = some (.lst xs) ∧ a ≠ g ∧ xs ≠ [] ∧ xs.length ≤ 1000 ∧
  ∀ (x : V) (H' : Hp), x ∈ xs → Deck H' d g → Mv d g H H' → Q x H'
def spPickS : Sp := fun vs H Q _ => ∃ (d g : Addr) (z : Str), vs = [.ref d, .str z] ∧ Deck H d g ∧ z.cps.toList ≠ [] ∧ z.length ≤ 1000 ∧
  ∀ (c : Nat) (H' : Hp), c ∈ z.cps.toList → Deck H' d g → Mv d g H H' → Q (.str ⟨#[c]⟩) H'
theorem at_in {α : Type} {xs : List α} {r : Int} (h0 : 0 ≤ r) (h1 : r < xs.length) : ∃ x, x ∈ xs ∧ atI xs r = some x := by
  obtain ⟨j, rfl⟩ : ∃ j : Nat, r = (j : Int) := ⟨r.toNat, by omega⟩
  have hj : j < xs.length := by omega
  exact ⟨xs[j], List.getElem_mem hj, atI_nat (List.getElem?_eq_getElem hj)⟩
theorem str_len (z : Str) : z.length = z.cps.toList.length := by
  rw [Array.length_toList]; rfl
theorem pop_at (L : List Int) (c : Int) : ((L ++ [c]).map V.int)[((L ++ [c]).map V.int).length - 1]? = some (.int c) := by
  rw [List.map_append, List.map_singleton, List.length_append, List.length_singleton, Nat.add_sub_cancel, List.getElem?_append_right (Nat.le_refl _), Nat.sub_self]
  rfl
theorem pop_left (L : List Int) (c : Int) : ((L ++ [c]).map V.int).dropLast = L.map V.int := by
  rw [List.map_append, List.map_singleton, List.dropLast_concat]
theorem snoc_of {L : List Int} (h : L ≠ []) : ∃ L0 c, L = L0 ++ [c] := ⟨L.dropLast, L.getLast h, (List.dropLast_concat_getLast h).symm⟩
theorem mul_small {i j : Int} (h0 : 0 ≤ i) (h1 : i < 2 ^ 64) : CMul i j := .inl ⟨by omega, h1⟩
theorem mul_smallR {i j : Int} (h0 : 0 ≤ j) (h1 : j < 2 ^ 64) : CMul i j := .inr ⟨by omega, h1⟩
theorem ty_l {K : PySem.W.Frag} {H : Hp} {a : Addr} {xs : List V} (h : SqL K H a xs) : tyV K "list" (.ref a) H := Or.inl ⟨rfl, xs, h⟩
theorem lt_c {a b : Int} (h : a < b) : a < b := h
theorem def_mk {P : Program} {w : World} {K : PySem.W.Frag} {mg : Str → Option Value} {base : Heap} {k : Nat} {x : Str} {st : Stmt} {f : Addr} {fd : FuncData} {ps : List Str} {sp : Sp} (F : Fun K x x st f fd) (gl : mg x = some (.ref f)) (b : Binds K fd ps []) (h : FnG P w K mg base CX0 k f fd ps sp) : DefG P w K mg base k x ps sp :=
  ⟨⟨f, fd, h, gl, F.kp, b⟩⟩
end GL
namespace GL
open PySem PySem.Spec PyProof.Rows L2 RZ
theorem truth_intsG {prog : Program} {w : World} {A : Around} {ns : List Int} {its : List Value} (r : Vals (ns.map V.int) its) :
    TruthOf prog w A (fun i v => its.toArray[i]? = some v) (fun i => (ns.map fun n => n != 0).getD i false) := by
  intro i v s Q E hv hq
  have hv' : its[i]? = some v := by simpa using hv
  have li : i < ns.length := by
    have := (List.getElem?_eq_some_iff.mp hv').1
    have e := r.length
    rw [List.length_map] at e
    omega
  have e1 : (ns.map V.int)[i]? = some (.int ns[i]) := by rw [List.getElem?_map, List.getElem?_eq_getElem li]; rfl
  obtain ⟨u, hu, ru⟩ := r.get e1
  rw [hv'] at hu
  cases hu
  obtain ⟨t, rfl⟩ := ru
  have hg : (ns.map fun n => n != 0).getD i false = (ns[i] != 0) := by
    rw [List.getD_eq_getElem?_getD, List.getElem?_map, List.getElem?_eq_getElem li]; rfl
  have hq' : Q ((ns.map fun n => n != 0).getD i false) s := hq
  rw [hg] at hq'
  exact PySem.P.truthy_int hq'
section
variable {X : Cx}
theorem walk_zipT {K : PySem.W.Frag} {a b : Addr} {xs ys : List V} {n : Nat} (hn : n = min xs.length ys.length) : Walk (ItzT K a b) n (fun H => SqT K H a xs ∧ SqT K H b ys) (YPair (fun i => xs[i]?) (fun i => ys[i]?)) where
  goes := fun i H hi h => ⟨xs, ys, xs[i]'(by omega), ys[i]'(by omega), h.1, h.2, List.getElem?_eq_getElem _, List.getElem?_eq_getElem _⟩
  stops := fun H h => ⟨xs, ys, h.1, h.2, by omega⟩
  yields := fun i H x H' _ h y => by
    obtain ⟨T, u, v, e1, e2, e3, f1, f2⟩ := y
    exact ⟨T, u, v, e1, e2, e3, f1 _ h.1, f2 _ h.2⟩
theorem op_inK {K : PySem.W.Frag} (h : X.K = K := by rfl) : OpR X (compareOp .In) (rIn K false) := h ▸ op_in_seq
theorem op_notInK {K : PySem.W.Frag} (h : X.K = K := by rfl) : OpR X (compareOp .NotIn) (rIn K true) := h ▸ op_notIn_seq
/-- any of a list of ints -/
def rAnyI (K : PySem.W.Frag) : List V → Hp → VK → Prop := fun vs H Q => ∃ (a : Addr) (ns : List Int), vs = [V.ref a] ∧ SqL K H a (ns.map V.int) ∧ Q (.bl (ns.any fun n => n != 0)) H
theorem cr_anyI (calm : X.calm = true) : CallR X (.builtin "any") (rAnyI X.K) := by
  intro pins s σ H vs us Q I r h
  obtain ⟨a, ns, rfl, hs, q⟩ := h
  obtain ⟨its, rv, hl, _⟩ := I.list hs
  have en : its.length = ns.length := by rw [← rv.length, List.length_map]
  rw [Vals.ref1 r]
  refine call_any_walk (iter_any hl.isList ?_)
  rintro s₂ rfl st hne
  refine ⟨_, _, _, _, _, _, _, rfl, Walks.list (A := X.A.in1) (I.ok.hd calm) _ a hne its.toArray, st, truth_intsG rv, ?_⟩
  intro h' tk hk
  refine ⟨.bl _, H, I.kept (fun b o eo => hk b o (fun hm => ?_) (Heap.get?_push_of_some _ eo)), ?_, q⟩
  · rcases List.mem_cons.mp hm with e1 | hm
    · exact absurd (e1 ▸ Heap.lt_size eo) (Nat.lt_irrefl _)
    · cases hm
  · have ea := any_range (ns.map fun n => n != 0)
    rw [List.length_map] at ea
    show Value.bool _ = Value.bool _
    rw [List.size_toArray, en, ea, List.any_map]
    rfl
end

/-! ### data that may be shown: at most B signs, at most k deep -/
structure Nice (B k : Nat) (d : PyData) : Prop where
  sh : d.showable = true
  nd : d.hasDict = false
  dp : d.depth ≤ k
  sz : d.shown.length ≤ B
theorem Nice.mono {B B' k k' : Nat} {d : PyData} (h : Nice B k d) (hb : B ≤ B') (hk : k ≤ k') : Nice B' k' d := ⟨h.sh, h.nd, Nat.le_trans h.dp hk, Nat.le_trans h.sz hb⟩
theorem shownAll_len : ∀ ds : List PyData, (PyData.shownAll ds).length = ds.length
  | [] => rfl
  | d :: r => by
    show (PyData.shownAll r).length + 1 = r.length + 1
    rw [shownAll_len r]
theorem shownAll_sum {B : Nat} : ∀ ds : List PyData, (∀ d ∈ ds, d.shown.length ≤ B) → ((PyData.shownAll ds).map (·.length)).sum ≤ ds.length * B
  | [], _ => by simp [PyData.shownAll]
  | d :: r, h => by
    have ih := shownAll_sum (B := B) r fun x hx => h x (List.mem_cons_of_mem _ hx)
    have h1 := h d List.mem_cons_self
    show ((d.shown :: PyData.shownAll r).map (·.length)).sum ≤ (r.length + 1) * B
    rw [List.map_cons, List.sum_cons, Nat.succ_mul]
    omega
theorem showableAll_of : ∀ ds : List PyData, (∀ d ∈ ds, d.showable = true) → PyData.showableAll ds = true
  | [], _ => rfl
  | d :: r, h => by
    show (d.showable && PyData.showableAll r) = true
    rw [h d List.mem_cons_self, showableAll_of r fun x hx => h x (List.mem_cons_of_mem _ hx)]; rfl
theorem hasDictAll_of : ∀ ds : List PyData, (∀ d ∈ ds, d.hasDict = false) → PyData.hasDictAll ds = false
  | [], _ => rfl
  | d :: r, h => by
    show (d.hasDict || PyData.hasDictAll r) = false
    rw [h d List.mem_cons_self, hasDictAll_of r fun x hx => h x (List.mem_cons_of_mem _ hx)]; rfl
theorem depthAll_of {k : Nat} : ∀ ds : List PyData, (∀ d ∈ ds, d.depth ≤ k) → PyData.depthAll ds ≤ k
  | [], _ => Nat.zero_le _
  | d :: r, h => by
    show max d.depth (PyData.depthAll r) ≤ k
    have h1 := h d List.mem_cons_self
    have h2 := depthAll_of (k := k) r fun x hx => h x (List.mem_cons_of_mem _ hx)
    omega
theorem Nice.tup {B k n : Nat} {ds : List PyData} (h : ∀ d ∈ ds, Nice B k d) (hn : ds.length ≤ n) : Nice (n * (B + 2) + 3) (k + 1) (.tuple ds) where
  sh := showableAll_of ds fun d hd => (h d hd).sh
  nd := hasDictAll_of ds fun d hd => (h d hd).nd
  dp := by
    show PyData.depthAll ds + 1 ≤ k + 1
    have := depthAll_of ds fun d hd => (h d hd).dp
    omega
  sz := by
    show (tupleText (PyData.shownAll ds)).length ≤ _
    have h1 := tupleText_len_le (PyData.shownAll ds)
    have h2 := shownAll_sum ds fun d hd => (h d hd).sz
    rw [shownAll_len] at h1
    have h3 : ds.length * B + 2 * ds.length ≤ n * (B + 2) := by
      have : ds.length * (B + 2) ≤ n * (B + 2) := Nat.mul_le_mul_right _ hn
      rw [Nat.mul_add] at this
      omega
    omega
theorem Nice.lst {B k n : Nat} {ds : List PyData} (h : ∀ d ∈ ds, Nice B k d) (hn : ds.length ≤ n) : Nice (n * (B + 2) + 3) (k + 1) (.list ds) where
  sh := showableAll_of ds fun d hd => (h d hd).sh
  nd := hasDictAll_of ds fun d hd => (h d hd).nd
  dp := by
    show PyData.depthAll ds + 1 ≤ k + 1
    have := depthAll_of ds fun d hd => (h d hd).dp
    omega
  sz := by
    show (listText (PyData.shownAll ds)).length ≤ _
    have h1 := listText_len_le (PyData.shownAll ds)
    have h2 := shownAll_sum ds fun d hd => (h d hd).sz
    rw [shownAll_len] at h1
    have h3 : ds.length * B + 2 * ds.length ≤ n * (B + 2) := by
      have : ds.length * (B + 2) ≤ n * (B + 2) := Nat.mul_le_mul_right _ hn
      rw [Nat.mul_add] at this
      omega
    omega
theorem Nice.bl (b : Bool) : Nice 5 0 (.bool b) := by
  cases b
  · exact ⟨rfl, rfl, Nat.le_refl _, by decide +kernel⟩
  · exact ⟨rfl, rfl, Nat.le_refl _, by decide +kernel⟩
theorem small_ints : ∀ i : Fin 401, (Str.ofString (toString ((i.val : Int) - 200))).length ≤ 5 ∧ ((i.val : Int) - 200).natAbs.log2 < 1920 := by decide +kernel
theorem Nice.int {i : Int} (h0 : -200 ≤ i) (h1 : i ≤ 200) : Nice 5 0 (.int i) := by
  have h := small_ints ⟨(i + 200).toNat, by omega⟩
  have e : (((i + 200).toNat : Nat) : Int) - 200 = i := by omega
  simp only [e] at h
  exact ⟨decide_eq_true h.2, rfl, Nat.le_refl _, h.1⟩
theorem Nice.str {z : Str} {n : Nat} (hl : z.cps.toList.length ≤ n) (hc : ∀ c ∈ z.cps.toList, c < 128) : Nice (10 * n + 2) 0 (.str z) := by
  refine ⟨rfl, rfl, Nat.le_refl _, ?_⟩
  have h := StrLaws.reprText_len z fun c hm => Nat.lt_trans (hc c hm) (by decide)
  rw [str_len z] at h
  show (reprText z).length ≤ _
  omega
section
variable {X : Cx}
theorem call_reprN (hc : Calm X.A) (hu : X.A.units + 100 < cLine) : CallR X (.builtin "repr") (fun xs H Q => ∃ (a : Addr) (d : PyData) (B k : Nat), xs = [.ref a] ∧ Dp X.K H (.ref a) d ∧ Nice B k d ∧ B ≤ 100000 ∧ k ≤ 60 ∧ Q (.str d.shown) H) := by
  intro pins s σ H xs us Q I r h
  obtain ⟨a, d, B, k, e, hd, hn, hb, hk, q⟩ := h
  exact call_reprD hc hu pins s σ H xs us Q I r ⟨a, d, e, hd, hn.sh, hn.nd, Nat.le_trans hn.dp (by omega), small (Nat.le_trans hn.sz hb), q⟩
end
theorem sq_mv {K : PySem.W.Frag} {H H' : Hp} {d g a : Addr} {xs : List V} (D : Deck H d g) (m : Mv d g H H') (h : SqT K H a xs) : SqT K H' a xs := by
  obtain ⟨k, L, h1, h2, _⟩ := D.ex
  rcases h with (h | ⟨o, h⟩) | h
  · exact .inl (.inl (m.keep _ _ h (ne_of h h1 (fun z => nomatch z)) (ne_of h h2 (fun z => nomatch z))))
  · exact .inl (.inr ⟨o, m.keep _ _ h (ne_of h h1 (fun z => nomatch z)) (ne_of h h2 (fun z => nomatch z))⟩)
  · exact .inr h
/-- t + u, whatever they are -/
theorem catA_of {K : PySem.W.Frag} {H : Hp} {a b : Addr} {xs ys : List V} {Q : VK} (ha : SqT K H a xs) (hb : SqT K H b ys) (hl : xs.length + ys.length ≤ 100000) (q : ∀ p H', Same H H' → SqT K H' p (xs ++ ys) → Q (.ref p) H') : rCatA K (.ref a) (.ref b) H Q := by
  refine ⟨a, b, xs, ys, rfl, rfl, ha, hb, small hl, fun e => ?_, fun _ e => ?_, fun _ _ p np => ?_⟩
  · refine q b H (Same.refl H) ?_
    rw [e, List.nil_append]; exact hb
  · refine q a H (Same.refl H) ?_
    rw [e, List.append_nil]; exact ha
  · exact q p _ (Same.new np) (tofT upd_same)
theorem slA_of {K : PySem.W.Frag} {H : Hp} {a : Addr} {xs : List V} {lo hi : Option Int} {Q : VK} (ha : SqT K H a xs) (q : ∀ p H', Same H H' → SqT K H' p (cutV xs lo hi) → Q (.ref p) H') : rSlA K (.ref a) lo hi H Q := by
  refine ⟨a, xs, rfl, ha, fun e => ?_, fun _ p np => ?_⟩
  · refine q a H (Same.refl H) ?_
    unfold cutV
    rw [e.1, e.2, Nat.sub_zero, List.drop_zero, List.take_length]; exact ha
  · exact q p _ (Same.new np) (tofT upd_same)
end GL
namespace GL
open PySem PySem.Spec PyProof.Rows L2 PySem.W PySem.Calls

/-! ### a target list with a star: (a, .., *b, .., c) -/
section
variable {prog : Program} {w : World} {A : Around} {E : Value → Shared → Prop} {s : Shared}
/-- a tuple told out to n targets, the one at i starred: the middle becomes a new list behind all there is -/
theorem star_items {a : Addr} {xs : Array Value} {n i : Nat} {Q : List Value → Shared → Prop} (ht : IsTup s.heap a xs) (hh : A.handled = none) (hi : i < n) (hn : n ≤ xs.size + 1) (hz : xs.size ≤ 16384)
    (h : ∀ (h' : Heap) (tk : Nat), (∀ b o, s.heap.get? b = some o → h'.get? b = some o) →
      Q (xs.toList.take i ++ [.ref h'.objs.size] ++ (xs.toList.drop i).drop (xs.size + 1 - n)) { s with heap := h'.push { cls := .type "list", data := .seq ((xs.toList.drop i).take (xs.size + 1 - n)).toArray }, toks := tk }) :
    wpAny (model prog w) A (unpackItems (.ref a) n (some i)) Q E s := by
  have la : a < s.heap.objs.size := by obtain ⟨o, ho, _⟩ := ht; exact Heap.lt_size ho
  have na : a ≠ s.heap.objs.size := Nat.ne_of_lt la
  unfold unpackItems notIterableAtAll
  refine wpAny_bind (wpAny_bind (wpAny_specialOf ht.typeIs slot_tuple_iter.lookup (wpAny_pure ?_)))
  simp only [Bool.false_eq_true, if_false]
  refine wpAny_bind (wpAny_holding (iter_tuple ht (wpAny_bind (wpAny_holding (draw_tuple na i 0 _ _ ⟨_, Heap.get?_push_size _ rfl, rfl, rfl⟩ (ht.push _) (by omega) fun h1 it1 sb1 => ?_)))))
  rw [Nat.zero_add] at it1
  have t1 : IsTup h1 a xs := (ht.push _).extBut sb1.extBut na
  have lI : s.heap.objs.size < h1.objs.size := by obtain ⟨o, ho, _⟩ := it1; exact Heap.lt_size ho
  have la1 : a < h1.objs.size := by obtain ⟨o, ho, _⟩ := t1; exact Heap.lt_size ho
  rw [List.drop_zero]
  have l1 : (xs.toList.take i).length = i := by rw [List.length_take, Array.length_toList]; omega
  rw [if_neg (by omega : ¬ (xs.toList.take i).length < i)]
  refine wpAny_bind (wpAny_holding (kun_collect (s := { s with heap := h1 }) (T := "tuple_iterator") (.inr (.inr (.inr rfl))) (Walks.tuple (A := A.in1) hh s.heap.objs.size a na xs) (fun j u st => st.1.typeIs) (k := i) (by omega) ⟨it1, t1⟩ lI la1 (fun h2 tk k2 => ?_) (by rw [sizeLine_eq]; omega)))
  have l2 : (xs.toList.drop i).length = xs.size - i := by rw [List.length_drop, Array.length_toList]
  have l3 : (xs.toList.drop i).length - (n - 1 - i) = xs.size + 1 - n := by omega
  show wpAny _ _ (if (xs.toList.drop i).length < n - 1 - i then _ else _) _ _ _
  rw [if_neg (by omega)]
  show wpAny _ _ (newList ((xs.toList.drop i).take ((xs.toList.drop i).length - (n - 1 - i))) >>= fun d => pure (xs.toList.take i ++ [d] ++ (xs.toList.drop i).drop ((xs.toList.drop i).length - (n - 1 - i)))) _ _ _
  rw [l3]
  have kp : ∀ b o, s.heap.get? b = some o → h2.get? b = some o := fun b o e => k2 b o (Nat.ne_of_lt (Heap.lt_size e)) (sb1.extBut b o (Nat.ne_of_lt (Heap.lt_size e)) (Heap.get?_push_of_some _ e))
  exact wpAny_bind (wpAny_newList (s := { s with heap := h2, toks := tk }) (wpAny_pure (h h2 tk kp)) (by rw [List.length_take, l2, sizeLine_eq]; omega))
end
section
variable {X : Cx} {es : List Expr} {t : TGs} {m n i k : Nat} {pos : Pos}
/-- (a, .., *b, .., c) = a tuple -/
def gStar (K : PySem.W.Frag) (n i : Nat) (t : TGs) : TG := fun v σ H Q => ∃ a xs, v = .ref a ∧ SqT K H a xs ∧ n ≤ xs.length + 1 ∧ xs.length ≤ 1000 ∧
  ∀ D, H D = none → t (xs.take i ++ [.ref D] ++ (xs.drop i).drop (xs.length + 1 - n)) σ (upd H D (.lst ((xs.drop i).take (xs.length + 1 - n)))) Q
theorem pg_star (hc : X.calm = true) (h : PGs X es t) (hn : (assignEach es X.env).length = n := by rfl) (hst : (assignEach es X.env).findIdx? (·.1) = some i := by rfl) (hi : i < n := by decide) : PG X (.Tuple es k pos) (gStar X.K n i t) := by
  constructor
  intro pins s σ H v u Q I r hw
  obtain ⟨a, xs, rfl, hq, h1, h2, hw⟩ := hw
  cases r
  obtain ⟨its, rv, ht, hz⟩ := I.tuple hq
  have el : its.length = xs.length := rv.length.symm
  rw [assign_Tuple]
  refine wpAny_bind (wpAny_standAt ?_)
  unfold unpack
  rw [hn, hst]
  refine wpAny_bind (wpAny_holding (star_items ht (I.ok.hd hc) hi (by rw [List.size_toArray, el]; exact h1) (by rw [List.size_toArray, el]; omega) fun h' tk kp => ?_))
  have I1 : Inv X pins σ H { s with heap := h', toks := tk } := I.kept kp
  have e3 : its.toArray.toList = its := by simp
  have e4 : its.toArray.size = xs.length := by rw [List.size_toArray, el]
  rw [e3, e4]
  have rd : ∀ j, Vals (xs.drop j) (its.drop j) := fun j => rv.drop j
  have rt : Vals ((xs.drop i).take (xs.length + 1 - n)) ((its.drop i).take (xs.length + 1 - n)) := (rd i).take _
  have I2 : Inv X pins σ (upd H h'.objs.size (.lst ((xs.drop i).take (xs.length + 1 - n)))) ({ s with heap := h'.push { cls := .type "list", data := .seq ((its.drop i).take (xs.length + 1 - n)).toArray }, toks := tk } : Shared) :=
    I1.laid (t' := tk) (fun b o e => Heap.get?_push_of_some _ e) (Nat.le_refl _) ⟨by rw [List.length_take, List.length_drop, sizeLine_eq]; omega, _, 0, rt, Heap.get?_push_size _ rfl⟩
  have r1 : Vals [V.ref h'.objs.size] [Value.ref h'.objs.size] := .cons rfl .nil
  exact h.run pins _ σ _ _ _ Q I2 (((rv.take i).append r1).append ((rd i).drop _)) (hw h'.objs.size (I1.hok.fresh (Nat.le_refl _)))
end

section
variable {X : Cx} {t : TG} {u : TGs} {e : Expr} {es : List Expr} {p : Pos}
theorem pgs_consS (h1 : PG X e t) (h2 : PGs X es u) (hs : (assignEach (.Starred e p :: es) X.env).map (·.2) = assign e X.env :: (assignEach es X.env).map (·.2) := by rfl) : PGs X (.Starred e p :: es) (gCons t u) := by
  constructor
  intro pins s σ H vs us Q I r h
  obtain ⟨v, vr, rfl, h⟩ := h
  cases r with
  | cons r rr =>
    rw [hs]
    exact assignInOrder_cons (thn (h1.run pins s σ H _ _ _ I r h) fun _ s1 ⟨σ1, H1, I1, q1⟩ => h2.run pins s1 σ1 H1 _ _ Q I1 rr q1)
end
/-! ### an own operator: x & y by the class's def -/
section
variable {X : Cx} {CX : CXT} {k : Nat} {f C : Addr} {fd : FuncData} {ps : List Str} {sp : Sp} {E : XK} {op : Operator}
/-- what the class must say of an operator's def -/
structure OpK (K : PySem.W.Frag) (C f : Addr) (d : Str) : Prop where
  sf : PySem.W.selfFirst K C = true
  at_ : PySem.W.findIn K (.ref C) d = some (some (.ref f))
  fn : PySem.W.isFn K (.ref f) = true
/-- both sides instances of the class at C; the answer is an object -/
def rOwn (C : Addr) (sp : Sp) (E : XK) : R2 := fun x y H Q => ∃ a dx fs b dy gs, x = .ref a ∧ y = .ref b ∧ H a = some (.ins C dx fs) ∧ H b = some (.ins C dy gs) ∧ sp [.ref a, .ref b] H (fun v H2 => (∃ r, v = .ref r) ∧ Q v H2) E
theorem op_own {d : Str} (o : OpK X.K C f d) (hd : (PySem.dunder op.info.2 : Str) = d) (F : FnG X.prog X.w X.K X.mg X.base CX k f fd ps sp) (hr : Room k X.A) (hc : Calm X.A) (hb : Binds X.K fd ps []) (hx : Passes CX X E) : OpR X (binaryOp op) (rOwn C sp E) := by
  intro pins s σ H x y v u Q I rx ry h
  obtain ⟨a, dx, fs, b, dy, gs, rfl, rfl, ha, hbb, q⟩ := h
  obtain rfl : v = .ref a := rx
  obtain rfl : u = .ref b := ry
  obtain ⟨mA, OA, _⟩ := ins_get I.hok ha
  obtain ⟨mB, OB, _⟩ := ins_get I.hok hbb
  obtain ⟨odA, IA, _⟩ := OA.look
  obtain ⟨odB, IB, _⟩ := OB.look
  obtain ⟨m, fr⟩ := I.fr
  refine PySem.W.binop_K fr I.ok.mod.kin IA (IB.type) o.sf (hd ▸ o.at_) o.fn ?_
  refine wpAny_mono (runG (us := [.ref a, .ref b]) (vs := [.ref a, .ref b]) F hr hc hb .nil hx I (.cons rfl (.cons rfl .nil)) q) (fun u s1 hu => ?_) fun _ _ z => z
  obtain ⟨v, H1, I1, rv, ⟨r, rfl⟩, q1⟩ := hu
  obtain rfl : u = .ref r := rv
  exact ⟨V.ref r, H1, I1, rfl, q1⟩
end

/-! ### defs with *names, where no guard is under way -/
def FnRG (P : Program) (w : World) (K : PySem.W.Frag) (mg : Str → Option Value) (base : Heap) (CX : CXT) (k : Nat) (f : Addr) (sp : Sp) : Prop :=
  ∀ (A : Around) (outer : List Env) (s : Shared) (H : Hp) (us : List Value) (vs : List V) (Q : VK) (E : XK), Room k A → Calm A → Env0 P w K mg base A outer s H → Vals vs us → sp vs H Q E →
    codeAny (model P w) A (.call (.ref f) ⟨us, []⟩) (CR CX outer P w H s Q E) s
section
variable {P : Program} {w : World} {K : PySem.W.Frag} {mg : Str → Option Value} {base : Heap} {k : Nat} {f : Addr} {name qual pv : Str} {params : Arguments} {body : List Stmt} {scope : Scope} {dV kV doc pm cdv ct oc : Value} {an od : Option Addr}
  {osl : Array (Option Value)} {N ps : List Str} {sp : Sp}
/-- def f(a, .., *v) -/
theorem fn_starG (lk : K.lookup f = some ⟨oc, od, .func (PySem.W.fnOf name qual params body scope dV kV doc pm an cdv ct), osl⟩) (hcd : PySem.W.codeIn K cdv qual = true) (S : FnScope N (ps ++ [pv]) scope)
    (hb : ∀ us rest : List Value, us.length = ps.length → bindArgs (PySem.W.fnOf name qual params body scope dV kV doc pm an cdv ct) ⟨us ++ rest, []⟩ = (newTuple rest >>= fun t => pure (ps.zip us ++ [(pv, t)])))
    (walk : ∀ (cdv : Value) (A : Around) (outer : List Env) (s : Shared) (H : Hp) (vs : List V) (Q : VK) (E : XK), Room k (A.deeper (envOfC qual scope s.heap.objs.size f cdv)) → Calm (A.deeper (envOfC qual scope s.heap.objs.size f cdv)) → sp vs H Q E →
      ∃ t, PSs (cxOf CX0 P w K mg base N qual scope f cdv A outer s H E).nox body t ∧ t { nx := fun _ H' => Q .non H', rt := Q } (start N vs) H) :
    FnRG P w K mg base CX0 (k + 1) f (fun vs H Q E => ∃ ws rest, vs = ws ++ rest ∧ ws.length = ps.length ∧ rest.length ≤ sizeLine ∧ ∀ p, H p = Option.none → sp (ws ++ [V.ref p]) (upd H p (.tup rest)) Q E) := by
  intro A outer s H us vs Q E hr hc e0 r hsp
  obtain ⟨ws, rest, rfl, hl, hz, hq⟩ := hsp
  obtain ⟨u1, u2, rfl, r1, r2⟩ := StX.vals_split r
  have free : H s.heap.objs.size = Option.none := e0.hok.fresh (Nat.le_refl _)
  have m1 : u1.length = ps.length := r1.length.symm.trans hl
  have m2 : u2.length ≤ sizeLine := r2.length ▸ hz
  refine StX.run_bnd lk hcd S hr e0 (G := fun xs H2 => ∃ p, H p = Option.none ∧ xs = ws ++ [V.ref p] ∧ H2 = upd H p (.tup rest)) (fun A' Ex Q' h => ?_) fun s2 H2 xs g hr' => ?_
  · rw [hb u1 u2 m1]
    refine wpAny_bind (wpAny_newTuple (wpAny_pure ?_) m2)
    have new : ObjOk P w (upd H s.heap.objs.size (.tup rest)) (s.heap.push ({ cls := .type "tuple", data := .seq u2.toArray } : Obj)) s.heap.objs.size (.tup rest) := ⟨hz, u2, r2, ⟨_, Heap.get?_push_size _ rfl, rfl, _, rfl⟩⟩
    have rr : Vals (ws ++ [V.ref s.heap.objs.size]) (u1 ++ [Value.ref s.heap.objs.size]) := r1.append (.cons rfl .nil)
    have z := h _ _ _ _ (StX.env0_laid e0 new) (StX.un_laid free) rfl (fun e s' f => f) rr (by rw [List.length_append, List.length_append, hl] <;> rfl) ⟨_, free, rfl, rfl⟩
    rw [List.zip_append m1.symm] at z
    exact z
  · obtain ⟨p, hp, rfl, rfl⟩ := g
    obtain ⟨t, d, q⟩ := walk cdv A outer s2 _ _ Q E hr' (hc.deeper _) (hq p hp)
    exact ⟨t, d.nox, q⟩
end
section
variable {X : Cx} {CX : CXT} {k : Nat} {f C : Addr} {sp : Sp} {E : XK} {m : Str} {pos apos : Pos} {e o : Expr} {es : List Expr} {ta : TE} {t : TA}
theorem FnRG.up {P : Program} {w : World} {K : PySem.W.Frag} {mg : Str → Option Value} {base : Heap} {j : Nat} (F : FnRG P w K mg base CX j f sp) (h : j ≤ k) : FnRG P w K mg base CX k f sp := fun A outer s H us vs Q E r => F A outer s H us vs Q E (r.mono h)
theorem runRG {pins : List (Addr × Obj)} {σ : L2.St} {H : Hp} {s : Shared} {Q : VK} {us : List Value} {vs : List V} (F : FnRG X.prog X.w X.K X.mg X.base CX k f sp) (hr : Room k X.A) (hc : Calm X.A) (hx : Passes CX X E) (I : Inv X pins σ H s) (r : Vals vs us) (h : sp vs H Q E) :
    wpAny (model X.prog X.w) X.A (call (.ref f) us) (EP X pins σ Q) X.xe s := by
  refine wpAny_call (codeAny_mono (F X.A X.stack s H us vs Q E hr hc I.env0 r h) fun r' s' q => ?_)
  have z := out_of hx I r' s' q
  match r', z with
  | .error _, z => exact z
  | .ok (.ret _), z => exact z
/-- o.m(e, ..), m with *names -/
theorem pe_methRG {pl : Sem Bool} (he : PE X o ta) (c : Cls X.K C) (hm : Meth X.K C m f) (F : FnRG X.prog X.w X.K X.mg X.base CX k f sp) (hr : Room k X.A) (hc : Calm X.A) (hx : Passes CX X E)
    (ha : PA X (e :: es) t) (hst : starEach (e :: es) X.env = (false, eval e X.env) :: starEach es X.env := by rfl) (hpl : (backTo pos (starEach es X.env)).any (·.1) = false := by rfl)
    (ht : eval (.Call (.Attribute o m apos) (e :: es) [] pos) X.env = (eval o X.env >>= fun ov => standAt apos.atName >>= fun _ => holding [ov] (getMethod ov m pl) >>= fun fx =>
      callWith pos fx.1 fx.2 (backTo pos (starEach (e :: es) X.env)) (backToKw pos (keywordEach [] X.env))) := by rfl) :
    PE X (.Call (.Attribute o m apos) (e :: es) [] pos) (tMeth C m sp [] E ta t) := by
  constructor
  intro pins s σ H Q I h
  refine PySem.W.methodCall_KW (pl := pl) (thn (he.run pins s σ H _ I h) ?_) ht
  rintro u s1 ⟨_, H1, I1, rx, a, dx, fs, rfl, ea, l, q⟩
  obtain rfl : u = .ref a := rx
  refine getmeth_ok I1 ea c hm l (PySem.W.callWith_K (first := [.ref a]) (h₀ := X.base) I.ok.mod.kin hm.kp (thn (ha.run pos pins s1 σ H1 _ I1 q) ?_) hst hpl)
  rintro us s2 ⟨vs, H2, I2, r, q2⟩
  rw [List.append_nil] at q2
  exact ⟨I2.kIn, runRG (us := .ref a :: us) (vs := .ref a :: vs) F hr hc hx I2 (.cons rfl r) q2⟩
/-- o.m() -/
theorem pe_methRG0 {pl : Sem Bool} (he : PE X o ta) (c : Cls X.K C) (hm : Meth X.K C m f) (F : FnRG X.prog X.w X.K X.mg X.base CX k f sp) (hr : Room k X.A) (hc : Calm X.A) (hx : Passes CX X E)
    (ht : eval (.Call (.Attribute o m apos) [] [] pos) X.env = (eval o X.env >>= fun ov => standAt apos.atName >>= fun _ => holding [ov] (getMethod ov m pl) >>= fun fx =>
      callWith pos fx.1 fx.2 (backTo pos (starEach [] X.env)) (backToKw pos (keywordEach [] X.env))) := by rfl) :
    PE X (.Call (.Attribute o m apos) [] [] pos) (tMeth C m sp [] E ta tNil) := by
  constructor
  intro pins s σ H Q I h
  refine PySem.W.methodCall_KW (pl := pl) (thn (he.run pins s σ H _ I h) ?_) ht
  rintro u s1 ⟨_, H1, I1, rx, a, dx, fs, rfl, ea, l, q⟩
  obtain rfl : u = .ref a := rx
  exact getmeth_ok I1 ea c hm l (PySem.W.callWith_K0 (first := [.ref a]) I1.kIn hm.kp (runRG (us := [.ref a]) (vs := [.ref a]) F hr hc hx I1 (.cons rfl .nil) q))
end
end GL
namespace GL
open PySem PySem.Spec PyProof.Rows L2 PySem.W PySem.Calls

section
variable {prog : Program} {w : World} {A : Around} {E : Value → Shared → Prop}
/-- a name laid into a dict that has no such name -/
theorem ns_add {s : Shared} {d : Addr} {es : List DictEntry} {n : Nat} {k : Str} {v : Value} {Q : Unit → Shared → Prop} (hd : s.heap.get? d = some (dictOf es n)) (hs : ∀ e ∈ es, e.key.isStr k = false ∧ e.refKey = false)
    (h : ∀ h', (∀ b o, b ≠ d → s.heap.get? b = some o → h'.get? b = some o) → h'.get? d = some (dictOf (es ++ [⟨PyData.keyHash w.params k, .str k s.toks, v⟩]) (n + 1)) → Q () { s with heap := h', toks := s.toks + 1 }) :
    wpAny (model prog w) A (nsSet d k v) Q E s := by
  have a1 : es.any (·.key.isStr k) = false := List.any_eq_false.mpr fun e he => by rw [(hs e he).1]; decide
  have a2 : es.any (·.refKey) = false := List.any_eq_false.mpr fun e he => by rw [(hs e he).2]; decide
  have put : Obj.putName k (PyData.keyHash w.params k) (.str k s.toks) v (dictOf es n) = dictOf (es ++ [⟨PyData.keyHash w.params k, .str k s.toks, v⟩]) (n + 1) := by
    rw [putName_dict, putL_new fun e he => (hs e he).1]
    show dictOf _ (if es.any (·.key.isStr k) then n else n + 1) = _
    rw [a1, if_neg Bool.false_ne_true]
  have may : aRefKeyMayBeTheName k es.toArray = false := by
    rw [aRefKeyMayBeTheName_at, ← Array.any_toList, ← Array.any_toList]
    show (!es.any (·.key.isStr k) && es.any (·.refKey)) = false
    rw [a2, Bool.and_false]
  unfold nsSet
  refine wpAny_bind (wpAny_bind (wpAny_askSetting (wpAny_pure (wpAny_bind (wpAny_mkText (wpAny_bind (wpAny_loadPart hd ?_)))))))
  dsimp only
  rw [may]
  refine wpAny_updatePart hd (h _ (fun b o hb e => ?_) ?_)
  · exact (Heap.get?_update_other _ _ (Ne.symm hb)).trans e
  · refine (Heap.get?_update_self _ hd ?_).trans (congrArg some put)
    show (Obj.putName k (PyData.keyHash w.params k) (.str k s.toks) v (dictOf es n)).isFreed = false
    rw [put]
    rfl
theorem ns_fill {d : Addr} {Q : PUnit → Shared → Prop} : ∀ (ex : List (Str × Value)) (s : Shared) (es : List DictEntry) (n : Nat), s.heap.get? d = some (dictOf es n) → (∀ e ∈ es, (∀ x ∈ ex, e.key.isStr x.1 = false) ∧ e.refKey = false) → (ex.map (·.1)).Nodup →
    (∀ h', (∀ b o, b ≠ d → s.heap.get? b = some o → h'.get? b = some o) → h'.get? d = some (dictOf (es ++ kwEs w.params s.toks ex) (n + ex.length)) → Q ⟨⟩ { s with heap := h', toks := s.toks + ex.length }) →
    wpAny (model prog w) A (forIn ex PUnit.unit fun x _ => (nsSet d x.1 x.2 >>= fun _ => pure (ForInStep.yield PUnit.unit))) Q E s
  | [], s, es, n, hd, _, _, h => by
    rw [List.forIn_nil]
    exact wpAny_pure (h s.heap (fun _ _ _ e => e) (by rw [show kwEs w.params s.toks [] = [] from rfl, List.append_nil]; exact hd))
  | x :: r, s, es, n, hd, hs, hn, h => by
    obtain ⟨n1, n2⟩ := List.nodup_cons.mp (show (x.1 :: r.map (·.1)).Nodup from hn)
    rw [List.forIn_cons]
    refine wpAny_bind (wpAny_bind (ns_add hd (fun e he => ⟨(hs e he).1 x (.head _), (hs e he).2⟩) fun h1 k1 g1 => wpAny_pure ?_))
    refine ns_fill r { s with heap := h1, toks := s.toks + 1 } _ _ g1 (fun e he => ?_) n2 fun h2 k2 g2 => ?_
    · rcases List.mem_append.mp he with he | he
      · exact ⟨fun y hy => (hs e he).1 y (.tail _ hy), (hs e he).2⟩
      · obtain rfl := List.mem_singleton.mp he
        exact ⟨fun y hy => (beq_eq_false_iff_ne.mpr fun q => n1 (q ▸ List.mem_map_of_mem hy) : (x.1 == y.1) = false), rfl⟩
    · have t1 : s.toks + 1 + r.length = s.toks + (r.length + 1) := by omega
      have t2 : n + 1 + r.length = n + (r.length + 1) := by omega
      show Q ⟨⟩ { s with heap := h2, toks := s.toks + 1 + r.length }
      rw [t1]
      refine h h2 (fun b o hb e => k2 b o hb (k1 b o hb e)) ?_
      rw [t2, List.append_assoc] at g2
      exact g2
end
/-- keywords as a dict's content -/
def kwK (ks : List Str) (zs : List V) : List (Key × V) := (ks.zip zs).map fun q => (.inr q.1, q.2)
def kwV (ks : List Str) (ws : List Value) : List (Key × Value) := (ks.zip ws).map fun q => (.inr q.1, q.2)
theorem kw_rel : ∀ (ks : List Str) {zs : List V} {ws : List Value}, Vals zs ws → KV (kwK ks zs) (kwV ks ws)
  | [], _, _, _ => .nil
  | k :: ks, _, _, .nil => .nil
  | k :: ks, _, _, .cons a r => .cons ⟨rfl, a⟩ (kw_rel ks r)
theorem kw_pairs {prog : Program} {w : World} : ∀ (ex : List (Str × Value)) (t : Tok), Pairs (mixKind prog w) (kwEs w.params t ex) (ex.map fun q => (.inr q.1, q.2))
  | [], _ => Pairs.nil
  | x :: r, t => Pairs.cons (show keyIs (.inr x.1) (.str x.1 t) = true from by simp [keyIs, Value.isStrOf]) rfl (kw_pairs r (t + 1))
theorem kw_obj {P : Program} {w : World} {H : Hp} {h : Heap} {d : Addr} {ks : List Str} {zs : List V} {ws : List Value} {t : Tok} {n : Nat} (hd : h.get? d = some (dictOf (kwEs w.params t (ks.zip ws)) n)) (hs : (d == sysModules) = false) (hn : ks.Nodup) (hl : ks.length ≤ 1000) (r : Vals zs ws) (l : ws.length = ks.length) :
    ObjOk P w H h d (.dK (kwK ks zs)) := by
  refine ⟨?_, hs, kwV ks ws, kw_rel ks r, _, _, _, hd, ⟨rfl, rfl, rfl⟩, rfl, fun e he => ?_, kw_pairs _ _, ?_⟩
  · unfold kwK
    rw [List.length_map, List.length_zip, sizeLine_eq]
    omega
  · obtain ⟨k, u, hk, hh⟩ := kwEs_key _ _ e (List.mem_toArray.mp he)
    exact ⟨.inr k, by rw [hk]; simp [mixKind, keyIs, Value.isStrOf], hh.trans rfl⟩
  · have e : ((ks.zip ws).map fun q => (((.inr q.1 : Key), q.2) : Key × Value)).map (·.1) = ks.map Sum.inr := by
      rw [List.map_map, show ((fun x : Key × Value => x.1) ∘ fun q : Str × Value => ((.inr q.1 : Key), q.2)) = (Sum.inr ∘ Prod.fst) from rfl, ← List.map_map, List.map_fst_zip (by omega)]
    show (((ks.zip ws).map fun q => (((.inr q.1 : Key), q.2) : Key × Value)).map (·.1)).Nodup
    rw [e]
    exact List.Pairwise.map _ (fun _ _ q z => q (Sum.inr.inj z)) hn

/-- a new object laid and tracked ahead of a def's body, by whatever steps -/
theorem env0_new {P : Program} {w : World} {K : PySem.W.Frag} {mg : Str → Option Value} {base : Heap} {A : Around} {outer : List Env} {s : Shared} {H : Hp} {h' : Heap} {tk : Nat} {u : HO} (e0 : Env0 P w K mg base A outer s H)
    (kp : ∀ b o, s.heap.get? b = some o → h'.get? b = some o) (sz : s.heap.objs.size ≤ h'.objs.size) (new : ObjOk P w (upd H s.heap.objs.size u) h' s.heap.objs.size u) :
    Env0 P w K mg base A outer { s with heap := h', toks := tk } (upd H s.heap.objs.size u) where
  frames := e0.frames
  mod := e0.mod
  bs := fun b x e => ⟨kp b x (e0.bs b x e).1, by rw [upd_ne (Nat.ne_of_lt (Heap.lt_size (e0.bs b x e).1))]; exact (e0.bs b x e).2⟩
  bsz := Nat.le_trans e0.bsz sz
  funs := Heap.FunFrames.of_keeps (fun b x e _ => ⟨x, kp b x e, rfl⟩) e0.funs
  frf := fun b hb => by
    obtain ⟨_, x, hx, _⟩ := e0.funs.mem hb
    rw [upd_ne (Nat.ne_of_lt (Heap.lt_size hx))]
    exact e0.frf b hb
  hok := e0.hok.laid kp (Nat.le_refl _) new
  bare := e0.bare

/-! ### a def with **names, called with keywords -/
def FnKG (P : Program) (w : World) (K : PySem.W.Frag) (mg : Str → Option Value) (base : Heap) (CX : CXT) (k : Nat) (f : Addr) (n : Nat) (ks : List Str) (sp : Sp) : Prop :=
  ∀ (A : Around) (outer : List Env) (s : Shared) (H : Hp) (us ws : List Value) (vs zs : List V) (Q : VK) (E : XK), Room k A → Calm A → Env0 P w K mg base A outer s H → Vals vs us → Vals zs ws → vs.length = n → zs.length = ks.length →
    (∀ p, H p = Option.none → sp (vs ++ [V.ref p]) (upd H p (.dK (kwK ks zs))) Q E) → codeAny (model P w) A (.call (.ref f) ⟨us, ks.zip ws⟩) (CR CX outer P w H s Q E) s
section
variable {P : Program} {w : World} {K : PySem.W.Frag} {mg : Str → Option Value} {base : Heap} {k : Nat} {f : Addr} {name qual pd : Str} {params : Arguments} {body : List Stmt} {scope : Scope} {dV kV doc pm cdv ct oc : Value} {an od : Option Addr}
  {osl : Array (Option Value)} {N ps ks : List Str} {sp : Sp}
theorem fn_kwG (lk : K.lookup f = some ⟨oc, od, .func (PySem.W.fnOf name qual params body scope dV kV doc pm an cdv ct), osl⟩) (hcd : PySem.W.codeIn K cdv qual = true) (S : FnScope N (ps ++ [pd]) scope) (hn : ks.Nodup) (hkl : ks.length ≤ 1000)
    (hb : ∀ us ws : List Value, us.length = ps.length → ws.length = ks.length → bindArgs (PySem.W.fnOf name qual params body scope dV kV doc pm an cdv ct) ⟨us, ks.zip ws⟩ =
      ((alloc ({ cls := .type "dict", data := .dict #[] } : Obj) : Sem Addr) >>= fun d => (forIn (ks.zip ws) PUnit.unit fun x _ => (nsSet d x.1 x.2 >>= fun _ => pure (ForInStep.yield PUnit.unit))) >>= fun _ => pure (ps.zip us ++ [(pd, Value.ref d)])))
    (walk : ∀ (cdv : Value) (A : Around) (outer : List Env) (s : Shared) (H : Hp) (vs : List V) (Q : VK) (E : XK), Room k (A.deeper (envOfC qual scope s.heap.objs.size f cdv)) → Calm (A.deeper (envOfC qual scope s.heap.objs.size f cdv)) → sp vs H Q E →
      ∃ t, PSs (cxOf CX0 P w K mg base N qual scope f cdv A outer s H E).nox body t ∧ t { nx := fun _ H' => Q .non H', rt := Q } (start N vs) H) :
    FnKG P w K mg base CX0 (k + 1) f ps.length ks sp := by
  intro A outer s H us ws vs zs Q E hr hc e0 r rz l1 l2 hq
  have free : H s.heap.objs.size = Option.none := e0.hok.fresh (Nat.le_refl _)
  have m1 : us.length = ps.length := r.length.symm.trans l1
  have m2 : ws.length = ks.length := rz.length.symm.trans l2
  refine StX.run_bnd lk hcd S hr e0 (G := fun xs H2 => ∃ p, H p = Option.none ∧ xs = vs ++ [V.ref p] ∧ H2 = upd H p (.dK (kwK ks zs))) (fun A' Ex Q' h => ?_) fun s2 H2 xs g hr' => ?_
  · rw [hb us ws m1 m2]
    have hd : (s.heap.push ({ cls := .type "dict", data := .dict #[] } : Obj)).get? s.heap.objs.size = some (dictOf [] 0) := Heap.get?_push_size _ rfl
    have nx : (((ks.zip ws).map (·.1)).Nodup) := by rw [List.map_fst_zip (by omega)]; exact hn
    refine wpAny_bind (wpAny_alloc (wpAny_bind (ns_fill (ks.zip ws) { s with heap := s.heap.push ({ cls := .type "dict", data := .dict #[] } : Obj) } [] 0 hd (fun e he => nomatch he) nx fun h' kp hg => wpAny_pure ?_)))
    have kp' : ∀ b o, s.heap.get? b = some o → h'.get? b = some o := fun b o e => kp b o (Nat.ne_of_lt (Heap.lt_size e)) (Heap.get?_push_of_some _ e)
    have new : ∀ H', ObjOk P w H' h' s.heap.objs.size (.dK (kwK ks zs)) := fun H' => kw_obj hg (beq_eq_false_iff_ne.mpr (Ne.symm (Nat.ne_of_lt (StX.env0_big e0)))) hn hkl rz m2
    have sz : s.heap.objs.size ≤ h'.objs.size := Nat.le_of_lt (Heap.lt_size hg)
    have rr : Vals (vs ++ [V.ref s.heap.objs.size]) (us ++ [Value.ref s.heap.objs.size]) := r.append (.cons rfl .nil)
    have z := h { s with heap := h', toks := s.toks + (ks.zip ws).length } _ _ _ (env0_new e0 kp' sz (new _)) (Un.laid kp' (Nat.le_refl _) free) rfl (fun e s' f => f) rr (by rw [List.length_append, List.length_append, l1] <;> rfl) ⟨_, free, rfl, rfl⟩
    rw [List.zip_append m1.symm] at z
    exact z
  · obtain ⟨p, hp, rfl, rfl⟩ := g
    obtain ⟨t, d, q⟩ := walk cdv A outer s2 _ _ Q E hr' (hc.deeper _) (hq p hp)
    exact ⟨t, d.nox, q⟩
end
section
variable {X : Cx} {CX : CXT} {k n : Nat} {f C : Addr} {ks : List Str} {sp : Sp} {E : XK} {m : Str} {pos apos : Pos} {o : Expr} {ta : TE} {tk : TA} {kws : List Keyword}
theorem FnKG.up {P : Program} {w : World} {K : PySem.W.Frag} {mg : Str → Option Value} {base : Heap} {j : Nat} (F : FnKG P w K mg base CX j f n ks sp) (h : j ≤ k) : FnKG P w K mg base CX k f n ks sp := fun A outer s H us ws vs zs Q E r => F A outer s H us ws vs zs Q E (r.mono h)
/-- without keywords -/
theorem FnKG.none {P : Program} {w : World} {K : PySem.W.Frag} {mg : Str → Option Value} {base : Heap} (F : FnKG P w K mg base CX k f n [] sp) : FnRG P w K mg base CX k f (fun vs H Q E => vs.length = n ∧ ∀ p, H p = Option.none → sp (vs ++ [V.ref p]) (upd H p (.dK [])) Q E) :=
  fun A outer s H us vs Q E r c e v q => F A outer s H us [] vs [] Q E r c e v .nil q.1 rfl q.2
def tMethKw (C : Addr) (m : Str) (ks : List Str) (sp : Sp) (E : XK) (ta : TE) (tk : TA) : TE := fun σ H Q => ta σ H fun x H1 => ∃ a dx fs, x = .ref a ∧ H1 a = some (.ins C dx fs) ∧ fs.lookup m = Option.none ∧
  tk σ H1 fun zs H2 => zs.length = ks.length ∧ ∀ p, H2 p = Option.none → sp [x, .ref p] (upd H2 p (.dK (kwK ks zs))) Q E
/-- o.m(k=e, ..), m with **names -/
theorem pe_methKwG {pl : Sem Bool} (he : PE X o ta) (c : Cls X.K C) (hm : Meth X.K C m f) (F : FnKG X.prog X.w X.K X.mg X.base CX k f 1 ks sp) (hr : Room k X.A) (hc : Calm X.A) (hx : Passes CX X E)
    (hkw : PK X kws tk) (hall : (backToKw pos (keywordEach kws X.env)).all (·.1.isSome) = true := by rfl) (hks : (backToKw pos (keywordEach kws X.env)).filterMap (·.1) = ks := by rfl)
    (hpl : ((backTo pos (starEach [] X.env)).any (·.1) || (backToKw pos (keywordEach kws X.env)).any (·.1.isNone)) = false := by rfl)
    (ht : eval (.Call (.Attribute o m apos) [] kws pos) X.env = (eval o X.env >>= fun ov => standAt apos.atName >>= fun _ => holding [ov] (getMethod ov m pl) >>= fun fx =>
      callWith pos fx.1 fx.2 (backTo pos (starEach [] X.env)) (backToKw pos (keywordEach kws X.env))) := by rfl) :
    PE X (.Call (.Attribute o m apos) [] kws pos) (tMethKw C m ks sp E ta tk) := by
  constructor
  intro pins s σ H Q I h
  refine PySem.W.methodCall_KW (pl := pl) (thn (he.run pins s σ H _ I h) ?_) ht
  rintro u s1 ⟨_, H1, I1, rx, a, dx, fs, rfl, ea, l, q⟩
  obtain rfl : u = .ref a := rx
  refine getmeth_ok I1 ea c hm l (PySem.W.callWith_KW0 (first := [.ref a]) (h₀ := X.base) I.ok.mod.kin hm.kp hall (thn (hkw.run pos pins s1 σ H1 _ I1 q) ?_) hpl)
  rintro ws s2 ⟨zs, H2, I2, rz, l2, q2⟩
  refine ⟨I2.kIn, ?_⟩
  rw [hks]
  refine wpAny_call (codeAny_mono (F X.A X.stack s2 H2 [.ref a] ws [.ref a] zs Q E hr hc I2.env0 (.cons rfl .nil) rz rfl l2 q2) fun r' s' z => ?_)
  have y := out_of hx I2 r' s' z
  match r', y with
  | .error _, y => exact y
  | .ok (.ret _), y => exact y
end
end GL
namespace GL
open PySem PySem.Spec PyProof.Rows L2 PySem.W PySem.Calls
/-! ### tuples whose own methods are called: it is known that they have no dict -/
def SqZ (K : PySem.W.Frag) (H : Hp) (a : Addr) (xs : List V) : Prop :=
  (∃ o : Obj, H a = some (.frz o (.tup xs)) ∧ o.dict = none) ∨
    ∃ (o : Obj) (its : Array Value) (n : Nat), K.lookup a = some o ∧ o.cls = .type "tuple" ∧ o.dict = none ∧ o.data = .seq its n ∧ its.size ≤ sizeLine ∧ Vals xs its.toList
theorem SqZ.t {K : PySem.W.Frag} {H : Hp} {a : Addr} {xs : List V} (h : SqZ K H a xs) : SqT K H a xs := by
  rcases h with ⟨o, h, _⟩ | ⟨o, its, n, h1, h2, _, h3, h4, h5⟩
  · exact .inl (.inr ⟨o, h⟩)
  · exact .inr ⟨o, its, n, h1, h2, h3, h4, h5⟩
theorem SqZ.to {K : PySem.W.Frag} {H H' : Hp} {a : Addr} {xs : List V} (k : ∀ o, H a = some (.frz o (.tup xs)) → H' a = some (.frz o (.tup xs))) (h : SqZ K H a xs) : SqZ K H' a xs :=
  h.imp (fun ⟨o, h, d⟩ => ⟨o, k o h, d⟩) id
theorem SqZ.same {K : PySem.W.Frag} {H H' : Hp} {a : Addr} {xs : List V} (s : Same H H') (h : SqZ K H a xs) : SqZ K H' a xs := h.to fun _ e => s _ _ e
/-- what is said of a new tuple -/
def NewZ (H : Hp) (xs : List V) (Q : VK) : Prop := ∀ (p : Addr) (o : Obj), H p = none → o.dict = none → Q (.ref p) (upd H p (.frz o (.tup xs)))
section
variable {X : Cx} {pins : List (Addr × Obj)} {σ : L2.St} {H : Hp} {s : Shared}
theorem newZ {xs : List V} {its : List Value} {Q : VK} (I : Inv X pins σ H s) (r : Vals xs its) (hz : xs.length ≤ sizeLine) (q : NewZ H xs Q) : EP X pins σ Q (.ref s.heap.objs.size) { s with heap := s.heap.push { cls := .type "tuple", data := .seq its.toArray } } :=
  ⟨.ref s.heap.objs.size, upd H s.heap.objs.size (.frz ({ cls := .type "tuple", data := .seq its.toArray } : Obj) (.tup xs)),
    I.laid (t' := s.toks) (fun b ob e => Heap.get?_push_of_some _ e) (Nat.le_refl _) (show ObjOk X.prog X.w _ _ _ (.frz _ (.tup xs)) from ⟨Heap.get?_push_size _ rfl, hz, its, r, IsTup.new _ _⟩), rfl, q _ _ (I.hok.fresh (Nat.le_refl _)) rfl⟩
/-- tuple(a list) -/
def kTupZ (K : PySem.W.Frag) : V → Hp → VK → Prop := fun x H Q => ∃ p xs, x = .ref p ∧ SqL K H p xs ∧ NewZ H xs Q
theorem pe_tupleZ {a : Expr} {ta : TE} {p pos : Pos} (hg : Gl X "tuple") (hm : X.mg "tuple" = none) (ha : PE X a ta) (na : starEach [a] X.env = (false, eval a X.env) :: starEach [] X.env := by rfl) :
    PE X (.Call (.Name "tuple" p) [a] [] pos) (tThen ta (kTupZ X.K)) := by
  constructor
  intro pins s σ H Q I h
  refine Call_ (ld_blt I hg hm boot_tuple (PyProof.Rows.callWith_type1 (one_arg ha I h (fun v s2 x H2 I2 r q => ?_) na) na))
  obtain ⟨p, xs, rfl, hs, q⟩ := q
  obtain rfl : v = .ref p := r
  obtain ⟨its, rv, pl, hz⟩ := I2.list hs
  refine call_tuple_list pl.isList (fun h' hk => ?_) (by rw [List.size_toArray, ← rv.length]; exact hz)
  exact newZ (s := { s2 with heap := h' }) (I2.kept (t' := s2.toks) hk) rv hz q
/-- t + u -/
def rCatZ (K : PySem.W.Frag) : R2 := fun x y H Q => ∃ a b xs ys, x = .ref a ∧ y = .ref b ∧ SqT K H a xs ∧ SqT K H b ys ∧ xs.length + ys.length ≤ sizeLine ∧ (xs = [] → Q (.ref b) H) ∧ (xs ≠ [] → ys = [] → Q (.ref a) H) ∧ (xs ≠ [] → ys ≠ [] → NewZ H (xs ++ ys) Q)
theorem op_catZ : OpR X (binaryOp .Add) (rCatZ X.K) := by
  intro pins s σ H x y v u Q I rx ry h
  obtain ⟨a, b, xs, ys, rfl, rfl, ha, hb, hz, q0, q1, q2⟩ := h
  obtain rfl : v = .ref a := rx
  obtain rfl : u = .ref b := ry
  obtain ⟨its, r1, p1, _⟩ := I.tuple ha
  obtain ⟨its2, r2, p2, _⟩ := I.tuple hb
  by_cases hx : xs = []
  · subst hx
    cases r1
    exact cat_tup0 p1 p2 ⟨.ref b, H, I, rfl, q0 rfl⟩
  · refine HT.cat_tup p1 p2 (fun z => hx (r1.nil_iff.mp z)) (fun z => ⟨.ref a, H, I, rfl, q1 hx (r2.nil_iff.mp z)⟩) (fun z => ?_) (by rw [← r1.length, ← r2.length]; exact hz)
    exact newZ I (r1.append r2) (by rw [List.length_append]; exact hz) (q2 hx fun w => z (r2.nil_iff.mpr w))
/-- t[lo:hi] -/
def rSlZ (K : PySem.W.Frag) : V → Option Int → Option Int → Hp → VK → Prop := fun x lo hi H Q => ∃ a xs, x = .ref a ∧ SqT K H a xs ∧
  (HT.sIx xs.length 0 lo = 0 ∧ HT.sIx xs.length xs.length hi = xs.length → Q (.ref a) H) ∧ (¬ (HT.sIx xs.length 0 lo = 0 ∧ HT.sIx xs.length xs.length hi = xs.length) → NewZ H (cutV xs lo hi) Q)
theorem sl_tupZ : SlR X (rSlZ X.K) := by
  intro pins s σ H x v vl vu lo hi sl Q I rx hs pl pu h
  obtain ⟨a, xs, rfl, hx, q1, q2⟩ := h
  obtain rfl : v = .ref a := rx
  obtain ⟨its, r, ht, hz⟩ := I.tuple hx
  have hlen : its.toArray.size = xs.length := by rw [List.size_toArray]; exact r.length.symm
  refine ⟨"tuple", _, PyProof.Rows.slot_tuple_getitem.lookup, ht.typeIs, ?_⟩
  by_cases hw : HT.sIx xs.length 0 lo = 0 ∧ HT.sIx xs.length xs.length hi = xs.length
  · exact getItem_tuple_whole ht hs pl pu (by rw [hlen]; exact hw) ⟨.ref a, H, I, rfl, q1 hw⟩
  · refine HT.getItem_tuple_cut ht hs pl pu (by rw [hlen]; exact hw) ?_ (by rw [hlen]; exact hz)
    rw [hlen]
    exact newZ I ((r.drop (HT.sIx xs.length 0 lo)).take (HT.sIx xs.length xs.length hi - HT.sIx xs.length 0 lo)) (Nat.le_trans (cutV_length xs lo hi) hz) (q2 hw)
variable {o e : Expr} {es : List Expr} {to : TE} {t : TA} {name : Str} {apos cpos : Pos} {id : String} {r : V → List V → Hp → VK → Prop}
/-- t.m(e, ..), m a method of tuples -/
def tBMZ (K : PySem.W.Frag) (r : V → List V → Hp → VK → Prop) (to : TE) (t : TA) : TE := fun σ H Q => to σ H fun x H1 => (∃ a xs, x = .ref a ∧ SqZ K H1 a xs) ∧ t σ H1 fun xs H2 => r x xs H2 Q
theorem pe_bmZ (slot : Slot "tuple" name id) (hty : typeOf (.builtin id) = pure (.type "method_descriptor")) (hm : MtR X id r) (ho : PE X o to) (ha : PA X (e :: es) t)
    (hbase : attributeBase o name X.env (eval o X.env) = eval o X.env := by rfl)
    (hfew : ((backTo cpos (starEach (e :: es) X.env)).all (fun x => !x.1) && (backToKw cpos (keywordEach [] X.env)).all (fun x => x.1.isSome)
      && decide ((e :: es).length + ([] : List Keyword).length + (if ([] : List Keyword).isEmpty then 0 else 1) < 30)) = true := by rfl)
    (hline : (apos.endLine == cpos.line) = true := by rfl) (hs : starEach (e :: es) X.env = (false, eval e X.env) :: starEach es X.env := by rfl) (hplain : (backTo cpos (starEach es X.env)).any (·.1) = false := by rfl) :
    PE X (.Call (.Attribute o name apos) (e :: es) [] cpos) (tBMZ X.K r to t) := by
  constructor
  intro pins s σ H Q I h
  refine wpAny_Call_method_late hbase hfew hline rfl (thn (ho.run pins s σ H _ I h) fun v s1 ⟨x, H1, I1, r1, ty, q1⟩ => ?_)
  obtain ⟨a, xs, rfl, hz⟩ := ty
  obtain rfl : v = .ref a := r1
  have tp : s1.TypeIs (.ref a) "tuple" ∧ ∃ ob, s1.heap.get? a = some ob ∧ ob.dict = none := by
    obtain ⟨its, _, ht, _⟩ := I1.tuple hz.t
    refine ⟨ht.typeIs, ?_⟩
    rcases hz with ⟨ob, e, d⟩ | ⟨ob, _, _, e, _, d, _⟩
    · exact ⟨ob, ((show ObjOk X.prog X.w H1 s1.heap a (.frz ob (.tup xs)) from I1.hok a _ e)).1, d⟩
    · exact ⟨ob, I1.kIn a ob e, d⟩
  refine ⟨"tuple", id, PySem.F.plainAttrs_tuple, slot, hty, tp.1, fun b e => ?_, ?_⟩
  · cases e
    exact tp.2
  have hA := ha.run cpos pins s1 σ H1 _ I1 q1
  rw [hs] at hA ⊢
  refine Calls.callWith_builtin (by show (false || (backTo cpos (starEach es X.env)).any (·.1)) = false; rw [hplain] <;> rfl) (Calls.evalArgs_plain ?_)
  exact thn hA fun us s2 ⟨vs, H2, I2, r2, q2⟩ => hm pins s2 σ H2 (V.ref a) vs _ us Q I2 rfl r2 q2
end

/-! ### t[::-1] -/
section
variable {prog : Program} {w : World} {A : Around} {E : Value → Shared → Prop} {s : Shared}
theorem fm_congr {α β : Type} {f g : α → Option β} : ∀ l : List α, (∀ k ∈ l, f k = g k) → l.filterMap f = l.filterMap g
  | [], _ => rfl
  | a :: r, h => by
    rw [List.filterMap_cons, List.filterMap_cons, h a List.mem_cons_self, fm_congr r fun k hk => h k (List.mem_cons_of_mem _ hk)]
theorem back_list (xs : Array Value) : ((List.range xs.size).filterMap fun (k : Nat) => xs[((xs.size : Int) - 1 + (k : Int) * (-1)).toNat]?).toArray = xs.toList.reverse.toArray := by
  congr 1
  have e : (List.range xs.size).filterMap (fun (k : Nat) => xs[((xs.size : Int) - 1 + (k : Int) * (-1)).toNat]?) = ((List.range xs.size).map fun k => xs.size - 1 - k).filterMap (xs[·]?) := by
    rw [List.filterMap_map]
    refine fm_congr _ fun k hk => ?_
    have := List.mem_range.mp hk
    show xs[((xs.size : Int) - 1 + (k : Int) * (-1)).toNat]? = xs[xs.size - 1 - k]?
    rw [show ((xs.size : Int) - 1 + (k : Int) * (-1)).toNat = xs.size - 1 - k by omega]
  rw [e, krv_range, List.filterMap_reverse, krv_all]
theorem getItem_tuple_back {t sl : Addr} {items : Array Value} {vs : Value} {Q : Value → Shared → Prop} (ht : IsTup s.heap t items) (hs : s.heap.IsSliceOf sl .none .none vs) (ps : IsPart vs (some (-1)))
    (h : Q (.ref s.heap.objs.size) { s with heap := s.heap.push { cls := .type "tuple", data := .seq items.toList.reverse.toArray } })
    (hsz : items.size ≤ sizeLine) : wpAny (model prog w) A (getItem (.ref t) (.ref sl)) Q E s := by
  have fit : sizeOk (.seq items.toList.reverse.toArray) := by
    show items.toList.reverse.toArray.size ≤ sizeLine
    rw [List.size_toArray, List.length_reverse, Array.length_toList]
    exact hsz
  obtain ⟨os, hos, hcs, hds⟩ := id hs
  have hTs : s.TypeIs (.ref sl) "slice" := ⟨os, hos, hcs⟩
  unfold getItem
  try with_reducible refine wpAny_holding ?_
  first | refine wpAny_bind (wpAny_pure ?_) | skip
  refine wpAny_bind (wpAny_sequenceKey ht.typeIs (by decide) ?_)
  refine wpAny_bind (wpAny_callSpecial?_slot (name := Str.ofString "__getitem__") ht.typeIs PyProof.Rows.slot_tuple_getitem
    (wpAny_call_entry PyProof.Rows.slot_tuple_getitem ht.typeIs entry_tuple_getitem ?_ (args_tuple_getitem _ _)))
  show wpAny _ _ (Builtin.Tuple.tupleItemsOf (.ref t) >>= _) _ _ s
  refine wpAny_bind (tupleItemsOf_ ht (wpAny_bind (wpAny_typeOf hTs ?_)))
  rw [if_pos (by decide)]
  have places : Builtin.Slice.slicePlaces ((items.size : Int) - 1) (-1) (-1) = items.size := by
    unfold Builtin.Slice.slicePlaces
    rw [if_neg (by decide)]
    by_cases z : items.size = 0
    · rw [z]; decide
    · rw [if_pos (by omega), show (-(-1 : Int)) = 1 by decide, Int.ediv_one]
      omega
  have app : wpAny (model prog w) A.in1 (Builtin.Slice.sliceApplied (.ref sl) (pure (items.size : Int))) (fun r s' => r = (((items.size : Int) - 1), -1, items.size) ∧ s' = s) (fun _ _ => False) s := by
    unfold Builtin.Slice.sliceApplied Builtin.Slice.sliceFields
    refine wpAny_bind (wpAny_bind (wpAny_field hos hds (x := .none) rfl (wpAny_bind (wpAny_field hos hds (x := .none) rfl (wpAny_bind (wpAny_field hos hds (x := vs) rfl (wpAny_pure ?_)))))))
    refine wpAny_bind (HT.slicePart_ ps ?_)
    show wpAny _ _ (if ((-1 : Int) == 0) = true then _ else _) _ _ s
    rw [if_neg (by decide)]
    refine wpAny_bind (slicePart_none (wpAny_bind (slicePart_none (wpAny_bind (wpAny_pure ?_)))))
    show wpAny _ _ (pure (((items.size : Int) - 1), (-1 : Int), Builtin.Slice.slicePlaces ((items.size : Int) - 1) (-1) (-1))) _ _ s
    rw [places]
    exact wpAny_pure ⟨rfl, rfl⟩
  refine wpAny_bind (wpAny_mono app (fun r s' hr => ?_) fun _ _ z => z.elim)
  obtain ⟨rfl, rfl⟩ := hr
  have no : ¬ ((((items.size : Int) - 1) == 0 && (-1 : Int) == 1 && items.size == items.size) = true) := by
    intro q
    rw [Bool.and_eq_true, Bool.and_eq_true] at q
    exact absurd q.1.2 (by decide)
  show wpAny _ _ (if (((items.size : Int) - 1) == 0 && (-1 : Int) == 1 && items.size == items.size) = true then _ else _) _ _ s'
  rw [if_neg no, back_list]
  first
    | exact wpAny_bind (m := Builtin.Tuple.tupleExact _) (wpAny_newObj_type (wpAny_pure ⟨_, rfl, wpAny_pure h⟩) fit)
    | exact wpAny_bind (m := Builtin.Tuple.tupleExact _) (wpAny_newObj_type (wpAny_bind (wpAny_pure (wpAny_pure ⟨_, rfl, wpAny_pure h⟩))) fit)
    | exact wpAny_bind (wpAny_bind (m := Builtin.Tuple.tupleExact _) (wpAny_newObj_type (wpAny_pure (wpAny_pure ⟨_, rfl, wpAny_pure h⟩)) fit))
    | exact wpAny_bind (wpAny_bind (m := Builtin.Tuple.tupleExact _) (wpAny_newObj_type (wpAny_pure ⟨_, rfl, wpAny_pure h⟩) fit))
end
section
variable {X : Cx}
def tRevZ (K : PySem.W.Frag) (te : TE) : TE := fun σ H Q => te σ H fun x H1 => ∃ a xs, x = .ref a ∧ SqT K H1 a xs ∧ NewZ H1 xs.reverse Q
theorem pe_revZ {e : Expr} {te : TE} {k : Nat} {p1 p2 p3 pos : Pos} (he : PE X e te) : PE X (.Subscript e (.Slice none none (some (.UnaryOp .USub (.Constant (.int 1) k p1) p2)) p3) pos) (tRevZ X.K te) := by
  constructor
  intro pins s σ H Q I h
  refine Subscript_ (thn (he.run pins s σ H _ I h) fun v s1 hv => ?_)
  obtain ⟨x, H1, I1, r1, a, xs, rfl, hx, q⟩ := hv
  obtain rfl : v = .ref a := r1
  have part : PO X (some (.UnaryOp .USub (.Constant (.int 1) k p1) p2)) (tPart (tUn (rU fun i => .int (-i)) (tC (.int 1)))) := po_some (pe_un un_neg pe_int)
  refine wpAny_Slice (thn (po_none.run pins s1 σ H1 (fun o H2 => o = none ∧ H2 = H1) I1 ⟨rfl, rfl⟩) fun vl s2 hl => ?_)
  obtain ⟨l, H2, I2, pl, rfl, rfl⟩ := hl
  refine thn (po_none.run pins s2 σ H2 (fun o H3 => o = none ∧ H3 = H2) I2 ⟨rfl, rfl⟩) fun vu s3 hu => ?_
  obtain ⟨u, H3, I3, pu, rfl, rfl⟩ := hu
  refine thn (part.run pins s3 σ H3 (fun o H4 => o = some (-1) ∧ H4 = H3) I3 ⟨1, rfl, -1, rfl, rfl, rfl⟩) fun vs s4 hp => ?_
  obtain ⟨o, H4, I4, ps, rfl, rfl⟩ := hp
  cases pl
  cases pu
  have I5 : Inv X pins σ H4 { s4 with heap := s4.heap.push { cls := .type "slice", data := .fields #[.none, .none, vs] } } := I4.kept (t' := s4.toks) fun b ob q => Heap.get?_push_of_some _ q
  obtain ⟨its, r, ht, hz⟩ := I5.tuple hx
  show wpAny (model X.prog X.w) X.A (subscriptTail e (.Slice none none (some (.UnaryOp .USub (.Constant (.int 1) k p1) p2)) p3) (.ref a) (.ref s4.heap.objs.size)) (EP X pins σ Q) X.xe { s4 with heap := s4.heap.push { cls := .type "slice", data := .fields #[.none, .none, vs] } }
  refine tail_any (ops := [.ref a, .ref s4.heap.objs.size]) ht.typeIs (PyProof.Rows.slot_tuple_getitem.lookup) ?_ (by with_unfolding_all rfl)
  refine getItem_tuple_back ht (Heap.IsSliceOf.new _ .none .none vs) ps ?_ (by rw [List.size_toArray, ← r.length]; exact hz)
  have e1 : its.toArray.toList.reverse.toArray = its.reverse.toArray := by simp
  rw [e1]
  exact newZ I5 r.reverse (by rw [List.length_reverse]; exact hz) q
end
/-! ### t * 0, t * 1 -/
section
theorem tuple_mul1 (l : Addr) (items : Array Value) (n : Nat) (dd : Option Addr) (sl : Array (Option Value)) (u : Tok) :
    Meets (Builtin.«tuple.__mul__» ⟨[.ref l, .int 1 u], []⟩) (fun _ R s => s.heap.get? l = some { cls := .type "tuple", dict := dd, data := .seq items n, slots := sl } ∧ R (.ok (.ret (Value.ref l))) s) :=
  .of_wp fun prog w A R s h => by
    obtain ⟨hp, g, d, tk, os⟩ := s
    obtain ⟨hl, h⟩ := h
    have f1 := AutoSeq1.idx_int
    have c1 : (items.isEmpty || (1 : Int) == 1) = true := by rw [Bool.or_eq_true]; exact Or.inr (by decide)
    wp_walk using wpAny_loadPart' hl
    repeat (first
      | (refine wpAny_ite_true (decide_eq_true c1) ?_; wp_walk using wpAny_loadPart' hl)
      | (refine wpAny_ite_false (by decide) ?_; wp_walk using wpAny_loadPart' hl))
    exact ⟨_, rfl, h⟩
theorem tuple_mul0 (l : Addr) (items : Array Value) (n : Nat) (dd : Option Addr) (sl : Array (Option Value)) (u : Tok) (ne : items.isEmpty = false) :
    Meets (Builtin.«tuple.__mul__» ⟨[.ref l, .int 0 u], []⟩) (fun _ R s => s.heap.get? l = some { cls := .type "tuple", dict := dd, data := .seq items n, slots := sl } ∧
      R (.ok (.ret (Value.ref s.heap.objs.size))) { s with heap := s.heap.push { cls := Value.type "tuple", data := Data.seq #[] }, toks := s.toks }) :=
  .of_wp fun prog w A R s h => by
    obtain ⟨hp, g, d, tk, os⟩ := s
    obtain ⟨hl, h⟩ := h
    have f1 := AutoSeq1.idx_int
    have c1 : (items.isEmpty || (0 : Int) == 1) = false := by rw [ne, Bool.false_or]; decide
    have c2 : (decide ((0 : Int) ≤ 0) || items.isEmpty) = true := by rw [Bool.or_eq_true]; exact Or.inl (by decide)
    wp_walk using wpAny_loadPart' hl
    repeat (first
      | (refine wpAny_ite_false (decide_eq_false (by rw [c1]; exact Bool.false_ne_true)) ?_; wp_walk using wpAny_loadPart' hl)
      | (refine wpAny_ite_true (decide_eq_true c2) ?_; wp_walk using wpAny_loadPart' hl)
      | (refine wpAny_ite_false (by decide) ?_; wp_walk using wpAny_loadPart' hl))
    exact ⟨_, rfl, h⟩
end
section
variable {X : Cx}
def rRep01 (K : PySem.W.Frag) : R2 := fun x y H Q => ∃ l k xs, x = .ref l ∧ y = .int k ∧ SqT K H l xs ∧ xs ≠ [] ∧ (k = 0 ∨ k = 1) ∧ (k = 0 → NewZ H [] Q) ∧ (k = 1 → Q (.ref l) H)
theorem op_rep01 : OpR X (binaryOp .Mult) (rRep01 X.K) := by
  intro pins s σ H x y v u Q I rx ry h
  obtain ⟨l, k, xs, rfl, rfl, hT, ne, hk, q0, q1⟩ := h
  obtain rfl : v = .ref l := rx
  obtain ⟨t, rfl⟩ := ry
  obtain ⟨its, r, ⟨⟨cls, dd, data, sl⟩, ho, hc, n, hd⟩, hs⟩ := I.tuple hT
  simp only at hc hd
  subst hc hd
  have em : its.toArray.isEmpty = false := by
    cases its with
    | nil => cases r; exact absurd rfl ne
    | cons a b => rfl
  refine wpAny_binaryOp_repeat_ref (T := "tuple") (U := "int") (by decide) ⟨_, ho, rfl⟩ (fun s' => typeIs_int s' k t) noFill_tuple_mul F.fills_int_mul F.slot_int_rmul repeat_tuple F.slot_int_index.lookup
    (call_meets F.slot_int_rmul (typeIs_int s k t) F.entry_int_rmul (F.args_int_rmul_2 _ _) (int_rmul_tuple k t l its.toArray n dd sl) ⟨ho, rfl, ⟨_, ho, rfl⟩, ?_⟩)
  rcases hk with rfl | rfl
  · exact call_meets F.slot_tuple_mul ⟨_, ho, rfl⟩ F.entry_tuple_mul (F.args_tuple_mul_2 _ _) (tuple_mul0 l its.toArray n dd sl t em) ⟨ho, newZ I (its := []) .nil (Nat.zero_le _) (q0 rfl)⟩
  · exact call_meets F.slot_tuple_mul ⟨_, ho, rfl⟩ F.entry_tuple_mul (F.args_tuple_mul_2 _ _) (tuple_mul1 l its.toArray n dd sl t) ⟨ho, ⟨.ref l, H, I, rfl, q1 rfl⟩⟩
end
end GL
namespace GL
open PySem PySem.Spec PyProof.Rows L2
/-! ### rules told with the written part itself: a comprehension's element may then use them -/
section
variable {X : Cx} {K : PySem.W.Frag} {a e o : Expr} {es : List Expr} {ta to : TE} {t : TA} {p pos apos cpos : Pos} {f name : Str} {id : String} {r : V → List V → Hp → VK → Prop}
theorem pe_tupleOfK (hg : Gl X "tuple") (hm : X.mg "tuple" = none) (ha : PE X a ta) (h : X.K = K := by rfl) (na : starEach [a] X.env = (false, eval a X.env) :: starEach [] X.env := by rfl) :
    PE X (.Call (.Name "tuple" p) [a] [] pos) (tThen ta (kTup K)) := h ▸ pe_tupleOf hg hm ha na
theorem pe_tupleZK (hg : Gl X "tuple") (hm : X.mg "tuple" = none) (ha : PE X a ta) (h : X.K = K := by rfl) (na : starEach [a] X.env = (false, eval a X.env) :: starEach [] X.env := by rfl) :
    PE X (.Call (.Name "tuple" p) [a] [] pos) (tThen ta (kTupZ K)) := h ▸ pe_tupleZ hg hm ha na
theorem pe_fldK (he : PE X e ta) (hb : attributeBase e f X.env (eval e X.env) = eval e X.env) (h : X.K = K := by rfl) : PE X (.Attribute e f pos) (tFld K ta f) := h ▸ pe_fld he hb
theorem pa_starK (he : PE X e to) (hr : PA X es t) (h : X.K = K := by rfl) (hs : starEach (.Starred e p :: es) X.env = (true, eval e X.env) :: starEach es X.env := by rfl) : PA X (.Starred e p :: es) (StX.tStar K to t) := h ▸ StX.pa_star he hr hs
theorem pi_tupK {tg : Expr} (he : PE X e ta) (h : X.K = K := by rfl) : PI X tg e (iTup K ta) := h ▸ pi_tup he
theorem ix_tupK (h : X.K = K := by rfl) : IxR X (rIxT K) := h ▸ ix_tup
theorem mt_tup_indexK (h : X.K = K := by rfl) : MtR X "tuple.index" (fun x xs H Q => ∃ p, ∃ ys : List Str, ∃ z j, x = .ref p ∧ xs = [.str z] ∧ SqT K H p (ys.map V.str) ∧ ys[j]? = some z ∧ (∀ m, m < j → ys[m]? ≠ some z) ∧ Q (.int (j : Nat)) H) := h ▸ mt_tup_index
theorem pe_bmZK (slot : Slot "tuple" name id) (hty : typeOf (.builtin id) = pure (.type "method_descriptor")) (hm : MtR X id r) (ho : PE X o to) (ha : PA X (e :: es) t) (h : X.K = K := by rfl)
    (hbase : attributeBase o name X.env (eval o X.env) = eval o X.env := by rfl)
    (hfew : ((backTo cpos (starEach (e :: es) X.env)).all (fun x => !x.1) && (backToKw cpos (keywordEach [] X.env)).all (fun x => x.1.isSome)
      && decide ((e :: es).length + ([] : List Keyword).length + (if ([] : List Keyword).isEmpty then 0 else 1) < 30)) = true := by rfl)
    (hline : (apos.endLine == cpos.line) = true := by rfl) (hs : starEach (e :: es) X.env = (false, eval e X.env) :: starEach es X.env := by rfl) (hplain : (backTo cpos (starEach es X.env)).any (·.1) = false := by rfl) :
    PE X (.Call (.Attribute o name apos) (e :: es) [] cpos) (tBMZ K r to t) := h ▸ pe_bmZ slot hty hm ho ha hbase hfew hline hs hplain
end
end GL
/-! set(xs) of a list of ints, any of them twice -/
namespace L2
open PySem PySem.Spec PyProof.Rows
/-- the set that has just been made -/
abbrev bare (w : World) : Obj := { cls := .type "set", dict := none, data := .set #[] 0 (.fresh 0 0 (!w.params.followText "set-order")) }
section
variable {P : Program} {w : World} {A : Around} {E : Value → Shared → Prop} {s : Shared}
set_option maxHeartbeats 3200000 in
theorem set_of_list {l : Addr} {vs : Array Value} (ns : List Int) {Q : Value → Shared → Prop} (nh : A.handled = none)
    (isL : s.heap.IsList l vs) (are : IntsAre vs.toList ns) (few : ns.length + 1 < scanBound)
    (q : ∀ (h' : Heap) (tk c : Nat), SetR w h' s.heap.objs.size (fun j => decide (j ∈ ns)) c → c ≤ ns.length →
      (∀ b o, s.heap.get? b = some o → h'.get? b = some o) → Q (.ref s.heap.objs.size) { s with heap := h', toks := tk }) :
    wpAny (model P w) A (call (.type "set") [.ref l]) Q E s := by
  have same : vs.size = ns.length := by
    have z := IntsAre.length are
    rw [Array.length_toList] at z
    exact z
  obtain ⟨c, tl, m0⟩ := PySem.F.called_set.mro
  have m1 := PySem.F.called_set.made
  have m2 := PySem.F.called_set.sub
  refine wpAny_call (codeAny_of_tree ?_)
  show wpAny _ _ (callAny (.type "set") _) _ _ _
  refine wpAny_pure ⟨Code.quiet_builtin _ (by decide +kernel),
    codeAny_builtin PySem.F.entry_type_call ?_⟩
  rw [Around.under_plain (weight_type_call_type "set" [.ref l] [])
    rfl]
  have m3 := PySem.F.called_set.notType
  have m4 := PySem.F.called_set.canCreate
  have m5 := PySem.F.typeCall_set_1 (.ref l)
  repeat (any_goals (first | assumption | wp_step))
  refine codeAny_mono (code_set_led1 (.ref l) (E := E)
    (Q₁ := fun ob t => ob = .ref s.heap.objs.size ∧ t = { s with heap := s.heap.push (bare w) }) ⟨rfl, rfl⟩) fun r t hr => ?_
  cases r with
  | error e => exact hr
  | ok fl =>
    cases fl with
    | ret ob =>
      obtain ⟨rfl, rfl⟩ := hr
      have atS : (s.heap.push (bare w)).get? s.heap.objs.size = some (bare w) := Heap.get?_push_size _ rfl
      have tyS : Shared.TypeIs { s with heap := s.heap.push (bare w) } (.ref s.heap.objs.size) "set" := ⟨_, atS, rfl⟩
      have i1 := PySem.F.called_set.init.lookup
      have i2 := PySem.F.called_set.init.bind (.ref s.heap.objs.size)
      repeat (any_goals (first | assumption | wp_step))
      refine codeAny_mono (codeAny_call_builtin (R := wants (fun r t => r = .none ∧ ∃ h' tk c, t = { s with heap := h', toks := tk } ∧
          SetR w h' s.heap.objs.size (fun j => decide (j ∈ ns)) c ∧ c ≤ ns.length ∧ (∀ b o, s.heap.get? b = some o → h'.get? b = some o)) E)
        PySem.F.called_set.init.plain PySem.F.entry_set_init (check_set_init_1 tyS ?_)) fun r2 t2 hr2 => ?_
      · obtain ⟨ol, e0, e1, nl, e2⟩ := isL
        obtain ⟨oc, od, dat, osl⟩ := ol
        simp only at e1 e2
        subst e1
        subst e2
        have e3 : (s.heap.push (bare w)).get? l = some { cls := .type "list", dict := od, data := .seq vs nl, slots := osl } := Heap.get?_push_of_some _ e0
        have b1 := PySem.F.sub_list_set
        have b2 := PySem.F.sub_list_frozenset
        have b3 : (Value.type "list" == Value.type "dict") = false := by decide
        have isL1 : (s.heap.push (bare w)).IsList l vs := ⟨_, e3, rfl, nl, rfl⟩
        unfold Builtin.«set.__init__» noKeywords
        unfold Builtin.Frozenset.updateFrom
        generalize hI : pyIter = PI
        wp_walk
        subst hI
        refine wpAny_pyIter_list isL1 ?_
        refine wpAny_bind (wpAny_runValue ?_)
        have ltS : l < s.heap.objs.size := Heap.lt_size e0
        have nh3 : A.in1.in1.in1.handled = none := by
          simp [nh]
        have nI : l ≠ (s.heap.push (bare w)).objs.size := by
          rw [Heap.size_push]
          exact Nat.ne_of_lt (Nat.lt_succ_of_lt ltS)
        have offS : s.heap.objs.size ∉ [(s.heap.push (bare w)).objs.size, l] := by
          rw [Heap.size_push]
          intro z
          rcases List.mem_cons.mp z with z | z
          · exact absurd z (Nat.ne_of_lt (Nat.lt_succ_self _))
          · exact absurd (List.mem_singleton.mp z) (Nat.ne_of_gt ltS)
        have val : ∀ (i : Nat) (v : Value), vs[i]? = some v → ∃ k t, ns[i]? = some k ∧ v = .int k t := fun i v hv => by
          have hi : i < ns.length := by
            rw [← same]
            exact (Array.getElem?_eq_some_iff.mp hv).1
          obtain ⟨t, e⟩ := PyProof.Rows.IntsAre.int_at are i v (by rw [Array.getElem?_toList]; exact hv)
          refine ⟨ns[i], t, List.getElem?_eq_getElem hi, ?_⟩
          rw [e, List.getD_eq_getElem?_getD, List.getElem?_eq_getElem hi] <;> rfl
        refine set_update_ints ((Walks.list nh3 _ l nI vs).toS) s.heap.objs.size offS ns same few val (vs.size - 0) 0 _ (by omega) (Nat.zero_le _)
          ⟨⟨_, Heap.get?_push_size _ rfl, rfl, rfl⟩, (isL1.push _)⟩ ?g0 ?gR
        case g0 =>
          exact ⟨0, Nat.le_refl 0, setR_new_at (Heap.get?_push_of_some _ atS)⟩
        case gR =>
          intro t' c' mv hc' hS'
          obtain ⟨h', g2, d', tk', os'⟩ := t'
          have z1 : g2 = s.gens := mv.gens
          have z2 : d' = s.drawn := mv.drawn
          have z3 : os' = s.os := mv.os
          subst z1
          subst z2
          subst z3
          show wpAny _ _ _ _ _ _
          refine wpAny_pure ?_
          show wpAny _ _ (ret Value.none) _ _ _
          rw [same] at hc'
          refine wpAny_pure ⟨rfl, h', tk', c', rfl, hS', hc', fun b o e => ?_⟩
          have lb : b < s.heap.objs.size := Heap.lt_size e
          have n2 : b ≠ (s.heap.push (bare w)).objs.size := by
            rw [Heap.size_push]
            exact Nat.ne_of_lt (Nat.lt_succ_of_lt lb)
          refine mv.heap b o (fun z => ?_) (Heap.get?_push_of_some _ (Heap.get?_push_of_some _ e))
          rcases List.mem_cons.mp z with z | z
          · exact absurd z (Nat.ne_of_lt lb)
          · exact absurd (List.mem_singleton.mp z) n2
      · cases r2 with
        | error e => exact hr2
        | ok fl2 =>
          cases fl2 with
          | ret r =>
            obtain ⟨rfl, h', tk, c', rfl, hS', hc', hk'⟩ := hr2
            repeat (any_goals (first | assumption | wp_step))
            exact q _ _ _ hS' hc' hk'
          | _ => exact hr2.elim
    | _ => exact hr.elim
end
section
variable {X : Cx}
def rSetI (K : PySem.W.Frag) (w : World) : List V → Hp → VK → Prop := fun xs H Q => ∃ (l : Addr) (ns : List Int), xs = [.ref l] ∧ SqL K H l (ns.map V.int) ∧ ns.length ≤ 1000 ∧
  ∀ (p : Addr) (c : Nat), H p = none → c ≤ ns.length → Q (.ref p) (upd H p (SetO w p (fun j => decide (j ∈ ns)) c))
theorem cr_setI (hc : X.calm = true) : CallR X (.type "set") (rSetI X.K X.w) := by
  intro pins s σ H xs us Q I r h
  obtain ⟨l, ns, rfl, hs, hl, q⟩ := h
  obtain ⟨its, rv, pl, _⟩ := I.list hs
  rw [Vals.ref1 r]
  refine set_of_list ns (I.ok.hd hc) pl.isList (show IntsAre its.toArray.toList ns from ints_of_vals rv) (by unfold scanBound; omega) fun h' tk c hS hcn hk => ?_
  exact ⟨.ref _, upd H s.heap.objs.size (SetO X.w s.heap.objs.size (fun j => decide (j ∈ ns)) c), I.laid (t' := tk) (fun b u e => hk b u e) (Nat.le_refl _) (setO_new hS), rfl, q _ c (I.hok.fresh (Nat.le_refl _)) hcn⟩
end
end L2
namespace GL
open PySem PySem.Spec PyProof.Rows L2
section
variable {X : Cx} {K : PySem.W.Frag} {o e : Expr} {es : List Expr} {to ta : TE} {t : TA} {name : Str} {apos cpos : Pos} {Ty id : String} {r : V → List V → Hp → VK → Prop}
theorem pe_bmK (pa : PlainAttrs Ty) (slot : Slot Ty name id) (hty : typeOf (.builtin id) = pure (.type "method_descriptor")) (hm : MtR X id r) (ho : PE X o to) (ha : PA X (e :: es) t) (h : X.K = K := by rfl)
    (hbase : attributeBase o name X.env (eval o X.env) = eval o X.env := by rfl)
    (hfew : ((backTo cpos (starEach (e :: es) X.env)).all (fun x => !x.1) && (backToKw cpos (keywordEach [] X.env)).all (fun x => x.1.isSome)
      && decide ((e :: es).length + ([] : List Keyword).length + (if ([] : List Keyword).isEmpty then 0 else 1) < 30)) = true := by rfl)
    (hline : (apos.endLine == cpos.line) = true := by rfl) (hs : starEach (e :: es) X.env = (false, eval e X.env) :: starEach es X.env := by rfl) (hplain : (backTo cpos (starEach es X.env)).any (·.1) = false := by rfl) :
    PE X (.Call (.Attribute o name apos) (e :: es) [] cpos) (tBM K Ty r to t) := h ▸ pe_bm pa slot hty hm ho ha hbase hfew hline hs hplain
theorem mt_indexK (h : X.K = K := by rfl) : MtR X "list.index" (rIndex K) := h ▸ mt_index
theorem pi_listK {tg : Expr} (he : PE X e ta) (h : X.K = K := by rfl) : PI X tg e (iList K ta) := h ▸ pi_list he
end
end GL
/-! len(set(xs)) of a list of texts, any of them twice -/
namespace L2
open PySem PySem.Spec PyProof.Rows
/-- how many unlike ones (the later ones first) -/
def dcR : List Str → Nat
  | [] => 0
  | x :: r => if x ∈ r then dcR r else dcR r + 1
def dcnt (xs : List Str) : Nat := dcR xs.reverse
theorem dcR_cons (x : Str) (r : List Str) : dcR (x :: r) = if x ∈ r then dcR r else dcR r + 1 := rfl
theorem dcR_le : ∀ xs : List Str, dcR xs ≤ xs.length
  | [] => Nat.le_refl _
  | x :: r => by
    have ih := dcR_le r
    unfold dcR
    split <;> simp only [List.length_cons] <;> omega
theorem dcR_nodup : ∀ xs : List Str, dcR xs = xs.length ↔ xs.Nodup
  | [] => ⟨fun _ => .nil, fun _ => rfl⟩
  | x :: r => by
    have ih := dcR_nodup r
    have le := dcR_le r
    unfold dcR
    rw [List.nodup_cons]
    by_cases m : x ∈ r
    · rw [if_pos m, List.length_cons]
      exact ⟨fun e => by omega, fun h => absurd m h.1⟩
    · rw [if_neg m, List.length_cons]
      exact ⟨fun e => ⟨m, ih.mp (by omega)⟩, fun h => by rw [ih.mpr h.2]⟩
theorem dcnt_le (xs : List Str) : dcnt xs ≤ xs.length := by
  have := dcR_le xs.reverse
  rw [List.length_reverse] at this
  exact this
theorem dcnt_nodup (xs : List Str) : dcnt xs = xs.length ↔ xs.Nodup := by
  have h := dcR_nodup xs.reverse
  rw [List.length_reverse] at h
  rw [show dcnt xs = dcR xs.reverse from rfl, h]
  exact List.pairwise_reverse.trans ⟨fun z => z.imp fun e y => e y.symm, fun z => z.imp fun e y => e y.symm⟩
theorem dcnt_step {xs : List Str} {i : Nat} {x : Str} (h : xs[i]? = some x) : dcnt (xs.take (i + 1)) = if (decide (x ∈ xs.take i)) = true then dcnt (xs.take i) else dcnt (xs.take i) + 1 := by
  unfold dcnt
  rw [List.take_add_one, h, Option.toList_some, List.reverse_append, List.reverse_singleton]
  show dcR (x :: (xs.take i).reverse) = _
  rw [dcR_cons]
  by_cases m : x ∈ xs.take i
  · rw [if_pos (List.mem_reverse.mpr m), if_pos (decide_eq_true m)]
  · rw [if_neg (fun z => m (List.mem_reverse.mp z)), if_neg (fun z => m (of_decide_eq_true z))]
/-- the set of texts at a -/
abbrev SetX (P : Program) (w : World) (h : Heap) (a : Addr) (xs : List Str) : Prop := h.SetOf (PySem.strKind P w) a (fun k => decide (k ∈ xs)) (dcnt xs)
theorem SetX.keep {P : Program} {w : World} {h h' : Heap} {a : Addr} {xs : List Str} (F : SetX P w h a xs) (k : ∀ o, h.get? a = some o → h'.get? a = some o) : SetX P w h' a xs := by
  obtain ⟨o, es, ep, t, ho, r⟩ := F
  exact ⟨o, es, ep, t, k o ho, r⟩
section
variable {P : Program} {w : World} {A : Around} {E : Value → Shared → Prop} {s : Shared}
theorem fill_texts {I : Addr} {fp wr : List Addr} {G : Array GenState → Array GenState → Prop} {n : Nat} {Pv : Nat → Value → Prop} {St : Nat → Shared → Prop} {R : Result → Shared → Prop}
    (Wk : WalksS P w A.in1 I fp wr G n Pv St) (S : Addr) (off : S ∉ fp) (xs : List Str) (len : n = xs.length) (few : xs.length + 1 < scanBound) (val : ∀ i v, Pv i v → ∃ k t, xs[i]? = some k ∧ v = .str k t)
    (m i : Nat) (s : Shared) (em : n - i = m) (le : i ≤ n) (at0 : St i s) (F : SetX P w s.heap S (xs.take i))
    (q : ∀ s', Moved (S :: wr) G s s' → SetX P w s'.heap S xs → R (.ok (.ret .none)) s') :
    codeAny (model P w) A (.builtin "set.update.loop" ⟨[.ref S, .ref I], []⟩) R s := by
  have offW : S ∉ wr := fun z => off (Wk.sub _ z)
  have wide : ∀ b ∈ wr, b ∈ S :: wr := fun b z => List.mem_cons_of_mem _ z
  induction m generalizing i s with
  | zero =>
    obtain rfl : i = n := by omega
    refine codeAny_builtin PyProof.Rows.F.entry_set_update_loop ?_
    rw [Around.under_plainId PyProof.Rows.F.plain_set_update_loop _]
    refine wpAny_bind (Wk.done s _ _ at0 fun s' mv => ?_)
    rw [List.take_of_length_le (by omega)] at F
    exact wpAny_pure (q s' (mv.mono wide) (F.keep fun o e => mv.heap S o offW e))
  | succ m ih =>
    have lt : i < n := by omega
    refine codeAny_builtin PyProof.Rows.F.entry_set_update_loop ?_
    rw [Around.under_plainId PyProof.Rows.F.plain_set_update_loop _]
    refine wpAny_bind (Wk.item i s _ _ lt at0 fun v s' pv at1 mv => ?_)
    obtain ⟨z, t, hz, rfl⟩ := val i v pv
    have F1 : SetX P w s'.heap S (xs.take i) := F.keep fun o e => mv.heap S o offW e
    refine wpAny_bind (wpAny_holding ?_)
    unfold setAdd
    refine wpAny_holding (wpAny_bind ((PySem.strKind P w).pyHash (k := z) (strKind_is _ _ _ _) ?_))
    have lq := dcnt_le (xs.take i)
    rw [List.length_take] at lq
    refine wpAny_setAddHashed_of (knd := PySem.strKind P w) (s := { s' with toks := s'.toks + 1 }) (strKind_is _ _ _ _) rfl F1 (by omega) fun h' sb F2 => ?_
    have F3 : SetX P w h' S (xs.take (i + 1)) := by
      refine PyProof.Rows.SetOf_congr F2 (fun k => ?_) (dcnt_step hz).symm
      rw [List.take_add_one, hz]
      simp [List.mem_append]
    have keep : ∀ b, b ≠ S → ∀ o, s'.heap.get? b = some o → h'.get? b = some o := fun b nb o e => by
      rw [sb.2 b nb]; exact e
    refine wpAny_pure ⟨plainId_quiet PyProof.Rows.F.plain_set_update_loop _, ih (i + 1) _ (by omega) lt (Wk.frame _ s' _ _ at1 (Nat.le_succ _) fun b hb o e => keep b (fun z => off (z ▸ hb)) o e) F3 fun s'' mv2 F4 => ?_⟩
    exact q s'' (Moved.trans Wk.gtrans ((mv.mono wide).then_heap (Nat.le_succ _) fun b o hb e => keep b (fun z => hb (z ▸ List.mem_cons_self)) o e) mv2) F4
set_option maxHeartbeats 3200000 in
theorem set_of_texts {l : Addr} {vs : Array Value} (ns : List Str) {Q : Value → Shared → Prop} (nh : A.handled = none)
    (isL : s.heap.IsList l vs) (are : PyProof.Rows.StrsAre vs.toList ns) (few : ns.length + 1 < scanBound)
    (q : ∀ (h' : Heap) (tk : Nat), SetX P w h' s.heap.objs.size ns →
      (∀ b o, s.heap.get? b = some o → h'.get? b = some o) → Q (.ref s.heap.objs.size) { s with heap := h', toks := tk }) :
    wpAny (model P w) A (call (.type "set") [.ref l]) Q E s := by
  have same : vs.size = ns.length := by
    have z := PyProof.Rows.StrsAre.len_eq are
    rw [Array.length_toList] at z
    exact z
  obtain ⟨c, tl, m0⟩ := PySem.F.called_set.mro
  have m1 := PySem.F.called_set.made
  have m2 := PySem.F.called_set.sub
  refine wpAny_call (codeAny_of_tree ?_)
  show wpAny _ _ (callAny (.type "set") _) _ _ _
  refine wpAny_pure ⟨Code.quiet_builtin _ (by decide +kernel),
    codeAny_builtin PySem.F.entry_type_call ?_⟩
  rw [Around.under_plain (weight_type_call_type "set" [.ref l] [])
    rfl]
  have m3 := PySem.F.called_set.notType
  have m4 := PySem.F.called_set.canCreate
  have m5 := PySem.F.typeCall_set_1 (.ref l)
  repeat (any_goals (first | assumption | wp_step))
  refine codeAny_mono (code_set_led1 (.ref l) (E := E)
    (Q₁ := fun ob t => ob = .ref s.heap.objs.size ∧ t = { s with heap := s.heap.push (bare w) }) ⟨rfl, rfl⟩) fun r t hr => ?_
  cases r with
  | error e => exact hr
  | ok fl =>
    cases fl with
    | ret ob =>
      obtain ⟨rfl, rfl⟩ := hr
      have atS : (s.heap.push (bare w)).get? s.heap.objs.size = some (bare w) := Heap.get?_push_size _ rfl
      have tyS : Shared.TypeIs { s with heap := s.heap.push (bare w) } (.ref s.heap.objs.size) "set" := ⟨_, atS, rfl⟩
      have i1 := PySem.F.called_set.init.lookup
      have i2 := PySem.F.called_set.init.bind (.ref s.heap.objs.size)
      repeat (any_goals (first | assumption | wp_step))
      refine codeAny_mono (codeAny_call_builtin (R := wants (fun r t => r = .none ∧ ∃ h' tk, t = { s with heap := h', toks := tk } ∧
          SetX P w h' s.heap.objs.size ns ∧ (∀ b o, s.heap.get? b = some o → h'.get? b = some o)) E)
        PySem.F.called_set.init.plain PySem.F.entry_set_init (check_set_init_1 tyS ?_)) fun r2 t2 hr2 => ?_
      · obtain ⟨ol, e0, e1, nl, e2⟩ := isL
        obtain ⟨oc, od, dat, osl⟩ := ol
        simp only at e1 e2
        subst e1
        subst e2
        have e3 : (s.heap.push (bare w)).get? l = some { cls := .type "list", dict := od, data := .seq vs nl, slots := osl } := Heap.get?_push_of_some _ e0
        have b1 := PySem.F.sub_list_set
        have b2 := PySem.F.sub_list_frozenset
        have b3 : (Value.type "list" == Value.type "dict") = false := by decide
        have isL1 : (s.heap.push (bare w)).IsList l vs := ⟨_, e3, rfl, nl, rfl⟩
        unfold Builtin.«set.__init__» noKeywords
        unfold Builtin.Frozenset.updateFrom
        generalize hI : pyIter = PI
        wp_walk
        subst hI
        refine wpAny_pyIter_list isL1 ?_
        refine wpAny_bind (wpAny_runValue ?_)
        have ltS : l < s.heap.objs.size := Heap.lt_size e0
        have nh3 : A.in1.in1.in1.handled = none := by
          simp [nh]
        have nI : l ≠ (s.heap.push (bare w)).objs.size := by
          rw [Heap.size_push]
          exact Nat.ne_of_lt (Nat.lt_succ_of_lt ltS)
        have offS : s.heap.objs.size ∉ [(s.heap.push (bare w)).objs.size, l] := by
          rw [Heap.size_push]
          intro z
          rcases List.mem_cons.mp z with z | z
          · exact absurd z (Nat.ne_of_lt (Nat.lt_succ_self _))
          · exact absurd (List.mem_singleton.mp z) (Nat.ne_of_gt ltS)
        have val : ∀ (i : Nat) (v : Value), vs[i]? = some v → ∃ k t, ns[i]? = some k ∧ v = .str k t := fun i v hv => by
          have hi : i < ns.length := by
            rw [← same]
            exact (Array.getElem?_eq_some_iff.mp hv).1
          obtain ⟨t, e⟩ := SS.strs_at are i v (by rw [Array.getElem?_toList]; exact hv)
          refine ⟨ns[i], t, List.getElem?_eq_getElem hi, ?_⟩
          rw [e, List.getD_eq_getElem?_getD, List.getElem?_eq_getElem hi] <;> rfl
        refine fill_texts ((Walks.list nh3 _ l nI vs).toS) s.heap.objs.size offS ns same few val (vs.size - 0) 0 _ (by omega) (Nat.zero_le _)
          ⟨⟨_, Heap.get?_push_size _ rfl, rfl, rfl⟩, (isL1.push _)⟩ ?g0 ?gR
        case g0 =>
          exact PyProof.Rows.SetOf_congr ((PyProof.Rows.setObjOf_fresh (knd := PySem.strKind P w) _).setOf (Heap.get?_push_of_some _ atS) (by unfold scanBound; omega)) (fun k => by simp) rfl
        case gR =>
          intro t' mv hS'
          obtain ⟨h', g2, d', tk', os'⟩ := t'
          have z1 : g2 = s.gens := mv.gens
          have z2 : d' = s.drawn := mv.drawn
          have z3 : os' = s.os := mv.os
          subst z1
          subst z2
          subst z3
          show wpAny _ _ _ _ _ _
          refine wpAny_pure ?_
          show wpAny _ _ (ret Value.none) _ _ _
          refine wpAny_pure ⟨rfl, h', tk', rfl, hS', fun b o e => ?_⟩
          have lb : b < s.heap.objs.size := Heap.lt_size e
          have n2 : b ≠ (s.heap.push (bare w)).objs.size := by
            rw [Heap.size_push]
            exact Nat.ne_of_lt (Nat.lt_succ_of_lt lb)
          refine mv.heap b o (fun z => ?_) (Heap.get?_push_of_some _ (Heap.get?_push_of_some _ e))
          rcases List.mem_cons.mp z with z | z
          · exact absurd z (Nat.ne_of_lt lb)
          · exact absurd (List.mem_singleton.mp z) n2
      · cases r2 with
        | error e => exact hr2
        | ok fl2 =>
          cases fl2 with
          | ret r =>
            obtain ⟨rfl, h', tk, rfl, hS', hk'⟩ := hr2
            repeat (any_goals (first | assumption | wp_step))
            exact q _ _ hS' hk'
          | _ => exact hr2.elim
    | _ => exact hr.elim
end
section
variable {X : Cx}
/-- len(set(xs)), xs a list of texts -/
def tLenSetX (K : PySem.W.Frag) (ta : TE) : TE := fun σ H Q => ta σ H fun x H1 => ∃ l, ∃ xs : List Str, x = .ref l ∧ SqL K H1 l (xs.map V.str) ∧ xs.length ≤ 1000 ∧ Q (.int (dcnt xs : Nat)) H1
theorem pe_lenSetX {a : Expr} {ta : TE} {p p2 q pos : Pos} (hc : X.calm = true) (hg : Gl X "len") (hm : X.mg "len" = none) (hg2 : Gl X "set") (hm2 : X.mg "set" = none) (ha : PE X a ta)
    (na : starEach [a] X.env = (false, eval a X.env) :: starEach [] X.env := by rfl) : PE X (.Call (.Name "len" p) [.Call (.Name "set" p2) [a] [] q] [] pos) (tLenSetX X.K ta) := by
  constructor
  intro pins s σ H Q I h
  refine Call_ (ld_blt I hg hm boot_len (PyProof.Rows.callWith_builtin1 (PyProof.Rows.args_cons ?_ rfl) rfl rfl))
  refine Call_ (ld_blt I hg2 hm2 boot_set (PyProof.Rows.callWith_type1 (PyProof.Rows.args_cons (thn (ha.run pins s σ H _ I h) ?_) na) na rfl))
  rintro v s1 ⟨x, H1, I1, r1, l, xs, rfl, hq, l1, q1⟩
  cases r1
  obtain ⟨its, r, pl, _⟩ := I1.list hq
  refine PyProof.Rows.args_nil (set_of_texts xs (I1.ok.hd hc) pl.isList (by simpa using strsAre_of r) (by unfold scanBound; omega) fun h' tk hS hk => PyProof.Rows.args_nil ?_)
  obtain ⟨o, es, ep, t, ho, hex, hd, _, _, _, hf, hn⟩ := hS
  have I2 : Inv X pins σ H1 { s1 with heap := h', toks := tk } := I1.kept fun b o e => hk b o e
  have le := dcnt_le xs
  refine call_len_set ho hex hd hf (by rw [hn]; omega) ⟨.int (dcnt xs : Nat), H1, I2.tok _, ⟨_, by rw [hn]⟩, q1⟩
end
end L2
/-! len(set(xs)) of a list of texts, any of them twice -/
namespace L2
open PySem PySem.Spec PyProof.Rows
section
variable {P : Program} {w : World} {A : Around} {E : Value → Shared → Prop} {s : Shared}
set_option maxHeartbeats 3200000 in
theorem set_of_textsT {l : Addr} {vs : Array Value} (ns : List Str) {Q : Value → Shared → Prop} (nh : A.handled = none)
    (isL : s.heap.IsTuple l vs) (are : PyProof.Rows.StrsAre vs.toList ns) (few : ns.length + 1 < scanBound)
    (q : ∀ (h' : Heap) (tk : Nat), SetX P w h' s.heap.objs.size ns →
      (∀ b o, s.heap.get? b = some o → h'.get? b = some o) → Q (.ref s.heap.objs.size) { s with heap := h', toks := tk }) :
    wpAny (model P w) A (call (.type "set") [.ref l]) Q E s := by
  have same : vs.size = ns.length := by
    have z := PyProof.Rows.StrsAre.len_eq are
    rw [Array.length_toList] at z
    exact z
  obtain ⟨c, tl, m0⟩ := PySem.F.called_set.mro
  have m1 := PySem.F.called_set.made
  have m2 := PySem.F.called_set.sub
  refine wpAny_call (codeAny_of_tree ?_)
  show wpAny _ _ (callAny (.type "set") _) _ _ _
  refine wpAny_pure ⟨Code.quiet_builtin _ (by decide +kernel),
    codeAny_builtin PySem.F.entry_type_call ?_⟩
  rw [Around.under_plain (weight_type_call_type "set" [.ref l] [])
    rfl]
  have m3 := PySem.F.called_set.notType
  have m4 := PySem.F.called_set.canCreate
  have m5 := PySem.F.typeCall_set_1 (.ref l)
  repeat (any_goals (first | assumption | wp_step))
  refine codeAny_mono (code_set_led1 (.ref l) (E := E)
    (Q₁ := fun ob t => ob = .ref s.heap.objs.size ∧ t = { s with heap := s.heap.push (bare w) }) ⟨rfl, rfl⟩) fun r t hr => ?_
  cases r with
  | error e => exact hr
  | ok fl =>
    cases fl with
    | ret ob =>
      obtain ⟨rfl, rfl⟩ := hr
      have atS : (s.heap.push (bare w)).get? s.heap.objs.size = some (bare w) := Heap.get?_push_size _ rfl
      have tyS : Shared.TypeIs { s with heap := s.heap.push (bare w) } (.ref s.heap.objs.size) "set" := ⟨_, atS, rfl⟩
      have i1 := PySem.F.called_set.init.lookup
      have i2 := PySem.F.called_set.init.bind (.ref s.heap.objs.size)
      repeat (any_goals (first | assumption | wp_step))
      refine codeAny_mono (codeAny_call_builtin (R := wants (fun r t => r = .none ∧ ∃ h' tk, t = { s with heap := h', toks := tk } ∧
          SetX P w h' s.heap.objs.size ns ∧ (∀ b o, s.heap.get? b = some o → h'.get? b = some o)) E)
        PySem.F.called_set.init.plain PySem.F.entry_set_init (check_set_init_1 tyS ?_)) fun r2 t2 hr2 => ?_
      · obtain ⟨ol, e0, e1, nl, e2⟩ := isL
        obtain ⟨oc, od, dat, osl⟩ := ol
        simp only at e1 e2
        subst e1
        subst e2
        have e3 : (s.heap.push (bare w)).get? l = some { cls := .type "tuple", dict := od, data := .seq vs nl, slots := osl } := Heap.get?_push_of_some _ e0
        have b1 := PySem.F.sub_tuple_set
        have b2 := PySem.F.sub_tuple_frozenset
        have b3 : (Value.type "tuple" == Value.type "dict") = false := by decide
        have isL1 : (s.heap.push (bare w)).IsTuple l vs := ⟨_, e3, rfl, nl, rfl⟩
        unfold Builtin.«set.__init__» noKeywords
        unfold Builtin.Frozenset.updateFrom
        generalize hI : pyIter = PI
        wp_walk
        subst hI
        refine wpAny_pyIter_tuple isL1 ?_
        refine wpAny_bind (wpAny_runValue ?_)
        have ltS : l < s.heap.objs.size := Heap.lt_size e0
        have nh3 : A.in1.in1.in1.handled = none := by
          simp [nh]
        have nI : l ≠ (s.heap.push (bare w)).objs.size := by
          rw [Heap.size_push]
          exact Nat.ne_of_lt (Nat.lt_succ_of_lt ltS)
        have offS : s.heap.objs.size ∉ [(s.heap.push (bare w)).objs.size, l] := by
          rw [Heap.size_push]
          intro z
          rcases List.mem_cons.mp z with z | z
          · exact absurd z (Nat.ne_of_lt (Nat.lt_succ_self _))
          · exact absurd (List.mem_singleton.mp z) (Nat.ne_of_gt ltS)
        have val : ∀ (i : Nat) (v : Value), vs[i]? = some v → ∃ k t, ns[i]? = some k ∧ v = .str k t := fun i v hv => by
          have hi : i < ns.length := by
            rw [← same]
            exact (Array.getElem?_eq_some_iff.mp hv).1
          obtain ⟨t, e⟩ := SS.strs_at are i v (by rw [Array.getElem?_toList]; exact hv)
          refine ⟨ns[i], t, List.getElem?_eq_getElem hi, ?_⟩
          rw [e, List.getD_eq_getElem?_getD, List.getElem?_eq_getElem hi] <;> rfl
        refine fill_texts ((Walks.tuple nh3 _ l nI vs).toS) s.heap.objs.size offS ns same few val (vs.size - 0) 0 _ (by omega) (Nat.zero_le _)
          ⟨⟨_, Heap.get?_push_size _ rfl, rfl, rfl⟩, (isL1.push _)⟩ ?g0 ?gR
        case g0 =>
          exact PyProof.Rows.SetOf_congr ((PyProof.Rows.setObjOf_fresh (knd := PySem.strKind P w) _).setOf (Heap.get?_push_of_some _ atS) (by unfold scanBound; omega)) (fun k => by simp) rfl
        case gR =>
          intro t' mv hS'
          obtain ⟨h', g2, d', tk', os'⟩ := t'
          have z1 : g2 = s.gens := mv.gens
          have z2 : d' = s.drawn := mv.drawn
          have z3 : os' = s.os := mv.os
          subst z1
          subst z2
          subst z3
          show wpAny _ _ _ _ _ _
          refine wpAny_pure ?_
          show wpAny _ _ (ret Value.none) _ _ _
          refine wpAny_pure ⟨rfl, h', tk', rfl, hS', fun b o e => ?_⟩
          have lb : b < s.heap.objs.size := Heap.lt_size e
          have n2 : b ≠ (s.heap.push (bare w)).objs.size := by
            rw [Heap.size_push]
            exact Nat.ne_of_lt (Nat.lt_succ_of_lt lb)
          refine mv.heap b o (fun z => ?_) (Heap.get?_push_of_some _ (Heap.get?_push_of_some _ e))
          rcases List.mem_cons.mp z with z | z
          · exact absurd z (Nat.ne_of_lt lb)
          · exact absurd (List.mem_singleton.mp z) n2
      · cases r2 with
        | error e => exact hr2
        | ok fl2 =>
          cases fl2 with
          | ret r =>
            obtain ⟨rfl, h', tk, rfl, hS', hk'⟩ := hr2
            repeat (any_goals (first | assumption | wp_step))
            exact q _ _ hS' hk'
          | _ => exact hr2.elim
    | _ => exact hr.elim
end
section
variable {X : Cx}
/-- len(set(xs)), xs a tuple of texts -/
def tLenSetT (K : PySem.W.Frag) (ta : TE) : TE := fun σ H Q => ta σ H fun x H1 => ∃ l, ∃ xs : List Str, x = .ref l ∧ SqT K H1 l (xs.map V.str) ∧ xs.length ≤ 1000 ∧ Q (.int (dcnt xs : Nat)) H1
theorem pe_lenSetT {a : Expr} {ta : TE} {p p2 q pos : Pos} (hc : X.calm = true) (hg : Gl X "len") (hm : X.mg "len" = none) (hg2 : Gl X "set") (hm2 : X.mg "set" = none) (ha : PE X a ta)
    (na : starEach [a] X.env = (false, eval a X.env) :: starEach [] X.env := by rfl) : PE X (.Call (.Name "len" p) [.Call (.Name "set" p2) [a] [] q] [] pos) (tLenSetT X.K ta) := by
  constructor
  intro pins s σ H Q I h
  refine Call_ (ld_blt I hg hm boot_len (PyProof.Rows.callWith_builtin1 (PyProof.Rows.args_cons ?_ rfl) rfl rfl))
  refine Call_ (ld_blt I hg2 hm2 boot_set (PyProof.Rows.callWith_type1 (PyProof.Rows.args_cons (thn (ha.run pins s σ H _ I h) ?_) na) na rfl))
  rintro v s1 ⟨x, H1, I1, r1, l, xs, rfl, hq, l1, q1⟩
  cases r1
  obtain ⟨its, r, pl, _⟩ := I1.tuple hq
  refine PyProof.Rows.args_nil (set_of_textsT xs (I1.ok.hd hc) pl (by simpa using strsAre_of r) (by unfold scanBound; omega) fun h' tk hS hk => PyProof.Rows.args_nil ?_)
  obtain ⟨o, es, ep, t, ho, hex, hd, _, _, _, hf, hn⟩ := hS
  have I2 : Inv X pins σ H1 { s1 with heap := h', toks := tk } := I1.kept fun b o e => hk b o e
  have le := dcnt_le xs
  refine call_len_set ho hex hd hf (by rw [hn]; omega) ⟨.int (dcnt xs : Nat), H1, I2.tok _, ⟨_, by rw [hn]⟩, q1⟩
end
end L2
namespace KX
open PySem PySem.Spec PyProof.Rows L2 GL RZ TL
theorem nodup_of {α : Type} : ∀ {l : List α}, (∀ (a b : Nat) (x : α), l[a]? = some x → l[b]? = some x → a = b) → l.Nodup
  | [], _ => List.nodup_nil
  | y :: r, h => List.nodup_cons.mpr ⟨fun hy => by
      obtain ⟨i, hi⟩ := List.getElem?_of_mem hy
      have := h 0 (i + 1) y rfl hi
      omega, nodup_of fun a b x ea eb => by
      have := h (a + 1) (b + 1) x ea eb
      omega⟩
abbrev abcL : List Nat := (Str.ofString "abcdefghijklmnopqrstuvwxyz").cps.toList
theorem abcL_nodup : abcL.Nodup := by decide +kernel
theorem abcL_len : abcL.length = 26 := by decide +kernel
theorem sign_join {ws : List Str} (h : ∀ z ∈ ws, ∃ c, z = (⟨#[c]⟩ : Str)) : ∀ i : Nat, (joinL [] (ws.map tl))[i]? = (ws[i]?).bind fun z => z.cps.toList[0]? := by
  induction ws with
  | nil => intro i; rfl
  | cons z r ih =>
    obtain ⟨k, rfl⟩ := h z List.mem_cons_self
    have ih' := ih fun y hy => h y (List.mem_cons_of_mem _ hy)
    cases r with
    | nil => intro i; cases i <;> rfl
    | cons y r =>
      intro i
      cases i with
      | zero => rfl
      | succ i => exact ih' i
/-- how the names that are called lie: one word with another letter at one place -/
structure NmAt (at_ fi : Int) (i : Nat) (ns ws : List Str) : Prop where
  ex : ∃ (cs : List Nat) (w0 : List Str), cs.length = i ∧ ns = cs.map (fun c => Txt.join "" (w0.set at_.toNat ⟨#[c]⟩)) ∧ (∀ j c, cs[j]? = some c → abcL[((fi + 7 * (j : Nat)) % 26).toNat]? = some c) ∧
    (∀ c, ws.set at_.toNat ⟨#[c]⟩ = w0.set at_.toNat ⟨#[c]⟩) ∧ (∀ z ∈ w0, ∃ c, z = (⟨#[c]⟩ : Str)) ∧ at_.toNat < w0.length
theorem NmAt.new {at_ fi : Int} {ws : List Str} (h : ∀ z ∈ ws, ∃ c, z = (⟨#[c]⟩ : Str)) (l : at_.toNat < ws.length) : NmAt at_ fi 0 [] ws := ⟨⟨[], ws, rfl, rfl, fun j c e => (by cases e), fun c => rfl, h, l⟩⟩
theorem NmAt.step {at_ fi : Int} {i c : Nat} {ns ws : List Str} (n : NmAt at_ fi i ns ws) (h : abcL[((fi + 7 * (i : Nat)) % 26).toNat]? = some c) : NmAt at_ fi (i + 1) (ns ++ [Txt.join "" (ws.set at_.toNat ⟨#[c]⟩)]) (ws.set at_.toNat ⟨#[c]⟩) := by
  obtain ⟨cs, w0, h1, rfl, h3, h4, h5, h6⟩ := n.ex
  refine ⟨cs ++ [c], w0, by rw [List.length_append, h1]; rfl, ?_, ?_, ?_, h5, h6⟩
  · rw [List.map_append, h4]; rfl
  · intro j d e
    rcases Nat.lt_or_ge j cs.length with hj | hj
    · rw [List.getElem?_append_left hj] at e
      exact h3 j d e
    · rw [List.getElem?_append_right hj] at e
      have e0 : j - cs.length = 0 := by
        rcases Nat.eq_zero_or_pos (j - cs.length) with z | z
        · exact z
        · rw [List.getElem?_eq_none (by show 1 ≤ _; omega)] at e; cases e
      rw [e0] at e
      cases e
      rw [show j = i by omega]
      exact h
  · intro d
    rw [List.set_set, h4]
theorem tl_join0 (ws : List Str) : (Txt.join "" ws).cps.toList = joinL [] (ws.map tl) := by
  have e0 : tl ("" : Str) = [] := by decide +kernel
  rw [join_eq]
  have := tl_join "" ws
  rw [e0] at this
  exact this
theorem word_at {w0 : List Str} {k c : Nat} (h5 : ∀ z ∈ w0, ∃ c, z = (⟨#[c]⟩ : Str)) (h6 : k < w0.length) : (Txt.join "" (w0.set k ⟨#[c]⟩)).cps.toList[k]? = some c := by
  rw [tl_join0, sign_join]
  · rw [List.getElem?_set_self h6]; rfl
  · intro z hz
    rcases List.mem_or_eq_of_mem_set hz with hz | rfl
    · exact h5 z hz
    · exact ⟨c, rfl⟩
theorem NmAt.nodup {at_ fi : Int} {i : Nat} {ns ws : List Str} (n : NmAt at_ fi i ns ws) (hi : i ≤ 9) : ns.Nodup := by
  obtain ⟨cs, w0, h1, rfl, h3, h4, h5, h6⟩ := n.ex
  have cd : cs.Nodup := by
    refine nodup_of fun a b x ea eb => ?_
    have eq := nd_ix abcL_nodup (h3 a x ea) (h3 b x eb)
    have p1 := (List.getElem?_eq_some_iff.mp ea).1
    have p2 := (List.getElem?_eq_some_iff.mp eb).1
    omega
  refine List.Pairwise.map _ (fun a b ne e => ne ?_) cd
  have q1 := word_at (c := a) h5 h6
  have q2 := word_at (c := b) h5 h6
  rw [e, q2] at q1
  exact (Option.some.inj q1).symm
theorem NmAt.one {at_ fi : Int} {i : Nat} {ns ws : List Str} (n : NmAt at_ fi i ns ws) : ∀ z ∈ ns, 1 ≤ z.cps.toList.length := by
  obtain ⟨cs, w0, h1, rfl, h3, h4, h5, h6⟩ := n.ex
  intro z hz
  obtain ⟨c, _, rfl⟩ := List.mem_map.mp hz
  have q := (List.getElem?_eq_some_iff.mp (word_at (c := c) h5 h6)).1
  omega
/-- names of one sign and their place -/
def NumAt (ms : List Str) : Prop := ∀ j z, ms[j]? = some z → ∃ p : Str, p.cps.toList.length = 1 ∧ z = p ++ Str.ofString (toString ((j : Nat) : Int))
theorem NumAt.snoc {ms : List Str} {p : Str} (h : NumAt ms) (hp : p.cps.toList.length = 1) : NumAt (ms ++ [p ++ Str.ofString (toString ((ms.length : Nat) : Int))]) := by
  intro j z e
  rcases Nat.lt_or_ge j ms.length with hj | hj
  · rw [List.getElem?_append_left hj] at e
    exact h j z e
  · rw [List.getElem?_append_right hj] at e
    have e0 : j - ms.length = 0 := by
      rcases Nat.eq_zero_or_pos (j - ms.length) with q | q
      · exact q
      · rw [List.getElem?_eq_none (by show 1 ≤ _; omega)] at e; cases e
    rw [e0] at e
    cases e
    rw [show j = ms.length by omega]
    exact ⟨p, hp, rfl⟩
theorem num_inj : ∀ a b : Nat, a < 9 → b < 9 → (Str.ofString (toString ((a : Nat) : Int))).cps.toList = (Str.ofString (toString ((b : Nat) : Int))).cps.toList → a = b := by
  intro a b ha hb
  have h : a = 0 ∨ a = 1 ∨ a = 2 ∨ a = 3 ∨ a = 4 ∨ a = 5 ∨ a = 6 ∨ a = 7 ∨ a = 8 := by omega
  have k : b = 0 ∨ b = 1 ∨ b = 2 ∨ b = 3 ∨ b = 4 ∨ b = 5 ∨ b = 6 ∨ b = 7 ∨ b = 8 := by omega
  rcases h with rfl | rfl | rfl | rfl | rfl | rfl | rfl | rfl | rfl <;> rcases k with rfl | rfl | rfl | rfl | rfl | rfl | rfl | rfl | rfl <;> first | exact fun _ => rfl | (intro e; exact absurd e (by decide +kernel))
theorem NumAt.nodup {ms : List Str} (h : NumAt ms) (l : ms.length ≤ 9) : ms.Nodup := by
  refine nodup_of fun a b x ea eb => ?_
  obtain ⟨p, hp, ep⟩ := h a _ ea
  obtain ⟨q, hq, eq⟩ := h b _ eb
  have z : (p ++ Str.ofString (toString ((a : Nat) : Int))).cps.toList = (q ++ Str.ofString (toString ((b : Nat) : Int))).cps.toList := by rw [← ep, ← eq]
  have ap : ∀ x y : Str, (x ++ y).cps.toList = x.cps.toList ++ y.cps.toList := fun x y => by
    show (x.cps ++ y.cps).toList = _
    rw [Array.toList_append]
  rw [ap, ap] at z
  have := (List.append_inj z (hp.trans hq.symm)).2
  have p1 := (List.getElem?_eq_some_iff.mp ea).1
  have p2 := (List.getElem?_eq_some_iff.mp eb).1
  exact num_inj _ _ (by omega) (by omega) this
end KX
namespace GL
open PySem PySem.Spec PyProof.Rows L2
/-! ### shown texts are plain signs -/
def Asc (z : Str) : Prop := ∀ c ∈ z.cps.toList, c < 128
def ascC (z : Str) : Bool := z.cps.toList.all fun c => decide (c < 128)
theorem ascB {z : Str} (h : ascC z = true) : Asc z := fun c hc => of_decide_eq_true (List.all_eq_true.mp h c hc)
theorem asc_app {x y : Str} (hx : Asc x) (hy : Asc y) : Asc (x ++ y) := fun c hc => by
  have e : (x ++ y).cps.toList = x.cps.toList ++ y.cps.toList := by
    show (x.cps ++ y.cps).toList = _
    rw [Array.toList_append]
  rw [e] at hc
  exact (List.mem_append.mp hc).elim (hx c) (hy c)
theorem repr_small : ∀ c : Fin 128, (∀ d ∈ Builtin.Str.reprChar 39 c.val, d < 128) ∧ ∀ d ∈ Builtin.Str.reprChar 34 c.val, d < 128 := by decide +kernel
theorem quote_two (x : Str) : reprQuote x = 39 ∨ reprQuote x = 34 := by
  unfold reprQuote
  split
  · exact .inr rfl
  · exact .inl rfl
theorem asc_repr {x : Str} (hx : Asc x) : Asc (reprText x) := by
  have hq := quote_two x
  have fold : ∀ (l : List Nat) (acc : Array Nat), (∀ c ∈ l, c < 128) → (∀ c ∈ acc.toList, c < 128) → ∀ c ∈ (l.foldl (fun out c => out ++ (Builtin.Str.reprChar (reprQuote x) c).toArray) acc).toList, c < 128 := by
    intro l
    induction l with
    | nil => exact fun acc _ h => h
    | cons d r ih =>
      intro acc h1 h2
      refine ih _ (fun c hc => h1 c (List.mem_cons_of_mem _ hc)) fun c hc => ?_
      rw [Array.toList_append] at hc
      rcases List.mem_append.mp hc with hc | hc
      · exact h2 c hc
      · have s := repr_small ⟨d, h1 d List.mem_cons_self⟩
        rcases hq with e | e
        · rw [e] at hc; exact s.1 c (by simpa using hc)
        · rw [e] at hc; exact s.2 c (by simpa using hc)
  have q128 : reprQuote x < 128 := by rcases hq with e | e <;> rw [e] <;> decide
  intro c hc
  unfold reprText at hc
  have hc : c ∈ ((x.cps.foldl (fun out c => out ++ (Builtin.Str.reprChar (reprQuote x) c).toArray) #[reprQuote x]).push (reprQuote x)).toList := hc
  rw [Array.toList_push, ← Array.foldl_toList] at hc
  rcases List.mem_append.mp hc with hc | hc
  · have one : ∀ d ∈ (#[reprQuote x] : Array Nat).toList, d < 128 := fun d hd => by
      have e : d = reprQuote x := List.mem_singleton.mp hd
      rw [e]
      exact q128
    exact fold _ _ hx one c hc
  · have e : c = reprQuote x := List.mem_singleton.mp hc
    rw [e]
    exact q128
theorem asc_from : ∀ (ts : List Str) (k : Nat) (acc : Str), Asc acc → (∀ t ∈ ts, Asc t) → Asc (textFrom k acc ts)
  | [], _, _, h, _ => h
  | t :: r, k, acc, h, h2 => by
    refine asc_from r (k + 1) _ (asc_app (asc_app h ?_) (h2 t List.mem_cons_self)) fun y hy => h2 y (List.mem_cons_of_mem _ hy)
    split
    · exact (ascB (z := (", " : String)) (by decide +kernel))
    · exact (ascB (z := ("" : String)) (by decide +kernel))
theorem asc_join : ∀ ts : List Str, (∀ t ∈ ts, Asc t) → Asc (Str.join ", " ts)
  | [], _ => (ascB (z := ("" : String)) (by decide +kernel))
  | [x], h => h x List.mem_cons_self
  | x :: y :: r, h => asc_app (asc_app (h x List.mem_cons_self) (ascB (z := (", " : String)) (by decide +kernel))) (asc_join (y :: r) fun z hz => h z (List.mem_cons_of_mem _ hz))
theorem asc_all : ∀ ds : List PyData, (∀ d ∈ ds, Asc d.shown) → ∀ t ∈ PyData.shownAll ds, Asc t
  | [], _, t, ht => nomatch ht
  | d :: r, h, t, ht => by
    rcases List.mem_cons.mp (show t ∈ d.shown :: PyData.shownAll r from ht) with rfl | ht
    · exact h d List.mem_cons_self
    · exact asc_all r (fun x hx => h x (List.mem_cons_of_mem _ hx)) t ht
theorem asc_lst {ds : List PyData} (h : ∀ d ∈ ds, Asc d.shown) : Asc (PyData.list ds).shown := by
  show Asc (listText (PyData.shownAll ds))
  exact asc_app (asc_from _ _ _ (ascB (z := ("[" : String)) (by decide +kernel)) (asc_all ds h)) (ascB (z := ("]" : String)) (by decide +kernel))
theorem asc_tup {ds : List PyData} (h : ∀ d ∈ ds, Asc d.shown) : Asc (PyData.tuple ds).shown := by
  show Asc (tupleText (PyData.shownAll ds))
  unfold tupleText
  refine asc_app (asc_app (ascB (z := ("(" : String)) (by decide +kernel)) (asc_join _ (asc_all ds h))) ?_
  split
  · exact (ascB (z := (",)" : String)) (by decide +kernel))
  · exact (ascB (z := (")" : String)) (by decide +kernel))
theorem asc_str {z : Str} (h : Asc z) : Asc (PyData.str z).shown := asc_repr h
theorem asc_ints : ∀ i : Fin 401, ∀ c ∈ (Str.ofString (toString ((i.val : Int) - 200))).cps.toList, c < 128 := by decide +kernel
theorem asc_int {i : Int} (h0 : -200 ≤ i) (h1 : i ≤ 200) : Asc (PyData.int i).shown := by
  have h := asc_ints ⟨(i + 200).toNat, by omega⟩
  have e : (((i + 200).toNat : Nat) : Int) - 200 = i := by omega
  simp only [e] at h
  exact h
end GL
namespace GL
open PySem PySem.Spec PyProof.Rows L2 PySem.W PySem.Calls
section
variable {prog : Program} {w : World} {A : Around} {E : Value → Shared → Prop} {s : Shared}
/-- a list told out to n targets, the one at i starred: the middle becomes a new list behind all there is -/
theorem star_itemsL {a : Addr} {xs : Array Value} {n i : Nat} {Q : List Value → Shared → Prop} (ht : s.heap.IsList a xs) (hh : A.handled = none) (hi : i < n) (hn : n ≤ xs.size + 1) (hz : xs.size ≤ 70000)
    (h : ∀ (h' : Heap) (tk : Nat), (∀ b o, s.heap.get? b = some o → h'.get? b = some o) →
      Q (xs.toList.take i ++ [.ref h'.objs.size] ++ (xs.toList.drop i).drop (xs.size + 1 - n)) { s with heap := h'.push { cls := .type "list", data := .seq ((xs.toList.drop i).take (xs.size + 1 - n)).toArray }, toks := tk }) :
    wpAny (model prog w) A (unpackItems (.ref a) n (some i)) Q E s := by
  have la : a < s.heap.objs.size := by obtain ⟨o, ho, _⟩ := ht; exact Heap.lt_size ho
  have na : a ≠ s.heap.objs.size := Nat.ne_of_lt la
  unfold unpackItems notIterableAtAll
  refine wpAny_bind (wpAny_bind (wpAny_specialOf ht.typeIs slot_list_iter.lookup (wpAny_pure ?_)))
  simp only [Bool.false_eq_true, if_false]
  refine wpAny_bind (wpAny_holding (wpAny_pyIter_list ht (wpAny_bind (wpAny_holding (kun_draw na i 0 _ _ ⟨_, Heap.get?_push_size _ rfl, rfl, rfl⟩ (ht.push _) (by omega) fun h1 it1 sb1 => ?_)))))
  rw [Nat.zero_add] at it1
  have t1 : h1.IsList a xs := (ht.push _).extBut sb1.extBut na
  have lI : s.heap.objs.size < h1.objs.size := by obtain ⟨o, ho, _⟩ := it1; exact Heap.lt_size ho
  have la1 : a < h1.objs.size := by obtain ⟨o, ho, _⟩ := t1; exact Heap.lt_size ho
  rw [List.drop_zero]
  have l1 : (xs.toList.take i).length = i := by rw [List.length_take, Array.length_toList]; omega
  rw [if_neg (by omega : ¬ (xs.toList.take i).length < i)]
  refine wpAny_bind (wpAny_holding (kun_collect (s := { s with heap := h1 }) (T := "list_iterator") (.inr (.inr (.inl rfl))) (Walks.list (A := A.in1) hh s.heap.objs.size a na xs) (fun j u st => st.1.typeIs) (k := i) (by omega) ⟨it1, t1⟩ lI la1 (fun h2 tk k2 => ?_) (by rw [sizeLine_eq]; omega)))
  have l2 : (xs.toList.drop i).length = xs.size - i := by rw [List.length_drop, Array.length_toList]
  have l3 : (xs.toList.drop i).length - (n - 1 - i) = xs.size + 1 - n := by omega
  show wpAny _ _ (if (xs.toList.drop i).length < n - 1 - i then _ else _) _ _ _
  rw [if_neg (by omega)]
  show wpAny _ _ (newList ((xs.toList.drop i).take ((xs.toList.drop i).length - (n - 1 - i))) >>= fun d => pure (xs.toList.take i ++ [d] ++ (xs.toList.drop i).drop ((xs.toList.drop i).length - (n - 1 - i)))) _ _ _
  rw [l3]
  have kp : ∀ b o, s.heap.get? b = some o → h2.get? b = some o := fun b o e => k2 b o (Nat.ne_of_lt (Heap.lt_size e)) (sb1.extBut b o (Nat.ne_of_lt (Heap.lt_size e)) (Heap.get?_push_of_some _ e))
  exact wpAny_bind (wpAny_newList (s := { s with heap := h2, toks := tk }) (wpAny_pure (h h2 tk kp)) (by rw [List.length_take, l2, sizeLine_eq]; omega))
end
section
variable {X : Cx} {es : List Expr} {t : TGs} {m n i k : Nat} {pos : Pos}
/-- (a, .., *b, .., c) = a list -/
def gStarL (K : PySem.W.Frag) (n i : Nat) (t : TGs) : TG := fun v σ H Q => ∃ a xs, v = .ref a ∧ SqL K H a xs ∧ n ≤ xs.length + 1 ∧ xs.length ≤ 70000 ∧
  ∀ D, H D = none → t (xs.take i ++ [.ref D] ++ (xs.drop i).drop (xs.length + 1 - n)) σ (upd H D (.lst ((xs.drop i).take (xs.length + 1 - n)))) Q
theorem pg_starL (hc : X.calm = true) (h : PGs X es t) (hn : (assignEach es X.env).length = n := by rfl) (hst : (assignEach es X.env).findIdx? (·.1) = some i := by rfl) (hi : i < n := by decide) : PG X (.Tuple es k pos) (gStarL X.K n i t) := by
  constructor
  intro pins s σ H v u Q I r hw
  obtain ⟨a, xs, rfl, hq, h1, h2, hw⟩ := hw
  cases r
  obtain ⟨its, rv, ht, hz⟩ := I.list hq
  have el : its.length = xs.length := rv.length.symm
  rw [assign_Tuple]
  refine wpAny_bind (wpAny_standAt ?_)
  unfold unpack
  rw [hn, hst]
  refine wpAny_bind (wpAny_holding (star_itemsL ht.isList (I.ok.hd hc) hi (by rw [List.size_toArray, el]; exact h1) (by rw [List.size_toArray, el]; omega) fun h' tk kp => ?_))
  have I1 : Inv X pins σ H { s with heap := h', toks := tk } := I.kept kp
  have e3 : its.toArray.toList = its := by simp
  have e4 : its.toArray.size = xs.length := by rw [List.size_toArray, el]
  rw [e3, e4]
  have rd : ∀ j, Vals (xs.drop j) (its.drop j) := fun j => rv.drop j
  have rt : Vals ((xs.drop i).take (xs.length + 1 - n)) ((its.drop i).take (xs.length + 1 - n)) := (rd i).take _
  have I2 : Inv X pins σ (upd H h'.objs.size (.lst ((xs.drop i).take (xs.length + 1 - n)))) ({ s with heap := h'.push { cls := .type "list", data := .seq ((its.drop i).take (xs.length + 1 - n)).toArray }, toks := tk } : Shared) :=
    I1.laid (t' := tk) (fun b o e => Heap.get?_push_of_some _ e) (Nat.le_refl _) ⟨by rw [List.length_take, List.length_drop, sizeLine_eq]; omega, _, 0, rt, Heap.get?_push_size _ rfl⟩
  have r1 : Vals [V.ref h'.objs.size] [Value.ref h'.objs.size] := .cons rfl .nil
  exact h.run pins _ σ _ _ _ Q I2 (((rv.take i).append r1).append ((rd i).drop _)) (hw h'.objs.size (I1.hok.fresh (Nat.le_refl _)))
end

end GL
namespace GL
open PySem PySem.Spec PyProof.Rows L2 PySem.W PySem.Calls
/-! ### enumerate(a list, start=k) -/
section
variable {M : Model} {A : Around} {E : Value → Shared → Prop} {s : Shared} {env : Env}
theorem callWith_typeKw {pos : Pos} {T : String} {e : Expr} {kws : List Keyword} {Q : Value → Shared → Prop}
    (h : wpAny M A (spliced (backTo pos (starEach [e] env))) (fun vs s₁ => wpAny M A (evalAll ((backToKw pos (keywordEach kws env)).map (·.2)))
      (fun kvs s₂ => wpAny M A (call (.type T) vs (((backToKw pos (keywordEach kws env)).filterMap (·.1)).zip kvs)) Q E s₂) E s₁) E s)
    (he : starEach [e] env = [(false, eval e env)])
    (hall : (backToKw pos (keywordEach kws env)).all (·.1.isSome) = true)
    (hkw : (backToKw pos (keywordEach kws env)).any (·.1.isNone) = false) :
    wpAny M A (callWith pos (.type T) [] (backTo pos (starEach [e] env)) (backToKw pos (keywordEach kws env))) Q E s := by
  have he : backTo pos (starEach [e] env) = (false, eval e env) :: backTo pos (starEach [] env) := by rw [he]; rfl
  rw [he] at h ⊢
  unfold callWith
  have h' : wpAny M A (evalArgs (.type T) true ((false, eval e env) :: backTo pos (starEach [] env)) (backToKw pos (keywordEach kws env))) (fun a s₁ => wpAny M A (call (.type T) a.pos a.kw) Q E s₁) E s := evalArgs_kwB hall h
  refine wpAny_bind (wpAny_holding (wpAny_mono h' (fun a s₁ h₁ => wpAny_bind (wpAny_standAt ?_)) fun _ _ x => x))
  simp only [hkw, Bool.or_false]
  refine wpAny_bind (wpAny_pure ?_)
  exact wpAny_bind (wpAny_mono h₁ (fun r s₂ hr => wpAny_bind (wpAny_holding (wpAny_point (wpAny_pure hr)))) fun _ _ x => x)
end
/-- the list at a as it stands at each turn, each item in a new pair behind k and its index -/
def IteS (K : PySem.W.Frag) (k : Nat) (a : Addr) : It :=
  ⟨fun i H => ∃ (xs : List V) (x : V), SqL K H a xs ∧ xs[i]? = some x, fun i H v H' => ∃ T x, v = .ref T ∧ H T = none ∧ H' = upd H T (.tup [.int ((k + i : Nat) : Int), x]) ∧ ∀ xs, SqL K H a xs → xs[i]? = some x, fun i H => ∃ xs : List V, SqL K H a xs ∧ xs.length ≤ i⟩
theorem turn_enumS {P : Program} {w : World} {K : PySem.W.Frag} {elts : List Expr} {kk : Nat} {tpos : Pos} (k : Nat) (a e it : Addr) :
    Turn P w K (.Tuple elts kk tpos) (IteS K k a) [e, it] e (fun i h => (∃ old, IsEnum h e it ((k + i : Nat) : Int) old) ∧ h.IsListIter it a i ∧ e ≠ it ∧ a ≠ it) where
  mem := by simp
  obj := fun i h st b hb => by
    obtain ⟨⟨old, he⟩, ⟨o, ho, hc, hd⟩, _⟩ := st
    have e' : b = e ∨ b = it := by simpa using hb
    rcases e' with z | z
    · rw [z]; exact ⟨_, he, fun v q => nomatch q⟩
    · rw [z]; exact ⟨o, ho, fun v q => by rw [hd] at q; cases q⟩
  keep := fun i h h' st k => let ⟨⟨old, he⟩, hi, hne⟩ := st; ⟨⟨old, k e (by simp) _ he⟩, hi.at fun o q => k it (by simp) o q, hne⟩
  item := by
    intro X hP hw hK hc i pins s σ H E I hf st hg
    subst hP hw hK
    obtain ⟨⟨old, he⟩, hit, hne, nai⟩ := st
    obtain ⟨xs, x, hq, hx⟩ := hg
    obtain ⟨its, rv, p, hz⟩ := I.list hq
    obtain ⟨u, hu, ru⟩ := rv.get hx
    have hel : e < s.heap.objs.size := Heap.lt_size he
    have hil : it < s.heap.objs.size := by obtain ⟨_, q, _⟩ := hit; exact Heap.lt_size q
    have nae : a ≠ e := fun z => by
      obtain ⟨o, g, gc, _⟩ := p.isList
      rw [z, he] at g
      cases g
      exact absurd (Value.type.inj gc) (by decide)
    have li : i < its.toArray.size := by rw [List.size_toArray]; exact (List.getElem?_eq_some_iff.mp hu).1
    refine wpAny_pyNext_enum_itemC (Draws.list (A := X.A.in1) (I.ok.hd hc) it a nai its.toArray) he ⟨hit, p.isList⟩ li hne (by simp [hne, Ne.symm nae]) fun y h' tk hy ho st' hT hsz hk => ?_
    have ey : y = u := Option.some.inj (hy.symm.trans (by simpa using hu))
    subst ey
    refine ⟨_, rfl, wpAny_letOwnedTupleGo_enum (s := { s with heap := h', toks := tk + 1 }) ho fun h'' he' sb => ?_⟩
    have hT2 : h''.get? s.heap.objs.size = some { cls := .type "tuple", data := .seq #[.int ((k + i : Nat) : Int) tk, y] } := (sb.2 _ (Nat.ne_of_gt hel)).trans hT
    have new : ObjOk X.prog X.w (upd H s.heap.objs.size (.tup [.int ((k + i : Nat) : Int), x])) h'' s.heap.objs.size (.tup [.int ((k + i : Nat) : Int), x]) :=
      ⟨by show 2 ≤ sizeLine; decide, [.int ((k + i : Nat) : Int) tk, y], .cons ⟨_, rfl⟩ (.cons ru .nil), ⟨_, hT2, rfl, _, rfl⟩⟩
    have I1 : Inv X pins σ (upd H s.heap.objs.size (.tup [.int ((k + i : Nat) : Int), x])) { s with heap := h'', toks := tk + 1 } :=
      I.turnedNew (ch := [e, it]) (fun b ob hb q => (sb.2 b (fun z => hb (by simp [z]))).trans (hk b ob (fun z => hb (by simp [z])) (fun z => hb (by simp [z])) q)) hf (Nat.le_refl _) new
    refine ⟨.ref s.heap.objs.size, _, I1, rfl, ⟨_, x, rfl, I.hok.fresh (Nat.le_refl _), rfl, fun ys hy => by rw [I.list_inj hy hq]; exact hx⟩, ⟨⟨y, ?_⟩, st'.1.at fun o q => (sb.2 it (Ne.symm hne)).trans q, hne, nai⟩, fun b hb => ?_⟩
    · have e1 : ((k + (i + 1) : Nat) : Int) = ((k + i : Nat) : Int) + 1 := by omega
      rw [e1]; exact he'
    · have hb' : b < s.heap.objs.size := by
        have e' : b = e ∨ b = it := by simpa using hb
        rcases e' with z | z
        · rw [z]; exact hel
        · rw [z]; exact hil
      rw [upd_ne (Nat.ne_of_lt hb')]
      exact (hf b hb).1
  done := by
    intro X hP hw hK hc i pins s σ H E I hf st hg
    subst hP hw hK
    obtain ⟨⟨old, he⟩, hit, hne, nai⟩ := st
    obtain ⟨xs, hq, hx⟩ := hg
    obtain ⟨its, rv, p, hz⟩ := I.list hq
    obtain ⟨f0, f1, f2, f3, f4, f5⟩ := hf it (by simp)
    have hl := rv.length
    have hT : s.TypeIs (.ref e) "enumerate" := ⟨_, he, rfl⟩
    unfold pyNext
    refine wpAny_bind (wpAny_attempt (wpAny_callSpecial?_slot (name := Str.ofString "__next__") hT F.slot_enumerate_next (wpAny_call_entry F.slot_enumerate_next hT F.entry_enumerate_next ?_ (F.args_enumerate_next_1 _))))
    show wpAny _ _ (field (.ref e) 2 >>= _) _ _ _
    refine wpAny_bind (wpAny_field he rfl (x := .ref it) rfl (wpAny_bind (wpAny_nextOf_list_end (A := X.A.in1) (I.ok.hd hc) hit p.isList (by simp; omega) fun h' x he' hx' => ?_)))
    obtain ⟨o, ho, hc'⟩ := hx'
    exact wpAny_bind (wpAny_isInstance (T := "StopIteration") (b := true) ⟨o, ho, hc'⟩ isSubtype_stop (wpAny_pure ⟨rfl, I.turned (t' := s.toks) (fun b o hb q => he' b o hb q) f0 f1 f3 f4 f5⟩))
  self := fun A i s Q E st h => let ⟨⟨_, he⟩, _⟩ := st; wpAny_pyIter_enum he h
def iEnumS (K : PySem.W.Frag) (k : Nat) (ta : TA) (tk : TE) : TI := fun σ H R => ta σ H fun vs H1 => ∃ a, vs = [.ref a] ∧ tk σ H1 fun v H2 => v = .int (k : Nat) ∧ ∃ xs, SqL K H2 a xs ∧ R (IteS K k a) H2
theorem pi_enumS {X : Cx} {e ek : Expr} {ta : TA} {tk : TE} {k : Nat} {p pos kp tpos : Pos} {elts : List Expr} {kk : Nat} (hg : Gl X "enumerate") (hm : X.mg "enumerate" = none) (ha : PA X [e] ta) (hek : PE X ek tk) (hk : k < 1000 := by decide) (hs : starEach [e] X.env = [(false, eval e X.env)] := by rfl) :
    PI X (.Tuple elts kk tpos) (.Call (.Name "enumerate" p) [e] [⟨some "start", ek, kp⟩] pos) (iEnumS X.K k ta tk) := by
  refine ⟨fun pins s σ H R I h => ?_⟩
  have he0 : eval (.Call (.Name "enumerate" p) [e] [⟨some "start", ek, kp⟩] pos) X.env = (do callWith pos (← eval (.Name "enumerate" p) X.env) [] (backTo pos (starEach [e] X.env)) (backToKw pos (keywordEach [⟨some "start", ek, kp⟩] X.env))) := by rfl
  rw [he0]
  refine wpAny_bind (ld_blt I hg hm boot_enumerate (callWith_typeKw (env := X.env) (kws := [⟨some "start", ek, kp⟩]) (thn (ha.run pos pins s σ H _ I h) fun us s1 ⟨vs, H1, I1, r1, q1⟩ => ?_) hs rfl rfl))
  obtain ⟨a, ex, q⟩ := q1
  subst ex
  cases r1 with
  | cons r rr =>
    cases rr
    cases r
    refine kws_cons (thn (hek.run pins s1 σ H1 _ I1 q) fun u s2 q2 => kws_nil ?_)
    obtain ⟨v, H2, I2, r2, rfl, xs, hq, q⟩ := q2
    obtain ⟨t, rfl⟩ := r2
    obtain ⟨its, rv, p', hz⟩ := I2.list hq
    have la : a < s2.heap.objs.size := by obtain ⟨o, g, _⟩ := p'.isList; exact Heap.lt_size g
    show wpAny _ _ (call (.type "enumerate") [.ref a] [(Str.ofString "start", .int (k : Nat) t)]) _ _ _
    refine enum_begins_start (begins_list a its.toArray) p'.isList (by omega) (by omega) fun h' he hit hsz hk => wpAny_pyIter_enum he ?_
    have I3 : Inv X pins σ H2 { s2 with heap := h' } := I2.kept (t' := s2.toks) hk
    refine ⟨s2.heap.objs.size + 1, [s2.heap.objs.size + 1, s2.heap.objs.size], _, _, H2, rfl, I3, turn_enumS k a (s2.heap.objs.size + 1) s2.heap.objs.size, ⟨⟨.none, he⟩, ⟨_, hit, rfl, rfl⟩, Nat.succ_ne_self _, Nat.ne_of_lt la⟩, fun b hb => ?_, q⟩
    have e' : b = s2.heap.objs.size + 1 ∨ b = s2.heap.objs.size := by simpa using hb
    have hle : s2.heap.objs.size ≤ b := by
      rcases e' with z | z
      · rw [z]; exact Nat.le_add_right _ _
      · rw [z]; exact Nat.le_refl _
    exact I2.fpOk hle (I2.hok.fresh hle)
theorem walk_enumS {K : PySem.W.Frag} {k : Nat} {a : Addr} {xs : List V} : Walk (IteS K k a) xs.length (fun H => SqL K H a xs) (YPair (fun i => some (.int ((k + i : Nat) : Int))) (fun i => xs[i]?)) := by
  refine ⟨fun i _ hi q => ⟨xs, xs[i], q, by simp [hi]⟩, fun _ q => ⟨xs, q, Nat.le_refl _⟩, fun i H v H' _ q y => ?_⟩
  obtain ⟨T, x, h1, h2, h3, h4⟩ := y
  exact ⟨T, .int ((k + i : Nat) : Int), x, h1, h2, h3, rfl, h4 xs q⟩
end GL
/-! the deck of the later laws: a dict of a list of ints and two ints, the second one counts the draws -/
namespace G3
open PySem PySem.Spec PyProof.Rows L2 GL
structure Keys where
  c : Str
  b : Str
  n : Str
  cb : ¬ c = b
  cn : ¬ c = n
  bn : ¬ b = n
theorem inr_ne {x y : Str} (h : ¬ x = y) : ¬ ((Sum.inr x : Key) = (Sum.inr y : Key)) := fun e => by
  injection e with e1
  exact h e1
def deckD (k : Keys) (g : Addr) (m n : Int) : List (Key × V) := [(Sum.inr k.c, .ref g), (Sum.inr k.b, .int m), (Sum.inr k.n, .int n)]
theorem deck_c (k : Keys) (g : Addr) (m n : Int) : valV (deckD k g m n) (Sum.inr k.c : Key) = some (.ref g) := valV_pos rfl
theorem deck_b (k : Keys) (g : Addr) (m n : Int) : valV (deckD k g m n) (Sum.inr k.b : Key) = some (.int m) := by
  unfold deckD
  rw [valV_neg (inr_ne k.cb), valV_pos rfl]
theorem deck_n (k : Keys) (g : Addr) (m n : Int) : valV (deckD k g m n) (Sum.inr k.n : Key) = some (.int n) := by
  unfold deckD
  rw [valV_neg (inr_ne k.cn), valV_neg (inr_ne k.bn), valV_pos rfl]
theorem deck_put (k : Keys) (g : Addr) (m n n' : Int) : putK (deckD k g m n) (Sum.inr k.n : Key) (.int n') = deckD k g m n' := by
  unfold putK deckD
  simp only [List.any_cons, List.any_nil, List.map_cons, List.map_nil, decide_eq_false (inr_ne k.cn), decide_eq_false (inr_ne k.bn), decide_true, Bool.or_true, Bool.false_or, Bool.or_false, if_true]
  rw [if_neg (inr_ne k.cn), if_neg (inr_ne k.bn)]
theorem get_c {k : Keys} {H : Hp} {d g : Addr} {m n : Int} (h : H d = some (.dK (deckD k g m n))) : DGet H d (.str k.c) (some (.ref g)) := deck_c k g m n ▸ DGet.k (k := Sum.inr k.c) h
theorem get_b {k : Keys} {H : Hp} {d g : Addr} {m n : Int} (h : H d = some (.dK (deckD k g m n))) : DGet H d (.str k.b) (some (.int m)) := deck_b k g m n ▸ DGet.k (k := Sum.inr k.b) h
theorem get_n {k : Keys} {H : Hp} {d g : Addr} {m n : Int} (h : H d = some (.dK (deckD k g m n))) : DGet H d (.str k.n) (some (.int n)) := deck_n k g m n ▸ DGet.k (k := Sum.inr k.n) h
theorem put_n {k : Keys} {H : Hp} {d g : Addr} {m n n' : Int} (h : H d = some (.dK (deckD k g m n))) : DPut H d (.str k.n) (.int n') (upd H d (.dK (deckD k g m n'))) := deck_put k g m n n' ▸ DPut.k (k := Sum.inr k.n) h (show 3 < sizeLine from smallt (by omega))
theorem deck_merge (k : Keys) (g : Addr) (m n : Int) : mergeK [] (deckD k g m n) = deckD k g m n := by
  have e1 : putK ([] : List (Key × V)) (Sum.inr k.c : Key) (V.ref g) = [((Sum.inr k.c : Key), V.ref g)] := rfl
  have e2 : putK [((Sum.inr k.c : Key), V.ref g)] (Sum.inr k.b : Key) (V.int m) = [((Sum.inr k.c : Key), V.ref g), ((Sum.inr k.b : Key), V.int m)] := by
    unfold putK
    simp only [List.any_cons, List.any_nil, decide_eq_false (inr_ne k.cb), Bool.or_false]
    rfl
  have e3 : putK [((Sum.inr k.c : Key), V.ref g), ((Sum.inr k.b : Key), V.int m)] (Sum.inr k.n : Key) (V.int n) = deckD k g m n := by
    unfold putK
    simp only [List.any_cons, List.any_nil, decide_eq_false (inr_ne k.cn), decide_eq_false (inr_ne k.bn), Bool.or_false]
    rfl
  show putK (putK (putK ([] : List (Key × V)) (Sum.inr k.c : Key) (V.ref g)) (Sum.inr k.b : Key) (V.int m)) (Sum.inr k.n : Key) (V.int n) = _
  rw [e1, e2, e3]
section
variable {K : PySem.W.Frag} {H H' : Hp} {k : Keys} {d g : Addr} {b b' : Nat}
/-- the deck, from which b more draws may be made -/
structure Dk (k : Keys) (H : Hp) (d g : Addr) (b : Nat) : Prop where
  ex : ∃ (m n : Int) (L : List Int), H d = some (.dK (deckD k g m n)) ∧ H g = some (.lst (L.map V.int)) ∧ L.length ≤ 63 ∧ 0 ≤ m ∧ m < 2147483587 ∧ 0 ≤ n ∧ n + b ≤ 1000000000000
theorem Dk.ne (D : Dk k H d g b) : d ≠ g := by
  obtain ⟨m, n, L, h1, h2, _⟩ := D.ex
  exact ne_of h1 h2 (fun z => nomatch z)
theorem Dk.same (D : Dk k H d g b) (s : Same H H') : Dk k H' d g b := by
  obtain ⟨m, n, L, h1, h2, r⟩ := D.ex
  exact ⟨⟨m, n, L, s _ _ h1, s _ _ h2, r⟩⟩
theorem Dk.mono (D : Dk k H d g b) (h : b' ≤ b) : Dk k H d g b' := by
  obtain ⟨m, n, L, h1, h2, h3, h4, h5, h6, h7⟩ := D.ex
  exact ⟨⟨m, n, L, h1, h2, h3, h4, h5, h6, by omega⟩⟩
theorem Dk.off {p : Addr} (D : Dk k H d g b) (h : H p = none) : p ≠ d ∧ p ≠ g := by
  obtain ⟨m, n, L, h1, h2, r⟩ := D.ex
  exact ⟨(ne_of_none h1 h).symm, (ne_of_none h2 h).symm⟩
theorem Dk.new {p : Addr} {o : HO} (D : Dk k H d g b) (h : H p = none) : Dk k (upd H p o) d g b := D.same (Same.new h)
theorem Dk.mut {p : Addr} {o : HO} (D : Dk k H d g b) (n : p ≠ d ∧ p ≠ g) : Dk k (upd H p o) d g b := by
  obtain ⟨m, n', L, h1, h2, r⟩ := D.ex
  exact ⟨⟨m, n', L, by rw [upd_ne n.1.symm]; exact h1, by rw [upd_ne n.2.symm]; exact h2, r⟩⟩
theorem Mv.free3 {p : Addr} (m : Mv d g H H') (D' : Dk k H' d g b) (h : H' p = none) : H p = none := by
  have n := D'.off h
  cases e : H p with
  | none => rfl
  | some o => rw [m.keep p o e n.1 n.2] at h; cases h
def spDrw (k : Keys) : Sp := fun vs H Q _ => ∃ (d g : Addr) (n : Int) (b : Nat), vs = [.ref d, .int n] ∧ Dk k H d g (b + 1) ∧ 0 < n ∧ n.natAbs < 2 ^ 8000 ∧
  ∀ (r : Int) (H' : Hp), 0 ≤ r → r < n → Dk k H' d g b → Mv d g H H' → Q (.int r) H'
def spDck (K : PySem.W.Frag) (k : Keys) : Sp := fun vs H Q _ => ∃ (a : Addr) (ns : List Int), vs = [.ref a] ∧ SqL K H a (ns.map V.int) ∧ ns.length ≤ 63 ∧
  ∀ (d g : Addr) (H' : Hp), Same H H' → H d = none → H g = none → Dk k H' d g 1000000000000 → Q (.ref d) H'
def spPck (k : Keys) : Sp := fun vs H Q _ => ∃ (d g a : Addr) (xs : List V) (b : Nat), vs = [.ref d, .ref a] ∧ Dk k H d g (b + 1) ∧ H a = some (.lst xs) ∧ a ≠ g ∧ xs ≠ [] ∧ xs.length ≤ 1000 ∧
  ∀ (x : V) (H' : Hp), x ∈ xs → Dk k H' d g b → Mv d g H H' → Q x H'
theorem cut_map (ns : List Int) (lo hi : Option Int) : cutV (ns.map V.int) lo hi = ((ns.drop (HT.sIx ns.length 0 lo)).take (HT.sIx ns.length ns.length hi - HT.sIx ns.length 0 lo)).map V.int := by
  unfold cutV
  rw [List.length_map, List.map_take, List.map_drop]
theorem cut_ints (ns : List Int) (lo hi : Option Int) : ∃ ms : List Int, cutV (ns.map V.int) lo hi = ms.map V.int ∧ ms.length ≤ ns.length := by
  refine ⟨_, cut_map ns lo hi, ?_⟩
  rw [List.length_take, List.length_drop]
  omega
theorem ints_at {ns : List Int} {i : Nat} {x : V} (h : (ns.map V.int)[i]? = some x) : ∃ n, x = .int n ∧ i < ns.length := by
  rw [List.getElem?_map] at h
  cases e : ns[i]? with
  | none => rw [e] at h; cases h
  | some n =>
    rw [e] at h
    exact ⟨n, (Option.some.inj h).symm, (List.getElem?_eq_some_iff.mp e).1⟩
theorem vals_rev : ∀ {xs : List V} {us : List Value}, Vals xs us → Vals xs.reverse us.reverse
  | _, _, .nil => .nil
  | _, _, .cons r t => by
    rw [List.reverse_cons, List.reverse_cons]
    exact Vals.append (vals_rev t) (.cons r .nil)
def spLaw (K : PySem.W.Frag) : Sp := fun vs H Q _ => ∃ (a : Addr) (ns : List Int), vs = [.ref a] ∧ SqL K H a (ns.map V.int) ∧ ns.length ≤ 63 ∧ ∀ H', Q (.bl true) H'
theorem walk {l : PySem.W.OpenLaw} {k : Nat} {q : Program} {loose : List Str} {XP : (Str → Option Value) → Heap → Prop} {YP : World → Heap → Prop} {d : DefRec} {K : Params → PySem.W.Frag} (hn : l.most = some 63) (hdf : d.params.defaults = []) (hr : Room k callerA)
    (hY : ∀ (w : World) (h : Heap), YP w h → (K w.params).In h)
    (F : ∀ (w : World) (mg : Str → Option Value) (fa : Addr) (h : Heap), (K w.params).In h → h.Ns mainGlobals mg → mg d.name = some (.ref fa) →
      ∃ fd : FuncData, (∀ (s : Shared) (u : Value), BindsTo s fd ⟨[u], []⟩ [("_law_script", u)]) ∧ ∀ base : Heap, (K w.params).In base → base.Ns mainGlobals mg → FnG l.prog w (K w.params) mg base CX0 k fa fd ["_law_script"] (spLaw (K w.params))) :
    PySem.W.WalkO q loose XP YP l.row.toRowW d [] (fun f vs => PySem.call f vs) :=
  walkG (n := 63) (k := k) (x := "_law_script") (sp := spLaw) hn (by decide) hdf hr hY F (fun _ _ a ns hl _ hS => ⟨a, ns, rfl, hS, hl, fun _ => rfl⟩)
end
section
variable {X : Cx} {k n : Nat} {f : Addr} {fd : FuncData} {ps ks : List Str} {sp : Sp} {x : Str} {p pos : Pos} {e : Expr} {es : List Expr} {t tk : TA} {kws : List Keyword} {g : List Value → List Value → List Value} {gV : List V → List V → List V}
/-- what is known of a def that is called with keywords -/
structure DefKG (P : Program) (w : World) (K : PySem.W.Frag) (mg : Str → Option Value) (base : Heap) (k : Nat) (x : Str) (ps : List Str) (n : Nat) (ks : List Str) (gV : List V → List V → List V) (sp : Sp) : Prop where
  ex : ∃ (f : Addr) (fd : FuncData) (g : List Value → List Value → List Value), FnG P w K mg base CX0 k f fd ps sp ∧ mg x = some (.ref f) ∧ PySem.W.keepIn K (.ref f) = true ∧ KBn K fd ps n ks g gV
def tCallKG (sp : Sp) (n m : Nat) (gV : List V → List V → List V) (E : XK) (ta tk : TA) : TE := fun σ H Q => ta σ H fun vs H1 => tk σ H1 fun zs H2 => vs.length = n ∧ zs.length = m ∧ sp (gV vs zs) H2 Q E
/-- f(a=.., b=..) -/
theorem pe_defK0 (D : DefKG X.prog X.w X.K X.mg X.base k x ps 0 ks gV sp) (hr : Room k X.A) (hc : Calm X.A) (hg : Gl X x) (hkw : PK X kws tk)
    (hall : (backToKw pos (keywordEach kws X.env)).all (·.1.isSome) = true := by rfl) (hks : (backToKw pos (keywordEach kws X.env)).filterMap (·.1) = ks := by rfl) (hdb : (x == ("__debug__" : Str)) = false := by decide)
    (hpl : ((backTo pos (starEach [] X.env)).any (·.1) || (backToKw pos (keywordEach kws X.env)).any (·.1.isNone)) = false := by rfl) :
    PE X (.Call (.Name x p) [] kws pos) (tCallKG sp 0 ks.length gV E0 tNil tk) := by
  obtain ⟨f, fd, g, F, hm, hk, hb⟩ := D.ex
  constructor
  intro pins s σ H Q I h
  refine wpAny_Call_Name_kw (ld_glob I hg hm (PySem.W.callWith_KW0 (h₀ := X.base) I.ok.mod.kin hk hall (thn (hkw.run pos pins s σ H _ I h) ?_) hpl) hdb)
  rintro ws s2 ⟨zs, H2, I2, rz, l1, l2, q2⟩
  refine ⟨I2.kIn, ?_⟩
  rw [hks]
  exact runKG (us := []) (vs := []) F hr hc hb pass0 I2 .nil rz rfl l2 q2
end
theorem Nice.intW {i : Int} (h : i.natAbs < 2 ^ 1920) : Nice 1921 0 (.int i) := by
  have l : i.natAbs.log2 < 1920 := PySem.Flt.log2_lt_of (by decide) h
  exact ⟨decide_eq_true l, rfl, Nat.le_refl _, PyProof.Rows.int_text_len_1921 l⟩
theorem Nice.natW {n : Nat} (h : n < 2 ^ 1920) : Nice 1921 0 (.int (n : Int)) := Nice.intW (by rw [Int.natAbs_natCast]; exact h)
theorem defK_mk {P : Program} {w : World} {K : PySem.W.Frag} {mg : Str → Option Value} {base : Heap} {k n : Nat} {x : Str} {st : Stmt} {f : Addr} {fd : FuncData} {ps ks : List Str} {gV : List V → List V → List V} {g : List Value → List Value → List Value} {sp : Sp} (F : Fun K x x st f fd) (gl : mg x = some (.ref f)) (b : KBn K fd ps n ks g gV) (h : FnG P w K mg base CX0 k f fd ps sp) : DefKG P w K mg base k x ps n ks gV sp :=
  ⟨⟨f, fd, g, h, gl, F.kp, b⟩⟩
end G3
/-! an instance that is called: own __call__, where nothing that guards itself is under way -/
namespace G3
open PySem PySem.Spec PyProof.Rows L2 GL StX PySem.W PySem.Calls
theorem callO_ofK {M : Model} {A : Around} {E : Value → Shared → Prop} {s : Shared} {a : Addr} {pos : Pos} {Q : Value → Shared → Prop} {args : List (Bool × Sem Value)} {kws : List (Option Str × Sem Value)} (hplain : (args.any (·.1) || kws.any (·.1.isNone)) = false)
    (h : wpAny M A (evalArgs (.ref a) true args kws) (fun z s₁ => (∃ C ox od, PySem.W.InstAt s₁.heap a ox C od ∧ ox.data = .plain) ∧ wpAny M A (call (.ref a) ([] ++ z.pos) z.kw) Q E s₁) E s) : wpAny M A (callWith pos (.ref a) [] args kws) Q E s := by
  unfold callWith
  refine wpAny_bind (wpAny_holding (wpAny_mono h (fun z s₁ h₁ => wpAny_bind (wpAny_standAt ?_)) fun _ _ y => y))
  obtain ⟨⟨C, ox, od, J, hd⟩, h₁⟩ := h₁
  have L := PySem.W.kco_keeper (M := M) J hd
  simp only [hplain]
  refine wpAny_bind (L.here ?_)
  have tail : ∀ {t : Sem Value}, wpAny M A t Q E s₁ → wpAny M A (t >>= fun r => holding [r] point >>= fun _ => pure r) Q E s₁ :=
    fun ht => wpAny_bind (wpAny_mono ht (fun r s₂ hr => wpAny_bind (wpAny_holding (wpAny_point (wpAny_pure hr)))) fun _ _ y => y)
  exact tail (wpAny_operateT h₁)
section
variable {X : Cx} {CX : CXT} {k n : Nat} {f C : Addr} {fd : FuncData} {ps ks : List Str} {sp : Sp} {E : XK} {e fe : Expr} {es : List Expr} {tf : TE} {t tk : TA} {p pos : Pos} {ds : List Value} {dvs : List V} {kws : List Keyword} {g : List Value → List Value → List Value} {gV : List V → List V → List V}
def tCallOG (C : Addr) (sp : Sp) (E : XK) (tf : TE) (t : TA) : TE := fun σ H Q => tf σ H fun y H1 => ∃ a, y = V.ref a ∧ t σ H1 fun vs H2 => (∃ dx fs, H2 a = some (.ins C dx fs)) ∧ sp (V.ref a :: vs) H2 Q E
/-- f(e, ..), f an expression that gives an instance -/
theorem pe_callOG (hf : PE X fe tf) (c : CallO X.K C f) (F : FnG X.prog X.w X.K X.mg X.base CX k f fd ps sp) (hb : Binds X.K fd ps []) (hr : Room k X.A) (hc : Calm X.A) (hx : Passes CX X E) (ha : PA X (e :: es) t)
    (ht : eval (.Call fe (e :: es) [] pos) X.env = (do callWith pos (← eval fe X.env) [] (backTo pos (starEach (e :: es) X.env)) (backToKw pos (keywordEach [] X.env))) := by rfl)
    (he : starEach (e :: es) X.env = (false, eval e X.env) :: starEach es X.env := by rfl) (hpl : (backTo pos (starEach es X.env)).any (·.1) = false := by rfl) : PE X (.Call fe (e :: es) [] pos) (tCallOG C sp E tf t) := by
  refine ⟨fun pins s σ H Q I h => ?_⟩
  refine Call_ (thn (hf.run pins s σ H _ I h) fun u s1 ⟨y, H1, I1, ry, a, ey, q⟩ => ?_) ht
  subst ey
  obtain rfl : u = Value.ref a := ry
  refine callO_with (thn (ha.run pos pins s1 σ H1 _ I1 q) fun us s2 ⟨vs, H2, I2, r, hi, q2⟩ => ?_) he hpl
  obtain ⟨ox, od, J, hd⟩ := insC_at I2 (.inr hi)
  refine ⟨⟨C, ox, od, J, hd⟩, ?_⟩
  have both : Vals (V.ref a :: vs) (Value.ref a :: us) := .cons rfl r
  have long : (Value.ref a :: us).length = ps.length := both.length.symm.trans (F.len _ _ _ _ q2)
  have go := F.run X.A X.stack s2 H2 ⟨Value.ref a :: us, []⟩ (Value.ref a :: us) (V.ref a :: vs) Q E hr hc I2.env0 (by simpa using hb s2 (Value.ref a :: us) I2.kIn (by simpa using long)) both q2
  refine wpAny_call (PySem.W.kco_code (a := ⟨us, []⟩) I2.kIn J hd c.at_ c.fn c.fi (codeAny_mono go fun r' s' q => ?_))
  have z := out_of hx I2 r' s' q
  match r', z with
  | .error _, z => exact z
  | .ok (.ret _), z => exact z
def tCallOKG (C : Addr) (sp : Sp) (n : Nat) (gV : List V → List V → List V) (E : XK) (tf : TE) (tk : TA) : TE := fun σ H Q => tf σ H fun y H1 => ∃ a, y = V.ref a ∧ tk σ H1 fun zs H2 => zs.length = n ∧ (∃ dx fs, H2 a = some (.ins C dx fs)) ∧ sp (gV [V.ref a] zs) H2 Q E
/-- f(k=e, ..) -/
theorem pe_callOKG (hf : PE X fe tf) (c : CallO X.K C f) (F : FnG X.prog X.w X.K X.mg X.base CX k f fd ps sp) (hb : KBn X.K fd ps 1 ks g gV) (hr : Room k X.A) (hc : Calm X.A) (hx : Passes CX X E) (hkw : PK X kws tk)
    (hall : (backToKw pos (keywordEach kws X.env)).all (·.1.isSome) = true := by rfl) (hks : (backToKw pos (keywordEach kws X.env)).filterMap (·.1) = ks := by rfl)
    (hpl : ((backTo pos (starEach [] X.env)).any (·.1) || (backToKw pos (keywordEach kws X.env)).any (·.1.isNone)) = false := by rfl)
    (ht : eval (.Call fe [] kws pos) X.env = (do callWith pos (← eval fe X.env) [] (backTo pos (starEach [] X.env)) (backToKw pos (keywordEach kws X.env))) := by rfl) : PE X (.Call fe [] kws pos) (tCallOKG C sp ks.length gV E tf tk) := by
  refine ⟨fun pins s σ H Q I h => ?_⟩
  rw [ht]
  refine wpAny_bind (thn (hf.run pins s σ H _ I h) fun u s1 ⟨y, H1, I1, ry, a, ey, q⟩ => ?_)
  subst ey
  obtain rfl : u = Value.ref a := ry
  refine callO_ofK hpl (evalArgs_kw2_nil hall (thn (hkw.run pos pins s1 σ H1 _ I1 q) fun ws s2 ⟨zs, H2, I2, rz, l2, hi, q2⟩ => ?_))
  obtain ⟨ox, od, J, hd⟩ := insC_at I2 (.inr hi)
  refine ⟨⟨C, ox, od, J, hd⟩, ?_⟩
  rw [hks]
  have go := F.run X.A X.stack s2 H2 ⟨[Value.ref a], ks.zip ws⟩ (g [Value.ref a] ws) (gV [V.ref a] zs) Q E hr hc I2.env0 (hb.to s2 [Value.ref a] ws I2.kIn rfl (rz.length.symm.trans l2)) (hb.rel (.cons rfl .nil) rz) q2
  refine wpAny_call (PySem.W.kco_code (a := ⟨[], ks.zip ws⟩) I2.kIn J hd c.at_ c.fn c.fi (codeAny_mono go fun r' s' q => ?_))
  have z := out_of hx I2 r' s' q
  match r', z with
  | .error _, z => exact z
  | .ok (.ret _), z => exact z
end
/-! ### C.m(..), m a static method of the class at C -/
structure StatM (K : PySem.W.Frag) (C : Addr) (m : Str) (f : Addr) : Prop where
  ga : PySem.W.specialIn K (.ref C) "__getattribute__" = some (some (.builtin "type.__getattribute__"))
  rd : PySem.W.readsIn K C (.type "type") = true
  fc : ∃ (p : Addr) (rest : List Value), PySem.W.findCls K (.ref C) (.type "type") m = some (.get (.builtin "staticmethod.__get__") (.ref p) .none (.ref C)) ∧ PySem.W.recIn K p "staticmethod" = some (.ref f :: rest)
  kp : PySem.W.keepIn K (.ref f) = true
theorem getstat {X : Cx} {pins : List (Addr × Obj)} {σ : L2.St} {H : Hp} {s : Shared} {A : Around} {E : Value → Shared → Prop} {C f : Addr} {m : Str} {pl : Sem Bool} {Q : Value × List Value → Shared → Prop} (I : Inv X pins σ H s) (S : StatM X.K C m f)
    (h : ∀ s', Inv X pins σ H s' → Q (.ref f, []) s') : wpAny (model X.prog X.w) A (getMethod (.ref C) m pl) Q E s := by
  obtain ⟨p, rest, e1, e2⟩ := S.fc
  refine PySem.W.method_cls I.kIn S.ga (PySem.W.cls_bind (mc := .type "type") I.kIn S.rd e1 (wpAny_call (PySem.W.sm_get (s := { s with toks := s.toks + 1 }) I.kIn e2 (PySem.W.handed_on rfl ?_))))
  exact h _ (I.tok _)
section
variable {X : Cx} {CX : CXT} {k n : Nat} {f C : Addr} {fd : FuncData} {ps ks : List Str} {sp : Sp} {x m : Str} {e : Expr} {es : List Expr} {t tk : TA} {p pos apos : Pos} {ds : List Value} {dvs : List V} {kws : List Keyword} {g : List Value → List Value → List Value} {gV : List V → List V → List V}
theorem pe_statG {pl : Sem Bool} (S : StatM X.K C m f) (F : FnG X.prog X.w X.K X.mg X.base CX0 k f fd ps sp) (hb : Binds X.K fd ps ds) (hd : Vals dvs ds) (hr : Room k X.A) (hc : Calm X.A) (hg : Gl X x) (hm : X.mg x = some (.ref C)) (ha : PA X (e :: es) t) (hdb : (x == ("__debug__" : Str)) = false := by decide)
    (hst : starEach (e :: es) X.env = (false, eval e X.env) :: starEach es X.env := by rfl) (hpl : (backTo pos (starEach es X.env)).any (·.1) = false := by rfl)
    (ht : eval (.Call (.Attribute (.Name x p) m apos) (e :: es) [] pos) X.env = (eval (.Name x p) X.env >>= fun ov => standAt apos.atName >>= fun _ => holding [ov] (getMethod ov m pl) >>= fun fx =>
      callWith pos fx.1 fx.2 (backTo pos (starEach (e :: es) X.env)) (backToKw pos (keywordEach [] X.env))) := by rfl) :
    PE X (.Call (.Attribute (.Name x p) m apos) (e :: es) [] pos) (tCall sp dvs E0 t) := by
  constructor
  intro pins s σ H Q I h
  refine PySem.W.methodCall_KW (pl := pl) (ld_glob I hg hm ?_ hdb) ht
  refine getstat I S fun s1 I1 => ?_
  refine PySem.W.callWith_K (first := []) (h₀ := X.base) I1.ok.mod.kin S.kp (thn (ha.run pos pins s1 σ H _ I1 h) ?_) hst hpl
  rintro us s2 ⟨vs, H2, I2, r, q2⟩
  exact ⟨I2.kIn, runG F hr hc hb hd pass0 I2 r q2⟩
theorem pe_statKG0 {pl : Sem Bool} (S : StatM X.K C m f) (F : FnG X.prog X.w X.K X.mg X.base CX0 k f fd ps sp) (hb : KBn X.K fd ps 0 ks g gV) (hr : Room k X.A) (hc : Calm X.A) (hg : Gl X x) (hm : X.mg x = some (.ref C)) (hkw : PK X kws tk) (hdb : (x == ("__debug__" : Str)) = false := by decide)
    (hall : (backToKw pos (keywordEach kws X.env)).all (·.1.isSome) = true := by rfl) (hks : (backToKw pos (keywordEach kws X.env)).filterMap (·.1) = ks := by rfl)
    (hpl : ((backTo pos (starEach [] X.env)).any (·.1) || (backToKw pos (keywordEach kws X.env)).any (·.1.isNone)) = false := by rfl)
    (ht : eval (.Call (.Attribute (.Name x p) m apos) [] kws pos) X.env = (eval (.Name x p) X.env >>= fun ov => standAt apos.atName >>= fun _ => holding [ov] (getMethod ov m pl) >>= fun fx =>
      callWith pos fx.1 fx.2 (backTo pos (starEach [] X.env)) (backToKw pos (keywordEach kws X.env))) := by rfl) :
    PE X (.Call (.Attribute (.Name x p) m apos) [] kws pos) (tCallKG sp 0 ks.length gV E0 tNil tk) := by
  constructor
  intro pins s σ H Q I h
  refine PySem.W.methodCall_KW (pl := pl) (ld_glob I hg hm ?_ hdb) ht
  refine getstat I S fun s1 I1 => ?_
  refine PySem.W.callWith_KW0 (first := []) (h₀ := X.base) I1.ok.mod.kin S.kp hall (thn (hkw.run pos pins s1 σ H _ I1 h) ?_) hpl
  rintro ws s2 ⟨zs, H2, I2, rz, l1, l2, q2⟩
  refine ⟨I2.kIn, ?_⟩
  rw [hks]
  exact runKG (us := []) (vs := []) F hr hc hb pass0 I2 .nil rz rfl l2 q2
theorem pe_statKG1 {pl : Sem Bool} (S : StatM X.K C m f) (F : FnG X.prog X.w X.K X.mg X.base CX0 k f fd ps sp) (hb : KBn X.K fd ps n ks g gV) (hr : Room k X.A) (hc : Calm X.A) (hg : Gl X x) (hm : X.mg x = some (.ref C)) (ha : PA X (e :: es) t) (hkw : PK X kws tk) (hdb : (x == ("__debug__" : Str)) = false := by decide)
    (hall : (backToKw pos (keywordEach kws X.env)).all (·.1.isSome) = true := by rfl) (hks : (backToKw pos (keywordEach kws X.env)).filterMap (·.1) = ks := by rfl)
    (hpl : ((backTo pos (starEach (e :: es) X.env)).any (·.1) || (backToKw pos (keywordEach kws X.env)).any (·.1.isNone)) = false := by rfl)
    (hst : starEach (e :: es) X.env = (false, eval e X.env) :: starEach es X.env := by rfl)
    (ht : eval (.Call (.Attribute (.Name x p) m apos) (e :: es) kws pos) X.env = (eval (.Name x p) X.env >>= fun ov => standAt apos.atName >>= fun _ => holding [ov] (getMethod ov m pl) >>= fun fx =>
      callWith pos fx.1 fx.2 (backTo pos (starEach (e :: es) X.env)) (backToKw pos (keywordEach kws X.env))) := by rfl) :
    PE X (.Call (.Attribute (.Name x p) m apos) (e :: es) kws pos) (tCallKG sp n ks.length gV E0 t tk) := by
  constructor
  intro pins s σ H Q I h
  refine PySem.W.methodCall_KW (pl := pl) (ld_glob I hg hm ?_ hdb) ht
  refine getstat I S fun s1 I1 => ?_
  refine PySem.W.callWith_KW (first := []) (h₀ := X.base) I1.ok.mod.kin S.kp hall (thn (ha.run pos pins s1 σ H _ I1 h) ?_) hpl hst
  rintro us s2 ⟨vs, H2, I2, r, q2⟩
  refine thn (hkw.run pos pins s2 σ H2 _ I2 q2) ?_
  rintro ws s3 ⟨zs, H3, I3, rz, l1, l2, q3⟩
  refine ⟨I3.kIn, ?_⟩
  rw [hks]
  exact runKG (us := us) (vs := vs) F hr hc hb pass0 I3 r rz l1 l2 q3
end
/-! ### rules told with the written part itself: a comprehension's element may then use them -/
section
variable {X : Cx} {K : PySem.W.Frag} {a e o : Expr} {ta : TE} {p pos : Pos} {f : Str}
theorem ix_tupK (h : X.K = K := by rfl) : IxR X (rIxT K) := h ▸ ix_tup
theorem ix_listK (h : X.K = K := by rfl) : IxR X (rIxL K) := h ▸ ix_list
theorem pe_fldK (he : PE X e ta) (hb : attributeBase e f X.env (eval e X.env) = eval e X.env) (h : X.K = K := by rfl) : PE X (.Attribute e f pos) (tFld K ta f) := h ▸ pe_fld he hb
theorem pe_tupleOfK (hg : Gl X "tuple") (hm : X.mg "tuple" = none) (ha : PE X a ta) (h : X.K = K := by rfl) (na : starEach [a] X.env = (false, eval a X.env) :: starEach [] X.env := by rfl) :
    PE X (.Call (.Name "tuple" p) [a] [] pos) (tThen ta (kTup K)) := h ▸ pe_tupleOf hg hm ha na
theorem op_catAK (h : X.K = K := by rfl) : OpR X (binaryOp .Add) (rCatA K) := h ▸ op_catA
/-- t * k, k from 1 on -/
def rRepP (K : PySem.W.Frag) : R2 := fun x y H Q => ∃ l k xs, x = .ref l ∧ y = .int k ∧ SqT K H l xs ∧ xs ≠ [] ∧ 1 ≤ k ∧ k ≤ 1000 ∧ xs.length ≤ 1000 ∧ (k = 1 → Q (.ref l) H) ∧ (2 ≤ k → ∀ p, H p = none → Q (.ref p) (upd H p (.tup (List.replicate k.toNat xs).flatten)))
theorem op_repPK (h : X.K = K := by rfl) : OpR X (binaryOp .Mult) (rRepP K) := by
  subst h
  intro pins s σ H x y v u Q I rx ry hh
  obtain ⟨l, k, xs, rfl, rfl, hT, ne, h1, h2, hl, q1, q2⟩ := hh
  by_cases e : k = 1
  · exact op_rep01 pins s σ H _ _ v u Q I rx ry ⟨l, k, xs, rfl, rfl, hT, ne, .inr e, fun z => absurd z (by omega), q1⟩
  · exact op_repT pins s σ H _ _ v u Q I rx ry ⟨l, k, xs, rfl, rfl, hT, ne, by omega, h2, hl, q2 (by omega)⟩
def rLenSeq (K : PySem.W.Frag) : List V → Hp → VK → Prop := fun xs H Q => ∃ p ys, xs = [.ref p] ∧ (SqL K H p ys ∨ SqT K H p ys) ∧ Q (.int (ys.length : Nat)) H
theorem call_len_seqK (h : X.K = K := by rfl) : CallR X (.builtin "len") (rLenSeq K) := h ▸ call_len_seq
end
end G3
namespace GL
open PySem PySem.Spec PyProof.Rows L2 PySem.W PySem.Calls Builtin Builtin.Str
/-! ### repr of a text; str of an own object -/
section
variable {X : Cx}
theorem call_repr_str : CallR X (.builtin "repr") (fun xs H Q => ∃ a : Str, xs = [.str a] ∧ (reprText a).length ≤ sizeLine ∧ Q (.str (reprText a)) H) := by
  intro pins s σ H xs us Q I r h
  obtain ⟨a, rfl, hz, q⟩ := h
  obtain ⟨u, rfl, t, rfl⟩ := vals1 r
  exact PySem.P.repr_of_str (⟨.str _, H, I.tok _, ⟨_, rfl⟩, q⟩) hz
theorem Calm.in1 {A : Around} (g : Calm A) : Calm A.in1 := g
theorem str_new_in {prog : Program} {w : World} {v : Value} : MeetsIn prog w (Builtin.«str.__new__» ⟨[.type "str", v], []⟩) (fun A R s => wpAny (model prog w) A.in1 (Builtin.Str.strOf v) (fun r s' => R (.ok (.ret r)) s') (fun e s' => R (.error e) s') s) := by
  intro A R s h
  rw [str_new_tree v]
  refine wpAny_bind (wpAny_pure ?_)
  refine wpAny_bind (wpAny_of_eq isSubtype_str_str ?_)
  exact wpAny_bind (wpAny_mono h (fun r s' h' => wpAny_pure h') fun _ _ e => e)
theorem call_strO {k : Nat} {f C : Addr} {fd : FuncData} {sp : Sp} (hat : PySem.W.findIn X.K (.ref C) "__str__" = some (some (.ref f))) (hfn : PySem.W.isFn X.K (.ref f) = true) (FS : FnG X.prog X.w X.K X.mg X.base CX0 k f fd ["self"] sp) (hb : Binds X.K fd ["self"] []) (hr : Room (k + 2) X.A) (hc : Calm X.A) :
    CallR X (.type "str") (fun xs H Q => ∃ a dx fs, xs = [.ref a] ∧ H a = some (.ins C dx fs) ∧ sp [.ref a] H (fun v H2 => (∃ z, v = .str z) ∧ Q v H2) E0) := by
  intro pins s σ H xs us Q I r h
  obtain ⟨a, dx, fs, rfl, ha, q⟩ := h
  obtain rfl : us = [.ref a] := Vals.ref1 r
  obtain ⟨mA, OA, _⟩ := ins_get I.hok ha
  obtain ⟨odA, IA, _⟩ := OA.look
  refine callType_newIn F.called_str (by decide) (F.typeCall_str_1 _) (F.newCall_str_1 _) (fun obj => F.args_object_init_2 obj _) F.entry_str_new str_new_in ?_
  show wpAny (model X.prog X.w) X.A.in1.in1 (Builtin.Str.strOf (.ref a)) _ _ s
  unfold Builtin.Str.strOf
  have hr2 : Room k X.A.in1.in1 := hr.in1.in1
  refine wpAny_bind (wpAny_cRoomFor (by have := hr2.un; omega) ?_)
  have go := FS.run X.A.in1.in1 X.stack s H ⟨[.ref a], []⟩ [.ref a] [.ref a] _ E0 hr2 hc I.env0.in1.in1 (hb s [.ref a] I.kIn rfl) r q
  refine wpAny_bind (m := callSpecial? (.ref a) (Str.ofString "__str__")) (PySem.W.special_fn I.kIn IA hat (beq_iff_eq.mp hfn) (wpAny_call (codeAny_mono go fun r' s' q => ?_)))
  have z := out_of pass0 I r' s' q
  match r', z with
  | .error _, z => exact z
  | .ok (.ret u), z =>
    obtain ⟨v, H1, I1, rv, ⟨y, rfl⟩, q1⟩ := z
    obtain ⟨t, rfl⟩ := rv
    refine wpAny_bind (wpAny_pure ?_)
    exact wpAny_pure ⟨typeIs_str _ _ _, ⟨V.str y, H1, I1, ⟨t, rfl⟩, q1⟩⟩
end
end GL
namespace GL
open PySem PySem.Spec PyProof.Rows L2
/-! ### list.count, flat items -/
section
variable {X : Cx}
theorem count_of {y : V} : ∀ {ys : List V} {us : List Value}, Vals ys us → ys.all flatV = true → us.countP (eqU y) = ys.countP fun z => eqV z y
  | _, _, .nil, _ => rfl
  | _, _, .cons (a := z) (b := u) r rr, f => by
    rw [List.all_cons, Bool.and_eq_true] at f
    have ih := count_of (y := y) rr f.2
    rw [List.countP_cons, List.countP_cons, ih, eqU_of r f.1]
def rCntF (K : PySem.W.Frag) : V → List V → Hp → VK → Prop := fun x xs H Q => ∃ (a : Addr) (ys : List V) (y : V), x = V.ref a ∧ xs = [y] ∧ SqL K H a ys ∧ flatV y = true ∧ ys.all flatV = true ∧ Q (.int ((ys.countP fun z => eqV z y : Nat) : Int)) H
theorem mt_countF : MtR X "list.count" (rCntF X.K) := by
  intro pins s σ H x xs v us Q I rx rxs h
  obtain ⟨a, ys, y, rfl, rfl, hs, fy, fys, q⟩ := h
  cases rx
  cases rxs with
  | cons ry rt =>
    rename_i uy ut
    cases rt
    obtain ⟨its, rv, ⟨⟨cls, dd, data, sl⟩, n, ho, hc, hdn, hd⟩, hlen⟩ := I.list hs
    simp only at hc hd
    subst hc hd
    refine call_meets PySem.F.slot_list_count ⟨_, ho, rfl⟩ PySem.F.entry_list_count (PySem.F.args_list_count_2 _ _)
      (SeqAt.list_countAt a its.toArray n dd sl uy (eqU y)) ⟨ho, fun u' hu' => mem_eqAt ry fy rv fys u' (by simpa using hu'), ?_⟩
    have ec : its.toArray.toList.countP (eqU y) = ys.countP fun z => eqV z y := count_of rv fys
    refine ⟨.int ((ys.countP fun z => eqV z y : Nat) : Int), H, I.tok _, ⟨s.toks, ?_⟩, q⟩
    show Value.int ((its.toArray.toList.countP (eqU y) : Nat) : Int) s.toks = _
    rw [ec]
end
end GL
/-! tables of steps, what they reach, what they read; how they lie -/
namespace MA
open PySem PySem.Spec PyProof.Rows L2 GL G3
abbrev Tab := List (List Nat)
def vI (x : Nat) : V := V.int (x : Int)
def row (S : Tab) (s : Nat) : List Nat := (S[s]?).getD []
def stp (S : Tab) (s d : Nat) : Nat := ((row S s)[d]?).getD 0
structure Wf (S : Tab) (n b : Nat) : Prop where
  len : S.length = n
  wid : ∀ r ∈ S, r.length = b
  ent : ∀ r ∈ S, ∀ x ∈ r, x < n
inductive Rch (S : Tab) : Nat → Prop
  | zero : Rch S 0
  | step {s x : Nat} : Rch S s → x ∈ row S s → Rch S x
theorem row_mem {S : Tab} {s : Nat} (h : s < S.length) : row S s ∈ S := by
  unfold row
  rw [List.getElem?_eq_getElem h]
  exact List.getElem_mem h
theorem row_at {S : Tab} {s : Nat} (h : s < S.length) : S[s]? = some (row S s) := by
  unfold row
  rw [List.getElem?_eq_getElem h]; rfl
section
variable {S : Tab} {n b : Nat}
theorem Wf.rlen (W : Wf S n b) {s : Nat} (h : s < n) : (row S s).length = b := W.wid _ (row_mem (by rw [W.len]; exact h))
theorem Wf.rlt (W : Wf S n b) {s x : Nat} (h : x ∈ row S s) : x < n := by
  by_cases hs : s < S.length
  · exact W.ent _ (row_mem hs) x h
  · unfold row at h
    rw [List.getElem?_eq_none (by omega)] at h
    cases h
theorem stp_at (W : Wf S n b) {s d : Nat} (h : s < n) (hd : d < b) : (row S s)[d]? = some (stp S s d) := by
  unfold stp
  have := W.rlen h
  rw [List.getElem?_eq_getElem (show d < (row S s).length by omega)]; rfl
theorem stp_mem (W : Wf S n b) {s d : Nat} (h : s < n) (hd : d < b) : stp S s d ∈ row S s := List.mem_of_getElem? (stp_at W h hd)
theorem stp_lt (W : Wf S n b) {s d : Nat} (h : s < n) (hd : d < b) : stp S s d < n := W.rlt (stp_mem W h hd)
theorem Rch.lt (W : Wf S n b) (h0 : 0 < n) {s : Nat} (h : Rch S s) : s < n := by
  cases h with
  | zero => exact h0
  | step _ h => exact W.rlt h
/-- the state to which the digits lead -/
def runs (S : Tab) (b s m : Nat) : Nat := if h : 2 ≤ b ∧ 0 < m then runs S b (stp S s (m % b)) (m / b) else s
termination_by m
decreasing_by exact Nat.div_lt_self h.2 h.1
theorem runs_go {s m : Nat} (hb : 2 ≤ b) (hm : 0 < m) : runs S b s m = runs S b (stp S s (m % b)) (m / b) := by rw [runs, dif_pos ⟨hb, hm⟩]
theorem runs_end {s : Nat} : runs S b s 0 = s := by rw [runs, dif_neg (fun z => absurd z.2 (by decide))]
theorem runs_lt (W : Wf S n b) (hb : 2 ≤ b) : ∀ (m s : Nat), s < n → runs S b s m < n := by
  intro m
  induction m using Nat.strongRecOn with
  | ind m ih =>
    intro s hs
    rcases Nat.eq_zero_or_pos m with rfl | hm
    · rw [runs_end]; exact hs
    · rw [runs_go hb hm]
      exact ih _ (Nat.div_lt_self hm hb) _ (stp_lt W hs (Nat.mod_lt _ (by omega)))
/-! ### rounds -/
def it (S : Tab) : Nat → Nat → Nat
  | 0, s => s
  | k + 1, s => it S k (stp S s 0)
theorem it_succ : ∀ (k s : Nat), it S (k + 1) s = stp S (it S k s) 0
  | 0, _ => rfl
  | k + 1, s => it_succ k (stp S s 0)
theorem it_add : ∀ (j k s : Nat), it S (j + k) s = it S j (it S k s)
  | j, 0, s => rfl
  | j, k + 1, s => by
    show it S (j + k) (stp S s 0) = it S j (it S k (stp S s 0))
    exact it_add j k _
theorem it_lt (W : Wf S n b) (hb : 0 < b) : ∀ (k s : Nat), s < n → it S k s < n
  | 0, _, h => h
  | k + 1, s, h => it_lt W hb k _ (stp_lt W h hb)
/-- the least one of s and of the k next ones -/
def low (S : Tab) : Nat → Nat → Nat
  | 0, s => s
  | k + 1, s => min (low S k s) (it S (k + 1) s)
theorem low_le : ∀ (k s j : Nat), j ≤ k → low S k s ≤ it S j s
  | 0, s, j, h => by rw [show j = 0 by omega]; exact Nat.le_refl _
  | k + 1, s, j, h => by
    rcases Nat.lt_or_ge j (k + 1) with l | l
    · exact Nat.le_trans (Nat.min_le_left _ _) (low_le k s j (by omega))
    · rw [show j = k + 1 by omega]; exact Nat.min_le_right _ _
theorem low_is : ∀ (k s : Nat), ∃ j, j ≤ k ∧ low S k s = it S j s
  | 0, s => ⟨0, Nat.le_refl _, rfl⟩
  | k + 1, s => by
    obtain ⟨j, hj, e⟩ := low_is k s
    rcases Nat.le_total (low S k s) (it S (k + 1) s) with l | l
    · exact ⟨j, by omega, by show min _ _ = _; rw [Nat.min_eq_left l, e]⟩
    · exact ⟨k + 1, Nat.le_refl _, Nat.min_eq_right l⟩
def rnd (S : Tab) (n s : Nat) : Nat := low S n (it S n s)
/-- two alike among more than there are -/
theorem pigeon : ∀ (n : Nat) (f : Nat → Nat), (∀ i, i ≤ n → f i < n) → ∃ i j, i < j ∧ j ≤ n ∧ f i = f j
  | 0, f, h => absurd (h 0 (Nat.le_refl _)) (Nat.not_lt_zero _)
  | n + 1, f, h => by
    by_cases e : ∃ i, i < n + 1 ∧ f i = f (n + 1)
    · obtain ⟨i, hi, e⟩ := e
      exact ⟨i, n + 1, hi, Nat.le_refl _, e⟩
    · have ne : ∀ i, i ≤ n → f i ≠ f (n + 1) := fun i hi z => e ⟨i, by omega, z⟩
      let g : Nat → Nat := fun i => if f i < f (n + 1) then f i else f i - 1
      have hg : ∀ i, i ≤ n → g i < n := by
        intro i hi
        have h1 := h i (by omega)
        have h2 := h (n + 1) (Nat.le_refl _)
        have h3 := ne i hi
        show (if f i < f (n + 1) then f i else f i - 1) < n
        split <;> omega
      obtain ⟨i, j, hij, hj, eg⟩ := pigeon n g hg
      refine ⟨i, j, hij, by omega, ?_⟩
      have h3 := ne i (by omega)
      have h4 := ne j hj
      have eg' : (if f i < f (n + 1) then f i else f i - 1) = (if f j < f (n + 1) then f j else f j - 1) := eg
      split at eg' <;> split at eg' <;> omega
theorem back (W : Wf S n b) (hb : 0 < b) {s : Nat} (h : s < n) : ∃ p, 1 ≤ p ∧ p ≤ n ∧ it S p (it S n s) = it S n s := by
  obtain ⟨i, j, hij, hj, e⟩ := pigeon n (fun k => it S k s) (fun k _ => it_lt W hb k s h)
  refine ⟨j - i, by omega, by omega, ?_⟩
  have e1 : it S n s = it S (n - i) (it S i s) := by rw [← it_add]; congr 1; omega
  have e2 : it S n s = it S (n - i) (it S i s) := e1
  rw [← it_add, show j - i + n = (n - i) + j by omega, it_add, ← e, ← it_add]
  congr 1
  omega
/-- a round is the same from the next one -/
theorem rnd_step (W : Wf S n b) (hb : 0 < b) {s : Nat} (h : s < n) : rnd S n (stp S s 0) = rnd S n s := by
  obtain ⟨p, p1, pn, ep⟩ := back W hb h
  have e0 : it S n (stp S s 0) = it S 1 (it S n s) := by rw [← it_add, Nat.add_comm]; rfl
  unfold rnd
  rw [e0]
  generalize it S n s = t at *
  refine Nat.le_antisymm ?_ ?_
  · obtain ⟨j, hj, e⟩ := low_is (S := S) n t
    rw [e]
    rcases Nat.eq_zero_or_pos j with rfl | j0
    · have := low_le (S := S) n (it S 1 t) (p - 1) (by omega)
      rw [← it_add, show p - 1 + 1 = p by omega, ep] at this
      exact this
    · have := low_le (S := S) n (it S 1 t) (j - 1) (by omega)
      rw [← it_add, show j - 1 + 1 = j by omega] at this
      exact this
  · obtain ⟨j, hj, e⟩ := low_is (S := S) n (it S 1 t)
    rw [e, ← it_add]
    rcases Nat.lt_or_ge j n with l | l
    · exact low_le n t (j + 1) (by omega)
    · have := low_le (S := S) n t (j + 1 - p) (by omega)
      have e2 : it S (j + 1) t = it S (j + 1 - p) t := by
        rw [show j + 1 = (j + 1 - p) + p by omega, it_add, ep]
        congr 1
        omega
      rw [e2]
      exact this
theorem rnd_lt (W : Wf S n b) (hb : 0 < b) {s : Nat} (h : s < n) : rnd S n s < n := by
  unfold rnd
  obtain ⟨j, _, e⟩ := low_is (S := S) n (it S n s)
  rw [e]
  exact it_lt W hb _ _ (it_lt W hb _ _ h)
end
/-! ### how tables lie -/
section
variable {K : PySem.W.Frag} {H H' : Hp} {a d g : Addr} {S : Tab} {b c : Nat} {k : Keys}
structure Grid (K : PySem.W.Frag) (H : Hp) (a : Addr) (S : Tab) : Prop where
  ex : ∃ rs : List Addr, SqT K H a (rs.map V.ref) ∧ rs.length = S.length ∧ ∀ (i : Nat) (r : Addr) (w : List Nat), rs[i]? = some r → S[i]? = some w → SqT K H r (w.map vI)
theorem Grid.to (h : Grid K H a S) (t : ∀ {p : Addr} {xs : List V}, SqT K H p xs → SqT K H' p xs) : Grid K H' a S := by
  obtain ⟨rs, h1, h2, h3⟩ := h.ex
  exact ⟨rs, t h1, h2, fun i r w e1 e2 => t (h3 i r w e1 e2)⟩
theorem Grid.same (h : Grid K H a S) (s : Same H H') : Grid K H' a S := h.to fun q => Same.tup s q
theorem SqT.mv3 {p : Addr} {xs : List V} (D : Dk k H d g b) (m : Mv d g H H') (h : SqT K H p xs) : SqT K H' p xs := by
  obtain ⟨x, y, L, h1, h2, _⟩ := D.ex
  rcases h with (h | ⟨o, h⟩) | h
  · exact .inl (.inl (m.keep _ _ h (ne_of h h1 (fun z => nomatch z)) (ne_of h h2 (fun z => nomatch z))))
  · exact .inl (.inr ⟨o, m.keep _ _ h (ne_of h h1 (fun z => nomatch z)) (ne_of h h2 (fun z => nomatch z))⟩)
  · exact .inr h
theorem Dk.tup {r : Addr} {xs : List V} (D : Dk k H d g b) (h : H r = some (.tup xs)) : r ≠ d ∧ r ≠ g := by
  obtain ⟨x, y, L, h1, h2, _⟩ := D.ex
  exact ⟨ne_of h h1 (fun z => nomatch z), ne_of h h2 (fun z => nomatch z)⟩
theorem Dk.ins {r C dx : Addr} {fs : List (Str × V)} (D : Dk k H d g b) (h : H r = some (.ins C dx fs)) : r ≠ d ∧ r ≠ g := by
  obtain ⟨x, y, L, h1, h2, _⟩ := D.ex
  exact ⟨ne_of h h1 (fun z => nomatch z), ne_of h h2 (fun z => nomatch z)⟩
theorem Grid.mv3 (h : Grid K H a S) (D : Dk k H d g b) (m : Mv d g H H') : Grid K H' a S := h.to fun q => SqT.mv3 D m q
theorem SqT.upd {p q : Addr} {xs ys : List V} (hq : H q = some (.lst ys)) {o : HO} (h : SqT K H p xs) : SqT K (upd H q o) p xs := by
  rcases h with (h | ⟨o', h⟩) | h
  · exact .inl (.inl (by rw [upd_ne (ne_of h hq (fun z => nomatch z))]; exact h))
  · exact .inl (.inr ⟨o', by rw [upd_ne (ne_of h hq (fun z => nomatch z))]; exact h⟩)
  · exact .inr h
theorem Grid.len {n w : Nat} (W : Wf S n w) (h : Grid K H a S) : ∃ xs, SqT K H a xs ∧ xs.length = n := by
  obtain ⟨rs, h1, h2, _⟩ := h.ex
  exact ⟨_, h1, by rw [List.length_map, h2, W.len]⟩
theorem Grid.row {n w : Nat} (W : Wf S n w) (h : Grid K H a S) {s : Nat} (hs : s < n) : ∃ (xs : List V) (r : Addr), SqT K H a xs ∧ atI xs (s : Int) = some (.ref r) ∧ SqT K H r ((MA.row S s).map vI) := by
  obtain ⟨rs, h1, h2, h3⟩ := h.ex
  have l : s < rs.length := by rw [h2, W.len]; exact hs
  refine ⟨_, rs[s], h1, atI_nat (by rw [List.getElem?_map, List.getElem?_eq_getElem l]; rfl), h3 s _ _ (List.getElem?_eq_getElem l) (row_at (by rw [W.len]; exact hs))⟩
theorem at_vI {L : List Nat} {i x : Nat} (h : L[i]? = some x) : atI (L.map vI) (i : Int) = some (vI x) := atI_nat (by rw [List.getElem?_map, h]; rfl)
end
/-! ### what is reached -/
def kvT (L : List Nat) : List (Key × V) := L.map fun (x : Nat) => ((Sum.inl (x : Int) : Key), V.bl true)
theorem kvT_has (L : List Nat) (x : Nat) : (valV (kvT L) (Sum.inl (x : Int) : Key)).isSome = decide (x ∈ L) := by
  induction L with
  | nil => simp [kvT, valV]
  | cons y r ih =>
    by_cases e : y = x
    · subst e
      rw [show valV (kvT (y :: r)) (Sum.inl (y : Int) : Key) = some (.bl true) from valV_pos rfl, decide_eq_true (List.mem_cons_self)]; rfl
    · have ne : ¬ ((Sum.inl (y : Int) : Key) = Sum.inl (x : Int)) := fun z => e (by injection z with z; omega)
      rw [show valV (kvT (y :: r)) (Sum.inl (x : Int) : Key) = valV (kvT r) (Sum.inl (x : Int) : Key) from valV_neg ne, ih]
      refine decide_eq_decide.mpr ?_
      rw [List.mem_cons]
      exact ⟨fun h => .inr h, fun h => h.resolve_left fun z => e z.symm⟩
theorem kvT_put {L : List Nat} {x : Nat} (h : x ∉ L) : putK (kvT L) (Sum.inl (x : Int) : Key) (.bl true) = kvT (L ++ [x]) := by
  unfold putK
  have : ((kvT L).any fun kv => decide (kv.1 = (Sum.inl (x : Int) : Key))) = false := by
    rw [List.any_eq_false]
    intro p hp
    obtain ⟨y, hy, rfl⟩ := List.mem_map.mp hp
    refine fun z => h ?_
    have z' := of_decide_eq_true z
    injection z' with z'
    rw [show x = y by omega]; exact hy
  rw [this, if_neg (by decide)]
  unfold kvT
  rw [List.map_append]; rfl
theorem nodup_len : ∀ (n : Nat) (L : List Nat), L.Nodup → (∀ x ∈ L, x < n) → L.length ≤ n
  | 0, [], _, _ => Nat.le_refl _
  | 0, x :: r, _, h => absurd (h x List.mem_cons_self) (Nat.not_lt_zero _)
  | n + 1, L, hn, h => by
    have h1 : (L.filter fun x => x != n).length ≤ n := nodup_len n _ (hn.filter _) fun x hx => by
      obtain ⟨a, b⟩ := List.mem_filter.mp hx
      have := h x a
      have : x ≠ n := by simpa using b
      omega
    have h2 : L.length ≤ (L.filter fun x => x != n).length + 1 := by
      clear h1 h
      induction L with
      | nil => exact Nat.zero_le _
      | cons y r ih =>
        obtain ⟨n1, n2⟩ := List.nodup_cons.mp hn
        by_cases e : y = n
        · subst e
          rw [List.filter_cons_of_neg (by simp)]
          have : r.filter (fun x => x != y) = r := List.filter_eq_self.mpr fun x hx => by
            have : x ≠ y := fun z => n1 (z ▸ hx)
            simpa using this
          rw [this]; exact Nat.le_refl _
        · rw [List.filter_cons_of_pos (by simpa using e)]
          have := ih n2
          rw [List.length_cons, List.length_cons]; omega
    omega
/-- states found so far, each of them reached -/
structure Fnd (S : Tab) (L : List Nat) : Prop where
  nd : L.Nodup
  zr : 0 ∈ L
  rc : ∀ x ∈ L, Rch S x
theorem Fnd.add {S : Tab} {L : List Nat} {s x : Nat} (f : Fnd S L) (hs : s ∈ L) (hx : x ∈ row S s) (h : x ∉ L) : Fnd S (L ++ [x]) where
  nd := List.nodup_append.mpr ⟨f.nd, List.pairwise_singleton _ _, fun a ha b hb z => by
    rw [List.mem_singleton.mp hb] at z
    exact h (z ▸ ha)⟩
  zr := List.mem_append_left _ f.zr
  rc := fun y hy => by
    rcases List.mem_append.mp hy with hy | hy
    · exact f.rc y hy
    · rw [List.mem_singleton.mp hy]; exact .step (f.rc s hs) hx
theorem Fnd.all {S : Tab} {L : List Nat} (f : Fnd S L) (h : ∀ s ∈ L, ∀ x ∈ row S s, x ∈ L) (s : Nat) : s ∈ L ↔ Rch S s := by
  refine ⟨f.rc s, fun r => ?_⟩
  induction r with
  | zero => exact f.zr
  | step _ hx ih => exact h _ ih _ hx
theorem Fnd.len {S : Tab} {L : List Nat} {n b : Nat} (f : Fnd S L) (W : Wf S n b) (h0 : 0 < n) : L.length ≤ n := nodup_len n L f.nd fun x hx => (f.rc x hx).lt W h0
theorem perm_nat {ms : List Int} {L : List Nat} (h : ms.Perm (L.map fun x : Nat => (x : Int))) : ∃ M : List Nat, ms = M.map (fun x : Nat => (x : Int)) ∧ M.Perm L := by
  refine ⟨ms.map Int.toNat, ?_, ?_⟩
  · rw [List.map_map]
    have : ∀ x ∈ ms, ((fun x : Nat => (x : Int)) ∘ Int.toNat) x = x := fun x hx => by
      obtain ⟨y, _, rfl⟩ := List.mem_map.mp (h.mem_iff.mp hx)
      rfl
    rw [List.map_congr_left this, List.map_id']
  · have := h.map Int.toNat
    rw [List.map_map] at this
    have e : L.map (Int.toNat ∘ fun x : Nat => (x : Int)) = L := by
      have : ∀ x ∈ L, (Int.toNat ∘ fun x : Nat => (x : Int)) x = x := fun x _ => rfl
      rw [List.map_congr_left this, List.map_id']
    rw [e] at this
    exact this
theorem map_vI (L : List Nat) : (L.map fun x : Nat => (x : Int)).map V.int = L.map vI := by rw [List.map_map]; rfl
theorem dpa_nats {K : PySem.W.Frag} {H : Hp} : ∀ L : List Nat, DpAll K H (L.map vI) (L.map fun x : Nat => PyData.int (x : Int))
  | [] => .nil
  | x :: r => .cons (.int _) (dpa_nats r)
theorem map_dI (L : List Nat) : (L.map fun x : Nat => PyData.int (x : Int)) = (L.map fun x : Nat => (x : Int)).map PyData.int := by rw [List.map_map]; rfl
theorem shaped_nats (L : List Nat) : SeqAt.shaped (.list (L.map fun x : Nat => PyData.int (x : Int))) = true := by rw [map_dI]; exact shaped_ints _
theorem eqv_nats_nil (L : List Nat) : PyData.eqv (.list (L.map fun x : Nat => PyData.int (x : Int))) (.list []) = decide (L = []) := by
  rw [map_dI, eqv_ints_nil]
  exact decide_eq_decide.mpr List.map_eq_nil_iff
theorem pop_nat (L : List Nat) (c : Nat) : ((L ++ [c]).map vI)[((L ++ [c]).map vI).length - 1]? = some (vI c) := by
  rw [List.map_append, List.map_singleton, List.length_append, List.length_singleton, Nat.add_sub_cancel, List.getElem?_append_right (Nat.le_refl _), Nat.sub_self]
  rfl
theorem pop_natL (L : List Nat) (c : Nat) : ((L ++ [c]).map vI).dropLast = L.map vI := by
  rw [List.map_append, List.map_singleton, List.dropLast_concat]
theorem snoc_at {α : Type} {xs : List α} {x y : α} {i : Nat} (h : (xs ++ [x])[i]? = some y) : (i < xs.length ∧ xs[i]? = some y) ∨ (i = xs.length ∧ y = x) := by
  rcases Nat.lt_or_ge i xs.length with l | l
  · rw [List.getElem?_append_left l] at h
    exact .inl ⟨l, h⟩
  · rw [List.getElem?_append_right l] at h
    rcases Nat.eq_zero_or_pos (i - xs.length) with z | z
    · rw [z] at h
      exact .inr ⟨by omega, (Option.some.inj h).symm⟩
    · rw [List.getElem?_eq_none (by show 1 ≤ _; omega)] at h
      cases h
def rowD (r : List Nat) : PyData := .tuple (r.map fun x : Nat => PyData.int (x : Int))
theorem dpa_grid {K : PySem.W.Frag} {H : Hp} : ∀ (rs : List Addr) (S : Tab), rs.length = S.length → (∀ (i : Nat) (r : Addr) (w : List Nat), rs[i]? = some r → S[i]? = some w → SqT K H r (w.map vI)) → DpAll K H (rs.map V.ref) (S.map rowD)
  | [], [], _, _ => .nil
  | r :: rs, w :: S, l, h => .cons (.tup (h 0 r w rfl rfl) (dpa_nats w)) (dpa_grid rs S (by simpa using l) fun i r w e1 e2 => h (i + 1) r w e1 e2)
theorem Grid.dp {K : PySem.W.Frag} {H : Hp} {a : Addr} {S : Tab} (h : Grid K H a S) : Dp K H (.ref a) (.tuple (S.map rowD)) := by
  obtain ⟨rs, h1, h2, h3⟩ := h.ex
  exact .tup h1 (dpa_grid rs S h2 h3)
theorem nice_row {r : List Nat} {n w : Nat} (hl : r.length = w) (hw : w ≤ 10) (h : ∀ x ∈ r, x < n) (hn : n ≤ 200) : Nice 73 1 (rowD r) := by
  have h1 : ∀ d ∈ r.map (fun x : Nat => PyData.int (x : Int)), Nice 5 0 d := fun d hd => by
    obtain ⟨x, hx, rfl⟩ := List.mem_map.mp hd
    have := h x hx
    exact Nice.int (by omega) (by omega)
  exact (Nice.tup (n := 10) h1 (by rw [List.length_map]; omega)).mono (by decide) (by decide)
theorem nice_grid {S : Tab} {n w : Nat} (W : Wf S n w) (hw : w ≤ 10) (hn : n ≤ 100) : Nice 8000 2 (.tuple (S.map rowD)) := by
  have h1 : ∀ d ∈ S.map rowD, Nice 73 1 d := fun d hd => by
    obtain ⟨r, hr, rfl⟩ := List.mem_map.mp hd
    exact nice_row (W.wid r hr) hw (W.ent r hr) (by omega)
  exact (Nice.tup (n := 100) h1 (by rw [List.length_map, W.len]; exact hn)).mono (by decide) (by decide)
theorem nice_nats {B : List Nat} {n : Nat} (hl : B.length = n) (hn : n ≤ 100) (h : ∀ x ∈ B, x ≤ 200) : Nice 800 1 (.tuple (B.map fun x : Nat => PyData.int (x : Int))) := by
  have h1 : ∀ d ∈ B.map (fun x : Nat => PyData.int (x : Int)), Nice 5 0 d := fun d hd => by
    obtain ⟨x, hx, rfl⟩ := List.mem_map.mp hd
    have := h x hx
    exact Nice.int (by omega) (by omega)
  exact (Nice.tup (n := 100) h1 (by rw [List.length_map]; omega)).mono (by decide) (by decide)
end MA
namespace GL
open PySem PySem.Spec PyProof.Rows L2
section
variable {P : Program} {w : World} {K : PySem.W.Frag} {mg : Str → Option Value} {base : Heap}
/-- a def that may raise keeps its promise wherever no guard is under way -/
theorem okGX {x qual : Str} {st : Stmt} {f : Addr} {fd : FuncData} {N ps : List Str} {k : Nat} {sp : Sp} (F : Fun K x qual st f fd) (S : FnScope N ps (defScope st)) (len : ∀ vs H Q E, sp vs H Q E → vs.length = ps.length)
    (walk : ∀ (cdv : Value) (A : Around) (outer : List Env) (s : Shared) (H : Hp) (vs : List V) (Q : VK) (E : XK), Room k (A.deeper (envOfC qual (defScope st) s.heap.objs.size f cdv)) → Calm (A.deeper (envOfC qual (defScope st) s.heap.objs.size f cdv)) → sp vs H Q E →
      ∃ t, PSs (cxOf (L2.CX P w) P w K mg base N qual (defScope st) f cdv A outer s H E) (defBody st) t ∧ t { nx := fun _ H' => Q .non H', rt := Q } (start N vs) H) : FnG P w K mg base (L2.CX P w) (k + 1) f fd ps sp := by
  obtain ⟨oc, od, kV, doc, pm, an, cdv, ct, osl, rfl, lk, code⟩ := F.ex
  refine ⟨len, ?_⟩
  intro A outer s H args us vs Q E room calm e0 bnd rel want
  have long := len _ _ _ _ want
  have up : ∀ b o, base.get? b = some o → s.heap.get? b = some o := fun b o e => (e0.bs b o e).1
  have kin : K.In s.heap := e0.mod.kin.keeps up
  have lim : s.heap.NoLimit := e0.mod.nolimit.keeps up
  have kinds : ∀ y ∈ ps.zip us, (defScope st).names.lookup y.1 = some .local ∨ ((defScope st).names.lookup y.1 = some .cell ∧ ((cellsFrom (s.heap.objs.size + 1) (defScope st).names []).lookup y.1).isSome = true) := by
    rintro ⟨n, v⟩ hy
    exact (S.par n (List.of_mem_zip hy).1).imp id fun q => ⟨q, PySem.W.cellsFrom_some _ _ _ (.inl q)⟩
  refine codeAny_call_function room.depth (kin _ _ lk) rfl S.co S.gen rfl (PySem.W.codeRec_of kin code) (bnd _ _ _ _ (wpAny_newFunctionEnv_cells S.kind kinds ?_))
  rintro env rfl s1 x
  obtain ⟨t, deriv, reads⟩ := walk cdv A outer s H vs Q E (room.deeper _) (calm.deeper _) want
  have I : Inv (cxOf (L2.CX P w) P w K mg base N qual (defScope st) f cdv A outer s H E) [] (start N vs) H s1 := inv_start S room.hd e0 long rel x
  refine ⟨lim.keeps x.toInCall.keep, codeAny_func (wpAny_mono (deriv.run [] s1 (start N vs) H _ I reads) ?_ fun _ _ z => z)⟩
  intro fl s' hs
  match fl, hs with
  | .ret u, ⟨v, _, H', J, rv, q⟩ => exact ⟨v, H', J.os, J.bare, J.base, J.hok, rv, q⟩
  | .next, ⟨_, H', J, q⟩ => exact ⟨V.non, H', J.os, J.bare, J.base, J.hok, rfl, q⟩
  | .brk, ⟨_, _, _, q⟩ => exact q.elim
  | .cont, ⟨_, _, _, q⟩ => exact q.elim
end
section
variable {X : Cx} {CX : CXT} {k : Nat} {f C : Addr} {fd : FuncData} {ps : List Str} {sp : Sp} {ds : List Value} {dvs : List V} {E : L2.St → XK} {x : Str} {p pos : Pos} {e : Expr} {es : List Expr} {t : TA}
/-- a new instance whose __init__ may raise -/
def tMakeS (C : Addr) (sp : Sp) (E : L2.St → XK) (t : TA) : TE := fun σ H Q => t σ H fun vs H1 => ∀ x dx, H1 x = none → H1 dx = none → dx ≠ x →
  sp (.ref x :: vs) (upd (upd H1 dx (.own x)) x (.ins C dx [])) (fun v H2 => v = .non ∧ Q (.ref x) H2) (E σ)
theorem pe_makeS (M : Mk X.K C f) (F : FnG X.prog X.w X.K X.mg X.base CX k f fd ps sp) (hr : Room (k + 1) X.A) (hc : Calm X.A) (hg : Gl X x) (hm : X.mg x = some (.ref C)) (hb : Binds X.K fd ps []) (hx : ∀ σ, PassesAt CX X σ (E σ))
    (ha : PA X (e :: es) t) (hdb : (x == ("__debug__" : Str)) = false := by decide) (he : starEach (e :: es) X.env = (false, eval e X.env) :: starEach es X.env := by rfl) (hpl : (backTo pos (starEach es X.env)).any (·.1) = false := by rfl) :
    PE X (.Call (.Name x p) (e :: es) [] pos) (tMakeS C sp E t) := by
  constructor
  intro pins s σ H Q I h
  refine wpAny_Call_Name_kw (ld_glob I hg hm (PySem.W.callWith_K (h₀ := X.base) I.ok.mod.kin M.kp (thn (ha.run pos pins s σ H _ I h) ?_) he hpl) hdb)
  rintro us s1 ⟨vs, H1, I1, r, q⟩
  have r2 : Vals (V.ref (s1.heap.objs.size + 1) :: vs) (Value.ref (s1.heap.objs.size + 1) :: us) := .cons rfl r
  have q0 := q (s1.heap.objs.size + 1) s1.heap.objs.size (I1.hok.fresh (Nat.le_succ _)) (I1.hok.fresh (Nat.le_refl _)) (Nat.ne_of_lt (Nat.lt_succ_self _))
  have J := Inv.made (C := C) I1
  have bnd := fun s' X' => hb s' (Value.ref (s1.heap.objs.size + 1) :: us) X' (by rw [List.append_nil]; exact r2.length.symm.trans (F.len _ _ _ _ q0))
  have go := F.run _ X.stack _ _ ⟨Value.ref (s1.heap.objs.size + 1) :: us, []⟩ _ _ _ _ (hr.make C us []) (hc.make C us []) (J.env0.make C us []) (by have := bnd _ J.kIn; rw [List.append_nil] at this; exact this) r2 q0
  refine ⟨I1.kIn, wpAny_call (make_map (f := f) I1.kIn M.makes M.init (beq_iff_eq.mp M.fn) (codeAny_mono go fun r' s' q => ?_))⟩
  match r', q with
  | .error e, q => exact hx σ pins _ _ e s' J q
  | .ok (.ret u), q =>
    obtain ⟨v, H', I3, rv, ev, q3⟩ := J.after q
    cases ev
    exact ⟨rv, ⟨V.ref (s1.heap.objs.size + 1), H', I3, rfl, q3⟩⟩
end
end GL
namespace GX
open PySem PySem.Spec PyProof.Rows L2 PySem.W PySem.Calls PySem.HandSPX PySem.ESX Builtin Builtin.ObjectAttr
/-- the line of an own class that stands on one other own class, and that on Exception -/
abbrev two (B : Addr) : List Value := .ref B :: exTail
theorem two_has (B : Addr) (X : String) : (two B).contains (.type X) = exTail.contains (.type X) := by
  rw [List.contains_cons]
  rfl
section
variable {prog : Program} {w : World} {A : Around} {R : Result → Shared → Prop} {hp : Heap} {g : Array GenState} {d : Drawn} {t : Nat} {os : OsState}
theorem osa2 {K : W.Frag} {name : Str} {tk : Tok} {v : Value} {x C B : Addr} {fv : Array Value} {cd : ClassData}
    (kin : K.In hp) (at_ : hp.get? x = some { cls := .ref C, data := .fields fv })
    (known : W.clsIn K C = some cd) (line : cd.mro = .ref C :: two B) (own : cd.hasDict = true)
    (none_ : W.findIn K (.ref C) name = some none)
    (then_ : ∀ h' tk' dx, (∀ b o, b ≠ x → hp.get? b = some o → h'.get? b = some o) → hp.objs.size ≤ dx → dx ≠ x →
      h'.get? x = some { cls := .ref C, dict := some dx, data := .fields fv } →
      h'.Ns1 dx (fun y => if y = name then some v else none) → R (.ok (.ret .none)) ⟨h', g, d, tk', os⟩) :
    codeAny (model prog w) A (.call (.builtin "object.__setattr__") ⟨[.ref x, .str name tk, v], []⟩) R ⟨hp, g, d, t, os⟩ := by
  have inst : W.InstAt hp x { cls := .ref C, data := .fields fv } C none := ⟨at_, rfl, rfl, trivial⟩
  have apart : x ≠ hp.objs.size := Nat.ne_of_lt (Heap.lt_size at_)
  have facts := F.store_object
  have obj : W.mroIn K C (.type "object") = some true := by
    unfold W.mroIn
    rw [known, Option.bind_some, line]
    rfl
  have is_ : W.Looks (model prog w) hp (isInstance (.ref x) (.type "object")) true :=
    inst.type.andThen (W.looks_mroIn kin obj)
  refine codeAny_call_builtin facts.slot.plain facts.entry
    (@W.check_slot (model prog w) _ _ ⟨hp, g, d, t, os⟩ "object.__setattr__" "object" "__setattr__" (.ref x)
      [.str name tk, v] [] _ facts.kind facts.split is_ (facts.args (.ref x) (.str name tk) v) ?_)
  have up : W.Looks (model prog w) hp (mroOf (.ref C)) cd.mro := (W.looks_clsIn kin known).andThen .now
  have taker : W.Looks (model prog w) hp (storeTaker? none) none := .now
  have quiet : refuseLoop (.ref x) "__setattr__" cd.mro = pure () := by
    rw [line, refuseLoop_ref, refuseLoop_ref]
    exact F.store_Exception.passes _
  rw [W.osa_eq, refuse_eq]
  refine wpAny_bind (wpAny_bind (inst.type.at (wpAny_bind (up.at ?_))))
  rw [quiet]
  refine wpAny_pure (wpAny_bind (inst.type.at
    (wpAny_bind ((W.looks_findIn kin none_).at (wpAny_bind (taker.at ?_))))))
  show wpAny _ _ (storeInOwnDict (.ref x) (.ref C) (.str name tk) name v false) _ _ _
  have cls_ : W.Looks (model prog w) hp (classData C) cd := W.looks_clsIn kin known
  rcases cd with ⟨c1, c2, c3, c4, c5, c6, c7, c8, c9, c10, c11⟩
  replace own : c6 = true := own
  cases own
  unfold storeInOwnDict ownDictForStores
  repeat (first
    | with_reducible refine HandSPX.store_in_new ?_ ?_
    | with_reducible refine wpAny_loadPart_at at_ ?_
    | with_reducible refine cls_.at ?_
    | wp_step)
  · exact ⟨_, #[], _, (Heap.get?_update_ne _ _ _ _ apart.symm).trans
      (Heap.get?_push_at rfl rfl), rfl, fun e he => absurd he (by simp), fun _ => rfl⟩
  · intro h' tk' named same
    have still : (hp.push { cls := .type "dict", data := .dict #[] }).get? x =
      some { cls := .ref C, data := .fields fv } := Heap.get?_push_of_some _ at_
    refine then_ h' tk' hp.objs.size (fun b o hb ho => ?_) (Nat.le_refl _) apart.symm ?_ named
    · exact (same.2 b (Nat.ne_of_lt (Heap.lt_size ho))).trans
        ((Heap.get?_update_ne _ _ _ _ hb).trans (Heap.get?_push_of_some _ ho))
    · exact (same.2 x apart).trans (Heap.get?_update_self _ still rfl)
end
end GX
namespace GX
open PySem PySem.Spec PyProof.Rows L2 GL
/-- what the written part says of an own error at C, over the own one at B -/
structure OexE (K : PySem.W.Frag) (C B : Addr) : Prop where
  cls : ∃ nm q N bs sn sub ab col dd k0 k1 k2 k3 k5,
    K.lookup C = some (excClassObj nm q C N bs (two B) true sn sub ab col dd k0 k1 k2 k3 k5 "Exception.__new__")
  sa : PySem.W.findIn K (.ref C) "__setattr__" = some (some (.builtin "object.__setattr__"))
  base : PySem.W.subIn K (.ref C) (.type "BaseException") = some true
  type : PySem.W.typeIn K (.ref C) = some (.type "type")
  kept : PySem.W.keepIn K (.ref C) = true
theorem known {K : PySem.W.Frag} {C B : Addr} (T : OexE K C B) : ∃ cd : ClassData, PySem.W.clsIn K C = some cd ∧ cd.mro = .ref C :: two B ∧ cd.hasDict = true := by
  obtain ⟨nm, q, N, bs, sn, sub, ab, col, dd, k0, k1, k2, k3, k5, at_⟩ := T.cls
  refine ⟨{ name := nm, bases := bs, mro := .ref C :: two B, ns := N, qualname := q, hasDict := true, slotNames := sn, subclasses := sub, «abstract» := ab, collection := col, hasDel := false }, ?_, rfl, rfl⟩
  unfold PySem.W.clsIn
  rw [at_]
section
variable {X : Cx} {pins : List (Addr × Obj)} {σ : L2.St} {H : Hp} {s : Shared} {a C B dx : Addr} {f : Str} {y : V} {u : Value} {fs : List (Str × V)} {E : Value → Shared → Prop} {A : Around}
theorem put_first {Q : Unit → Shared → Prop} (T : OexE X.K C B) (I : Inv X pins σ H s) (e : H a = some (exo a C none))
    (hno : PySem.W.findIn X.K (.ref C) f = some none) (ry : RelV y u)
    (h : ∀ dx s', H dx = none → dx ≠ a → Inv X pins σ (upd (upd H dx (exd dx [(f, y)])) a (exo a C (some dx))) s' → Q () s') :
    wpAny (model X.prog X.w) A (setAttr (.ref a) f u) Q E s := by
  obtain ⟨cd, c1, c2, c3⟩ := known T
  obtain ⟨t1, old⟩ := exo_at I.hok e
  obtain ⟨hp, g, d, t, os⟩ := s
  refine PySem.W.set_plain I.kIn (od := none)
    (ox := { cls := .ref C, dict := none, data := .fields #[.ref t1, .none, .none, .none, .bool false, .none] })
    ⟨old, rfl, rfl, trivial⟩ T.sa ?_
  refine osa2 I.kIn old c1 c2 c3 hno (fun h' tk' dx keep new apart now named => ?_)
  have free : H dx = none := I.hok.fresh new
  have early : ∀ {b : Addr} {o : Obj}, hp.get? b = some o → b ≠ dx :=
    fun {b o} q => Nat.ne_of_lt (Nat.lt_of_lt_of_le (Heap.lt_size q) new)
  have off : ∀ {b : Addr}, H b = none → b ≠ a := fun {b} n z => by
    rw [z] at n
    exact nomatch e.symm.trans n
  refine h dx _ free apart (I.un (t' := tk') ?_ ?_)
  · constructor
    · exact fun b o q n _ _ => keep b o (off n) q
    · exact fun b o q n _ _ => ⟨o.slots, keep b o (off n) q⟩
    · intro b o q n _
      rw [upd_ne (off n), upd_ne (early q)]
      exact n
    · intro b o q _
      by_cases same : b = a
      · rw [same]
        exact ⟨_, now⟩
      · exact ⟨o, keep b o same q⟩
    · intro b xs q
      rw [upd_ne (at_ne e q exo_tup), upd_ne (ne_of_none q free)]
      exact q
    · intro b o v q
      rw [upd_ne (at_ne e q exo_frz), upd_ne (ne_of_none q free)]
      exact q
    · intro b ps q
      refine ⟨#[], ?_⟩
      rw [upd_ne (at_ne e q exo_tbl), upd_ne (ne_of_none q free), q]
      simp
  · intro b o q
    by_cases isA : b = a
    · subst isA
      rw [upd_same] at q
      cases q
      exact exo_ok now
    rw [upd_ne isA] at q
    by_cases isD : b = dx
    · subst isD
      rw [upd_same] at q
      cases q
      exact exd_ok named (relO_put (fs := []) ry fun g => True.intro)
    rw [upd_ne isD] at q
    refine (I.hok b o q).stay (fun c v hc z => keep c v ?_ z) (fun c hc => ?_) (fun c xs hc => ?_)
    · rcases hc with hc | hc
      · rw [hc]
        exact isA
      · exact at_ne e hc exo_own
    · rw [upd_ne (at_ne e hc exo_own), upd_ne (ne_of_none hc free)]
      exact hc
    · rw [upd_ne (at_ne e hc exo_tup), upd_ne (ne_of_none hc free)]
      exact hc
/-- Exception.__init__(self, ..): nothing of it is told -/
theorem base_init {us : List Value} {Q : Value → Shared → Prop} (T : OexE X.K C B) (I : Inv X pins σ H s) (e : H a = some (exo a C none))
    (hl : us.length ≤ sizeLine) (h : ∀ s', Inv X pins σ H s' → Q .none s') :
    wpAny (model X.prog X.w) A (call (.builtin "Exception.__init__") (.ref a :: us)) Q E s := by
  obtain ⟨nm, q, N, bs, sn, sub, ab, col, dd, k0, k1, k2, k3, k5, at_⟩ := T.cls
  obtain ⟨t1, old⟩ := exo_at I.hok e
  obtain ⟨hp, g, d, t, os⟩ := s
  refine wpAny_call (PySem.HandSPX.init_base F.excBase_Exception (two_has B) (I.kIn _ _ at_) old hl fun h' t2 keep now => ?_)
  have next := I.write (t' := t) (x := a) (e := a) (o := exo a C none) (by rw [e]; exact True.intro) (.inl rfl) keep ⟨_, now⟩ (exo_ok now)
  have as_is : upd H a (exo a C none) = H := funext fun b => by
    by_cases same : b = a
    · rw [same, upd_same, e]
    · rw [upd_ne same]
  rw [as_is] at next
  exact h _ next
end
/-- Base.__init__(self, ..), Base an own class that has no __init__ of its own -/
def tBase (K : PySem.W.Frag) (ta : TA) : TE := fun σ H Q => ta σ H fun vs H1 => ∃ (a C B : Addr) (ws : List V), vs = .ref a :: ws ∧ ws.length ≤ 1000 ∧ OexE K C B ∧ H1 a = some (exo a C none) ∧ Q .non H1
/-- self.f = e, the first one -/
def tPut (K : PySem.W.Frag) (f : Str) (to te : TE) : TS := fun D σ H => te σ H fun y H1 => to σ H1 fun x H2 => ∃ a C B : Addr, x = .ref a ∧ OexE K C B ∧ PySem.W.findIn K (.ref C) f = some none ∧
  H2 a = some (exo a C none) ∧ ∀ dx, H2 dx = none → dx ≠ a → D.nx σ (upd (upd H2 dx (exd dx [(f, y)])) a (exo a C (some dx)))
section
variable {X : Cx} {o e : Expr} {es : List Expr} {to te : TE} {ta : TA} {f : Str} {p p' p1 p2 pos : Pos} {B : Addr} {x : Str}
theorem pe_base {pl : Sem Bool} (hg : Gl X x) (hm : X.mg x = some (.ref B))
    (ga : PySem.W.specialIn X.K (.ref B) "__getattribute__" = some (some (.builtin "type.__getattribute__"))) (rd : PySem.W.readsIn X.K B (.type "type") = true)
    (fi : PySem.W.findCls X.K (.ref B) (.type "type") "__init__" = some (.val (.builtin "Exception.__init__"))) (ha : PA X (e :: es) ta)
    (hd : (x == ("__debug__" : Str)) = false := by decide)
    (hc : eval (.Call (.Attribute (.Name x p1) "__init__" p2) (e :: es) [] pos) X.env = (eval (.Name x p1) X.env >>= fun ov => standAt p2.atName >>= fun _ =>
      holding [ov] (getMethod ov "__init__" pl) >>= fun fx => callWith pos fx.1 fx.2 (backTo pos (starEach (e :: es) X.env)) (backToKw pos (keywordEach [] X.env))) := by rfl)
    (he : starEach (e :: es) X.env = (false, eval e X.env) :: starEach es X.env := by rfl) (hpl : (backTo pos (starEach es X.env)).any (·.1) = false := by rfl) :
    PE X (.Call (.Attribute (.Name x p1) "__init__" p2) (e :: es) [] pos) (tBase X.K ta) := by
  constructor
  intro pins s σ H Q I h
  refine PySem.W.methodCall_KW (pl := pl) (ld_glob I hg hm ?_ hd) hc
  refine PySem.W.method_cls I.kIn ga (PySem.W.cls_value I.kIn rd fi (by decide +kernel) ?_)
  show wpAny _ _ (callWith pos (Value.builtin "Exception.__init__") [] (backTo pos (starEach (e :: es) X.env)) []) _ _ _
  refine PyProof.Rows.callWith_method1 (thn (ha.run pos pins _ σ H _ (I.tok _) h) ?_) he hpl
  rintro us s1 ⟨vs, H1, I1, r1, a, C, B', ws, rfl, hl, T, ea, q⟩
  cases r1 with
  | @cons _ u0 _ ur ra rest =>
    obtain rfl : u0 = Value.ref a := ra
    refine base_init T I1 ea ?_ fun s' J => ⟨.non, H1, J, rfl, q⟩
    rw [← rest.length]
    exact Nat.le_trans hl (small (by decide))
theorem ps_put (ho : PE X o to) (he : PE X e te) (hs : swapsWith e (some (.Attribute o f p')) pos.line X.env = pure false := by rfl) : PS X (.Assign [.Attribute o f p'] e pos) (tPut X.K f to te) := by
  constructor
  intro pins s σ H D I h
  refine plainObj_wpAny_Assign_Attribute (thn (he.run pins s σ H _ I h) ?_) hs
  rintro v s1 ⟨y, H1, I1, r1, q1⟩
  refine thn (ho.run pins s1 σ H1 _ I1 q1) ?_
  rintro u s2 ⟨x, H2, I2, r2, a, C, B, rfl, T, hno, ea, q⟩
  obtain rfl : u = Value.ref a := r2
  exact put_first T I2 ea hno r1 fun dx s' n ne J => ⟨σ, _, J, q dx n ne⟩
/-- C(e, ..), C's own __init__ keeping sp -/
theorem pmkE {CX : CXT} {C fI : Addr} {k : Nat} {fd : FuncData} {ps : List Str} {sp : Sp} (T : OexE X.K C B) (iC : PySem.W.findIn X.K (.ref C) "__init__" = some (some (.ref fI)))
    (tI : PySem.W.typeIn X.K (.ref fI) = some (.type "function")) (F1 : FnG X.prog X.w X.K X.mg X.base CX k fI fd ps sp) (hr : Room (k + 1) X.A) (hcalm : Calm X.A) (hb : Binds X.K fd ps [])
    (hx : Passes CX X (fun _ _ _ => False)) (hg : Gl X x) (hm : X.mg x = some (.ref C)) (ha : PA X (e :: es) ta) (hdb : (x == ("__debug__" : Str)) = false := by decide)
    (he : starEach (e :: es) X.env = (false, eval e X.env) :: starEach es X.env := by rfl) (hpl : (backTo pos (starEach es X.env)).any (·.1) = false := by rfl) :
    PMk X (.Call (.Name x p) (e :: es) [] pos) (tMkO C sp [] ta) := by
  intro pins s σ H Q I h
  obtain ⟨nm, q, N, bs, sn, sub, ab, col, dd, k0, k1, k2, k3, k5, at_⟩ := T.cls
  refine wpAny_Call_Name_kw (ld_glob I hg hm (PySem.W.callWith_K (h₀ := X.base) I.ok.mod.kin T.kept (thn (ha.run pos pins s σ H _ I h) ?_) he hpl) hdb)
  rintro us s1 ⟨vs, H1, I1, r1, hz, q1⟩
  refine ⟨I1.kIn, ?_⟩
  show wpAny _ _ (call (.ref C) us) _ _ _
  obtain ⟨hp, g, dr, tk, os⟩ := s1
  have step : hp.objs.size ≤ hp.objs.size + 1 := Nat.le_succ _
  have free : H1 (hp.objs.size + 1) = none := I1.hok.fresh step
  have want := q1 (hp.objs.size + 1) free
  rw [List.append_nil] at want
  have keep : ∀ b o, hp.get? b = some o → ((hp.push (PySem.W.kdv_tup us)).push (PySem.HandSPX.excO C hp.objs.size)).get? b = some o :=
    fun b o e => Heap.get?_push_of_some _ (Heap.get?_push_of_some _ e)
  have there : ((hp.push (PySem.W.kdv_tup us)).push (PySem.HandSPX.excO C hp.objs.size)).get? (hp.objs.size + 1) =
    some (PySem.HandSPX.excO C hp.objs.size) := by heap_get
  have I2 : Inv X pins σ (upd H1 (hp.objs.size + 1) (exo (hp.objs.size + 1) C none))
      ⟨(hp.push (PySem.W.kdv_tup us)).push (PySem.HandSPX.excO C hp.objs.size), g, dr, tk, os⟩ :=
    I1.laid (t' := tk) (a := hp.objs.size + 1) (o := exo (hp.objs.size + 1) C none) keep step (exo_ok there)
  have r2 : Vals (V.ref (hp.objs.size + 1) :: vs) (Value.ref (hp.objs.size + 1) :: us) := .cons rfl r1
  have many : (Value.ref (hp.objs.size + 1) :: us).length = ps.length := r2.length.symm.trans (F1.len _ _ _ _ want)
  have few : us.length ≤ sizeLine := by
    rw [← r1.length]
    exact Nat.le_trans hz (small (by decide))
  have bnd := hb ⟨(hp.push (PySem.W.kdv_tup us)).push (PySem.HandSPX.excO C hp.objs.size), g, dr, tk, os⟩ (Value.ref (hp.objs.size + 1) :: us) I2.kIn (by rw [List.append_nil]; exact many)
  rw [List.append_nil] at bnd
  have go := F1.run _ X.stack _ _ ⟨Value.ref (hp.objs.size + 1) :: us, []⟩ _ _ _ (fun _ _ _ => False) (hr.make C us []) (hcalm.make C us []) (I2.env0.make C us []) bnd r2 want
  refine wpAny_call (PySem.HandSPX.call_own F.excBase_Exception (two_has B) (I1.kIn _ _ at_) (PySem.W.looks_findIn I1.kIn iC)
    (fun self => PySem.W.bind_fn I1.kIn self tI) few (codeAny_mono go fun r s' got => ?_))
  match r, got with
  | .error er, got => exact hx pins σ _ _ er s' I2 got
  | .ok (.ret u), got =>
    obtain ⟨v, H2, os2, bare2, un2, hok2, rv, rfl, d, fs, ea, ed, hd1, q2⟩ := got
    obtain ⟨h2, g2, d2, t2, os'⟩ := s'
    exact ⟨rv, mk_end (raises_own T.base T.type) I1 step keep un2 hok2 os2 bare2 ea ed hd1 q2⟩
end
end GX
namespace GX
open PySem PySem.Spec PyProof.Rows L2 GL
/-- what is asked of a held error of the class at C -/
structure HeldE (K : PySem.W.Frag) (C : Addr) : Prop where
  some_ : (PySem.W.clsIn K C).isSome = true
  ga : PySem.W.findIn K (.ref C) "__getattribute__" = some (some (.builtin "BaseException.__getattribute__"))
  gg : PySem.W.findIn K (.ref C) "__getattr__" = some none
  base : PySem.W.subIn K (.ref C) (.type "BaseException") = some true
  own : PySem.W.hasDictIn K C = true
  cl : PySem.W.findIn K (.ref C) "__class__" = some (some (.builtin "object.__class__"))
  get : PySem.W.specialIn K (.builtin "object.__class__") "__get__" = some (some (.builtin "getset_descriptor.__get__"))
  tk : PySem.W.takesIn K (.builtin "object.__class__") = some true
  obj : PySem.W.mroIn K C (.type "object") = some true
theorem kit_same {K : PySem.W.Frag} {C : Addr} : PySem.W.kitOne K (.ref C) (.ref C) = some true := by
  unfold PySem.W.kitOne
  exact if_pos (by first | exact beq_self_eq_true _ | rfl | simp | decide)
section
variable {X : Cx} {C a : Addr} {oe : Obj} {cls : Value} {d : Option Addr} {pn : List (Addr × Obj)} {e : Expr} {te : TE} {pos : Pos} {f : Str}
theorem held_at {pins : List (Addr × Obj)} {σ : L2.St} {H : Hp} {s : Shared} {dd : Addr} {fs : List (Str × V)} (hz : Zc (.ref C) (some dd) oe) (hf : ∃ vs, oe.data = .fields vs)
    (I : Inv (X.suite a ((a, oe) :: pn)) pins σ H s) (ea : H dd = some (.xd fs)) :
    ∃ od : Obj, PySem.W.InstAt s.heap a oe C (some od) ∧ ∀ g : Str, ∃ o, PySem.W.lookIn g od = some o ∧ RelO (fs.lookup g) o := by
  obtain ⟨at_, _⟩ := I.pin (a, oe) (List.mem_append_left _ List.mem_cons_self)
  obtain ⟨vs, hd⟩ := hf
  have there : ObjOk X.prog X.w H s.heap dd (.xd fs) := I.hok dd _ ea
  obtain ⟨mA, hns, hr⟩ := there
  obtain ⟨od, ho, hl⟩ := lookIn_ns hns
  exact ⟨od, ⟨at_, hz.1, by unfold PySem.W.notCls; rw [hd] <;> rfl, by rw [hz.2]; exact ho⟩, fun g => ⟨_, hl _, hr g⟩⟩
/-- e.f, e the error that the suite holds -/
def tHeld (C : Addr) (f : Str) (a : Addr) (cls : Value) (d : Option Addr) (te : TE) : TE := fun σ H Q => te σ H fun x H1 => x = .ref a ∧ cls = .ref C ∧
  ∃ (dd : Addr) (fs : List (Str × V)) (v : V), d = some dd ∧ H1 dd = some (.xd fs) ∧ fs.lookup f = some v ∧ Q v H1
theorem pe_held (T : HeldE X.K C) (no : PySem.W.findIn X.K (.ref C) f = some none) (hz : Zc cls d oe) (hf : ∃ vs, oe.data = .fields vs) (he : PE (X.suite a ((a, oe) :: pn)) e te)
    (hb : attributeBase e f X.env (eval e X.env) = eval e X.env := by rfl) :
    PE (X.suite a ((a, oe) :: pn)) (.Attribute e f pos) (tHeld C f a cls d te) := by
  constructor
  intro pins s σ H Q I h
  refine attr_of hb (thn (he.run pins s σ H _ I h) ?_)
  rintro u s1 ⟨x, H1, I1, rx, rfl, rfl, dd, fs, v, rfl, ea, el, q⟩
  obtain rfl : u = Value.ref a := rx
  obtain ⟨od, J, hl⟩ := held_at hz hf I1 ea
  obtain ⟨o, h1, h2⟩ := hl f
  rw [el] at h2
  obtain ⟨u, hu, ru⟩ := RelO.some_of (v := v) (o := o) h2
  exact HandSPX.exc_get I1.kIn J T.ga T.gg T.base (PySem.W.findObj_own T.own no rfl (by rw [h1, hu])) (handed_of ru) ⟨v, H1, I1.tok _, ru, q⟩
/-- isinstance(e, C), e the error that the suite holds, of just this class -/
theorem call_isE (T : HeldE X.K C) (hz : Zc cls d oe) (hf : ∃ vs, oe.data = .fields vs) : CallR (X.suite a ((a, oe) :: pn)) (.builtin "isinstance") (fun xs H Q => xs = [.ref a, .ref C] ∧ cls = .ref C ∧
    (∃ (dd : Addr) (fs : List (Str × V)), d = some dd ∧ H dd = some (.xd fs)) ∧ Q (.bl true) H) := by
  intro pins s σ H xs us Q I r h
  obtain ⟨rfl, rfl, ⟨dd, fs, rfl, ea⟩, q⟩ := h
  obtain ⟨u, w', rfl, ru, rw'⟩ := vals2 r
  obtain rfl : u = Value.ref a := ru
  obtain rfl : w' = Value.ref C := rw'
  obtain ⟨od, J, _⟩ := held_at hz hf I ea
  exact PySem.W.kia_one (PySem.W.kitx_exc T.some_ T.ga T.gg T.base T.cl T.get T.tk T.obj) I.kIn J kit_same (fun z => nomatch z) fun tk => ⟨.bl true, H, I.tok _, rfl, q⟩
end
end GX
namespace GX
open PySem PySem.Spec PyProof.Rows L2 PySem.W PySem.Calls GL
/-! ### C.m(..), a static method that may raise, within a try -/
section
variable {X : Cx} {CX : CXT} {k : Nat} {f C : Addr} {fd : FuncData} {ps : List Str} {sp : Sp} {E : L2.St → XK} {x m : Str} {e : Expr} {es : List Expr} {t : TA} {p pos apos : Pos}
def tStatS (sp : Sp) (E : L2.St → XK) (t : TA) : TE := fun σ H Q => t σ H fun vs H1 => sp vs H1 Q (E σ)
theorem pe_statGS {pl : Sem Bool} (S : G3.StatM X.K C m f) (F : FnG X.prog X.w X.K X.mg X.base CX k f fd ps sp) (hb : Binds X.K fd ps []) (hr : Room k X.A) (hc : Calm X.A) (hx : ∀ σ, PassesAt CX X σ (E σ)) (hg : Gl X x) (hm : X.mg x = some (.ref C)) (ha : PA X (e :: es) t) (hdb : (x == ("__debug__" : Str)) = false := by decide)
    (hst : starEach (e :: es) X.env = (false, eval e X.env) :: starEach es X.env := by rfl) (hpl : (backTo pos (starEach es X.env)).any (·.1) = false := by rfl)
    (ht : eval (.Call (.Attribute (.Name x p) m apos) (e :: es) [] pos) X.env = (eval (.Name x p) X.env >>= fun ov => standAt apos.atName >>= fun _ => holding [ov] (getMethod ov m pl) >>= fun fx =>
      callWith pos fx.1 fx.2 (backTo pos (starEach (e :: es) X.env)) (backToKw pos (keywordEach [] X.env))) := by rfl) :
    PE X (.Call (.Attribute (.Name x p) m apos) (e :: es) [] pos) (tStatS sp E t) := by
  constructor
  intro pins s σ H Q I h
  refine PySem.W.methodCall_KW (pl := pl) (ld_glob I hg hm ?_ hdb) ht
  refine G3.getstat I S fun s1 I1 => ?_
  refine PySem.W.callWith_K (first := []) (h₀ := X.base) I1.ok.mod.kin S.kp (thn (ha.run pos pins s1 σ H _ I1 h) ?_) hst hpl
  rintro us s2 ⟨vs, H2, I2, r, q2⟩
  have long : us.length = ps.length := r.length.symm.trans (F.len _ _ _ _ q2)
  refine ⟨I2.kIn, wpAny_call (codeAny_mono (F.run X.A X.stack s2 H2 ⟨us, []⟩ us vs Q (E σ) hr hc I2.env0 (by have := hb s2 us I2.kIn (by rw [List.append_nil]; exact long); rw [List.append_nil] at this; exact this) r q2) fun r' s' z => ?_)⟩
  match r', z with
  | .error _, z => exact hx σ pins _ _ _ s' I2 z
  | .ok (.ret _), z => exact I2.after z
end
end GX
namespace GX
open PySem PySem.Spec PyProof.Rows L2 PySem.W
/-! ### try: .. except C as n: .. and more clauses, where C takes whatever the body may raise -/
/-- what the first clause asks of an error of the body; the clauses behind it are never reached -/
def wOne (K : PySem.W.Frag) (c : Value) (i : Nat) (ts : Addr → Value → Option Addr → TS) (D : Ends) : WX := fun cls d σ H =>
  PySem.W.exmOne K cls c = some true ∧ ∀ a, H a = none → ts a cls d { nx := fun τ G => D.nx (τ.set i none) G, rt := D.rt, bk := fun τ G => D.bk (τ.set i none) G, ct := fun τ G => D.ct (τ.set i none) G } (σ.set i (some (.ref a))) H
section
variable {X : Cx} {x n : Str} {c : Value} {i : Nat} {body suite : List Stmt} {b₀ : Stmt} {hds : List ExceptHandler} {np pos pos' : Pos} {tb : WX → TS} {ts : Addr → Value → Option Addr → TS}
theorem ps_try_first (hs : X.stack = X.env :: X.outer) (hf : X.env.frame = some X.env.locals) (hN : X.N.Nodup) (hi : X.N[i]? = some n) (hln : X.env.kindOf n = some .local) (hc : Names X x c)
    (hb : ∀ (W : WX) (pn : List (Addr × Obj)) (xe : Value → Shared → Prop), Takes (X.tr pn xe) W → PassesOwn (model X.prog X.w) X.A X.env xe → PSs (X.tr pn xe) body (tb W))
    (hsu : ∀ (a : Addr) (oe : Obj) (cls : Value) (d : Option Addr) (pn : List (Addr × Obj)), Zc cls d oe → (∃ vs, oe.data = .fields vs) → PSs (X.suite a ((a, oe) :: pn)) (b₀ :: suite) (ts a cls d)) :
    PS X (.Try body (.ExceptHandler (some (.Name x np)) (some n) (b₀ :: suite) pos' :: hds) [] [] pos) (fun D σ H => tb (wOne X.K c i ts D) D σ H) := by
  refine ⟨fun pins s0 σ0 H0 D I0 h0 => wpAny_Try_except (wpAny_mono ((hb (wOne X.K c i ts D) (X.pn ++ pins) (fun e t1 => wpAny (model X.prog X.w) X.A (noteFrame e X.env) (fun _ t2 => wpAny (model X.prog X.w) X.A (setFlight e none) (fun _ t3 =>
    wpAny (model X.prog X.w) X.A (handleBy e X.env (.ExceptHandler (some (.Name x np)) (some n) (b₀ :: suite) pos' :: hds)) (SP X pins D) X.xe t3) X.xe t2) X.xe t1) (fun u s' err => ?_) PassesOwn.looking).run [] s0 σ0 H0 D (I0.toTry _) h0) (fun fl s1 done => ?_) fun _ _ z => z)⟩
  · have ok := I0.ok
    obtain ⟨a, B, sI, _, σ, H, cls, d, rfl, J', nb, up, sky, na, os, ag, hit, goes⟩ := err
    have J : Inv X pins σ H sI := J'.ofTry ok
    rw [hs] at sky
    refine Sky.land Zc.steady (by rw [ok.frames, hs]) hf sky fun h3 fl3 up3 => ?_
    have J3 : Inv X pins σ H { s' with heap := h3 } := J.landed nb fl3.1 (up.trans up3) os ag
    obtain ⟨oe, _, he, hz, hd⟩ := fl3.there
    have out : a ∉ frs (X.env :: X.outer) := fun m => by
      obtain ⟨_, o', e', no⟩ := fl3.2.2.1.mem m
      rw [he] at e'
      cases e'
      exact no _ hd
    have nL : a ≠ X.env.locals := fun z => out (List.mem_filterMap.mpr ⟨X.env, List.mem_cons_self, by rw [hf, z]⟩)
    have nF : a ∉ X.fs := fun m => by
      obtain ⟨e, me, q⟩ := List.mem_filterMap.mp m
      exact out (List.mem_filterMap.mpr ⟨e, List.mem_cons_of_mem _ me, q⟩)
    have S3 := J3.suite he hd na nL nF
    refine wpAny_handleBy_cons (codeAny_handlers_test ?_) (by intro q; cases q)
    have see := PySem.W.exm_one (M := model X.prog X.w) J3.kIn (fun A Q E s k q => wpAny_typeOf_ref (k _ _ he) (by rw [hz.1]; exact q)) hit
    have name : ∀ {Q E : Value → Shared → Prop}, Q c { s' with heap := h3 } → wpAny (model X.prog X.w) (X.A.mark (some (.ref a))) (eval (.Name x np) X.env) Q E { s' with heap := h3 } := fun {Q E} q => by
      obtain ⟨hg, dbg, m | ⟨m, v, nn⟩⟩ := hc
      · exact ld_glob (X := X.suite a ((a, oe) :: (X.pn ++ pins))) S3 hg m q dbg
      · exact ld_blt (X := X.suite a ((a, oe) :: (X.pn ++ pins))) S3 hg m v q nn dbg
    refine name (see.here (codeAny_handlers_suite_as (HandSPX.lands_againZ fl3 fun h4 fl4 up4 => ?_)))
    obtain ⟨o4, _, e4, z4, d4⟩ := fl4.there
    have J4 : Inv X pins σ H { s' with heap := h4 } := J.landed nb fl4.1 ((up.trans up3).trans up4) os ag
    have S4 := J4.suite e4 d4 na nL nF
    refine store_ok (X := X.suite a ((a, o4) :: (X.pn ++ pins))) (v := .ref a) S4 hN hi (.inl hln) rfl (fun s5 S5 => wpAny_mono ((hsu a o4 cls d (X.pn ++ pins) z4 ⟨_, d4⟩).run [] s5 _ H _ S5 (goes a na)) (fun fl s6 q => ?_) fun _ _ z => False.elim z) (.inr hln)
    have gone : ∀ {τ : L2.St} {G : Hp} {Q : Shared → Prop}, Inv (X.suite a ((a, o4) :: (X.pn ++ pins))) [] τ G s6 → (∀ s7, Inv X pins (τ.set i none) G s7 → Q s7) →
      wpAny (model X.prog X.w) X.A (do bindName X.env n .none; unbindBehindTheSuite X.env n pos') (fun _ s7 => Q s7) X.xe s6 := fun S6 k => gone_ok (S6.unsuite ok) hN hi hln k
    match fl, q with
    | .next, ⟨_, _, S6, q⟩ => exact gone S6 fun _ J7 => ⟨_, _, J7, q⟩
    | .brk, ⟨_, _, S6, q⟩ => exact gone S6 fun _ J7 => ⟨_, _, J7, q⟩
    | .cont, ⟨_, _, S6, q⟩ => exact gone S6 fun _ J7 => ⟨_, _, J7, q⟩
    | .ret u, ⟨_, _, _, S6, r, q⟩ => exact gone S6 fun _ J7 => ⟨_, _, _, J7, r, q⟩
  · have ok := I0.ok
    match fl, done with
    | .next, ⟨_, _, J, q⟩ => exact wpAny_execs_nil ⟨_, _, J.ofTry ok, q⟩
    | .brk, ⟨_, _, J, q⟩ => exact ⟨_, _, J.ofTry ok, q⟩
    | .cont, ⟨_, _, J, q⟩ => exact ⟨_, _, J.ofTry ok, q⟩
    | .ret u, ⟨_, _, _, J, r, q⟩ => exact ⟨_, _, _, J.ofTry ok, r, q⟩
end
end GX
namespace GL
open PySem PySem.Spec PyProof.Rows L2 PySem.W PySem.Calls
/-! ### text * int -/
def repS (z : Str) (n : Int) : Str := if n < 1 then Str.empty else if (n == 1 || z.length == 0) = true then z else ⟨(List.replicate n.toNat z.cps).foldl (· ++ ·) #[]⟩
theorem fold_cat : ∀ (l : List (Array Nat)) (a : Array Nat), (l.foldl (· ++ ·) a).toList = a.toList ++ (l.map Array.toList).flatten
  | [], a => by simp
  | b :: r, a => by
    show (r.foldl (· ++ ·) (a ++ b)).toList = _
    rw [fold_cat r (a ++ b)]
    simp
theorem repS_list (z : Str) (n : Int) : (repS z n).cps.toList = (List.replicate n.toNat z.cps.toList).flatten := by
  unfold repS
  by_cases h : n < 1
  · rw [if_pos h, show n.toNat = 0 by omega]; rfl
  · rw [if_neg h]
    by_cases h2 : (n == 1 || z.length == 0) = true
    · rw [if_pos h2]
      rcases Bool.or_eq_true_iff.mp h2 with e | e
      · rw [show n = 1 from by simpa using e]
        simp
      · have h0 : z.length = 0 := by simpa using e
        have e0 : z.cps.toList = [] := List.eq_nil_of_length_eq_zero (by rw [Array.length_toList]; exact h0)
        rw [e0]
        simp
    · rw [if_neg h2]
      show ((List.replicate n.toNat z.cps).foldl (· ++ ·) #[]).toList = _
      rw [fold_cat]
      simp
theorem repS_len (z : Str) (n : Int) : (repS z n).length = n.toNat * z.length := by
  have h := congrArg List.length (repS_list z n)
  rw [List.length_flatten, List.map_replicate, List.sum_replicate_nat] at h
  exact (Array.length_toList ..).symm.trans (h.trans (by rw [Array.length_toList]; rfl))
section
variable {X : Cx}
theorem op_repS : OpR X (binaryOp .Mult) (fun x y H Q => ∃ z n, x = .str z ∧ y = .int n ∧ 0 ≤ n ∧ n ≤ 10000 ∧ z.length ≤ 1000 ∧ Q (.str (repS z n)) H) := by
  intro pins s σ H x y v u Q I rx ry h
  obtain ⟨z, n, rfl, rfl, n0, n1, hz, q⟩ := h
  obtain ⟨t, rfl⟩ := rx
  obtain ⟨t', rfl⟩ := ry
  have prod : z.length * n.toNat ≤ 10000000 := Nat.le_trans (Nat.mul_le_mul hz (show n.toNat ≤ 10000 by omega)) (by decide)
  have tl : Builtin.Str.tooLong (z.length * n.toNat) = false := by
    unfold Builtin.Str.tooLong
    rw [sizeLine_eq]
    exact decide_eq_false (by omega)
  refine P.mul_str (by simp; omega) (fun h1 _ => ?_) (fun _ _ => tl) ?_
  · intro hgt
    have h2 : (z.length : Int) * n ≤ 1000 * 10000 := Int.mul_le_mul (by omega) n1 n0 (by decide)
    have : (z.length : Int) ≤ (2 ^ 63 - 1) / n := Int.le_ediv_of_mul_le (by omega) (by omega)
    omega
  · unfold repS at q
    by_cases h1 : n < 1
    · rw [if_pos h1] at q ⊢
      exact ⟨by decide, ⟨V.str _, H, I.tok _, ⟨_, rfl⟩, q⟩⟩
    · rw [if_neg h1] at q ⊢
      by_cases h2 : (n == 1 || z.length == 0) = true
      · rw [if_pos h2] at q ⊢
        exact ⟨V.str _, H, I, ⟨_, rfl⟩, q⟩
      · rw [if_neg h2] at q ⊢
        have ll := repS_len z n
        unfold repS at ll
        rw [if_neg h1, if_neg h2] at ll
        exact ⟨by rw [ll, sizeLine_eq, Nat.mul_comm]; omega, ⟨V.str _, H, I.tok _, ⟨_, rfl⟩, q⟩⟩
end
end GL
namespace GL
open PySem PySem.Spec PyProof.Rows L2 PySem.W PySem.Calls
/-! ### list(a text) -/
theorem call_listS {X : Cx} (hc : X.calm = true) : CallR X (.type "list") (fun xs H Q => ∃ z : Str, xs = [.str z] ∧ z.length ≤ 100000 ∧ ∀ q, H q = none → Q (.ref q) (upd H q (.lst ((z.cps.toList.map fun c => (⟨#[c]⟩ : Str)).map V.str)))) := by
  intro pins s σ H xs us Q I r h
  obtain ⟨z, rfl, zl, q⟩ := h
  obtain ⟨u, rfl, rx⟩ := vals1 r
  obtain ⟨t, rfl⟩ := rx
  have zs : z.cps.size ≤ sizeLine := by rw [sizeLine_eq]; exact Nat.le_trans zl (by decide)
  refine PySem.call_list_str (I.ok.hd hc) z t (fun h' tk acc c' hkeep hS hacc => ?_) zs
  refine ⟨.ref s.heap.objs.size, upd H s.heap.objs.size (.lst ((z.cps.toList.map fun c => (⟨#[c]⟩ : Str)).map V.str)), I.laid hkeep (Nat.le_refl _) (show ObjOk X.prog X.w _ _ _ (.lst ((z.cps.toList.map fun c => (⟨#[c]⟩ : Str)).map V.str)) from ⟨?_, acc.toList, c', ?_, ?_⟩), rfl, q _ (I.hok.fresh (Nat.le_refl _))⟩
  · rw [List.length_map, List.length_map]
    exact zs
  · have el : acc.toList.length = acc.size := by simp
    refine vals_of_at (by rw [List.length_map, List.length_map, el, hacc.1]; rfl) fun j x w h1 h2 => ?_
    obtain ⟨c, u, hz, rfl⟩ := hacc.2 j w (by rw [← Array.getElem?_toList]; exact h2)
    have hz : z.cps.toList[j]? = some c := by rw [Array.getElem?_toList]; exact hz
    rw [List.getElem?_map, List.getElem?_map, hz] at h1
    cases h1
    exact ⟨u, rfl⟩
  · exact hS
end GL
namespace KW
open PySem PySem.Spec PyProof.Rows L2 GL
def topS (i : Nat) : Stmt := PySem.Challenge.pw_whateverboxes_k12_texts_of_systems_bent.main.body.getD i (.Pass ⟨0, 0, 0, 0⟩)
abbrev LETTERS : Str := "abcdefghijklmnopqrstuvwxyz"
abbrev DIGITS : Str := "0123456789"
/-! the built-ins and the constants that the text uses -/
structure Bl (mg : Str → Option Value) : Prop where
  int : mg "int" = none
  len : mg "len" = none
  range : mg "range" = none
  tuple : mg "tuple" = none
  str : mg "str" = none
  abs : mg "abs" = none
  any : mg "any" = none
  all : mg "all" = none
  sum : mg "sum" = none
  zip : mg "zip" = none
  enumerate : mg "enumerate" = none
  repr : mg "repr" = none
  set : mg "set" = none
  g_MOST_DIGITS : ∃ u, mg "MOST_DIGITS" = some u ∧ RelV (.int 60) u
  g_MOST_SIGNS : ∃ u, mg "MOST_SIGNS" = some u ∧ RelV (.int 8) u
  g_MOST_NAMES : ∃ u, mg "MOST_NAMES" = some u ∧ RelV (.int 6) u
  g_LETTERS : ∃ u, mg "LETTERS" = some u ∧ RelV (.str LETTERS) u
  g_DIGITS : ∃ u, mg "DIGITS" = some u ∧ RelV (.str DIGITS) u
/-! ### what the words' tests say -/
def digB (c : Nat) : Bool := decide (c ∈ DIGITS.cps.toList)
def natB (z : Str) : Bool := decide (1 ≤ z.cps.toList.length ∧ z.cps.toList.length ≤ 60) && z.cps.toList.all digB && (decide (z = "0") || decide (z.cps.toList[0]? ≠ some 48))
def spNat : Sp := fun vs H Q _ => ∃ z : Str, vs = [.str z] ∧ z.cps.toList.length ≤ 100000 ∧ ∀ H', Same H H' → Q (.bl (natB z)) H'
section
variable {P : Program} {w : World} {K : PySem.W.Frag} {mg : Str → Option Value} {base : Heap}
abbrev s_is_natural : Stmt := topS 13
theorem sc_is_natural : FnScope ["word", "sign"] ["word"] (defScope s_is_natural) := ⟨rfl, rfl, rfl, by decide +kernel, rfl, by decide +kernel, by decide +kernel⟩
theorem ok_is_natural {f : Addr} {fd : FuncData} (F : Fun K "is_natural" "is_natural" s_is_natural f fd) (gl : mg "is_natural" = some (.ref f)) (T : Bl mg) : DefG P w K mg base 1 "is_natural" ["word"] spNat := by
  refine def_mk F gl (F.binds fun _ _ _ _ _ _ us hl => match us, hl with | [_], _ => rfl) (okG F sc_is_natural (fun vs H Q E h => ?_) fun cdv A outer s H vs Q E hr hc h => ?_)
  · obtain ⟨z, rfl, _⟩ := h
    rfl
  · obtain ⟨z, rfl, lz, q⟩ := h
    have nd := sc_is_natural.nd
    refine ⟨_, (pss_cons (ps_if (PW.pt (pw_or (pt_not (pt_chain op_le op_le pe_int (pe_callB call_len_str (by rfl) T.len boot_len (pa_cons (pv 0) pa_nil)) (C8.pe_gc (v := .int 60) (by rfl) T.g_MOST_DIGITS))) (pw_or1 (pt_not (pt_val (pe_callB (cr_all rfl) (by rfl) T.all boot_all (pa_cons (pe_lc (own := [("sign", 1)]) (g := (gName 1)) (tt := tYes) rfl nd (pi_str (pv 0)) (blkOk_by (own := [("sign", 1)]) (N := ["word", "sign"]) (sc := defScope s_is_natural) (by decide +kernel)) (fun _ _ _ _ _ => (pg_name (i := 1) nd rfl (by first | exact Or.inl rfl | exact Or.inr rfl))) (fun _ _ _ _ _ => pts_nil) (fun _ _ _ _ _ => (pe_cmpR op_in_sign (pv 1) (C8.pe_gc (v := .str DIGITS) (by rfl) T.g_DIGITS) (by with_unfolding_all rfl)))) pa_nil)))))))
        (pss_one (ps_ret pe_bl))
        pss_nil)
      (pss_one (ps_ret (pe_or (pe_cmpR op_eq (pv 0) pe_str (nomark _)) (pe_one (pe_cmpR op_ne (pe_ix ix_str (pv 0) pe_int (fun _ _ => rfl)) pe_str (nomark _))))))), ?_⟩
    have zl : z.length = z.cps.toList.length := (Array.length_toList ..).symm
    have lz2 : z.length ≤ sizeLine := by rw [zl]; exact small lz
    have no : ∀ H', Same H H' → natB z = false → Q (.bl false) H' := fun H' s e => by rw [← e]; exact q H' s
    refine ⟨_, rfl, z, rfl, lz2, (1 : Int), (z.length : Int), rfl, rfl, _, rfl, ?_⟩
    refine ite2 (fun e1 => ⟨_, _, rfl, rfl, _, rfl, ?_⟩) (fun e1 => ⟨_, rfl, iteT (iteT (no H (Same.refl H) ?_))⟩)
    rotate_left
    · have h1 : ¬ (1 ≤ z.cps.toList.length ∧ z.cps.toList.length ≤ 60) := fun h => e1 (decide_eq_true (by rw [zl]; omega))
      unfold natB
      rw [decide_eq_false h1]; rfl
    by_cases h2 : z.cps.toList.length ≤ 60
    · have e2 : decide ((z.length : Int) ≤ 60) = true := decide_eq_true (by rw [zl]; omega)
      rw [e2]
      refine iteF ?_
      refine ⟨_, rfl, z, rfl, fun D nD => ?_⟩
      have toL : ∀ (i : Nat) (c : Nat), z.cps[i]? = some c → z.cps.toList[i]? = some c := fun i c h => by rw [Array.getElem?_toList]; exact h
      refine lc_it walk_str (fun i Hx => Same H Hx ∧ Hx D = some (.lst (((z.cps.toList.take i).map digB).map V.bl))) ⟨Same.new nD, upd_same⟩ (fun _ _ _ _ => True.intro) ?_ ?_
      · rintro i x Hx Hy hi ⟨sx, hD⟩ ⟨rfl, c, hc', rfl⟩
        have hL := toL i c hc'
        refine ⟨rfl, _, rfl, c, DIGITS, rfl, rfl, _, hD, ?_, ?_, ?_⟩
        · rw [List.length_map, List.length_map, List.length_take]; exact smallt (by omega)
        · intro b u hb
          rw [upd_ne (ne_of_none hb nD)]
          exact sx _ _ hb
        · rw [upd_same, List.take_add_one, hL, List.map_append, List.map_append]; rfl
      · rintro Hx ⟨sx, hD⟩
        rw [show z.cps.size = z.cps.toList.length from rfl, List.take_length] at hD
        refine ⟨D, _, rfl, tofL hD, ?_⟩
        have ea : ((z.cps.toList.map digB).all id) = z.cps.toList.all digB := by rw [List.all_map]; rfl
        rw [ea]
        have h1 : 1 ≤ z.cps.toList.length ∧ z.cps.toList.length ≤ 60 := ⟨by have := of_decide_eq_true e1; rw [zl] at this; omega, h2⟩
        cases hd : z.cps.toList.all digB with
        | false =>
          refine ⟨_, rfl, iteT (no Hx sx ?_)⟩
          unfold natB
          rw [hd, Bool.and_false]; rfl
        | true =>
          refine ⟨_, rfl, iteF ?_⟩
          obtain ⟨c, hc0⟩ : ∃ c, z.cps.toList[0]? = some c := ⟨_, List.getElem?_eq_getElem (by omega)⟩
          have fin : natB z = (decide (z = "0") || decide (z.cps.toList[0]? ≠ some 48)) := by
            unfold natB
            rw [decide_eq_true h1, hd]; rfl
          refine ⟨_, rfl, rfl, _, rfl, ite2 (fun w => ?_) (fun w => ?_)⟩
          · have e0 : z = "0" := V.str.inj (of_decide_eq_true w)
            have : natB z = true := by rw [fin, decide_eq_true e0]; rfl
            rw [← this]
            exact q Hx sx
          · have e0 : ¬ z = "0" := fun e => w (decide_eq_true (by rw [e]))
            refine ⟨_, rfl, z, 0, c, rfl, rfl, lz2, atI_nat (j := 0) hc0, rfl, ?_⟩
            have z48 : ("0" : Str) = ⟨#[48]⟩ := by decide +kernel
            have : natB z = !decide (V.str { cps := #[c] } = V.str ("0" : Str)) := by
              rw [fin, decide_eq_false e0, Bool.false_or, hc0, z48]
              by_cases h : c = 48
              · subst h
                rfl
              · rw [decide_eq_true (show some c ≠ some 48 from fun e => h (Option.some.inj e)), decide_eq_false (fun e => h (by
                  have e' := congrArg Str.cps (V.str.inj e)
                  have := Array.toList_inj.mpr e'
                  exact (List.cons.inj this).1))]; rfl
            rw [← this]
            exact q Hx sx
    · have e2 : decide ((z.length : Int) ≤ 60) = false := decide_eq_false (by rw [zl]; omega)
      rw [e2]
      refine iteT (iteT (no H (Same.refl H) ?_))
      have h1 : ¬ (1 ≤ z.cps.toList.length ∧ z.cps.toList.length ≤ 60) := fun h => h2 h.2
      unfold natB
      rw [decide_eq_false h1]; rfl
end
end KW
namespace KW
open PySem PySem.Spec PyProof.Rows L2 GL
def wholeB (z : Str) : Bool := if Txt.startswith z "-" = true then (natB (cutS z (some 1) none) && decide (z ≠ "-0")) else natB z
def spWhole : Sp := fun vs H Q _ => ∃ z : Str, vs = [.str z] ∧ z.cps.toList.length ≤ 100000 ∧ ∀ H', Same H H' → Q (.bl (wholeB z)) H'
theorem ty_str {K : PySem.W.Frag} {H : Hp} (z : Str) : tyV K "str" (.str z) H := rfl
theorem tru_bl {K : PySem.W.Frag} {H : Hp} (b : Bool) : TruV K (.bl b) H b := rfl
theorem cut_len (z : Str) (lo hi : Option Int) : (cutS z lo hi).cps.toList.length ≤ z.cps.toList.length := by
  unfold cutS
  show (((z.cps.toList.drop _).take _).toArray).toList.length ≤ _
  rw [List.toList_toArray, List.length_take, List.length_drop]
  omega
section
variable {P : Program} {w : World} {K : PySem.W.Frag} {mg : Str → Option Value} {base : Heap}
abbrev s_is_whole : Stmt := topS 14
theorem sc_is_whole : FnScope ["word"] ["word"] (defScope s_is_whole) := ⟨rfl, rfl, rfl, by decide +kernel, rfl, by decide +kernel, by decide +kernel⟩
theorem ok_is_whole {f : Addr} {fd : FuncData} (F : Fun K "is_whole" "is_whole" s_is_whole f fd) (gl : mg "is_whole" = some (.ref f)) (T : Bl mg) (D_is_natural : DefG P w K mg base 1 "is_natural" ["word"] spNat) : DefG P w K mg base 2 "is_whole" ["word"] spWhole := by
  refine def_mk F gl (F.binds fun _ _ _ _ _ _ us hl => match us, hl with | [_], _ => rfl) (okG F sc_is_whole (fun vs H Q E h => ?_) fun cdv A outer s H vs Q E hr hc h => ?_)
  · obtain ⟨z, rfl, _⟩ := h
    rfl
  · obtain ⟨z, rfl, lz, q⟩ := h
    have nd := sc_is_whole.nd
    refine ⟨_, (pss_cons (ps_if (pt_truth (pe_bm PySem.F.plainAttrs_str PySem.F.slot_str_startswith PySem.F.type_str_startswith mt_startswith (pv 0) (pa_cons pe_str pa_nil)) (fun _ => rfl))
        (pss_one (ps_ret (pe_and (pe_def D_is_natural (hr.mono (by decide)) hc (by rfl) (pa_cons (pe_slice sl_str (pv 0) (po_some pe_int) po_none) pa_nil)) (pe_one (pe_cmpR op_ne (pv 0) pe_str (nomark _))))))
        pss_nil)
      (pss_one (ps_ret (pe_def D_is_natural (hr.mono (by decide)) hc (by rfl) (pa_cons (pv 0) pa_nil))))), ?_⟩
    refine ⟨_, rfl, ty_str z, z, "-", rfl, rfl, Txt.startswith z "-", tru_bl _, ?_⟩
    cases hs : Txt.startswith z "-" with
    | true =>
      refine iteT ⟨_, rfl, 1, rfl, z, rfl, by rw [show z.length = z.cps.toList.length from (Array.length_toList ..).symm]; exact small lz, cutS z (some 1) none, rfl, Nat.le_trans (cut_len z _ _) lz, fun H1 s1 => ⟨_, rfl, ?_⟩⟩
      have e : wholeB z = (natB (cutS z (some 1) none) && decide (z ≠ "-0")) := by
        unfold wholeB
        rw [if_pos hs]
      cases hn : natB (cutS z (some 1) none) with
      | false =>
        refine iteF ?_
        rw [hn, Bool.false_and] at e
        rw [← e]
        exact q H1 s1
      | true =>
        refine iteT ⟨_, rfl, rfl, ?_⟩
        rw [hn, Bool.true_and] at e
        have e2 : (!decide (V.str z = V.str ("-0" : Str))) = decide (z ≠ "-0") := by
          by_cases k : z = "-0"
          · rw [decide_eq_true (show V.str z = V.str "-0" by rw [k]), decide_eq_false (fun h => h k)]; rfl
          · rw [decide_eq_false (fun h => k (V.str.inj h)), decide_eq_true k]; rfl
        have := q H1 s1
        rw [e, ← e2] at this
        exact this
    | false =>
      have e : wholeB z = natB z := by
        unfold wholeB
        rw [if_neg (by rw [hs]; decide)]
      refine iteF ⟨_, rfl, z, rfl, lz, fun H1 s1 => ?_⟩
      rw [← e]
      exact q H1 s1
end
end KW
namespace KW
open PySem PySem.Spec PyProof.Rows L2 GL RZ TL
def TAKEN : List Str := ["check", "input", "keep", "let", "mod", "names", "open", "self", "take"]
def letB (c : Nat) : Bool := decide (c ∈ LETTERS.cps.toList)
def bothB (c : Nat) : Bool := decide (c ∈ (LETTERS ++ DIGITS).cps.toList)
def nameB (z : Str) : Bool := decide (1 ≤ z.cps.toList.length ∧ z.cps.toList.length ≤ 8) && !decide (z ∈ TAKEN) && (letB (z.cps.toList.getD 0 0) && z.cps.toList.all bothB)
def spName : Sp := fun vs H Q _ => ∃ z : Str, vs = [.str z] ∧ z.cps.toList.length ≤ 100000 ∧ ∀ H', Same H H' → Q (.bl (nameB z)) H'
theorem eqV_str (x y : Str) : eqV (.str x) (.str y) = decide (x = y) := by
  unfold eqV
  rfl
theorem inV_strs (z : Str) (ns : List Str) : inV (.str z) (ns.map V.str) = decide (z ∈ ns) := by
  unfold inV
  rw [List.any_map]
  by_cases h : z ∈ ns
  · rw [decide_eq_true h]
    exact List.any_eq_true.mpr ⟨z, h, by show eqV (.str z) (.str z) = true; rw [eqV_str]; exact decide_eq_true rfl⟩
  · rw [decide_eq_false h]
    refine List.any_eq_false.mpr fun y hy => ?_
    show ¬ eqV (.str y) (.str z) = true
    rw [eqV_str, decide_eq_true_eq]
    exact fun e => h (e ▸ hy)
section
variable {P : Program} {w : World} {K : PySem.W.Frag} {mg : Str → Option Value} {base : Heap}
abbrev s_is_name : Stmt := topS 11
theorem sc_is_name : FnScope ["word", "sign"] ["word"] (defScope s_is_name) := ⟨rfl, rfl, rfl, by decide +kernel, rfl, by decide +kernel, by decide +kernel⟩
theorem ok_is_name {f TW : Addr} {fd : FuncData} (F : Fun K "is_name" "is_name" s_is_name f fd) (gl : mg "is_name" = some (.ref f)) (T : Bl mg) (gTW : mg "TAKEN_WORDS" = some (.ref TW)) (lTW : ∀ H : Hp, SqT K H TW (TAKEN.map V.str)) : DefG P w K mg base 1 "is_name" ["word"] spName := by
  refine def_mk F gl (F.binds fun _ _ _ _ _ _ us hl => match us, hl with | [_], _ => rfl) (okG F sc_is_name (fun vs H Q E h => ?_) fun cdv A outer s H vs Q E hr hc h => ?_)
  · obtain ⟨z, rfl, _⟩ := h
    rfl
  · obtain ⟨z, rfl, lz, q⟩ := h
    have nd := sc_is_name.nd
    refine ⟨_, (pss_cons (ps_if (PW.pt (pw_or (pt_not (pt_chain op_le op_le pe_int (pe_callB call_len_str (by rfl) T.len boot_len (pa_cons (pv 0) pa_nil)) (C8.pe_gc (v := .int 8) (by rfl) T.g_MOST_SIGNS))) (pw_or1 (pt_cmpR (op_inK (K := K)) (pv 0) (C8.pe_gc (v := .ref TW) (by rfl) ⟨_, gTW, rfl⟩) (by with_unfolding_all rfl)))))
        (pss_one (ps_ret pe_bl))
        pss_nil)
      (pss_one (ps_ret (pe_and (pe_cmpR op_in_sign (pe_ix ix_str (pv 0) pe_int (fun _ _ => rfl)) (C8.pe_gc (v := .str LETTERS) (by rfl) T.g_LETTERS) (by with_unfolding_all rfl)) (pe_one (pe_callB (cr_all rfl) (by rfl) T.all boot_all (pa_cons (pe_lc (own := [("sign", 1)]) (g := (gName 1)) (tt := tYes) rfl nd (pi_str (pv 0)) (blkOk_by (own := [("sign", 1)]) (N := ["word", "sign"]) (sc := defScope s_is_name) (by decide +kernel)) (fun _ _ _ _ _ => (pg_name (i := 1) nd rfl (by first | exact Or.inl rfl | exact Or.inr rfl))) (fun _ _ _ _ _ => pts_nil) (fun _ _ _ _ _ => (pe_cmpR op_in_sign (pv 1) (pe_op op_add_str (C8.pe_gc (v := .str LETTERS) (by rfl) T.g_LETTERS) (C8.pe_gc (v := .str DIGITS) (by rfl) T.g_DIGITS)) (by with_unfolding_all rfl)))) pa_nil))))))), ?_⟩
    have zl : z.length = z.cps.toList.length := (Array.length_toList ..).symm
    have lz2 : z.length ≤ sizeLine := by rw [zl]; exact small lz
    have no : ∀ H', Same H H' → nameB z = false → Q (.bl false) H' := fun H' s e => by rw [← e]; exact q H' s
    refine ⟨_, rfl, z, rfl, lz2, (1 : Int), (z.length : Int), rfl, rfl, _, rfl, ?_⟩
    refine ite2 (fun e1 => ⟨_, _, rfl, rfl, _, rfl, ?_⟩) (fun e1 => ⟨_, rfl, iteT (iteT (no H (Same.refl H) ?_))⟩)
    rotate_left
    · have h1 : ¬ (1 ≤ z.cps.toList.length ∧ z.cps.toList.length ≤ 8) := fun h => e1 (decide_eq_true (by rw [zl]; omega))
      unfold nameB
      rw [decide_eq_false h1]; rfl
    by_cases h2 : z.cps.toList.length ≤ 8
    · have e2 : decide ((z.length : Int) ≤ 8) = true := decide_eq_true (by rw [zl]; omega)
      rw [e2]
      refine iteF ?_
      have h1 : 1 ≤ z.cps.toList.length ∧ z.cps.toList.length ≤ 8 := ⟨by have := of_decide_eq_true e1; rw [zl] at this; omega, h2⟩
      obtain ⟨c0, hc0⟩ : ∃ c, z.cps.toList[0]? = some c := ⟨_, List.getElem?_eq_getElem (by omega)⟩
      have g0 : z.cps.toList.getD 0 0 = c0 := by rw [List.getD_eq_getElem?_getD, hc0]; rfl
      refine ⟨_, rfl, TW, _, rfl, .inr (lTW H), rfl, flat_strs TAKEN, _, rfl, ?_⟩
      rw [if_neg (show ¬ false = true by decide), inV_strs]
      cases ht : decide (z ∈ TAKEN) with
      | true =>
        refine iteT (no H (Same.refl H) ?_)
        unfold nameB
        rw [ht, decide_eq_true h1]; rfl
      | false =>
        refine iteF ?_
        have fin : nameB z = (letB c0 && z.cps.toList.all bothB) := by
          unfold nameB
          rw [ht, decide_eq_true h1, g0]; rfl
        refine ⟨_, rfl, z, 0, c0, rfl, rfl, lz2, atI_nat (j := 0) hc0, c0, LETTERS, rfl, rfl, _, rfl, ?_⟩
        show if letB c0 = true then _ else _
        cases hl : letB c0 with
        | false =>
          refine iteF ?_
          rw [hl, Bool.false_and] at fin
          rw [← fin]
          exact q H (Same.refl H)
        | true =>
          rw [hl, Bool.true_and] at fin
          refine iteT ?_
          refine ⟨_, rfl, z, rfl, fun D nD => ?_⟩
          have toL : ∀ (i : Nat) (c : Nat), z.cps[i]? = some c → z.cps.toList[i]? = some c := fun i c h => by rw [Array.getElem?_toList]; exact h
          refine lc_it walk_str (fun i Hx => Same H Hx ∧ Hx D = some (.lst (((z.cps.toList.take i).map bothB).map V.bl))) ⟨Same.new nD, upd_same⟩ (fun _ _ _ _ => True.intro) ?_ ?_
          · rintro i x Hx Hy hi ⟨sx, hD⟩ ⟨rfl, c, hc', rfl⟩
            have hL := toL i c hc'
            refine ⟨rfl, _, rfl, _, _, rfl, rfl, small (by decide +kernel), c, LETTERS ++ DIGITS, rfl, rfl, _, hD, ?_, ?_, ?_⟩
            · rw [List.length_map, List.length_map, List.length_take]; exact smallt (by omega)
            · intro b u hb
              rw [upd_ne (ne_of_none hb nD)]
              exact sx _ _ hb
            · rw [upd_same, List.take_add_one, hL, List.map_append, List.map_append]; rfl
          · rintro Hx ⟨sx, hD⟩
            rw [show z.cps.size = z.cps.toList.length from rfl, List.take_length] at hD
            refine ⟨D, _, rfl, tofL hD, ?_⟩
            have ea : ((z.cps.toList.map bothB).all id) = z.cps.toList.all bothB := by rw [List.all_map]; rfl
            rw [ea, ← fin]
            exact q Hx sx
    · have e2 : decide ((z.length : Int) ≤ 8) = false := decide_eq_false (by rw [zl]; omega)
      rw [e2]
      refine iteT (iteT (no H (Same.refl H) ?_))
      have h1 : ¬ (1 ≤ z.cps.toList.length ∧ z.cps.toList.length ≤ 8) := fun h => h2 h.2
      unfold nameB
      rw [decide_eq_false h1]; rfl
end
end KW
namespace KW
open PySem PySem.Spec PyProof.Rows L2 GL RZ TL
/-! ### write_sum: the words of a sum -/
def ab (i : Int) : Int := if i < 0 then -i else i
def w1 (acc : List Str) (f : Int) : List Str := if f < 0 then acc ++ [("-" : Str)] else if 0 < f ∧ acc ≠ [] then acc ++ [("+" : Str)] else acc
def w2 (acc : List Str) (f : Int) : List Str := if 1 < ab f then acc ++ [Str.ofString (toString (ab f))] else acc
def w3 (acc : List Str) (n : Str) (f : Int) : List Str := if f ≠ 0 then acc ++ [n] else acc
def stepW (acc : List Str) (p : Str × Int) : List Str := w3 (w2 (w1 acc p.2) p.2) p.1 p.2
def wordsW (ps : List (Str × Int)) : List Str := ps.foldl stepW []
def sumW (ps : List (Str × Int)) : Str := if wordsW ps = [] then "0" else Txt.join " " (wordsW ps)
/-- few words, none of them long -/
def Few (k : Nat) (ws : List Str) : Prop := ws.length ≤ k ∧ ∀ z ∈ ws, z.length ≤ 2000
theorem Few.app {k j : Nat} {ws vs : List Str} (h : Few k ws) (h' : Few j vs) : Few (k + j) (ws ++ vs) := ⟨by rw [List.length_append]; exact Nat.add_le_add h.1 h'.1, fun z hz => (List.mem_append.mp hz).elim (h.2 z) (h'.2 z)⟩
theorem Few.mono {k j : Nat} {ws : List Str} (h : Few k ws) (l : k ≤ j) : Few j ws := ⟨Nat.le_trans h.1 l, h.2⟩
theorem Few.one {z : Str} (h : z.length ≤ 2000) : Few 1 [z] := ⟨Nat.le_refl _, fun y hy => by rw [List.mem_singleton.mp hy]; exact h⟩
theorem Few.sum {k : Nat} {ws : List Str} (h : Few k ws) : (ws.map (·.length)).sum ≤ k * 2000 := by
  obtain ⟨l, m⟩ := h
  have : (ws.map (·.length)).sum ≤ ws.length * 2000 := by
    clear l
    induction ws with
    | nil => exact Nat.le_refl _
    | cons a r ih =>
      have h1 := m a List.mem_cons_self
      have h2 := ih fun z hz => m z (List.mem_cons_of_mem _ hz)
      show a.length + (r.map (·.length)).sum ≤ (r.length + 1) * 2000
      omega
  have := Nat.mul_le_mul_right 2000 l
  omega
theorem few1 {k : Nat} {ws : List Str} {f : Int} (h : Few k ws) : Few (k + 1) (w1 ws f) := by
  unfold w1
  split
  · exact h.app (Few.one (by decide +kernel))
  · split
    · exact h.app (Few.one (by decide +kernel))
    · exact h.mono (Nat.le_succ _)
theorem few2 {k : Nat} {ws : List Str} {f : Int} (h : Few k ws) (hf : (ab f).natAbs.log2 < 1920) : Few (k + 1) (w2 ws f) := by
  unfold w2
  split
  · exact h.app (Few.one (Nat.le_trans (PyProof.Rows.int_text_len_1921 hf) (by decide)))
  · exact h.mono (Nat.le_succ _)
theorem few3 {k : Nat} {ws : List Str} {n : Str} {f : Int} (h : Few k ws) (hn : n.length ≤ 2000) : Few (k + 1) (w3 ws n f) := by
  unfold w3
  split
  · exact h.app (Few.one hn)
  · exact h.mono (Nat.le_succ _)
def spWSum (K : PySem.W.Frag) : Sp := fun vs H Q _ => ∃ (a b : Addr) (ns : List Str) (fs : List Int), vs = [.ref a, .ref b] ∧ SqT K H a (ns.map V.str) ∧ SqT K H b (fs.map V.int) ∧ ns.length = fs.length ∧ ns.length ≤ 20 ∧ (∀ z ∈ ns, z.length ≤ 2000) ∧ (∀ f ∈ fs, (ab f).natAbs.log2 < 1920) ∧
  ∀ H', Same H H' → Q (.str (sumW (ns.zip fs))) H'
abbrev stS (a b l : Addr) (n : Str) (f : Int) : L2.St := [some (.ref a), some (.ref b), some (.ref l), some (.str n), some (.int f)]
section
variable {P : Program} {w : World} {K : PySem.W.Frag} {mg : Str → Option Value} {base : Heap}
abbrev s_write_sum : Stmt := topS 17
theorem sc_write_sum : FnScope ["names", "factors", "words", "name", "factor"] ["names", "factors"] (defScope s_write_sum) := ⟨rfl, rfl, rfl, by decide +kernel, rfl, by decide +kernel, by decide +kernel⟩
theorem ok_write_sum {f : Addr} {fd : FuncData} (F : Fun K "write_sum" "write_sum" s_write_sum f fd) (gl : mg "write_sum" = some (.ref f)) (T : Bl mg) : DefG P w K mg base 1 "write_sum" ["names", "factors"] (spWSum K) := by
  refine def_mk F gl (F.binds fun _ _ _ _ _ _ us hl => match us, hl with | [_, _], _ => rfl) (okG F sc_write_sum (fun vs H Q E h => ?_) fun cdv A outer s H vs Q E hr hc h => ?_)
  · obtain ⟨a, b, ns, fs, rfl, _⟩ := h
    rfl
  · obtain ⟨a, b, ns, fs, rfl, hA, hB, ll, l20, hn, hf, q⟩ := h
    have nd := sc_write_sum.nd
    refine ⟨_, (pss_cons (ps_set (i := 2) nd rfl (by first | exact Or.inl rfl | exact Or.inr rfl) (pe_lst pa_nil))
      (pss_cons (ps_for PassesOwn.never rfl (pi_zipA (by rfl) T.zip (pa_cons (pv 0) (pa_cons (pv 1) pa_nil))) (pg_tup rfl (pgs_cons (pg_name (i := 3) nd rfl (by first | exact Or.inl rfl | exact Or.inr rfl)) (pgs_cons (pg_name (i := 4) nd rfl (by first | exact Or.inl rfl | exact Or.inr rfl)) pgs_nil)))
        (C8.pss_cut (ps_if (pt_cmpR op_lt (pv 4) pe_int (nomark _))
          (pss_one (ps_expr (pe_bm PySem.F.plainAttrs_list PySem.F.slot_list_append PySem.F.type_list_append mt_append (pv 2) (pa_cons pe_str pa_nil))))
          (pss_one (ps_if (PW.pt (pw_and (pt_cmpR op_gt (pv 4) pe_int (nomark _)) (pw_and1 (pt_truth (pv 2) (fun _ => rfl)))))
            (pss_one (ps_expr (pe_bm PySem.F.plainAttrs_list PySem.F.slot_list_append PySem.F.type_list_append mt_append (pv 2) (pa_cons pe_str pa_nil))))
            pss_nil)))
        (C8.pss_cut (ps_if (pt_cmpR op_gt (pe_callB call_abs (by rfl) T.abs boot_abs (pa_cons (pv 4) pa_nil)) pe_int (nomark _))
          (pss_one (ps_expr (pe_bm PySem.F.plainAttrs_list PySem.F.slot_list_append PySem.F.type_list_append mt_append (pv 2) (pa_cons (pe_callTy call_str_int (by rfl) T.str boot_str (pa_cons (pe_callB call_abs (by rfl) T.abs boot_abs (pa_cons (pv 4) pa_nil)) pa_nil)) pa_nil))))
          pss_nil)
        (pss_one (ps_if (pt_truth (pv 4) (fun _ => rfl))
          (pss_one (ps_expr (pe_bm PySem.F.plainAttrs_list PySem.F.slot_list_append PySem.F.type_list_append mt_append (pv 2) (pa_cons (pv 3) pa_nil))))
          pss_nil)))))
      (pss_one (ps_ret (pe_ifExp (pt_truth (pv 2) (fun _ => rfl)) (pe_join pe_str (pv 2)) pe_str))))), ?_⟩
    refine ⟨Nat.zero_le _, fun l nl => ?_⟩
    refine ⟨_, rfl, _, rfl, a, b, _, _, rfl, .inr ⟨Same.tup (Same.new nl) hA, Same.tup (Same.new nl) hB, ?_⟩⟩
    refine for_it (walk_zipT (K := K) (a := a) (b := b) (xs := ns.map V.str) (ys := fs.map V.int) (n := ns.length) (by rw [List.length_map, List.length_map]; omega))
      (fun i σ Hx => ∃ v3 v4 : Option V, σ = [some (.ref a), some (.ref b), some (.ref l), v3, v4] ∧ Same H Hx ∧ Hx l = some (.lst ((wordsW ((ns.zip fs).take i)).map V.str)) ∧ Few (3 * i) (wordsW ((ns.zip fs).take i)))
      ⟨none, none, rfl, Same.new nl, upd_same, Nat.le_refl _, fun z hz => nomatch hz⟩ (fun i σ Hx _ ⟨_, _, _, sx, _⟩ => ⟨Same.tup sx hA, Same.tup sx hB⟩) ?_ ?_
    · rintro i x σ Hx Hy hi ⟨v3, v4, rfl, sx, hl, few⟩ ⟨t2, u, v, rfl, nt, rfl, f1, f2⟩
      obtain ⟨n, en, rfl⟩ : ∃ n, ns[i]? = some n ∧ u = .str n := by
        replace f1 : (ns.map V.str)[i]? = some u := f1
        rw [List.getElem?_map] at f1
        cases e : ns[i]? with
        | none => rw [e] at f1; cases f1
        | some n => rw [e] at f1; exact ⟨n, rfl, (Option.some.inj f1).symm⟩
      obtain ⟨f0, ef, rfl⟩ : ∃ f, fs[i]? = some f ∧ v = .int f := by
        replace f2 : (fs.map V.int)[i]? = some v := f2
        rw [List.getElem?_map] at f2
        cases e : fs[i]? with
        | none => rw [e] at f2; cases f2
        | some n => rw [e] at f2; exact ⟨n, rfl, (Option.some.inj f2).symm⟩
      have ez : (ns.zip fs)[i]? = some (n, f0) := by
        rw [List.getElem?_zip_eq_some]
        exact ⟨en, ef⟩
      have et : wordsW ((ns.zip fs).take (i + 1)) = stepW (wordsW ((ns.zip fs).take i)) (n, f0) := by
        unfold wordsW
        rw [List.take_add_one, ez, List.foldl_append]
        rfl
      have nn := hn n (List.mem_of_getElem? en)
      have ff := hf f0 (List.mem_of_getElem? ef)
      rw [et]
      revert hl few
      generalize wordsW ((ns.zip fs).take i) = acc
      intro hl few
      have nlt : l ≠ t2 := ne_of_none hl nt
      have sy : Same H (upd Hx t2 (.tup [.str n, .int f0])) := sx.trans (Same.new nt)
      have hl2 : upd Hx t2 (.tup [.str n, .int f0]) l = some (.lst (acc.map V.str)) := by rw [upd_ne nlt]; exact hl
      refine ⟨t2, _, rfl, tofT upd_same, rfl, _, _, rfl, _, _, rfl, rfl, ?_⟩
      revert sy hl2
      generalize upd Hx t2 (.tup [.str n, .int f0]) = Hz
      intro sy hl2
      have put : ∀ (Hu : Hp) (ws : List Str) (z : Str), Same H Hu → Hu l = some (.lst (ws.map V.str)) → Same H (upd Hu l (.lst (ws.map V.str ++ [V.str z]))) ∧ upd Hu l (.lst (ws.map V.str ++ [V.str z])) l = some (.lst ((ws ++ [z]).map V.str)) := fun Hu ws z su hu =>
        ⟨fun c o hc' => by rw [upd_ne (ne_of_none hc' nl)]; exact su _ _ hc', by rw [upd_same, List.map_append]; rfl⟩
      have lenF : ∀ {k : Nat} {ws : List Str}, Few k ws → k ≤ 200 → (ws.map V.str).length < sizeLine := fun h hk => by rw [List.length_map]; exact smallt (by have := h.1; omega)
      have i20 : i < 20 := by omega
      have g1 := few1 (f := f0) few
      have g2 := few2 (f := f0) g1 ff
      have g3 := few3 (n := n) (f := f0) g2 nn
      -- the sign
      refine ⟨fun σ' H' => σ' = stS a b l n f0 ∧ Same H H' ∧ H' l = some (.lst ((w1 acc f0).map V.str)), ?_, ?_⟩
      · refine ⟨_, rfl, f0, 0, rfl, rfl, _, rfl, ite2 (fun e => ?_) (fun e => ?_)⟩
        · have h1 : w1 acc f0 = acc ++ [("-" : Str)] := by unfold w1; rw [if_pos (of_decide_eq_true e)]
          rw [h1]
          obtain ⟨p1, p2⟩ := put Hz acc "-" sy hl2
          exact ⟨_, rfl, ty_l (tofL hl2), l, _, _, rfl, rfl, hl2, lenF few (by omega), rfl, p1, p2⟩
        · have n1 : ¬ f0 < 0 := fun h => e (decide_eq_true h)
          refine ⟨_, rfl, f0, 0, rfl, rfl, _, rfl, ite2 (fun e2 => ?_) (fun e2 => ?_)⟩
          · have h2 : 0 < f0 := of_decide_eq_true e2
            refine ⟨_, rfl, !(acc.map V.str).isEmpty, Or.inl ⟨_, tofL hl2, rfl⟩, ?_⟩
            cases acc with
            | nil =>
              refine iteF ⟨rfl, sy, ?_⟩
              have h1 : w1 [] f0 = [] := by unfold w1; rw [if_neg n1, if_neg (fun h => h.2 rfl)]
              rw [h1]; exact hl2
            | cons c r =>
              have h1 : w1 (c :: r) f0 = (c :: r) ++ [("+" : Str)] := by unfold w1; rw [if_neg n1, if_pos ⟨h2, fun z => nomatch z⟩]
              rw [h1]
              obtain ⟨p1, p2⟩ := put Hz (c :: r) "+" sy hl2
              exact iteT ⟨_, rfl, ty_l (tofL hl2), l, _, _, rfl, rfl, hl2, lenF few (by omega), rfl, p1, p2⟩
          · have h1 : w1 acc f0 = acc := by unfold w1; rw [if_neg n1, if_neg (fun h => e2 (decide_eq_true h.1))]
            refine iteF ⟨rfl, sy, ?_⟩
            rw [h1]; exact hl2
      rintro σ1 H1 ⟨rfl, s1, hl3⟩
      -- the number
      refine ⟨fun σ' H' => σ' = stS a b l n f0 ∧ Same H H' ∧ H' l = some (.lst ((w2 (w1 acc f0) f0).map V.str)), ?_, ?_⟩
      · refine ⟨_, rfl, f0, rfl, _, _, rfl, rfl, _, rfl, ite2 (fun e => ?_) (fun e => ?_)⟩
        · have h1 : w2 (w1 acc f0) f0 = w1 acc f0 ++ [Str.ofString (toString (ab f0))] := by unfold w2; rw [if_pos (show 1 < ab f0 from of_decide_eq_true e)]
          rw [h1]
          obtain ⟨p1, p2⟩ := put H1 (w1 acc f0) (Str.ofString (toString (ab f0))) s1 hl3
          exact ⟨_, rfl, ty_l (tofL hl3), _, rfl, f0, rfl, _, rfl, ff, l, _, _, rfl, rfl, hl3, lenF g1 (by omega), rfl, p1, p2⟩
        · have h1 : w2 (w1 acc f0) f0 = w1 acc f0 := by unfold w2; rw [if_neg (fun h : 1 < ab f0 => e (decide_eq_true h))]
          rw [h1]
          exact ⟨rfl, s1, hl3⟩
      rintro σ2 H2 ⟨rfl, s2, hl4⟩
      -- the name
      refine ⟨_, rfl, (f0 != 0), rfl, ?_⟩
      have fewE : Few (3 * (i + 1)) (stepW acc (n, f0)) := g3.mono (by omega)
      by_cases hz : f0 = 0
      · have h1 : stepW acc (n, f0) = w2 (w1 acc f0) f0 := by
          show w3 _ n f0 = _
          unfold w3; rw [if_neg (fun h => h hz)]
        rw [show (f0 != 0) = false by rw [hz]; rfl]
        refine iteF ⟨_, _, rfl, s2, ?_, fewE⟩
        rw [h1]; exact hl4
      · have h1 : stepW acc (n, f0) = w2 (w1 acc f0) f0 ++ [n] := by
          show w3 _ n f0 = _
          unfold w3; rw [if_pos hz]
        rw [show (f0 != 0) = true from bne_iff_ne.mpr hz]
        obtain ⟨p1, p2⟩ := put H2 (w2 (w1 acc f0) f0) n s2 hl4
        refine iteT ⟨_, rfl, ty_l (tofL hl4), _, rfl, l, _, _, rfl, rfl, hl4, lenF g2 (by omega), _, _, rfl, p1, ?_, fewE⟩
        rw [h1]; exact p2
    · rintro σ Hx ⟨v3, v4, rfl, sx, hl, few⟩
      rw [List.take_of_length_le (by rw [List.length_zip]; omega)] at hl few
      have e : sumW (ns.zip fs) = if wordsW (ns.zip fs) = [] then ("0" : Str) else Txt.join " " (wordsW (ns.zip fs)) := rfl
      revert hl few e
      generalize wordsW (ns.zip fs) = ws
      intro hl few e
      refine ⟨_, rfl, !(ws.map V.str).isEmpty, Or.inl ⟨_, tofL hl, rfl⟩, ?_⟩
      cases ws with
      | nil =>
        refine iteF ?_
        rw [if_pos rfl] at e
        rw [← e]
        exact q Hx sx
      | cons c r =>
        rw [if_neg (fun z => nomatch z)] at e
        refine iteT ?_
        refine ⟨⟨_, rfl⟩, _, rfl, " ", l, c :: r, rfl, rfl, .inl (tofL hl), ?_, ?_⟩
        · have h1 := few.sum
          have h2 := few.1
          have h3 : (" " : Str).length = 1 := by decide +kernel
          rw [h3]
          omega
        · rw [← e]
          exact q Hx sx
end
end KW
namespace KW
open PySem PySem.Spec PyProof.Rows L2 GL RZ TL
/-- names as a system has them -/
def namesB (ns : List Str) : Bool := decide (1 ≤ ns.length ∧ ns.length ≤ 6) && (decide (dcnt ns = ns.length) && ns.all nameB)
theorem namesB_of {ns : List Str} (h1 : 1 ≤ ns.length) (h6 : ns.length ≤ 6) (hn : ns.Nodup) (hok : ∀ z ∈ ns, nameB z = true) : namesB ns = true := by
  unfold namesB
  rw [decide_eq_true (⟨h1, h6⟩ : 1 ≤ ns.length ∧ ns.length ≤ 6), decide_eq_true ((dcnt_nodup ns).mpr hn), List.all_eq_true.mpr hok]
  rfl
def spNames (K : PySem.W.Frag) : Sp := fun vs H Q _ => ∃ (l : Addr) (ns : List Str), vs = [.ref l] ∧ H l = some (.lst (ns.map V.str)) ∧ ns.length ≤ 62000 ∧ (∀ z ∈ ns, z.cps.toList.length ≤ 100000) ∧ ∀ H', Same H H' → Q (.bl (namesB ns)) H'
section
variable {P : Program} {w : World} {K : PySem.W.Frag} {mg : Str → Option Value} {base : Heap}
abbrev s_are_names : Stmt := topS 12
theorem sc_are_names : FnScope ["words", "word"] ["words"] (defScope s_are_names) := ⟨rfl, rfl, rfl, by decide +kernel, rfl, by decide +kernel, by decide +kernel⟩
theorem ok_are_names {f : Addr} {fd : FuncData} (F : Fun K "are_names" "are_names" s_are_names f fd) (gl : mg "are_names" = some (.ref f)) (T : Bl mg) (D_is_name : DefG P w K mg base 1 "is_name" ["word"] spName) : DefG P w K mg base 2 "are_names" ["words"] (spNames K) := by
  refine def_mk F gl (F.binds fun _ _ _ _ _ _ us hl => match us, hl with | [_], _ => rfl) (okG F sc_are_names (fun vs H Q E h => ?_) fun cdv A outer s H vs Q E hr hc h => ?_)
  · obtain ⟨l, ns, rfl, _⟩ := h
    rfl
  · obtain ⟨l, ns, rfl, hl, n6, ok, q⟩ := h
    have hL : SqL K H l (ns.map V.str) := tofL hl
    have nd := sc_are_names.nd
    refine ⟨_, (pss_one (ps_ret (pe_and (pe_chain op_le op_le pe_int (pe_callB call_len_seq (by rfl) T.len boot_len (pa_cons (pv 0) pa_nil)) (C8.pe_gc (v := .int 6) (by rfl) T.g_MOST_NAMES)) (pe_and (pe_cmpR op_eq (pe_lenSetX rfl (by rfl) T.len (by rfl) T.set (pv 0)) (pe_callB call_len_seq (by rfl) T.len boot_len (pa_cons (pv 0) pa_nil)) (nomark _)) (pe_one (pe_callB (cr_all rfl) (by rfl) T.all boot_all (pa_cons (pe_lc (own := [("word", 1)]) (g := (gName 1)) (tt := tYes) rfl nd (pi_list (pv 0)) (blkOk_by (own := [("word", 1)]) (N := ["words", "word"]) (sc := defScope s_are_names) (by decide +kernel)) (fun _ _ _ _ _ => (pg_name (i := 1) nd rfl (by first | exact Or.inl rfl | exact Or.inr rfl))) (fun _ _ _ _ _ => pts_nil) (fun _ _ _ _ _ => (pe_def D_is_name (hr.mono (by decide)) hc (by rfl) (pa_cons (pv 1) pa_nil)))) pa_nil))))))), ?_⟩
    have no : ∀ H', Same H H' → namesB ns = false → Q (.bl false) H' := fun H' s e => by rw [← e]; exact q H' s
    refine ⟨_, rfl, l, _, rfl, .inl hL, (1 : Int), (((ns.map V.str).length : Nat) : Int), rfl, rfl, _, rfl, ?_⟩
    rw [List.length_map]
    refine ite2 (fun e1 => ?_) (fun e1 => ?_)
    rotate_left
    · refine ⟨_, rfl, ite2 (fun e => by cases e) (fun _ => no H (Same.refl H) ?_)⟩
      unfold namesB
      rw [decide_eq_false (show ¬ (1 ≤ ns.length ∧ ns.length ≤ 6) from fun h => e1 (decide_eq_true (by omega)))]
      rfl
    have h1 : 1 ≤ ns.length := by have := of_decide_eq_true e1; omega
    refine ⟨((ns.length : Nat) : Int), 6, rfl, rfl, _, rfl, ?_⟩
    refine ite2 (fun e2 => ?_) (fun e2 => ?_)
    rotate_left
    · refine no H (Same.refl H) ?_
      unfold namesB
      rw [decide_eq_false (show ¬ (1 ≤ ns.length ∧ ns.length ≤ 6) from fun h => e2 (decide_eq_true (by omega)))]
      rfl
    have h6 : ns.length ≤ 6 := by have := of_decide_eq_true e2; omega
    have hb : namesB ns = (decide (dcnt ns = ns.length) && ns.all nameB) := by
      unfold namesB
      rw [decide_eq_true (⟨h1, h6⟩ : 1 ≤ ns.length ∧ ns.length ≤ 6), Bool.true_and]
    refine ⟨_, rfl, l, ns, rfl, hL, (by omega), _, rfl, l, _, rfl, .inl hL, rfl, _, rfl, ite2 (fun e3 => ?_) (fun e3 => no H (Same.refl H) ?_)⟩
    rotate_left
    · rw [hb, decide_eq_false (show ¬ dcnt ns = ns.length from fun z => e3 (decide_eq_true (by rw [z, List.length_map]))), Bool.false_and]
    have d3 : dcnt ns = ns.length := by
      have := V.int.inj (of_decide_eq_true e3)
      rw [List.length_map] at this
      omega
    rw [decide_eq_true d3, Bool.true_and] at hb
    refine ⟨_, rfl, l, rfl, ⟨_, hL⟩, fun D nD => ?_⟩
    refine lc_list (K := K) (a := l) (xs := ns.map V.str) (fun i Hx => Same H Hx ∧ Hx D = some (.lst (((ns.take i).map nameB).map V.bl))) ⟨Same.new nD, upd_same⟩ (fun i Hx _ h => tofL (h.1 _ _ hl)) ?_ ?_
    · rintro i x Hx hi ⟨sx, hD⟩
      obtain ⟨z, hz, rfl⟩ : ∃ z, ns[i]? = some z ∧ x = .str z := by
        rw [List.getElem?_map] at hi
        cases hz : ns[i]? with
        | none => rw [hz] at hi; cases hi
        | some z => rw [hz] at hi; cases hi; exact ⟨z, rfl, rfl⟩
      have il := (List.getElem?_eq_some_iff.mp hz).1
      refine ⟨rfl, _, rfl, z, rfl, ok z (List.mem_of_getElem? hz), fun H2 s2 => ⟨_, (s2 _ _ hD), ?_, ?_, ?_⟩⟩
      · rw [List.length_map, List.length_map, List.length_take]; exact smallt (by omega)
      · intro b u hb'
        rw [upd_ne (ne_of_none hb' nD)]
        exact s2 _ _ (sx _ _ hb')
      · rw [upd_same, List.take_add_one, hz, List.map_append, List.map_append]; rfl
    · rintro Hx ⟨sx, hD⟩
      rw [List.length_map, List.take_length] at hD
      refine ⟨D, _, rfl, tofL hD, ?_⟩
      have qq := q Hx sx
      rw [hb] at qq
      have ea : ((ns.map nameB).all id) = ns.all nameB := by rw [List.all_map]; rfl
      rw [ea]
      exact qq
end
end KW
namespace KW
open PySem PySem.Spec PyProof.Rows L2 GL RZ TL
section
variable {X : Cx} {e : Expr} {t : TE}
/-- an expression, told only by what its answer must be -/
def tCutE (t : TE) : TE := fun σ H Q => ∃ Q' : VK, t σ H Q' ∧ ∀ x H', Q' x H' → Q x H'
theorem pe_cutE (h : PE X e t) : PE X e (tCutE t) := ⟨fun pins s σ H Q I ⟨Q', hw, m⟩ => thn (h.run pins s σ H Q' I hw) fun _ _ ⟨x, H1, I1, r, q⟩ => ⟨x, H1, I1, r, m x H1 q⟩⟩
end
def valN (z : Str) : Int := (NumText.digitsVal z.cps.toList : Nat)
def sgn (z : Str) : Int := if z = "-" then -1 else 1
/-- a term, read: its factor and its name -/
def termB : List Str → Option (Int × Str)
  | [s, x] => if nameB x = true then some (sgn s, x) else if natB x = true then some (sgn s * valN x, "") else none
  | [s, a, x] => if natB a = true ∧ nameB x = true then some (sgn s * valN a, x) else none
  | _ => none
theorem term2 (s x : Str) : termB [s, x] = if nameB x = true then some (sgn s, x) else if natB x = true then some (sgn s * valN x, "") else none := rfl
theorem term3 (s a x : Str) : termB [s, a, x] = if natB a = true ∧ nameB x = true then some (sgn s * valN a, x) else none := rfl
def tOf : Option (Int × Str) → List V
  | none => []
  | some (i, z) => [.int i, .str z]
def spTerm : Sp := fun vs H Q _ => ∃ (l : Addr) (ws : List Str), vs = [.ref l] ∧ H l = some (.lst (ws.map V.str)) ∧ 1 ≤ ws.length ∧ ws.length ≤ 62001 ∧ (∀ z ∈ ws, z.cps.toList.length ≤ 100000) ∧
  ∀ (t : Addr) (H' : Hp), Same H H' → H' t = some (.tup (tOf (termB ws))) → Q (.ref t) H'
section
variable {P : Program} {w : World} {K : PySem.W.Frag} {mg : Str → Option Value} {base : Heap}
abbrev s_read_term : Stmt := topS 18
theorem sc_read_term : FnScope ["words", "sign"] ["words"] (defScope s_read_term) := ⟨rfl, rfl, rfl, by decide +kernel, rfl, by decide +kernel, by decide +kernel⟩
theorem ok_read_term {f : Addr} {fd : FuncData} (F : Fun K "_read_term" "_read_term" s_read_term f fd) (gl : mg "_read_term" = some (.ref f)) (T : Bl mg) (D_is_name : DefG P w K mg base 1 "is_name" ["word"] spName) (D_is_natural : DefG P w K mg base 1 "is_natural" ["word"] spNat) : DefG P w K mg base 2 "_read_term" ["words"] spTerm := by
  refine def_mk F gl (F.binds fun _ _ _ _ _ _ us hl => match us, hl with | [_], _ => rfl) (okG F sc_read_term (fun vs H Q E h => ?_) fun cdv A outer s H vs Q E hr hc h => ?_)
  · obtain ⟨l, ns, rfl, _⟩ := h
    rfl
  · obtain ⟨l, ws, rfl, hl, w1, w2, wl, q⟩ := h
    have nd := sc_read_term.nd
    refine ⟨_, (pss_cons (ps_set (i := 1) nd rfl (by first | exact Or.inl rfl | exact Or.inr rfl) (pe_cutE (pe_ifExp (pt_cmpR op_eq (pe_ix ix_list (pv 0) pe_int (fun _ _ => rfl)) pe_str (nomark _)) (pe_un un_neg pe_int) pe_int)))
      (pss_cons (ps_if (PW.pt (pw_and (pt_cmpR op_eq (pe_callB call_len_seq (by rfl) T.len boot_len (pa_cons (pv 0) pa_nil)) pe_int (nomark _)) (pw_and1 (pt_truth (pe_def D_is_name (hr.mono (by decide)) hc (by rfl) (pa_cons (pe_ix ix_list (pv 0) pe_int (fun _ _ => rfl)) pa_nil)) (fun _ => rfl)))))
        (pss_one (ps_ret (pe_tup (pa_cons (pv 1) (pa_cons (pe_ix ix_list (pv 0) pe_int (fun _ _ => rfl)) pa_nil)))))
        pss_nil)
      (pss_cons (ps_if (PW.pt (pw_and (pt_cmpR op_eq (pe_callB call_len_seq (by rfl) T.len boot_len (pa_cons (pv 0) pa_nil)) pe_int (nomark _)) (pw_and1 (pt_truth (pe_def D_is_natural (hr.mono (by decide)) hc (by rfl) (pa_cons (pe_ix ix_list (pv 0) pe_int (fun _ _ => rfl)) pa_nil)) (fun _ => rfl)))))
        (pss_one (ps_ret (pe_tup (pa_cons (pe_op op_mul (pv 1) (pe_callTy call_int_str (by rfl) T.int boot_int (pa_cons (pe_ix ix_list (pv 0) pe_int (fun _ _ => rfl)) pa_nil))) (pa_cons pe_str pa_nil)))))
        pss_nil)
      (pss_cons (ps_if (PW.pt (pw_and (pt_cmpR op_eq (pe_callB call_len_seq (by rfl) T.len boot_len (pa_cons (pv 0) pa_nil)) pe_int (nomark _)) (pw_and (pt_truth (pe_def D_is_natural (hr.mono (by decide)) hc (by rfl) (pa_cons (pe_ix ix_list (pv 0) pe_int (fun _ _ => rfl)) pa_nil)) (fun _ => rfl)) (pw_and1 (pt_truth (pe_def D_is_name (hr.mono (by decide)) hc (by rfl) (pa_cons (pe_ix ix_list (pv 0) pe_int (fun _ _ => rfl)) pa_nil)) (fun _ => rfl))))))
        (pss_one (ps_ret (pe_tup (pa_cons (pe_op op_mul (pv 1) (pe_callTy call_int_str (by rfl) T.int boot_int (pa_cons (pe_ix ix_list (pv 0) pe_int (fun _ _ => rfl)) pa_nil))) (pa_cons (pe_ix ix_list (pv 0) pe_int (fun _ _ => rfl)) pa_nil)))))
        pss_nil)
      (pss_one (ps_ret (pe_tup pa_nil))))))), ?_⟩
    obtain ⟨s0, rs, rfl⟩ : ∃ s0 rs, ws = s0 :: rs := by
      cases ws with
      | nil => exact absurd w1 (by decide)
      | cons a r => exact ⟨a, r, rfl⟩
    have hL : ∀ {Hx : Hp}, Same H Hx → SqL K Hx l ((s0 :: rs).map V.str) := fun s => tofL (s _ _ hl)
    refine ⟨fun x H' => x = .int (sgn s0) ∧ H' = H, ?_, ?_⟩
    · refine ⟨_, rfl, l, _, 0, _, rfl, rfl, hL (Same.refl H), atI_nat (j := 0) rfl, rfl, _, rfl, ite2 (fun e => ⟨1, rfl, ?_, rfl⟩) (fun e => ⟨?_, rfl⟩)⟩
      · unfold sgn
        rw [if_pos (V.str.inj (of_decide_eq_true e))]
      · unfold sgn
        rw [if_neg (fun z => e (decide_eq_true (congrArg V.str z)))]
    rintro x H' ⟨rfl, rfl⟩
    have no2 : ∀ {n : Nat}, n ≠ 2 → decide (V.int ((n : Nat) : Int) = V.int 2) = true → False := fun {n} hn e => hn (by have := V.int.inj (of_decide_eq_true e); omega)
    have no3 : ∀ {n : Nat}, n ≠ 3 → decide (V.int ((n : Nat) : Int) = V.int 3) = true → False := fun {n} hn e => hn (by have := V.int.inj (of_decide_eq_true e); omega)
    have iN : ∀ {u : Str}, natB u = true → PySem.intText? u = some (valN u) ∧ u.length ≤ 640 := fun {u} h => by
      unfold natB at h
      rw [Bool.and_eq_true, Bool.and_eq_true] at h
      obtain ⟨⟨h1, h2⟩, _⟩ := h
      have h1 := of_decide_eq_true h1
      have zl : u.length = u.cps.toList.length := (Array.length_toList ..).symm
      refine ⟨PySem.intText_digits (fun c hc => ?_) ?_ (by omega), by omega⟩
      · have hc2 : c ∈ DIGITS.cps.toList := of_decide_eq_true (List.all_eq_true.mp h2 c hc)
        have ds : ∀ d ∈ DIGITS.cps.toList, 48 ≤ d ∧ d ≤ 57 := by decide +kernel
        exact ds c hc2
      · intro z
        rw [z] at h1
        exact absurd h1.1 (by decide)
    have cm : ∀ v : Int, CMul (sgn s0) v := fun v => .inl (by unfold sgn; split <;> exact ⟨by decide, by decide⟩)
    rcases rs with _ | ⟨x, _ | ⟨y, _ | ⟨z, r⟩⟩⟩
    · refine ⟨_, rfl, l, _, rfl, .inl (hL (Same.refl _)), rfl, _, rfl, ite2 (fun e => (no2 (n := 1) (by decide) e).elim) (fun _ => ite2 (fun e => by cases e) (fun _ => ?_))⟩
      refine ⟨_, rfl, l, _, rfl, .inl (hL (Same.refl _)), rfl, _, rfl, ite2 (fun e => (no2 (n := 1) (by decide) e).elim) (fun _ => ite2 (fun e => by cases e) (fun _ => ?_))⟩
      refine ⟨_, rfl, l, _, rfl, .inl (hL (Same.refl _)), rfl, _, rfl, ite2 (fun e => (no3 (n := 1) (by decide) e).elim) (fun _ => ite2 (fun e => by cases e) (fun _ => ?_))⟩
      exact ⟨(show 0 ≤ sizeLine from small (by decide)), fun t nt => q t _ (Same.new nt) upd_same⟩
    · refine ⟨_, rfl, l, _, rfl, .inl (hL (Same.refl _)), rfl, _, rfl, ite2 (fun _ => ?_) (fun e => absurd rfl e)⟩
      refine ⟨_, rfl, l, _, 1, _, rfl, rfl, hL (Same.refl _), atI_nat (j := 1) rfl, x, rfl, wl x (by simp), fun H1 s1 => ⟨_, rfl, ite2 (fun e => ?_) (fun e => ?_)⟩⟩
      · refine ⟨_, rfl, _, rfl, l, _, 1, _, rfl, rfl, hL s1, atI_nat (j := 1) rfl, (show 2 ≤ sizeLine from small (by decide)), fun t nt => q t _ (s1.trans (Same.new nt)) ?_⟩
        rw [upd_same]
        rw [term2, if_pos e]; rfl
      refine ⟨_, rfl, l, _, rfl, .inl (hL s1), rfl, _, rfl, ite2 (fun _ => ?_) (fun e => absurd rfl e)⟩
      refine ⟨_, rfl, l, _, 1, _, rfl, rfl, hL s1, atI_nat (j := 1) rfl, x, rfl, wl x (by simp), fun H2 s2 => ⟨_, rfl, ite2 (fun e2 => ?_) (fun e2 => ?_)⟩⟩
      · refine ⟨_, rfl, _, rfl, l, _, 1, _, rfl, rfl, hL (s1.trans s2), atI_nat (j := 1) rfl, x, valN x, rfl, (iN e2).1, (iN e2).2, ?_⟩
        refine ⟨sgn s0, valN x, rfl, rfl, cm _, (show 2 ≤ sizeLine from small (by decide)), fun t nt => q t _ ((s1.trans s2).trans (Same.new nt)) ?_⟩
        rw [upd_same, term2, if_neg e, if_pos e2]; rfl
      refine ⟨_, rfl, l, _, rfl, .inl (hL (s1.trans s2)), rfl, _, rfl, ite2 (fun e => (no3 (n := 2) (by decide) e).elim) (fun _ => ite2 (fun e => by cases e) (fun _ => ?_))⟩
      refine ⟨(show 0 ≤ sizeLine from small (by decide)), fun t nt => q t _ ((s1.trans s2).trans (Same.new nt)) ?_⟩
      rw [upd_same]
      rw [term2, if_neg e, if_neg e2]; rfl
    · refine ⟨_, rfl, l, _, rfl, .inl (hL (Same.refl _)), rfl, _, rfl, ite2 (fun e => (no2 (n := 3) (by decide) e).elim) (fun _ => ite2 (fun e => by cases e) (fun _ => ?_))⟩
      refine ⟨_, rfl, l, _, rfl, .inl (hL (Same.refl _)), rfl, _, rfl, ite2 (fun e => (no2 (n := 3) (by decide) e).elim) (fun _ => ite2 (fun e => by cases e) (fun _ => ?_))⟩
      refine ⟨_, rfl, l, _, rfl, .inl (hL (Same.refl _)), rfl, _, rfl, ite2 (fun _ => ?_) (fun e => absurd rfl e)⟩
      have bad : ∀ (Hx : Hp) (t : Addr), Same H' Hx → Hx t = none → ¬ (natB x = true ∧ nameB y = true) → Q (.ref t) (upd Hx t (.tup [])) := fun Hx t sx nt e => by
        refine q t _ (sx.trans (Same.new nt)) ?_
        rw [upd_same, term3, if_neg e]; rfl
      refine ⟨_, rfl, l, _, 1, _, rfl, rfl, hL (Same.refl _), atI_nat (j := 1) rfl, x, rfl, wl x (by simp), fun H1 s1 => ⟨_, rfl, ite2 (fun e => ?_) (fun e => ?_)⟩⟩
      · refine ⟨_, rfl, l, _, 2, _, rfl, rfl, hL s1, atI_nat (j := 2) rfl, y, rfl, wl y (by simp), fun H2 s2 => ⟨_, rfl, ite2 (fun e2 => ?_) (fun e2 => ?_)⟩⟩
        · refine ⟨_, rfl, _, rfl, l, _, 1, _, rfl, rfl, hL (s1.trans s2), atI_nat (j := 1) rfl, x, valN x, rfl, (iN e).1, (iN e).2, sgn s0, valN x, rfl, rfl, cm _, _, rfl, l, _, 2, _, rfl, rfl, hL (s1.trans s2), atI_nat (j := 2) rfl, (show 2 ≤ sizeLine from small (by decide)), fun t nt => q t _ ((s1.trans s2).trans (Same.new nt)) ?_⟩
          rw [upd_same, term3, if_pos ⟨e, e2⟩]; rfl
        · exact ⟨(show 0 ≤ sizeLine from small (by decide)), fun t nt => bad _ t (s1.trans s2) nt fun z => e2 z.2⟩
      · refine ite2 (fun e => by cases e) (fun _ => ?_)
        exact ⟨(show 0 ≤ sizeLine from small (by decide)), fun t nt => bad _ t s1 nt fun z => e z.1⟩
    · have n4 : ∀ k : Nat, ((s0 :: x :: y :: z :: r).map V.str).length = k → k ≠ 2 ∧ k ≠ 3 := fun k e => by
        rw [List.length_map] at e
        simp at e
        omega
      refine ⟨_, rfl, l, _, rfl, .inl (hL (Same.refl _)), rfl, _, rfl, ite2 (fun e => (no2 (n4 _ rfl).1 e).elim) (fun _ => ite2 (fun e => by cases e) (fun _ => ?_))⟩
      refine ⟨_, rfl, l, _, rfl, .inl (hL (Same.refl _)), rfl, _, rfl, ite2 (fun e => (no2 (n4 _ rfl).1 e).elim) (fun _ => ite2 (fun e => by cases e) (fun _ => ?_))⟩
      refine ⟨_, rfl, l, _, rfl, .inl (hL (Same.refl _)), rfl, _, rfl, ite2 (fun e => (no3 (n4 _ rfl).2 e).elim) (fun _ => ite2 (fun e => by cases e) (fun _ => ?_))⟩
      exact ⟨(show 0 ≤ sizeLine from small (by decide)), fun t nt => q t _ (Same.new nt) upd_same⟩
end
end KW
namespace KW
open PySem PySem.Spec PyProof.Rows L2 GL RZ TL
/-- == and != of data without dicts, whatever the texts -/
def rEqP (K : PySem.W.Frag) : R2 := fun x y H Q => ∃ d e, Dp K H x d ∧ Dp K H y e ∧ d.plain = true ∧ e.plain = true ∧ d.depth ≤ 60 ∧ Q (.bl (PyData.eqv d e)) H
def rNeP (K : PySem.W.Frag) : R2 := fun x y H Q => ∃ d e, Dp K H x d ∧ Dp K H y e ∧ d.plain = true ∧ e.plain = true ∧ d.depth ≤ 60 ∧ Q (.bl (!PyData.eqv d e)) H
theorem op_eqP {X : Cx} {K : PySem.W.Frag} (hu : X.A.units + 64 < cLine) (h : X.K = K := by rfl) : OpR X (compareOp .Eq) (rEqP K) := by
  subst h
  intro pins s σ H x y v u Q I rx ry hh
  obtain ⟨d, e, hd, he, sd, se, dp, q⟩ := hh
  obtain ⟨as, r1⟩ := Dp.reads I d x v hd rx
  obtain ⟨bs, r2⟩ := Dp.reads I e y u he ry
  exact SeqAt.eq_plain r1 r2 sd se (by have : min d.depth e.depth ≤ d.depth := Nat.min_le_left _ _; omega) ⟨.bl _, H, I, rfl, q⟩
theorem op_neP {X : Cx} {K : PySem.W.Frag} (hu : X.A.units + 64 < cLine) (h : X.K = K := by rfl) : OpR X (compareOp .NotEq) (rNeP K) := by
  subst h
  intro pins s σ H x y v u Q I rx ry hh
  obtain ⟨d, e, hd, he, sd, se, dp, q⟩ := hh
  obtain ⟨as, r1⟩ := Dp.reads I d x v hd rx
  obtain ⟨bs, r2⟩ := Dp.reads I e y u he ry
  exact SeqAt.ne_plain r1 r2 sd se (by have : min d.depth e.depth ≤ d.depth := Nat.min_le_left _ _; omega) ⟨.bl _, H, I, rfl, q⟩
theorem plain_strs : ∀ ws : List Str, PyData.plain (.list (ws.map PyData.str)) = true
  | [] => rfl
  | _ :: r => plain_strs r
theorem depth_strs : ∀ ws : List Str, PyData.depth (.list (ws.map PyData.str)) ≤ 60 := fun ws => by
  have : PyData.depthAll (ws.map PyData.str) ≤ 0 := depthAll_of _ fun d hd => by
    obtain ⟨z, _, rfl⟩ := List.mem_map.mp hd
    exact Nat.le_refl 0
  show PyData.depthAll (ws.map PyData.str) + 1 ≤ 60
  omega
theorem eqv_strs : ∀ xs ys : List Str, PyData.eqv (.list (xs.map PyData.str)) (.list (ys.map PyData.str)) = decide (xs = ys)
  | [], [] => rfl
  | [], _ :: _ => rfl
  | _ :: _, [] => rfl
  | x :: xs, y :: ys => by
    have ih : PyData.eqvAll (xs.map PyData.str) (ys.map PyData.str) = decide (xs = ys) := eqv_strs xs ys
    show (PyData.eqv (.str x) (.str y) && PyData.eqvAll (xs.map PyData.str) (ys.map PyData.str)) = _
    rw [ih]
    show ((x == y) && decide (xs = ys)) = _
    by_cases e : x = y
    · subst e
      by_cases f : xs = ys
      · subst f; simp
      · simp [f]
    · simp [e]
theorem dpa_strs {K : PySem.W.Frag} {H : Hp} : ∀ ws : List Str, DpAll K H (ws.map V.str) (ws.map PyData.str)
  | [] => .nil
  | _ :: r => .cons (.str _) (dpa_strs r)
theorem two_ends : ∀ ws : List Str, 2 ≤ ws.length → ∃ init a x, ws = init ++ [a, x]
  | [], h => absurd h (by decide)
  | [_], h => absurd h (by simp)
  | [a, x], _ => ⟨[], a, x, rfl⟩
  | b :: c :: d :: r, h => by
    obtain ⟨init, a, x, e⟩ := two_ends (c :: d :: r) (by simp)
    exact ⟨b :: init, a, x, by rw [e]; rfl⟩
theorem cut_mid (xs : List V) (a b : V) : cutV (xs ++ [a, b]) (some (-2)) (some (-1)) = [a] := by
  have l : (xs ++ [a, b]).length = xs.length + 2 := by rw [List.length_append]; rfl
  have e1 : HT.sIx (xs.length + 2) 0 (some (-2)) = xs.length := by
    unfold HT.sIx
    simp
    try omega
  have e2 : HT.sIx (xs.length + 2) (xs.length + 2) (some (-1)) = xs.length + 1 := by
    unfold HT.sIx
    simp
    try omega
  unfold cutV
  rw [l, e1, e2, List.drop_left, show xs.length + 1 - xs.length = 1 by omega]
  rfl
theorem cut_fore (xs : List V) (a b : V) : cutV (xs ++ [a, b]) none (some (-2)) = xs := by
  have l : (xs ++ [a, b]).length = xs.length + 2 := by rw [List.length_append]; rfl
  have e1 : HT.sIx (xs.length + 2) 0 none = 0 := rfl
  have e2 : HT.sIx (xs.length + 2) (xs.length + 2) (some (-2)) = xs.length := by
    unfold HT.sIx
    simp
    try omega
  unfold cutV
  rw [l, e1, e2, List.drop_zero, Nat.sub_zero, List.take_left]
theorem cut_mid1 (b : V) : cutV [b] (some (-2)) (some (-1)) = [] := rfl
/-- the words ahead of a modulus, and the modulus (0: there is none) -/
def lastS (ws : List Str) : Str := ws.getLastD ""
def modOf (ws : List Str) : List Str × Int := if 2 ≤ ws.length ∧ ws[ws.length - 2]? = some ("mod" : Str) ∧ natB (lastS ws) = true ∧ 2 ≤ valN (lastS ws) then (ws.take (ws.length - 2), valN (lastS ws)) else (ws, 0)
theorem modOf_one (x : Str) : modOf [x] = ([x], 0) := if_neg fun h => absurd h.1 (by simp)
theorem modOf_app (init : List Str) (a x : Str) : modOf (init ++ [a, x]) = if a = "mod" ∧ natB x = true ∧ 2 ≤ valN x then (init, valN x) else (init ++ [a, x], 0) := by
  have l : (init ++ [a, x]).length = init.length + 2 := by rw [List.length_append]; rfl
  have e1 : (init ++ [a, x])[init.length]? = some a := by rw [List.getElem?_append_right (Nat.le_refl _), Nat.sub_self]; rfl
  have e2 : lastS (init ++ [a, x]) = x := by
    unfold lastS
    rw [show init ++ [a, x] = (init ++ [a]) ++ [x] by simp]
    simp
  unfold modOf
  rw [l, Nat.add_sub_cancel, e1, e2, List.take_left]
  by_cases h : a = "mod" ∧ natB x = true ∧ 2 ≤ valN x
  · rw [if_pos h, if_pos ⟨by omega, by rw [h.1], h.2⟩]
  · rw [if_neg h, if_neg fun z => h ⟨Option.some.inj z.2.1, z.2.2⟩]
def spMod : Sp := fun vs H Q _ => ∃ (l : Addr) (ws : List Str), vs = [.ref l] ∧ H l = some (.lst (ws.map V.str)) ∧ ws.length ≤ 62000 ∧ (∀ z ∈ ws, z.cps.toList.length ≤ 100000) ∧
  ∀ (t l' : Addr) (H' : Hp), Same H H' → H' t = some (.tup [.ref l', .int (modOf ws).2]) → H' l' = some (.lst ((modOf ws).1.map V.str)) → Q (.ref t) H'
theorem nat_int {u : Str} (h : natB u = true) : PySem.intText? u = some (valN u) ∧ u.length ≤ 640 := by
  unfold natB at h
  rw [Bool.and_eq_true, Bool.and_eq_true] at h
  obtain ⟨⟨h1, h2⟩, _⟩ := h
  have h1 := of_decide_eq_true h1
  have zl : u.length = u.cps.toList.length := (Array.length_toList ..).symm
  refine ⟨PySem.intText_digits (fun c hc => ?_) ?_ (by omega), by omega⟩
  · have hc2 : c ∈ DIGITS.cps.toList := of_decide_eq_true (List.all_eq_true.mp h2 c hc)
    have ds : ∀ d ∈ DIGITS.cps.toList, 48 ≤ d ∧ d ≤ 57 := by decide +kernel
    exact ds c hc2
  · intro z
    rw [z] at h1
    exact absurd h1.1 (by decide)
section
variable {P : Program} {w : World} {K : PySem.W.Frag} {mg : Str → Option Value} {base : Heap}
abbrev s_without_modulus : Stmt := topS 15
theorem sc_without_modulus : FnScope ["words"] ["words"] (defScope s_without_modulus) := ⟨rfl, rfl, rfl, by decide +kernel, rfl, by decide +kernel, by decide +kernel⟩
theorem ok_without_modulus {f : Addr} {fd : FuncData} (F : Fun K "without_modulus" "without_modulus" s_without_modulus f fd) (gl : mg "without_modulus" = some (.ref f)) (T : Bl mg) (D_is_natural : DefG P w K mg base 1 "is_natural" ["word"] spNat) : DefG P w K mg base 2 "without_modulus" ["words"] spMod := by
  refine def_mk F gl (F.binds fun _ _ _ _ _ _ us hl => match us, hl with | [_], _ => rfl) (okG F sc_without_modulus (fun vs H Q E h => ?_) fun cdv A outer s H vs Q E hr hc h => ?_)
  · obtain ⟨l, ns, rfl, _⟩ := h
    rfl
  · obtain ⟨l, ws, rfl, hl, w2, wl, q⟩ := h
    have nd := sc_without_modulus.nd
    have hu64 := hr.units
    refine ⟨_, (pss_cons (ps_if (PW.pt (pw_and (pt_cmpR (op_eqP (K := K) hu64) (pe_slice sl_list (pv 0) (po_some (pe_un un_neg pe_int)) (po_some (pe_un un_neg pe_int))) (pe_lst (pa_cons pe_str pa_nil)) (nomark _)) (pw_and (pt_truth (pe_def D_is_natural (hr.mono (by decide)) hc (by rfl) (pa_cons (pe_ix ix_list (pv 0) (pe_un un_neg pe_int) (fun _ _ => rfl)) pa_nil)) (fun _ => rfl)) (pw_and1 (pt_cmpR op_ge (pe_callTy call_int_str (by rfl) T.int boot_int (pa_cons (pe_ix ix_list (pv 0) (pe_un un_neg pe_int) (fun _ _ => rfl)) pa_nil)) pe_int (nomark _))))))
        (pss_one (ps_ret (pe_tup (pa_cons (pe_slice sl_list (pv 0) po_none (po_some (pe_un un_neg pe_int))) (pa_cons (pe_callTy call_int_str (by rfl) T.int boot_int (pa_cons (pe_ix ix_list (pv 0) (pe_un un_neg pe_int) (fun _ _ => rfl)) pa_nil)) pa_nil)))))
        pss_nil)
      (pss_one (ps_ret (pe_tup (pa_cons (pv 0) (pa_cons pe_int pa_nil)))))), ?_⟩
    have hL : ∀ {Hx : Hp}, Same H Hx → SqL K Hx l (ws.map V.str) := fun s => tofL (s _ _ hl)
    refine ⟨_, rfl, 2, rfl, -2, rfl, 1, rfl, -1, rfl, l, _, rfl, hL (Same.refl H), fun p np => ?_⟩
    have s1 := Same.new (o := .lst (cutV (ws.map V.str) (some (-2)) (some (-1)))) np
    have hp : upd H p (.lst (cutV (ws.map V.str) (some (-2)) (some (-1)))) p = some (.lst (cutV (ws.map V.str) (some (-2)) (some (-1)))) := upd_same
    generalize upd H p (.lst (cutV (ws.map V.str) (some (-2)) (some (-1)))) = H1 at *
    refine ⟨(show 1 ≤ sizeLine from small (by decide)), fun p2 np2 => ?_⟩
    have s2 := Same.new (o := .lst [.str "mod"]) np2
    have hp2 : upd H1 p2 (.lst [.str "mod"]) p2 = some (.lst [.str "mod"]) := upd_same
    have s12 := s1.trans s2
    have hp1 := s2 _ _ hp
    generalize upd H1 p2 (.lst [.str "mod"]) = H2 at *
    have bad : modOf ws = (ws, 0) → ∀ Hx, Same H Hx → ∀ t, Hx t = none → Q (.ref t) (upd Hx t (.tup [.ref l, .int 0])) := fun e Hx sx t nt => by
      refine q t l _ (sx.trans (Same.new nt)) ?_ ?_
      · rw [upd_same, e]
      · rw [e]; exact (sx.trans (Same.new nt)) _ _ hl
    by_cases w2' : 2 ≤ ws.length
    rotate_left
    · have em0 : modOf ws = (ws, 0) := if_neg fun h => w2' h.1
      have hp1 : H2 p = some (.lst (([] : List Str).map V.str)) := by
        rw [hp1]
        match ws, w2' with
        | [], _ => rfl
        | [x], _ => rfl
        | _ :: _ :: _, h => exact absurd (by simp) h
      refine ⟨.list (([] : List Str).map PyData.str), .list (([("mod" : Str)]).map PyData.str), .lst (tofL hp1) (dpa_strs _), .lst (tofL hp2) (dpa_strs ["mod"]), plain_strs _, plain_strs _, depth_strs _, _, rfl, ?_⟩
      rw [eqv_strs]
      refine ite2 (fun e => absurd e (by decide)) (fun _ => ite2 (fun e => by cases e) (fun _ => ?_))
      exact ⟨_, rfl, (show 2 ≤ sizeLine from small (by decide)), fun t nt => bad em0 _ s12 t nt⟩
    obtain ⟨init, a, x, rfl⟩ := two_ends ws w2'
    have hp1 : H2 p = some (.lst (([a] : List Str).map V.str)) := by
      rw [List.map_append] at hp1
      exact hp1.trans (congrArg (fun z => some (HO.lst z)) (cut_mid _ _ _))
    have hlast : atI ((init ++ [a, x]).map V.str) (-1) = some (V.str x) := by
      rw [show (init ++ [a, x]).map V.str = (init.map V.str ++ [V.str a]) ++ [V.str x] by simp]
      exact atI_last _ _
    refine ⟨.list (([a] : List Str).map PyData.str), .list (([("mod" : Str)]).map PyData.str), .lst (tofL hp1) (dpa_strs [a]), .lst (tofL hp2) (dpa_strs ["mod"]), plain_strs _, plain_strs _, depth_strs _, _, rfl, ?_⟩
    rw [eqv_strs]
    have badm : ¬ (a = "mod" ∧ natB x = true ∧ 2 ≤ valN x) → ∀ Hx, Same H Hx → ∀ t, Hx t = none → Q (.ref t) (upd Hx t (.tup [.ref l, .int 0])) := fun e => bad (by rw [modOf_app, if_neg e])
    refine ite2 (fun e => ?_) (fun e => ite2 (fun z => by cases z) (fun _ => ?_))
    rotate_left
    · have e' : ¬ a = "mod" := fun z => e (decide_eq_true (by rw [z]))
      exact ⟨_, rfl, (show 2 ≤ sizeLine from small (by decide)), fun t nt => badm (fun z => e' z.1) _ s12 t nt⟩
    have ea : a = "mod" := (List.cons.inj (of_decide_eq_true e)).1
    refine ⟨_, rfl, 1, rfl, l, _, -1, _, rfl, rfl, hL s12, hlast, x, rfl, wl x (by simp), fun H3 s3 => ⟨_, rfl, ?_⟩⟩
    have s13 := s12.trans s3
    refine ite2 (fun e2 => ?_) (fun e2 => ite2 (fun z => by cases z) (fun _ => ?_))
    rotate_left
    · exact ⟨_, rfl, (show 2 ≤ sizeLine from small (by decide)), fun t nt => badm (fun z => e2 z.2.1) _ s13 t nt⟩
    refine ⟨_, rfl, 1, rfl, l, _, -1, _, rfl, rfl, hL s13, hlast, x, valN x, rfl, (nat_int e2).1, (nat_int e2).2, valN x, 2, rfl, rfl, _, rfl, ?_⟩
    refine ite2 (fun e3 => ?_) (fun e3 => ?_)
    rotate_left
    · exact ⟨_, rfl, (show 2 ≤ sizeLine from small (by decide)), fun t nt => badm (fun z => e3 (decide_eq_true z.2.2)) _ s13 t nt⟩
    have em : modOf (init ++ [a, x]) = (init, valN x) := by rw [modOf_app, if_pos ⟨ea, e2, of_decide_eq_true e3⟩]
    refine ⟨_, rfl, 2, rfl, -2, rfl, l, _, rfl, hL s13, fun p3 np3 => ?_⟩
    have s4 := Same.new (o := .lst (cutV ((init ++ [a, x]).map V.str) none (some (-2)))) np3
    have s14 := s13.trans s4
    have hp3 : upd H3 p3 (.lst (cutV ((init ++ [a, x]).map V.str) none (some (-2)))) p3 = some (.lst (init.map V.str)) := by
      rw [upd_same, List.map_append]
      exact congrArg (fun z => some (HO.lst z)) (cut_fore _ _ _)
    generalize upd H3 p3 (.lst (cutV ((init ++ [a, x]).map V.str) none (some (-2)))) = H4 at *
    refine ⟨_, rfl, 1, rfl, l, _, -1, _, rfl, rfl, hL s14, hlast, x, valN x, rfl, (nat_int e2).1, (nat_int e2).2, (show 2 ≤ sizeLine from small (by decide)), fun t nt => ?_⟩
    refine q t p3 _ (s14.trans (Same.new nt)) ?_ ?_
    · rw [upd_same, em]
    · rw [em]; exact (Same.new nt) _ _ hp3
end
end KW
namespace KW
open PySem PySem.Spec PyProof.Rows L2 GL RZ TL
/-- x in a list of data without dicts -/
def rInP (K : PySem.W.Frag) : R2 := fun x y H Q => ∃ d es, Dp K H x d ∧ Dp K H y (.list es) ∧ d.plain = true ∧ PyData.plainAll es = true ∧ d.depth ≤ 60 ∧ Q (.bl (es.any fun z => PyData.eqv z d)) H
theorem op_inP {X : Cx} {K : PySem.W.Frag} (hu : X.A.units + 64 < cLine) (h : X.K = K := by rfl) : OpR X (compareOp .In) (rInP K) := by
  subst h
  intro pins s σ H x y v u Q I rx ry hh
  obtain ⟨d, es, hd, he, sd, se, dp, q⟩ := hh
  obtain ⟨as, r1⟩ := Dp.reads I d x v hd rx
  obtain ⟨bs, r2⟩ := Dp.reads I _ y u he ry
  exact SeqAt.in_list_data r2 r1 se sd (by have : min (PyData.depthAll es) d.depth ≤ d.depth := Nat.min_le_right _ _; omega) ⟨.bl _, H, I, rfl, q⟩
def isSg (w : Str) : Bool := decide (w = "+") || decide (w = "-")
def stepP (ps : List (List Str)) (w : Str) : List (List Str) := if isSg w = true then ps ++ [[w]] else ps.dropLast ++ [ps.getLastD [] ++ [w]]
def partsOf (ws : List Str) : List (List Str) := ws.foldl stepP []
theorem partsOf_snoc (ws : List Str) (w : Str) : partsOf (ws ++ [w]) = stepP (partsOf ws) w := by
  unfold partsOf
  rw [List.foldl_append]; rfl
def signedOf (ws : List Str) : List Str := if ws.take 1 = [("-" : Str)] then ws else "+" :: ws
theorem signed_head (ws : List Str) : ∃ w r, signedOf ws = w :: r ∧ isSg w = true := by
  unfold signedOf
  by_cases h : ws.take 1 = [("-" : Str)]
  · rw [if_pos h]
    cases ws with
    | nil => cases h
    | cons w r =>
      have e : w = "-" := (List.cons.inj h).1
      subst e
      exact ⟨_, r, rfl, by decide +kernel⟩
  · rw [if_neg h]
    exact ⟨_, ws, rfl, by decide +kernel⟩
def termsOf (ws : List Str) : List (Option (Int × Str)) := (partsOf (signedOf ws)).map termB
structure PartsAt (H0 Hx : Hp) (as : List Addr) (ps : List (List Str)) (i : Nat) : Prop where
  len : as.length = ps.length
  at_ : ∀ (j : Nat) (a : Addr), as[j]? = some a → ∃ us : List Str, ps[j]? = some us ∧ Hx a = some (.lst (us.map V.str))
  nd : as.Nodup
  new : ∀ a ∈ as, H0 a = none
  few : ps.length ≤ i
  ok : ∀ p ∈ ps, 1 ≤ p.length ∧ p.length ≤ i ∧ ∀ z ∈ p, z.cps.toList.length ≤ 100000
theorem PartsAt.same {H0 Hx H' : Hp} {as : List Addr} {ps : List (List Str)} {i : Nat} (h : PartsAt H0 Hx as ps i) (s : Same Hx H') : PartsAt H0 H' as ps i :=
  ⟨h.len, fun j a e => by obtain ⟨us, h1, h2⟩ := h.at_ j a e; exact ⟨us, h1, s _ _ h2⟩, h.nd, h.new, h.few, h.ok⟩
theorem stepP_ne (ps : List (List Str)) (w : Str) : stepP ps w ≠ [] := by
  unfold stepP
  split <;> simp
theorem ends_of {α : Type} (l : List α) (h : l ≠ []) : ∃ r a, l = r ++ [a] := ⟨l.dropLast, l.getLast h, (List.dropLast_concat_getLast h).symm⟩
theorem PartsAt.snoc {H0 Hx : Hp} {as : List Addr} {ps : List (List Str)} {i : Nat} (h : PartsAt H0 Hx as ps i) {n : Addr} {w : Str} {H' : Hp} (hn : Hx n = none) (s : Same H0 Hx) (k : ∀ a o, Hx a = some o → a ∈ as → H' a = some o) (hw : w.cps.toList.length ≤ 100000)
    (e : H' n = some (.lst [.str w])) : PartsAt H0 H' (as ++ [n]) (ps ++ [[w]]) (i + 1) where
  len := by rw [List.length_append, List.length_append, h.len]; rfl
  at_ := fun j a hj => by
    rcases Nat.lt_or_ge j as.length with lt | ge
    · rw [List.getElem?_append_left lt] at hj
      obtain ⟨ws, h1, h2⟩ := h.at_ j a hj
      exact ⟨ws, by rw [List.getElem?_append_left (by rw [← h.len]; exact lt)]; exact h1, k _ _ h2 (List.mem_of_getElem? hj)⟩
    · rw [List.getElem?_append_right ge] at hj
      have j0 : j - as.length = 0 := by
        have := (List.getElem?_eq_some_iff.mp hj).1
        simp at this
        omega
      rw [j0] at hj
      cases hj
      refine ⟨[w], ?_, e⟩
      rw [List.getElem?_append_right (by rw [← h.len]; exact ge), ← h.len, j0]; rfl
  nd := by
    rw [List.nodup_append]
    refine ⟨h.nd, by simp, fun a ha b hb => ?_⟩
    rw [List.mem_singleton.mp hb]
    rintro rfl
    obtain ⟨j, hj⟩ := List.mem_iff_getElem?.mp ha
    obtain ⟨ws, _, h2⟩ := h.at_ j _ hj
    rw [hn] at h2; cases h2
  new := fun a ha => by
    rcases List.mem_append.mp ha with ha | ha
    · exact h.new a ha
    · rw [List.mem_singleton.mp ha]
      cases e0 : H0 n with
      | none => rfl
      | some o => rw [s _ _ e0] at hn; cases hn
  few := by
    have := h.few
    rw [List.length_append]
    show _ + 1 ≤ _
    omega
  ok := fun p hp => by
    rcases List.mem_append.mp hp with hp | hp
    · obtain ⟨h1, h2, h3⟩ := h.ok p hp
      exact ⟨h1, by omega, h3⟩
    · rw [List.mem_singleton.mp hp]
      exact ⟨Nat.le_refl _, by show 1 ≤ _; omega, fun z hz => by rw [List.mem_singleton.mp hz]; exact hw⟩
theorem PartsAt.last {H0 Hx : Hp} {as : List Addr} {ps : List (List Str)} {a : Addr} {p : List Str} {i : Nat} (h : PartsAt H0 Hx (as ++ [a]) (ps ++ [p]) i) {w : Str} (hw : w.cps.toList.length ≤ 100000) :
    Hx a = some (.lst (p.map V.str)) ∧ PartsAt H0 (upd Hx a (.lst (p.map V.str ++ [.str w]))) (as ++ [a]) (ps ++ [p ++ [w]]) (i + 1) := by
  have len : as.length = ps.length := by
    have := h.len
    rw [List.length_append, List.length_append] at this
    exact Nat.add_right_cancel this
  have ea : (as ++ [a])[as.length]? = some a := by rw [List.getElem?_append_right (Nat.le_refl _), Nat.sub_self]; rfl
  have eL : Hx a = some (.lst (p.map V.str)) := by
    obtain ⟨ws, h1, h2⟩ := h.at_ _ _ ea
    rw [len, List.getElem?_append_right (Nat.le_refl _), Nat.sub_self] at h1
    cases h1
    exact h2
  have na : ∀ b ∈ as, b ≠ a := fun b hb => (List.nodup_append.mp h.nd).2.2 b hb a (List.mem_singleton.mpr rfl)
  refine ⟨eL, ?_, fun j b hj => ?_, h.nd, h.new, ?_, fun q hq => ?_⟩
  · rw [List.length_append, List.length_append, len]; rfl
  · rcases Nat.lt_or_ge j as.length with lt | ge
    · obtain ⟨ws, h1, h2⟩ := h.at_ j b hj
      rw [List.getElem?_append_left lt] at hj
      refine ⟨ws, ?_, by rw [upd_ne (na b (List.mem_of_getElem? hj))]; exact h2⟩
      rw [List.getElem?_append_left (by rw [← len]; exact lt)] at h1 ⊢
      exact h1
    · rw [List.getElem?_append_right ge] at hj
      have j0 : j - as.length = 0 := by
        have := (List.getElem?_eq_some_iff.mp hj).1
        simp at this
        omega
      rw [j0] at hj
      cases hj
      refine ⟨p ++ [w], ?_, by rw [upd_same, List.map_append]; rfl⟩
      rw [List.getElem?_append_right (by rw [← len]; exact ge), ← len, j0]; rfl
  · have := h.few
    rw [List.length_append] at this ⊢
    have : ps.length + 1 ≤ i := this
    show ps.length + 1 ≤ i + 1
    omega
  · rcases List.mem_append.mp hq with hq | hq
    · obtain ⟨h1, h2, h3⟩ := h.ok q (List.mem_append_left _ hq)
      exact ⟨h1, by omega, h3⟩
    · rw [List.mem_singleton.mp hq]
      obtain ⟨h1, h2, h3⟩ := h.ok p (List.mem_append_right _ (List.mem_singleton.mpr rfl))
      refine ⟨by rw [List.length_append]; omega, by rw [List.length_append]; show _ + 1 ≤ _; omega, fun z hz => ?_⟩
      rcases List.mem_append.mp hz with hz | hz
      · exact h3 z hz
      · rw [List.mem_singleton.mp hz]; exact hw
inductive TsAt (H : Hp) : List V → List (Option (Int × Str)) → Prop
  | nil : TsAt H [] []
  | cons {p : Addr} {t : Option (Int × Str)} {xs : List V} {ts : List (Option (Int × Str))} : H p = some (.tup (tOf t)) → TsAt H xs ts → TsAt H (.ref p :: xs) (t :: ts)
theorem TsAt.same {H H' : Hp} (s : Same H H') : ∀ {xs : List V} {ts : List (Option (Int × Str))}, TsAt H xs ts → TsAt H' xs ts
  | _, _, .nil => .nil
  | _, _, .cons a t => .cons (s _ _ a) (t.same s)
theorem TsAt.to {H H' : Hp} (k : ∀ a xs, H a = some (.tup xs) → H' a = some (.tup xs)) : ∀ {xs : List V} {ts : List (Option (Int × Str))}, TsAt H xs ts → TsAt H' xs ts
  | _, _, .nil => .nil
  | _, _, .cons a t => .cons (k _ _ a) (t.to k)
theorem TsAt.snoc {H : Hp} {p : Addr} {t : Option (Int × Str)} (h : H p = some (.tup (tOf t))) : ∀ {xs : List V} {ts : List (Option (Int × Str))}, TsAt H xs ts → TsAt H (xs ++ [.ref p]) (ts ++ [t])
  | _, _, .nil => .cons h .nil
  | _, _, .cons a r => .cons a (r.snoc h)
theorem TsAt.len {H : Hp} : ∀ {xs : List V} {ts : List (Option (Int × Str))}, TsAt H xs ts → xs.length = ts.length
  | _, _, .nil => rfl
  | _, _, .cons _ t => by rw [List.length_cons, List.length_cons, t.len]
def tD : Option (Int × Str) → PyData
  | none => .tuple []
  | some (i, z) => .tuple [.int i, .str z]
theorem TsAt.dp {K : PySem.W.Frag} {H : Hp} : ∀ {xs : List V} {ts : List (Option (Int × Str))}, TsAt H xs ts → DpAll K H xs (ts.map tD)
  | _, _, .nil => .nil
  | _, _, .cons (t := none) a r => .cons (.tup (tofT a) .nil) r.dp
  | _, _, .cons (t := some (i, z)) a r => .cons (.tup (tofT a) (.cons (.int _) (.cons (.str _) .nil))) r.dp
theorem plain_ts : ∀ ts : List (Option (Int × Str)), PyData.plainAll (ts.map tD) = true
  | [] => rfl
  | none :: r => plain_ts r
  | some _ :: r => plain_ts r
theorem any_ts : ∀ ts : List (Option (Int × Str)), ((ts.map tD).any fun z => PyData.eqv z (.tuple [])) = ts.any Option.isNone
  | [] => rfl
  | none :: r => rfl
  | some _ :: r => any_ts r
def spRSum : Sp := fun vs H Q _ => ∃ (l : Addr) (ws : List Str), vs = [.ref l] ∧ H l = some (.lst (ws.map V.str)) ∧ ws.length ≤ 62000 ∧ (∀ z ∈ ws, z.cps.toList.length ≤ 100000) ∧
  ∀ (t : Addr) (xs : List V) (H' : Hp), Same H H' → H' t = some (.tup xs) → (if (termsOf ws).any Option.isNone = true then xs = [] else TsAt H' xs (termsOf ws)) → Q (.ref t) H'
section
variable {P : Program} {w : World} {K : PySem.W.Frag} {mg : Str → Option Value} {base : Heap}
abbrev s_read_sum : Stmt := topS 16
theorem sc_read_sum : FnScope ["words", "signed", "parts", "word", "terms", "part"] ["words"] (defScope s_read_sum) := ⟨rfl, rfl, rfl, by decide +kernel, rfl, by decide +kernel, by decide +kernel⟩
theorem ok_read_sum {f : Addr} {fd : FuncData} (F : Fun K "read_sum" "read_sum" s_read_sum f fd) (gl : mg "read_sum" = some (.ref f)) (T : Bl mg) (D_read_term : DefG P w K mg base 2 "_read_term" ["words"] spTerm) : DefG P w K mg base 3 "read_sum" ["words"] spRSum := by
  refine def_mk F gl (F.binds fun _ _ _ _ _ _ us hl => match us, hl with | [_], _ => rfl) (okG F sc_read_sum (fun vs H Q E h => ?_) fun cdv A outer s H vs Q E hr hc h => ?_)
  · obtain ⟨l, ns, rfl, _⟩ := h
    rfl
  · obtain ⟨l, ws, rfl, hl, w2, wl, q⟩ := h
    have nd := sc_read_sum.nd
    have hu64 := hr.units
    refine ⟨_, (pss_cons (ps_set (i := 1) nd rfl (by first | exact Or.inl rfl | exact Or.inr rfl) (pe_cutE (pe_ifExp (pt_cmpR (op_eqP (K := K) hu64) (pe_slice sl_list (pv 0) po_none (po_some pe_int)) (pe_lst (pa_cons pe_str pa_nil)) (nomark _)) (pv 0) (pe_op op_cat (pe_lst (pa_cons pe_str pa_nil)) (pv 0)))))
      (pss_cons (ps_set (i := 2) nd rfl (by first | exact Or.inl rfl | exact Or.inr rfl) (pe_lst pa_nil))
      (pss_cons (ps_for PassesOwn.never rfl (pi_list (pv 1)) (pg_name (i := 3) nd rfl (by first | exact Or.inl rfl | exact Or.inr rfl))
        (pss_one (ps_if (pt_cmpR (op_inK (K := K)) (pv 3) (pe_tup (pa_cons pe_str (pa_cons pe_str pa_nil))) (by with_unfolding_all rfl))
          (pss_one (ps_expr (pe_bm PySem.F.plainAttrs_list PySem.F.slot_list_append PySem.F.type_list_append mt_append (pv 2) (pa_cons (pe_lst (pa_cons (pv 3) pa_nil)) pa_nil))))
          (pss_one (ps_expr (pe_bm PySem.F.plainAttrs_list PySem.F.slot_list_append PySem.F.type_list_append mt_append (pe_ix ix_list (pv 2) (pe_un un_neg pe_int) (fun _ _ => rfl)) (pa_cons (pv 3) pa_nil)))))))
      (pss_cons (ps_setLc (i := 4) (own := [("part", 5)]) (g := (gName 5)) (tt := tYes) rfl nd rfl rfl (sw_true rfl rfl rfl (by decide +kernel)) (pi_list (pv 2)) (blkOk_by (own := [("part", 5)]) (N := ["words", "signed", "parts", "word", "terms", "part"]) (sc := defScope s_read_sum) (by decide +kernel)) (fun _ _ _ _ _ => (pg_name (i := 5) nd rfl (by first | exact Or.inl rfl | exact Or.inr rfl))) (fun _ _ _ _ _ => pts_nil) (fun _ _ _ _ _ => (pe_def D_read_term (hr.mono (by decide)) hc (by rfl) (pa_cons (pv 5) pa_nil))))
      (pss_one (ps_ret (pe_ifExp (pt_cmpR (op_inP (K := K) hu64) (pe_tup pa_nil) (pv 4) (by with_unfolding_all rfl)) (pe_tup pa_nil) (pe_tupleOf (by rfl) T.tuple (pv 4))))))))), ?_⟩
    -- the words with a sign ahead
    refine ⟨fun x H' => ∃ p, x = .ref p ∧ Same H H' ∧ H' p = some (.lst ((signedOf ws).map V.str)), ?_, ?_⟩
    · refine ⟨_, rfl, 1, rfl, l, _, rfl, tofL hl, fun p1 np1 => ?_⟩
      have s1 := Same.new (o := .lst (cutV (ws.map V.str) none (some 1))) np1
      have e1 : cutV (ws.map V.str) none (some 1) = (ws.take 1).map V.str := by
        cases ws with
        | nil => rfl
        | cons a r => rfl
      have h1 : upd H p1 (.lst (cutV (ws.map V.str) none (some 1))) p1 = some (.lst ((ws.take 1).map V.str)) := by rw [upd_same, e1]
      generalize upd H p1 (.lst (cutV (ws.map V.str) none (some 1))) = Ha at *
      refine ⟨(show 1 ≤ sizeLine from small (by decide)), fun p2 np2 => ?_⟩
      have s2 := Same.new (o := .lst [.str "-"]) np2
      have h2 : upd Ha p2 (.lst [.str "-"]) p2 = some (.lst (([("-" : Str)]).map V.str)) := upd_same
      have h1' := s2 _ _ h1
      generalize upd Ha p2 (.lst [.str "-"]) = Hb at *
      have s12 := s1.trans s2
      refine ⟨.list ((ws.take 1).map PyData.str), .list (([("-" : Str)]).map PyData.str), .lst (tofL h1') (dpa_strs _), .lst (tofL h2) (dpa_strs ["-"]), plain_strs _, plain_strs _, depth_strs _, _, rfl, ?_⟩
      rw [eqv_strs]
      refine ite2 (fun e => ?_) (fun e => ?_)
      · refine ⟨_, rfl, l, rfl, s12, ?_⟩
        rw [signedOf, if_pos (of_decide_eq_true e)]
        exact s12 _ _ hl
      · refine ⟨(show 1 ≤ sizeLine from small (by decide)), fun p3 np3 => ?_⟩
        have s3 := Same.new (o := .lst [.str "+"]) np3
        refine ⟨_, rfl, p3, l, [.str "+"], ws.map V.str, rfl, rfl, upd_same, (s12.trans s3) _ _ hl, small (by rw [List.length_map]; show 1 + _ ≤ 100000; omega), fun p4 np4 => ⟨p4, rfl, (s12.trans s3).trans (Same.new np4), ?_⟩⟩
        rw [upd_same, signedOf, if_neg (fun z => e (decide_eq_true z))]
        rfl
    rintro x H1 ⟨sg, rfl, s1, hsg⟩
    obtain ⟨gs, egs⟩ : ∃ gs, gs = signedOf ws := ⟨_, rfl⟩
    rw [← egs] at hsg
    have gl1 : gs.length ≤ 62001 := by
      rw [egs]; unfold signedOf
      split
      · omega
      · rw [List.length_cons]; omega
    have gw : ∀ z ∈ gs, z.cps.toList.length ≤ 100000 := fun z hz => by
      rw [egs] at hz; unfold signedOf at hz
      split at hz
      · exact wl z hz
      · rcases List.mem_cons.mp hz with rfl | hz
        · decide +kernel
        · exact wl z hz
    -- the parts
    refine ⟨Nat.zero_le _, fun P0 nP => ?_⟩
    refine ⟨_, rfl, sg, rfl, ⟨_, tofL ((Same.new nP) _ _ hsg)⟩, for_list (K := K) (a := sg) (xs := gs.map V.str) (fun i σ Hx => ∃ (v3 : Option V) (as : List Addr), σ = [some (.ref l), some (.ref sg), some (.ref P0), v3, none, none] ∧ Same H1 Hx ∧ Hx P0 = some (.lst (as.map V.ref)) ∧ P0 ∉ as ∧ PartsAt H1 Hx as (partsOf (gs.take i)) i)
      ⟨none, [], rfl, Same.new nP, upd_same, (fun z => by cases z), ⟨rfl, fun j a h => (by cases h), .nil, fun a h => (by cases h), Nat.le_refl _, fun p h => (by cases h)⟩⟩ (fun i σ Hx _ ⟨_, _, _, sx, _⟩ => tofL (sx _ _ hsg)) ?_ ?_⟩
    · rintro i x σ Hx hi ⟨v3, as, rfl, sx, hP, nPa, pa⟩
      obtain ⟨z, hz, rfl⟩ : ∃ z, gs[i]? = some z ∧ x = .str z := by
        rw [List.getElem?_map] at hi
        cases hz : gs[i]? with
        | none => rw [hz] at hi; cases hi
        | some z => rw [hz] at hi; cases hi; exact ⟨z, rfl, rfl⟩
      have il := (List.getElem?_eq_some_iff.mp hz).1
      have zw := gw z (List.mem_of_getElem? hz)
      have et : partsOf (gs.take (i + 1)) = stepP (partsOf (gs.take i)) z := by
        rw [List.take_add_one, hz]
        exact partsOf_snoc _ _
      refine ⟨_, rfl, (show 2 ≤ sizeLine from small (by decide)), fun t0 nt0 => ?_⟩
      have st := Same.new (o := .tup [.str "+", .str "-"]) nt0
      have ht : upd Hx t0 (.tup [.str "+", .str "-"]) t0 = some (.tup (([("+" : Str), "-"]).map V.str)) := upd_same
      have sy := sx.trans st
      have hPy := st _ _ hP
      have pay := pa.same st
      generalize upd Hx t0 (.tup [.str "+", .str "-"]) = Hy at *
      refine ⟨t0, _, rfl, .inr (tofT ht), rfl, flat_strs ["+", "-"], _, rfl, ?_⟩
      have eb : inV (.str z) (([("+" : Str), "-"]).map V.str) = isSg z := by
        rw [inV_strs]
        unfold isSg
        by_cases h1 : z = "+"
        · simp [h1]
        · by_cases h2 : z = "-"
          · simp [h2]
          · simp [h1, h2]
      refine ite2 (fun e => ?_) (fun e => ?_)
      · have e : isSg z = true := eb ▸ e
        refine ⟨_, rfl, .inl ⟨rfl, _, tofL hPy⟩, _, rfl, (show 1 ≤ sizeLine from small (by decide)), fun n nn => ?_⟩
        have nP0 : n ≠ P0 := fun z => by rw [z, hPy] at nn; cases nn
        have sn := Same.new (o := .lst [.str z]) nn
        have few := pay.few
        refine ⟨P0, as.map V.ref, .ref n, rfl, rfl, sn _ _ hPy, smallt (by rw [List.length_map, pay.len]; omega), _, as ++ [n], rfl, ?_, ?_, ?_, ?_⟩
        · intro b o hb
          have := sn _ _ (sy _ _ hb)
          rw [upd_ne (fun z => by rw [z, nP] at hb; cases hb)]
          exact this
        · rw [upd_same, List.map_append]; rfl
        · intro h
          rcases List.mem_append.mp h with h | h
          · exact nPa h
          · exact nP0 (List.mem_singleton.mp h).symm
        · rw [et, stepP, if_pos e]
          refine pay.snoc nn sy (fun a o ha hm => ?_) zw ?_
          · rw [upd_ne (fun z => nPa (by rw [← z]; exact hm))]
            exact sn _ _ ha
          · rw [upd_ne nP0, upd_same]
      · have e : ¬ isSg z = true := fun h => e (eb.trans h)
        have ne : partsOf (gs.take i) ≠ [] := by
          cases i with
          | zero =>
            obtain ⟨w0, r0, e0, e1⟩ := signed_head ws
            rw [← egs] at e0
            rw [e0] at hz
            cases hz
            exact absurd e1 e
          | succ j =>
            have hj : gs[j]? = some (gs[j]'(by omega)) := List.getElem?_eq_getElem (by omega)
            rw [List.take_add_one, hj]
            show partsOf (gs.take j ++ [_]) ≠ []
            rw [partsOf_snoc]
            exact stepP_ne _ _
        obtain ⟨ps', p, ep⟩ := ends_of _ ne
        obtain ⟨as', a, ea⟩ := ends_of as (fun z => by
          have := pay.len
          rw [z, ep] at this
          simp at this)
        subst ea
        rw [ep] at pay
        obtain ⟨hla, pnew⟩ := pay.last zw
        have few := pay.few
        obtain ⟨o1, o2, _⟩ := pay.ok p (List.mem_append_right _ (List.mem_singleton.mpr rfl))
        have aP : P0 ≠ a := fun z => nPa (z ▸ List.mem_append_right _ (List.mem_singleton.mpr rfl))
        have na := pay.new a (List.mem_append_right _ (List.mem_singleton.mpr rfl))
        refine ⟨_, rfl, 1, rfl, P0, _, -1, .ref a, rfl, rfl, tofL hPy, (by rw [List.map_append]; exact atI_last _ _), .inl ⟨rfl, _, tofL hla⟩, _, rfl, a, _, _, rfl, rfl, hla, smallt (by rw [List.length_map]; omega), _, as' ++ [a], rfl, ?_, ?_, nPa, ?_⟩
        · intro b o hb
          rw [upd_ne (fun z => by rw [z, na] at hb; cases hb)]
          exact sy _ _ hb
        · rw [upd_ne aP]; exact hPy
        · rw [et, ep, stepP, if_neg e, List.dropLast_concat, List.getLastD_concat]
          exact pnew
    · rintro σ Hx ⟨v3, as, rfl, sx, hP, nPa, pa⟩
      have ga : partsOf (gs.take (gs.map V.str).length) = partsOf gs := by rw [List.length_map, List.take_length]
      rw [ga] at pa
      have pfew := pa.few
      have gfew : (partsOf gs).length ≤ 62001 := by rw [List.length_map] at pfew; omega
      refine ⟨_, rfl, P0, rfl, ⟨_, tofL hP⟩, fun D nD => ?_⟩
      refine lc_list (K := K) (a := P0) (xs := as.map V.ref) (fun i Hy => Same Hx Hy ∧ ∃ ys, Hy D = some (.lst ys) ∧ TsAt Hy ys (((partsOf gs).take i).map termB)) ⟨Same.new nD, [], upd_same, .nil⟩ (fun i Hy _ h => tofL (h.1 _ _ hP)) ?_ ?_
      · rintro i x Hy hi ⟨sy, ys, hD, hT⟩
        obtain ⟨a, ha, rfl⟩ : ∃ a, as[i]? = some a ∧ x = .ref a := by
          rw [List.getElem?_map] at hi
          cases hz : as[i]? with
          | none => rw [hz] at hi; cases hi
          | some z => rw [hz] at hi; cases hi; exact ⟨z, rfl, rfl⟩
        obtain ⟨us, hus, hla⟩ := pa.at_ i a ha
        have il := (List.getElem?_eq_some_iff.mp hus).1
        obtain ⟨o1, o2, o3⟩ := pa.ok us (List.mem_of_getElem? hus)
        refine ⟨rfl, _, rfl, a, us, rfl, sy _ _ hla, o1, by rw [List.length_map] at o2; omega, o3, fun t H' s' ht => ⟨_, s' _ _ hD, ?_, ?_, ys ++ [.ref t], upd_same, ?_⟩⟩
        · rw [hT.len, List.length_map, List.length_take]; exact smallt (by omega)
        · intro b o hb
          rw [upd_ne (ne_of_none hb nD)]
          exact s' _ _ (sy _ _ hb)
        · have kt : ∀ b vs, H' b = some (.tup vs) → upd H' D (.lst (ys ++ [.ref t])) b = some (.tup vs) := fun b vs hb => by
            rw [upd_ne (fun e => by rw [e, s' _ _ hD] at hb; cases hb)]
            exact hb
          rw [List.take_add_one, hus, List.map_append]
          exact ((hT.same s').to kt).snoc (kt _ _ ht)
      · rintro Hy ⟨sy, ys, hD, hT⟩
        rw [List.length_map, pa.len, List.take_length] at hT
        have et : (partsOf gs).map termB = termsOf ws := by rw [egs]; rfl
        rw [et] at hT
        have s0 : Same H Hy := s1.trans (sx.trans sy)
        refine ⟨(show 0 ≤ sizeLine from small (by decide)), fun t0 nt0 => ?_⟩
        have st := Same.new (o := .tup []) nt0
        have h0 : upd Hy t0 (.tup []) t0 = some (.tup []) := upd_same
        have hD' := st _ _ hD
        have hT' := hT.same st
        have s0' := s0.trans st
        generalize upd Hy t0 (.tup []) = Hz at *
        refine ⟨_, rfl, .tuple [], (termsOf ws).map tD, .tup (tofT h0) .nil, .lst (tofL hD') hT'.dp, rfl, plain_ts _, (show 1 ≤ 60 by decide), _, rfl, ?_⟩
        rw [any_ts]
        refine ite2 (fun e => ?_) (fun e => ?_)
        · exact ⟨(show 0 ≤ sizeLine from small (by decide)), fun t nt => q t [] _ (s0'.trans (Same.new nt)) upd_same (by rw [if_pos e])⟩
        · refine ⟨_, rfl, .inl ⟨D, _, rfl, tofL hD', fun t nt => q t ys _ (s0'.trans (Same.new nt)) upd_same ?_⟩⟩
          rw [if_neg e]
          exact hT'.same (Same.new nt)
end
end KW
namespace KW
open PySem PySem.Spec PyProof.Rows L2 GL RZ TL
theorem joinL_len (S : List Nat) (B : Nat) : ∀ ps : List (List Nat), (∀ p ∈ ps, p.length ≤ B) → (joinL S ps).length ≤ ps.length * (B + S.length)
  | [], _ => Nat.zero_le _
  | [p], h => by
    have := h p List.mem_cons_self
    show p.length ≤ 1 * _
    omega
  | p :: q :: r, h => by
    have h1 := h p List.mem_cons_self
    have ih := joinL_len S B (q :: r) fun x hx => h x (List.mem_cons_of_mem _ hx)
    show (p ++ (S ++ joinL S (q :: r))).length ≤ ((q :: r).length + 1) * (B + S.length)
    rw [List.length_append, List.length_append, Nat.add_mul]
    omega
theorem few_words : ∀ (ps : List (Str × Int)) (acc : List Str) (k : Nat), Few k acc → (∀ p ∈ ps, p.1.length ≤ 2000 ∧ (ab p.2).natAbs.log2 < 1920) → Few (k + 3 * ps.length) (ps.foldl stepW acc)
  | [], acc, k, h, _ => h
  | p :: r, acc, k, h, hp => by
    obtain ⟨h1, h2⟩ := hp p List.mem_cons_self
    have st : Few (k + 3) (stepW acc p) := few3 (few2 (few1 h) h2) h1
    have := few_words r _ _ st fun x hx => hp x (List.mem_cons_of_mem _ hx)
    rw [List.length_cons, show k + 3 * (r.length + 1) = k + 3 + 3 * r.length by omega]
    exact this
theorem sumW_len (ps : List (Str × Int)) (h20 : ps.length ≤ 20) (hp : ∀ p ∈ ps, p.1.length ≤ 2000 ∧ (ab p.2).natAbs.log2 < 1920) : (sumW ps).length ≤ 130000 := by
  have fw := few_words ps [] 0 ⟨Nat.le_refl _, fun z hz => by cases hz⟩ hp
  have fw : Few (3 * ps.length) (wordsW ps) := by rw [Nat.zero_add] at fw; exact fw
  unfold sumW
  split
  · decide +kernel
  · have e : (Txt.join " " (wordsW ps)).length = (joinL (tl " ") ((wordsW ps).map tl)).length := by
      have st : ∀ z : Str, SX.S (tl z) = z := fun z => TL.ext_tl rfl
      have j := SX.join_S (tl (" " : Str)) ((wordsW ps).map tl)
      rw [st, List.map_map, show (wordsW ps).map (SX.S ∘ tl) = wordsW ps from (List.map_congr_left fun z _ => st z).trans (List.map_id _)] at j
      rw [j, SX.S_len]
    rw [e]
    have l1 := joinL_len (tl " ") 2000 ((wordsW ps).map tl) fun p hp => by
      obtain ⟨z, hz, rfl⟩ := List.mem_map.mp hp
      have := fw.2 z hz
      rw [show (tl z).length = z.length from Array.length_toList ..]
      exact this
    have l2 : (tl (" " : Str)).length = 1 := by decide +kernel
    rw [List.length_map, l2] at l1
    have := fw.1
    have l3 : (wordsW ps).length * 2001 ≤ 60 * 2001 := Nat.mul_le_mul_right _ (by omega)
    omega
def lineW (ns : List Str) (fs : List Int) (c : Int) (mo : Option Int) : Str :=
  let t := Str.empty ++ sumW (ns.zip fs) ++ " = " ++ Str.ofString (toString c)
  match mo with
  | none => t
  | some m => Str.empty ++ t ++ " mod " ++ Str.ofString (toString m)
def lineV (b : Addr) (c : Int) : Option Int → List V
  | none => [.ref b, .int c]
  | some m => [.ref b, .int c, .int m]
def spWLine (K : PySem.W.Frag) : Sp := fun vs H Q _ => ∃ (a ln b : Addr) (ns : List Str) (fs : List Int) (c : Int) (mo : Option Int), vs = [.ref a, .ref ln] ∧ (∀ H', Same H H' → SqT K H' a (ns.map V.str)) ∧ H ln = some (.tup (lineV b c mo)) ∧ H b = some (.tup (fs.map V.int)) ∧ ns.length = fs.length ∧ ns.length ≤ 20 ∧ (∀ z ∈ ns, z.length ≤ 2000) ∧ (∀ f ∈ fs, (ab f).natAbs.log2 < 1920) ∧
  c.natAbs.log2 < 1920 ∧ (∀ m, mo = some m → m.natAbs.log2 < 1920) ∧ ∀ H', Same H H' → Q (.str (lineW ns fs c mo)) H'
section
variable {P : Program} {w : World} {K : PySem.W.Frag} {mg : Str → Option Value} {base : Heap}
abbrev s_write_line : Stmt := topS 23
theorem sc_write_line : FnScope ["names", "line", "factors", "constant", "modulus", "text"] ["names", "line"] (defScope s_write_line) := ⟨rfl, rfl, rfl, by decide +kernel, rfl, by decide +kernel, by decide +kernel⟩
theorem ok_write_line {f : Addr} {fd : FuncData} (F : Fun K "_write_line" "_write_line" s_write_line f fd) (gl : mg "_write_line" = some (.ref f)) (T : Bl mg) (D_write_sum : DefG P w K mg base 1 "write_sum" ["names", "factors"] (spWSum K)) : DefG P w K mg base 2 "_write_line" ["names", "line"] (spWLine K) := by
  refine def_mk F gl (F.binds fun _ _ _ _ _ _ us hl => match us, hl with | [_, _], _ => rfl) (okG F sc_write_line (fun vs H Q E h => ?_) fun cdv A outer s H vs Q E hr hc h => ?_)
  · obtain ⟨a, ln, b, ns, fs, c, mo, rfl, _⟩ := h
    rfl
  · obtain ⟨a, ln, b, ns, fs, c, mo, rfl, ha, hln, hb, nf, n20, nz, fz, cz, mz, q⟩ := h
    have nd := sc_write_line.nd
    refine ⟨_, (pss_cons (ps_asg (pv 1) (pg_star (n := 3) (i := 2) rfl (pgs_cons (pg_name (i := 2) nd rfl (by first | exact Or.inl rfl | exact Or.inr rfl)) (pgs_cons (pg_name (i := 3) nd rfl (by first | exact Or.inl rfl | exact Or.inr rfl)) (pgs_consS (pg_name (i := 4) nd rfl (by first | exact Or.inl rfl | exact Or.inr rfl)) pgs_nil)))))
      (pss_cons (ps_set (i := 5) nd rfl (by first | exact Or.inl rfl | exact Or.inr rfl) (pe_joined (.cons (pe_fmt (pe_def D_write_sum (hr.mono (by decide)) hc (by rfl) (pa_cons (pv 0) (pa_cons (pv 2) pa_nil)))) (.cons pe_str (.cons (pe_fmt (pv 3)) .nil)))))
      (pss_one (ps_ret (pe_ifExp (pt_truth (pv 4) (fun _ => rfl)) (pe_joined (.cons (pe_fmt (pv 5)) (.cons pe_str (.cons (pe_fmt (pe_ix ix_list (pv 4) pe_int (fun _ _ => rfl))) .nil)))) (pv 5)))))), ?_⟩
    have sl := sumW_len (ns.zip fs) (by rw [List.length_zip]; omega) fun p hp => ⟨nz _ (List.of_mem_zip hp).1, fz _ (List.of_mem_zip hp).2⟩
    have la : ∀ x y : Str, (x ++ y).length = x.length + y.length := fun x y => by
      show (x ++ y).cps.size = x.cps.size + y.cps.size
      exact Array.size_append ..
    have li : ∀ i : Int, i.natAbs.log2 < 1920 → (Str.ofString (toString i)).length ≤ 1930 := fun i hi => by
      rw [PySem.ofString_length]
      exact Nat.le_trans (PySem.int_text_length_le (k := 1920) (by decide) hi) (by decide)
    have e0 : Str.empty.length = 0 := rfl
    have e3 : (" = " : Str).length = 3 := by decide +kernel
    have e5 : (" mod " : Str).length = 5 := by decide +kernel
    have hc1 := li c cz
    have lt1 : (Str.empty ++ sumW (ns.zip fs) ++ " = " ++ Str.ofString (toString c)).length ≤ 132000 := by
      rw [la, la, la, e0, e3]; omega
    have big : ∀ {n : Nat}, n ≤ 200000 → n ≤ sizeLine := fun h => Nat.le_trans h (by decide)
    cases mo with
    | none =>
      refine ⟨_, rfl, ln, [.ref b, .int c], rfl, tofT hln, (show 3 ≤ 2 + 1 by decide), (show 2 ≤ 1000 by decide), fun D nD => ?_⟩
      have s1 := Same.new (o := .lst []) nD
      have hD : upd H D (.lst []) D = some (.lst []) := upd_same
      refine ⟨_, _, rfl, _, _, rfl, _, _, rfl, rfl, ?_⟩
      refine ⟨_, rfl, _, rfl, a, b, ns, fs, rfl, ha _ s1, tofT (s1 _ _ hb), nf, n20, nz, fz, fun H2 s2 => .inl ⟨_, rfl, big (by omega), _, rfl, big (by rw [la, e0]; omega), _, rfl, big (by rw [la, la, e0, e3]; omega), _, rfl, .inr ⟨c, rfl, cz, _, rfl, big (by omega), ?_⟩⟩⟩
      refine ⟨_, rfl, !([] : List V).isEmpty, Or.inl ⟨_, tofL (s2 _ _ hD), rfl⟩, ?_⟩
      exact iteF ⟨_, rfl, q H2 (s1.trans s2)⟩
    | some m =>
      have hm1 := li m (mz m rfl)
      refine ⟨_, rfl, ln, [.ref b, .int c, .int m], rfl, tofT hln, (show 3 ≤ 3 + 1 by decide), (show 3 ≤ 1000 by decide), fun D nD => ?_⟩
      have s1 := Same.new (o := .lst [.int m]) nD
      have hD : upd H D (.lst [.int m]) D = some (.lst [.int m]) := upd_same
      refine ⟨_, _, rfl, _, _, rfl, _, _, rfl, rfl, ?_⟩
      refine ⟨_, rfl, _, rfl, a, b, ns, fs, rfl, ha _ s1, tofT (s1 _ _ hb), nf, n20, nz, fz, fun H2 s2 => .inl ⟨_, rfl, big (by omega), _, rfl, big (by rw [la, e0]; omega), _, rfl, big (by rw [la, la, e0, e3]; omega), _, rfl, .inr ⟨c, rfl, cz, _, rfl, big (by omega), ?_⟩⟩⟩
      refine ⟨_, rfl, !([V.int m] : List V).isEmpty, Or.inl ⟨_, tofL (s2 _ _ hD), rfl⟩, ?_⟩
      refine iteT ⟨_, rfl, .inl ⟨_, rfl, big (by omega), _, rfl, big (by rw [la, e0]; omega), _, rfl, big (by rw [la, la, e0, e5]; omega), _, rfl, D, _, 0, _, rfl, rfl, tofL (s2 _ _ hD), atI_nat (j := 0) rfl, .inr ⟨m, rfl, mz m rfl, _, rfl, big (by rw [la, la, la, e0, e5]; omega), ?_⟩⟩⟩
      exact q H2 (s1.trans s2)
end
end KW
namespace KW
open PySem PySem.Spec PyProof.Rows L2 GL RZ TL
theorem op_catAK {X : Cx} {K : PySem.W.Frag} (h : X.K = K := by rfl) : OpR X (binaryOp .Add) (rCatA K) := h ▸ op_catA
theorem cr_sumK {X : Cx} {K : PySem.W.Frag} (hc : X.calm = true) (h : X.K = K := by rfl) : CallR X (.builtin "sum") (rSum K) := h ▸ cr_sum hc
def valW (z : Str) : Int := match z.cps.toList with
  | 45 :: cs => -((NumText.digitsVal cs : Nat) : Int)
  | cs => ((NumText.digitsVal cs : Nat) : Int)
theorem nat_digits {u : Str} (h : natB u = true) : NumText.AllDigits u.cps.toList ∧ u.cps.toList ≠ [] ∧ u.cps.toList.length ≤ 60 := by
  unfold natB at h
  rw [Bool.and_eq_true, Bool.and_eq_true] at h
  obtain ⟨⟨h1, h2⟩, _⟩ := h
  have h1 := of_decide_eq_true h1
  refine ⟨fun c hc => ?_, fun z => by rw [z] at h1; exact absurd h1.1 (by decide), h1.2⟩
  have hc2 : c ∈ DIGITS.cps.toList := of_decide_eq_true (List.all_eq_true.mp h2 c hc)
  have ds : ∀ d ∈ DIGITS.cps.toList, 48 ≤ d ∧ d ≤ 57 := by decide +kernel
  exact ds c hc2
theorem starts_minus {z : Str} : Txt.startswith z "-" = true → ∃ cs, z.cps.toList = 45 :: cs := fun h => by
  unfold Txt.startswith at h
  have h2 : z.cps.extract 0 (0 + ("-" : Str).length) = ("-" : Str).cps := eq_of_beq (Bool.and_eq_true_iff.mp h).2
  have h3 := congrArg Array.toList h2
  rw [Array.toList_extract, show ("-" : Str).cps.toList = [45] by decide +kernel, show (0 + ("-" : Str).length) = 1 by decide +kernel] at h3
  cases e : z.cps.toList with
  | nil =>
    rw [e] at h3
    cases h3
  | cons a r =>
    rw [e] at h3
    have h3 : [a] = [45] := h3
    exact ⟨r, by rw [(List.cons.inj h3).1]⟩
theorem cut1 (z : Str) : (cutS z (some 1) none).cps.toList = z.cps.toList.drop 1 := by
  unfold cutS
  show ((z.cps.toList.drop _).take _).toArray.toList = _
  have zl : z.length = z.cps.toList.length := (Array.length_toList ..).symm
  rw [List.toList_toArray, show HT.sIx z.length 0 (some 1) = min 1 z.length from HT.sIx_nat _ _ 1, HT.sIx_none, zl]
  cases z.cps.toList with
  | nil => rfl
  | cons a r =>
    rw [show min 1 (a :: r).length = 1 by rw [List.length_cons]; omega]
    show List.take ((r.length + 1) - 1) r = r
    rw [Nat.add_sub_cancel, List.take_length]
theorem whole_int {z : Str} (h : wholeB z = true) : PySem.intText? z = some (valW z) ∧ z.length ≤ 640 := by
  have zl : z.length = z.cps.toList.length := (Array.length_toList ..).symm
  unfold wholeB at h
  by_cases hs : Txt.startswith z "-" = true
  · rw [if_pos hs, Bool.and_eq_true] at h
    obtain ⟨d1, d2, d3⟩ := nat_digits h.1
    obtain ⟨cs, e⟩ := starts_minus hs
    rw [cut1, e] at d1 d2 d3
    have d3 : cs.length ≤ 60 := d3
    have l : z.length ≤ 61 := by rw [zl, e]; show cs.length + 1 ≤ 61; omega
    refine ⟨?_, by omega⟩
    rw [PySem.intText_neg e d1 d2 (by omega)]
    unfold valW
    rw [e]
    rfl
  · rw [if_neg hs] at h
    obtain ⟨d1, d2, d3⟩ := nat_digits h
    refine ⟨?_, by rw [zl]; omega⟩
    rw [PySem.intText_digits d1 d2 (by rw [zl]; omega)]
    unfold valW
    split
    · rename_i cs e
      exact absurd (d1 45 (by rw [e]; exact List.mem_cons_self)).1 (by decide)
    · rfl
/-- the factors named so, added up -/
def sumFor (ts : List (Option (Int × Str))) (n : Str) : Int := ((ts.filterMap id).filterMap fun p => if p.2 = n then some p.1 else none).sum
/-- a line, read: factors, constant, and a modulus (0: none) -/
def readB (ns : List Str) (line : Str) : Option (List Int × Int × Int) :=
  let w := (modOf (Txt.split line " ")).1
  let m := (modOf (Txt.split line " ")).2
  let ts := termsOf (w.take (w.length - 2))
  if ts.any Option.isNone = true then none else if ¬ (w[w.length - 2]? = some ("=" : Str) ∧ wholeB (lastS w) = true) then none
  else
    let fs := ns.map (sumFor ts)
    let c := valW (lastS w)
    if lineW ns fs c (if m = 0 then none else some m) = line then some (fs, c, m) else none
theorem cut_less2 (w : List Str) : cutV (w.map V.str) none (some (-2)) = (w.take (w.length - 2)).map V.str := by
  unfold cutV
  have e1 : HT.sIx (w.map V.str).length 0 none = 0 := rfl
  have e2 : HT.sIx (w.map V.str).length (w.map V.str).length (some (-2)) = w.length - 2 := by
    show (if (-2 : Int) < 0 then ((-2 : Int) + ((w.map V.str).length : Nat)).toNat else min (-2 : Int).toNat (w.map V.str).length) = _
    rw [if_pos (by decide), List.length_map]
    omega
  rw [e1, e2, List.drop_zero, Nat.sub_zero, List.map_take]
theorem parts_ne (ws : List Str) : partsOf (signedOf ws) ≠ [] := by
  obtain ⟨w0, r, e, _⟩ := signed_head ws
  rw [e]
  obtain ⟨r', a, e'⟩ := ends_of (w0 :: r) (by simp)
  rw [e', partsOf_snoc]
  exact stepP_ne _ _
theorem terms_ne (ws : List Str) : termsOf ws ≠ [] := by
  unfold termsOf
  intro z
  exact parts_ne ws (List.map_eq_nil_iff.mp z)
theorem terms_nil : (termsOf []).any Option.isNone = true := by
  have e : termsOf [] = [none] := rfl
  rw [e]; rfl
theorem digits_lt : ∀ (cs : List Nat) (a : Nat), NumText.AllDigits cs → cs.foldl (fun acc c => acc * 10 + (c - 48)) a + 1 ≤ (a + 1) * 10 ^ cs.length
  | [], a, _ => by show a + 1 ≤ (a + 1) * 1; omega
  | c :: r, a, h => by
    have hc := h c List.mem_cons_self
    have ih := digits_lt r (a * 10 + (c - 48)) fun d hd => h d (List.mem_cons_of_mem _ hd)
    show r.foldl _ (a * 10 + (c - 48)) + 1 ≤ _
    refine Nat.le_trans ih ?_
    rw [List.length_cons, Nat.pow_succ, show (a + 1) * (10 ^ r.length * 10) = ((a + 1) * 10) * 10 ^ r.length by rw [Nat.mul_comm (10 ^ r.length) 10, Nat.mul_assoc]]
    exact Nat.mul_le_mul_right _ (by omega)
theorem valN_lt {z : Str} (h : natB z = true) : (valN z).natAbs ≤ 10 ^ 60 := by
  obtain ⟨d1, _, d3⟩ := nat_digits h
  have := digits_lt z.cps.toList 0 d1
  have l : (10 : Nat) ^ z.cps.toList.length ≤ 10 ^ 60 := Nat.pow_le_pow_right (by decide) d3
  show ((NumText.digitsVal z.cps.toList : Nat) : Int).natAbs ≤ _
  rw [Int.natAbs_natCast]
  have e : NumText.digitsVal z.cps.toList = z.cps.toList.foldl (fun acc c => acc * 10 + (c - 48)) 0 := rfl
  omega
theorem valW_lt {z : Str} (h : wholeB z = true) : (valW z).natAbs ≤ 10 ^ 60 := by
  unfold wholeB at h
  by_cases hs : Txt.startswith z "-" = true
  · rw [if_pos hs, Bool.and_eq_true] at h
    obtain ⟨d1, d2, d3⟩ := nat_digits h.1
    obtain ⟨cs, e⟩ := starts_minus hs
    rw [cut1, e] at d1 d2 d3
    have d3 : cs.length ≤ 60 := d3
    have := digits_lt cs 0 d1
    have l : (10 : Nat) ^ cs.length ≤ 10 ^ 60 := Nat.pow_le_pow_right (by decide) d3
    have ev : valW z = -((NumText.digitsVal cs : Nat) : Int) := by
      unfold valW
      rw [e]; rfl
    rw [ev, Int.natAbs_neg, Int.natAbs_natCast]
    have e : NumText.digitsVal cs = cs.foldl (fun acc c => acc * 10 + (c - 48)) 0 := rfl
    omega
  · rw [if_neg hs] at h
    obtain ⟨d1, d2, d3⟩ := nat_digits h
    have ev : valW z = valN z := by
      unfold valW
      split
      · rename_i cs e
        exact absurd (d1 45 (by rw [e]; exact List.mem_cons_self)).1 (by decide)
      · rfl
    rw [ev]
    exact valN_lt h
theorem log_of {i : Int} (h : i.natAbs ≤ 10 ^ 66) : i.natAbs.log2 < 1920 := PySem.Flt.log2_lt_of (by decide) (Nat.lt_of_le_of_lt h (by decide +kernel))
theorem sgn_abs (z : Str) : (sgn z).natAbs = 1 := by unfold sgn; split <;> rfl
theorem term_lt {ws : List Str} {i : Int} {n : Str} (h : termB ws = some (i, n)) : i.natAbs ≤ 10 ^ 60 := by
  match ws, h with
  | [s, x], h =>
    rw [term2] at h
    by_cases e : nameB x = true
    · rw [if_pos e] at h
      cases h
      rw [sgn_abs]; decide +kernel
    · rw [if_neg e] at h
      by_cases e2 : natB x = true
      · rw [if_pos e2] at h
        cases h
        rw [Int.natAbs_mul, sgn_abs, Nat.one_mul]
        exact valN_lt e2
      · rw [if_neg e2] at h; cases h
  | [s, a, x], h =>
    rw [term3] at h
    by_cases e : natB a = true ∧ nameB x = true
    · rw [if_pos e] at h
      cases h
      rw [Int.natAbs_mul, sgn_abs, Nat.one_mul]
      exact valN_lt e.1
    · rw [if_neg e] at h; cases h
  | [], h => cases h
  | [_], h => cases h
  | _ :: _ :: _ :: _ :: _, h => cases h
theorem sum_abs (B : Nat) : ∀ l : List Int, (∀ x ∈ l, x.natAbs ≤ B) → l.sum.natAbs ≤ l.length * B
  | [], _ => by simp
  | x :: r, h => by
    have h1 := h x List.mem_cons_self
    have h2 := sum_abs B r fun y hy => h y (List.mem_cons_of_mem _ hy)
    rw [List.sum_cons, List.length_cons, Nat.add_mul, Nat.one_mul]
    have := Int.natAbs_add_le x r.sum
    omega
theorem stepP_len (ps : List (List Str)) (w : Str) : (stepP ps w).length ≤ ps.length + 1 := by
  unfold stepP
  split
  · rw [List.length_append]; exact Nat.le_refl _
  · rw [List.length_append, List.length_dropLast]
    show ps.length - 1 + 1 ≤ _
    omega
theorem parts_len : ∀ (ws : List Str) (ps : List (List Str)), (ws.foldl stepP ps).length ≤ ps.length + ws.length
  | [], ps => Nat.le_refl _
  | w :: r, ps => by
    have h1 := stepP_len ps w
    have h2 := parts_len r (stepP ps w)
    show (r.foldl stepP (stepP ps w)).length ≤ _
    rw [List.length_cons]; omega
theorem terms_len (ws : List Str) : (termsOf ws).length ≤ ws.length + 1 := by
  unfold termsOf partsOf
  rw [List.length_map]
  have := parts_len (signedOf ws) []
  have l : (signedOf ws).length ≤ ws.length + 1 := by
    unfold signedOf
    split
    · omega
    · rw [List.length_cons]; exact Nat.le_refl _
  rw [List.length_nil] at this
  omega
def selL (ts : List (Option (Int × Str))) (n : Str) : List Int := (ts.filterMap id).filterMap fun p => if p.2 = n then some p.1 else none
theorem sel_step {ts : List (Option (Int × Str))} {j : Nat} {i : Int} {z n : Str} (h : ts[j]? = some (some (i, z))) : selL (ts.take (j + 1)) n = selL (ts.take j) n ++ (if z = n then [i] else []) := by
  unfold selL
  rw [List.take_add_one, h, Option.toList_some, List.filterMap_append, List.filterMap_append]
  congr 1
  show List.filterMap _ [(i, z)] = _
  by_cases e : z = n
  · simp [e]
  · simp [e]
theorem sel_len (ts : List (Option (Int × Str))) (n : Str) : (selL ts n).length ≤ ts.length := Nat.le_trans (List.length_filterMap_le _ _) (List.length_filterMap_le _ _)
theorem sel_mem {ts : List (Option (Int × Str))} {n : Str} {x : Int} (h : x ∈ selL ts n) : ∃ z, some (x, z) ∈ ts := by
  unfold selL at h
  obtain ⟨p, hp, e⟩ := List.mem_filterMap.mp h
  obtain ⟨q, hq, e2⟩ := List.mem_filterMap.mp hp
  by_cases en : p.2 = n
  · rw [if_pos en] at e
    cases e
    have e2 : q = some p := e2
    exact ⟨p.2, e2 ▸ hq⟩
  · rw [if_neg en] at e; cases e
theorem TsAt.get {H : Hp} : ∀ {xs : List V} {ts : List (Option (Int × Str))} {j : Nat} {x : V}, TsAt H xs ts → xs[j]? = some x → ∃ p t, x = .ref p ∧ H p = some (.tup (tOf t)) ∧ ts[j]? = some t
  | _, _, _, _, .nil, e => by cases e
  | _, _, 0, _, .cons a r, e => by cases e; exact ⟨_, _, rfl, a, rfl⟩
  | _, _, j + 1, _, .cons a r, e => TsAt.get (j := j) r (by simpa using e)
def spRLine (K : PySem.W.Frag) : Sp := fun vs H Q _ => ∃ (a : Addr) (ns : List Str) (line : Str), vs = [.ref a, .str line] ∧ (∀ H', Same H H' → SqT K H' a (ns.map V.str)) ∧ ns.length ≤ 20 ∧ (∀ z ∈ ns, z.length ≤ 2000) ∧ line.length ≤ 100000 ∧ 1 ≤ (Txt.split line " ").length ∧ (Txt.split line " ").length ≤ 62000 ∧ (∀ z ∈ Txt.split line " ", z.cps.toList.length ≤ 100000) ∧
  ∀ (t : Addr) (H' : Hp), Same H H' → (match readB ns line with | none => H' t = some (.tup []) | some (fs, c, m) => ∃ b, H' t = some (.tup (lineV b c (if m = 0 then none else some m))) ∧ H' b = some (.tup (fs.map V.int))) → Q (.ref t) H'
section
variable {P : Program} {w : World} {K : PySem.W.Frag} {mg : Str → Option Value} {base : Heap}
abbrev s_read_line : Stmt := topS 24
theorem sc_read_line : FnScope ["names", "line", "words", "modulus", "terms", "factors", "factor", "one", "name", "parts"] ["names", "line"] (defScope s_read_line) := ⟨rfl, rfl, rfl, by decide +kernel, rfl, by decide +kernel, by decide +kernel⟩
theorem ok_read_line {f : Addr} {fd : FuncData} (F : Fun K "_read_line" "_read_line" s_read_line f fd) (gl : mg "_read_line" = some (.ref f)) (T : Bl mg) (D_without_modulus : DefG P w K mg base 2 "without_modulus" ["words"] spMod) (D_read_sum : DefG P w K mg base 3 "read_sum" ["words"] spRSum)
    (D_is_whole : DefG P w K mg base 2 "is_whole" ["word"] spWhole) (D_write_line : DefG P w K mg base 2 "_write_line" ["names", "line"] (spWLine K)) : DefG P w K mg base 4 "_read_line" ["names", "line"] (spRLine K) := by
  refine def_mk F gl (F.binds fun _ _ _ _ _ _ us hl => match us, hl with | [_, _], _ => rfl) (okG F sc_read_line (fun vs H Q E h => ?_) fun cdv A outer s H vs Q E hr hc h => ?_)
  · obtain ⟨a, ns, line, rfl, _⟩ := h
    rfl
  · obtain ⟨a, ns, line, rfl, ha, n20, nz, ll, W1, W2, Wl, q⟩ := h
    have nd := sc_read_line.nd
    have hu64 := hr.units
    refine ⟨_, (pss_cons (ps_asg (pe_def D_without_modulus (hr.mono (by decide)) hc (by rfl) (pa_cons (pe_bm PySem.F.plainAttrs_str PySem.F.slot_str_split PySem.F.type_str_split mt_split (pv 1) (pa_cons pe_str pa_nil)) pa_nil)) (pg_tup rfl (pgs_cons (pg_name (i := 2) nd rfl (by first | exact Or.inl rfl | exact Or.inr rfl)) (pgs_cons (pg_name (i := 3) nd rfl (by first | exact Or.inl rfl | exact Or.inr rfl)) pgs_nil))))
      (pss_cons (ps_set (i := 4) nd rfl (by first | exact Or.inl rfl | exact Or.inr rfl) (pe_def D_read_sum (hr.mono (by decide)) hc (by rfl) (pa_cons (pe_slice sl_list (pv 2) po_none (po_some (pe_un un_neg pe_int))) pa_nil)))
      (pss_cons (ps_if (PW.pt (pw_or (pt_not (pt_truth (pv 4) (fun _ => rfl))) (pw_or (pt_cmpR (op_neP (K := K) hu64) (pe_slice sl_list (pv 2) (po_some (pe_un un_neg pe_int)) (po_some (pe_un un_neg pe_int))) (pe_lst (pa_cons pe_str pa_nil)) (nomark _)) (pw_or1 (pt_not (pt_val (pe_def D_is_whole (hr.mono (by decide)) hc (by rfl) (pa_cons (pe_ix ix_list (pv 2) (pe_un un_neg pe_int) (fun _ _ => rfl)) pa_nil))))))))
        (pss_one (ps_ret (pe_tup pa_nil)))
        pss_nil)
      (pss_cons (ps_set (i := 5) nd rfl (by first | exact Or.inl rfl | exact Or.inr rfl) (pe_tupleOf (by rfl) T.tuple (pe_lc (own := [("name", 8)]) (g := (gName 8)) (tt := tYes) rfl nd (pi_tup (pv 0)) (blkOk_by (own := [("name", 8)]) (N := ["names", "line", "words", "modulus", "terms", "factors", "factor", "one", "name", "parts"]) (sc := defScope s_read_line) (by decide +kernel)) (fun _ _ _ _ _ => (pg_name (i := 8) nd rfl (by first | exact Or.inl rfl | exact Or.inr rfl))) (fun _ _ _ _ _ => pts_nil) (fun _ _ _ _ _ => (pe_callB (cr_sumK (K := K) rfl) (by rfl) T.sum boot_sum (pa_cons (pe_lc (own := [("factor", 6), ("one", 7)]) (g := (gTup K 2 (gCons (gName 6) (gCons (gName 7) gNil)))) rfl nd (pi_tupK (K := K) (pv 4)) (blkOk_by (own := [("factor", 6), ("one", 7)]) (by with_unfolding_all rfl)) (fun _ _ _ _ _ => (pg_tup rfl (pgs_cons (pg_name (i := 6) nd rfl (by first | exact Or.inl rfl | exact Or.inr rfl)) (pgs_cons (pg_name (i := 7) nd rfl (by first | exact Or.inl rfl | exact Or.inr rfl)) pgs_nil)))) (fun _ _ _ _ _ => (pts_one (pt_cmpR op_eq (pv 7) (pv 8) (nomark _)))) (fun _ _ _ _ _ => (pv 6))) pa_nil))))))
      (pss_cons (ps_set (i := 9) nd rfl (by first | exact Or.inl rfl | exact Or.inr rfl) (pe_op (G3.op_catAK (K := K)) (pe_tup (pa_cons (pv 5) (pa_cons (pe_callTy call_int_str (by rfl) T.int boot_int (pa_cons (pe_ix ix_list (pv 2) (pe_un un_neg pe_int) (fun _ _ => rfl)) pa_nil)) pa_nil))) (pe_ifExp (pt_truth (pv 3) (fun _ => rfl)) (pe_tup (pa_cons (pv 3) pa_nil)) (pe_tup pa_nil))))
      (pss_one (ps_ret (pe_ifExp (pt_cmpR op_eq (pe_def D_write_line (hr.mono (by decide)) hc (by rfl) (pa_cons (pv 0) (pa_cons (pv 9) pa_nil))) (pv 1) (nomark _)) (pv 9) (pe_tup pa_nil))))))))), ?_⟩
    obtain ⟨W, eW⟩ : ∃ W, W = Txt.split line " " := ⟨_, rfl⟩
    refine ⟨_, rfl, rfl, line, " ", rfl, rfl, by decide +kernel, Nat.le_trans (Nat.add_le_add_right ll 2) (by decide), fun p np => ?_⟩
    have s1 := Same.new (o := .lst (W.map V.str)) np
    rw [← eW] at W1 W2 Wl
    have hp : upd H p (.lst ((Txt.split line " ").map V.str)) p = some (.lst (W.map V.str)) := by rw [upd_same, eW]
    have s1 := Same.new (o := .lst ((Txt.split line " ").map V.str)) np
    generalize upd H p (.lst ((Txt.split line " ").map V.str)) = H1 at *
    refine ⟨p, W, rfl, hp, by omega, Wl, fun t l' H2 s2 ht hl' => ?_⟩
    refine ⟨t, _, rfl, tofT ht, rfl, _, _, rfl, _, _, rfl, rfl, ?_⟩
    have s12 := s1.trans s2
    obtain ⟨wd, ewd⟩ : ∃ wd, wd = (modOf W).1 := ⟨_, rfl⟩
    obtain ⟨m, emm⟩ : ∃ m, m = (modOf W).2 := ⟨_, rfl⟩
    rw [← ewd] at hl'
    have wd1 : wd.length ≤ 62000 ∧ ∀ z ∈ wd, z.cps.toList.length ≤ 100000 := by
      rw [ewd]; unfold modOf
      split
      · exact ⟨by rw [List.length_take]; omega, fun z hz => Wl z (List.mem_of_mem_take hz)⟩
      · exact ⟨W2, Wl⟩
    have m0 : m.natAbs ≤ 10 ^ 60 := by
      rw [emm]; unfold modOf
      split
      · rename_i h; exact valN_lt h.2.2.1
      · exact Nat.zero_le _
    -- the terms
    refine ⟨_, rfl, 2, rfl, -2, rfl, l', _, rfl, tofL hl', fun p2 np2 => ?_⟩
    have s3 := Same.new (o := .lst (cutV (wd.map V.str) none (some (-2)))) np2
    have hp2 : upd H2 p2 (.lst (cutV (wd.map V.str) none (some (-2)))) p2 = some (.lst ((wd.take (wd.length - 2)).map V.str)) := by rw [upd_same, cut_less2]
    generalize upd H2 p2 (.lst (cutV (wd.map V.str) none (some (-2)))) = H3 at *
    refine ⟨p2, wd.take (wd.length - 2), rfl, hp2, by rw [List.length_take]; omega, fun z hz => wd1.2 z (List.mem_of_mem_take hz), fun t2 xs H4 s4 ht2 cond => ?_⟩
    obtain ⟨ts, ets⟩ : ∃ ts, ts = termsOf (wd.take (wd.length - 2)) := ⟨_, rfl⟩
    rw [← ets] at cond
    have s14 := s12.trans (s3.trans s4)
    have none_of : readB ns line = none → ∀ Hx t, Same H Hx → Hx t = none → Q (.ref t) (upd Hx t (.tup [])) := fun e Hx t sx nt => q t _ (sx.trans (Same.new nt)) (by rw [e]; exact upd_same)
    have rb : readB ns line = (if ts.any Option.isNone = true then none else if ¬ (wd[wd.length - 2]? = some ("=" : Str) ∧ wholeB (lastS wd) = true) then none
      else if lineW ns (ns.map (sumFor ts)) (valW (lastS wd)) (if m = 0 then none else some m) = line then some (ns.map (sumFor ts), valW (lastS wd), m) else none) := by
      rw [ets, ewd, emm, eW]; rfl
    refine ⟨_, rfl, _, .inr (.inl ⟨xs, tofT ht2, rfl⟩), ?_⟩
    cases hany : ts.any Option.isNone with
    | true =>
      rw [if_pos hany] at cond
      subst cond
      exact iteT (iteT ⟨(show 0 ≤ sizeLine from small (by decide)), fun t nt => none_of (by rw [rb, if_pos hany]) _ t s14 nt⟩)
    | false =>
    have hno : ¬ ts.any Option.isNone = true := by rw [hany]; decide
    rw [if_neg hno] at cond rb
    have tl1 : ts ≠ [] := ets ▸ terms_ne _
    obtain ⟨v0, xr, rfl⟩ : ∃ v r, xs = v :: r := by
      cases xs with
      | nil =>
        have := cond.len
        cases ts with
        | nil => exact absurd rfl tl1
        | cons _ _ => cases this
      | cons v r => exact ⟨v, r, rfl⟩
    refine iteF ?_
    have w3 : 2 ≤ wd.length := by
      refine Classical.byContradiction fun h => hno ?_
      rw [ets, show wd.take (wd.length - 2) = [] by rw [show wd.length - 2 = 0 by omega]; rfl]
      exact terms_nil
    obtain ⟨init, a1, x1, rfl⟩ := two_ends wd w3
    have l2 : (init ++ [a1, x1]).length - 2 = init.length := by rw [List.length_append]; rfl
    have g1 : (init ++ [a1, x1])[init.length]? = some a1 := by rw [List.getElem?_append_right (Nat.le_refl _), Nat.sub_self]; rfl
    have g2 : lastS (init ++ [a1, x1]) = x1 := by
      unfold lastS
      rw [show init ++ [a1, x1] = (init ++ [a1]) ++ [x1] by simp]
      simp
    rw [l2, g1, g2] at rb
    have hlast : atI ((init ++ [a1, x1]).map V.str) (-1) = some (V.str x1) := by
      rw [show (init ++ [a1, x1]).map V.str = (init.map V.str ++ [V.str a1]) ++ [V.str x1] by simp]
      exact atI_last _ _
    have hl4 := (s3.trans s4) _ _ hl'
    refine ⟨_, rfl, 2, rfl, -2, rfl, 1, rfl, -1, rfl, l', _, rfl, tofL hl4, fun p3 np3 => ?_⟩
    have s5 := Same.new (o := .lst (cutV ((init ++ [a1, x1]).map V.str) (some (-2)) (some (-1)))) np3
    have hp3 : upd H4 p3 (.lst (cutV ((init ++ [a1, x1]).map V.str) (some (-2)) (some (-1)))) p3 = some (.lst (([a1] : List Str).map V.str)) := by
      rw [upd_same, List.map_append]
      exact congrArg (fun z => some (HO.lst z)) (cut_mid _ _ _)
    generalize upd H4 p3 (.lst (cutV ((init ++ [a1, x1]).map V.str) (some (-2)) (some (-1)))) = H5 at *
    refine ⟨(show 1 ≤ sizeLine from small (by decide)), fun p4 np4 => ?_⟩
    have s6 := Same.new (o := .lst [.str "="]) np4
    have hp4 : upd H5 p4 (.lst [.str "="]) p4 = some (.lst (([("=" : Str)]).map V.str)) := upd_same
    have hp3' := s6 _ _ hp3
    generalize upd H5 p4 (.lst [.str "="]) = H6 at *
    have s46 := s5.trans s6
    have s16 := s14.trans s46
    refine ⟨.list (([a1] : List Str).map PyData.str), .list (([("=" : Str)]).map PyData.str), .lst (tofL hp3') (dpa_strs [a1]), .lst (tofL hp4) (dpa_strs ["="]), plain_strs _, plain_strs _, depth_strs _, _, rfl, ?_⟩
    rw [eqv_strs]
    by_cases ea : a1 = "="
    rotate_left
    · rw [decide_eq_false (show ¬ [a1] = [("=" : Str)] from fun z => ea (List.cons.inj z).1)]
      exact iteT (iteT ⟨(show 0 ≤ sizeLine from small (by decide)), fun t nt => none_of (by rw [rb, if_pos (fun z => ea (Option.some.inj z.1))]) _ t s16 nt⟩)
    rw [decide_eq_true (show [a1] = [("=" : Str)] by rw [ea])]
    refine iteF ?_
    refine ⟨_, rfl, 1, rfl, l', _, -1, _, rfl, rfl, tofL (s46 _ _ hl4), hlast, x1, rfl, wd1.2 x1 (by simp), fun H7 s7 => ⟨_, rfl, ?_⟩⟩
    have s17 := s16.trans s7
    cases hw : wholeB x1 with
    | false =>
      exact iteT ⟨(show 0 ≤ sizeLine from small (by decide)), fun t nt => none_of (by rw [rb, if_pos (fun z => by rw [hw] at z; exact absurd z.2 (by decide))]) _ t s17 nt⟩
    | true =>
    refine iteF ?_
    rw [if_neg (show ¬ ¬ (some a1 = some ("=" : Str) ∧ wholeB x1 = true) from fun z => z ⟨by rw [ea], hw⟩)] at rb
    have hx7 : TsAt H7 (v0 :: xr) ts := cond.same (s46.trans s7)
    have ht7 := (s46.trans s7) _ _ ht2
    have tl9 : ts.length ≤ 62001 := by
      have := terms_len ((init ++ [a1, x1]).take ((init ++ [a1, x1]).length - 2))
      rw [← ets, List.length_take] at this
      have := wd1.1
      omega
    -- the factors
    refine ⟨_, rfl, a, rfl, ⟨_, ha _ s17⟩, fun D nD => ?_⟩
    refine lc_tup (K := K) (a := a) (xs := ns.map V.str) (fun i Hy => Same H7 Hy ∧ Hy D = some (.lst (((ns.take i).map (sumFor ts)).map V.int))) ⟨Same.new nD, upd_same⟩ (fun i Hy _ h => ha _ (s17.trans h.1)) ?_ ?_
    · rintro i x Hy hi ⟨sy, hD⟩
      obtain ⟨z, hz, rfl⟩ : ∃ z, ns[i]? = some z ∧ x = .str z := by
        rw [List.getElem?_map] at hi
        cases hz : ns[i]? with
        | none => rw [hz] at hi; cases hi
        | some z => rw [hz] at hi; cases hi; exact ⟨z, rfl, rfl⟩
      have il := (List.getElem?_eq_some_iff.mp hz).1
      refine ⟨rfl, _, rfl, t2, rfl, ⟨_, tofT (sy _ _ ht7)⟩, fun D2 nD2 => ?_⟩
      refine lc_tup (K := K) (a := t2) (xs := v0 :: xr) (fun j Hz => Same Hy Hz ∧ Hz D2 = some (.lst ((selL (ts.take j) z).map V.int))) ⟨Same.new nD2, upd_same⟩ (fun j Hz _ h => tofT ((sy.trans h.1) _ _ ht7)) ?_ ?_
      · rintro j y Hz hj ⟨sz, hD2⟩
        obtain ⟨p5, tt, rfl, hp5, htt⟩ := (hx7.same (sy.trans sz)).get hj
        obtain ⟨i5, n5, rfl⟩ : ∃ i5 n5, tt = some (i5, n5) := by
          cases tt with
          | none => exact absurd (List.any_eq_true.mpr ⟨none, List.mem_of_getElem? htt, rfl⟩) hno
          | some p => exact ⟨p.1, p.2, rfl⟩
        have sl := sel_len (ts.take j) z
        rw [List.length_take] at sl
        have jl := (List.getElem?_eq_some_iff.mp htt).1
        have tl : ts.length ≤ 62001 := tl9
        refine ⟨p5, _, rfl, tofT hp5, rfl, _, _, rfl, _, _, rfl, rfl, ?_⟩
        refine ⟨rfl, _, rfl, _, rfl, rfl, _, rfl, ?_⟩
        refine ite2 (fun e => ⟨_, rfl, _, hD2, ?_, ?_, ?_⟩) (fun e => ⟨sz, ?_⟩)
        · rw [List.length_map]; exact smallt (by omega)
        · intro b o hb
          rw [upd_ne (ne_of_none hb nD2)]
          exact sz _ _ hb
        · rw [upd_same, sel_step htt, if_pos (V.str.inj (of_decide_eq_true e)), List.map_append]; rfl
        · rw [sel_step htt, if_neg (fun z => e (decide_eq_true (congrArg V.str z))), List.append_nil]; exact hD2
      · rintro Hz ⟨sz, hD2⟩
        have lx : (v0 :: xr).length = ts.length := cond.len
        rw [lx, List.take_length] at hD2
        refine ⟨D2, _, rfl, tofL hD2, _, sz _ _ hD, ?_, ?_, ?_⟩
        · rw [List.length_map, List.length_map, List.length_take]; exact smallt (by omega)
        · intro b o hb
          rw [upd_ne (ne_of_none hb nD)]
          exact sz _ _ (sy _ _ hb)
        · rw [upd_same, List.take_add_one, hz, List.map_append, List.map_append]; rfl
    rintro Hy ⟨sy, hD⟩
    rw [List.length_map, List.take_length] at hD
    obtain ⟨fs, efs⟩ : ∃ fs, fs = ns.map (sumFor ts) := ⟨_, rfl⟩
    rw [← efs] at hD rb
    have wi := whole_int hw
    refine .inl ⟨D, _, rfl, tofL hD, fun t5 nt5 => ?_⟩
    have s8 := Same.new (o := .tup (fs.map V.int)) nt5
    have ht5 : upd Hy t5 (.tup (fs.map V.int)) t5 = some (.tup (fs.map V.int)) := upd_same
    have s18 := (s17.trans sy).trans s8
    have hl8 := ((s46.trans (s7.trans sy)).trans s8) _ _ hl4
    generalize upd Hy t5 (.tup (fs.map V.int)) = H8 at *
    refine ⟨_, rfl, _, rfl, 1, rfl, l', _, -1, _, rfl, rfl, tofL hl8, hlast, x1, valW x1, rfl, wi.1, wi.2, (show 2 ≤ sizeLine from small (by decide)), fun p5 np5 => ?_⟩
    have s9 := Same.new (o := .tup [.ref t5, .int (valW x1)]) np5
    have hp5 : upd H8 p5 (.tup [.ref t5, .int (valW x1)]) p5 = some (.tup [.ref t5, .int (valW x1)]) := upd_same
    have ht59 := s9 _ _ ht5
    have s19 := s18.trans s9
    generalize upd H8 p5 (.tup [.ref t5, .int (valW x1)]) = H9 at *
    refine ⟨_, rfl, (modOf W).2 != 0, rfl, ?_⟩
    rw [← emm]
    have fz : ∀ f ∈ fs, (ab f).natAbs.log2 < 1920 := fun f hf => by
      have e : (ab f).natAbs = f.natAbs := by unfold ab; split <;> omega
      rw [e]
      rw [efs] at hf
      obtain ⟨n, _, rfl⟩ := List.mem_map.mp hf
      refine log_of ?_
      have h1 := sum_abs (10 ^ 60) (selL ts n) fun x hx => by
        obtain ⟨z, hz⟩ := sel_mem hx
        rw [ets] at hz
        obtain ⟨part, _, ep⟩ := List.mem_map.mp hz
        exact term_lt ep
      have h2 := sel_len ts n
      exact Nat.le_trans h1 (Nat.le_trans (Nat.mul_le_mul_right _ (show (selL ts n).length ≤ 62001 by omega)) (by decide +kernel))
    by_cases m00 : m = 0
    · rw [show (m != 0) = false by rw [m00]; rfl]
      have MM : (if m = 0 then none else some m) = (none : Option Int) := if_pos m00
      refine iteF ⟨(show 0 ≤ sizeLine from small (by decide)), fun p6 np6 => ⟨p5, p6, _, [], rfl, rfl, tofT ((Same.new np6) _ _ hp5), tofT upd_same, (show 2 + 0 ≤ sizeLine from small (by decide)), (fun z => nomatch z), (fun _ _ => ?_), (fun _ z => absurd rfl z)⟩⟩
      have s10 := s19.trans (Same.new (o := .tup []) np6)
      have h5a := (Same.new (o := .tup []) np6) _ _ hp5
      have h5b := (Same.new (o := .tup []) np6) _ _ ht59
      refine ⟨_, rfl, _, rfl, a, p5, t5, ns, fs, valW x1, none, rfl, (fun Hq sq => ha _ (s10.trans sq)), h5a, h5b, by rw [efs, List.length_map], n20, nz, fz, log_of (Nat.le_trans (valW_lt hw) (by decide +kernel)), (fun m z => by cases z), fun H11 s11 => ⟨_, rfl, rfl, _, rfl, ite2 (fun e => ⟨_, rfl, q p5 H11 (s10.trans s11) ?_⟩) (fun e => ⟨(show 0 ≤ sizeLine from small (by decide)), fun t nt => none_of ?_ _ t (s10.trans s11) nt⟩)⟩⟩
      · rw [rb, MM, if_pos (V.str.inj (of_decide_eq_true e))]
        refine ⟨t5, ?_, s11 _ _ h5b⟩
        rw [MM]
        exact s11 _ _ h5a
      · rw [rb, MM, if_neg (fun z => e (decide_eq_true (congrArg V.str z)))]
    · rw [show (m != 0) = true from bne_iff_ne.mpr m00]
      have MM : (if m = 0 then none else some m) = some m := if_neg m00
      refine iteT ⟨_, rfl, (show 1 ≤ sizeLine from small (by decide)), fun p6 np6 => ⟨p5, p6, _, [.int m], rfl, rfl, tofT ((Same.new np6) _ _ hp5), tofT upd_same, (show 2 + 1 ≤ sizeLine from small (by decide)), (fun z => nomatch z), (fun _ z => nomatch z), (fun _ _ p7 np7 => ?_)⟩⟩
      have sa := (Same.new (o := .tup [.int m]) np6).trans (Same.new (o := .tup [.ref t5, .int (valW x1), .int m]) np7)
      have s10 := s19.trans sa
      have h5b := sa _ _ ht59
      have h5a : upd (upd H9 p6 (.tup [.int m])) p7 (.tup [.ref t5, .int (valW x1), .int m]) p7 = some (.tup (lineV t5 (valW x1) (some m))) := upd_same
      refine ⟨_, rfl, _, rfl, a, p7, t5, ns, fs, valW x1, (some m), rfl, (fun Hq sq => ha _ (s10.trans sq)), h5a, h5b, by rw [efs, List.length_map], n20, nz, fz, log_of (Nat.le_trans (valW_lt hw) (by decide +kernel)), (fun m1 z => by cases z; exact log_of (Nat.le_trans m0 (by decide +kernel))), fun H11 s11 => ⟨_, rfl, rfl, _, rfl, ite2 (fun e => ⟨_, rfl, q p7 H11 (s10.trans s11) ?_⟩) (fun e => ⟨(show 0 ≤ sizeLine from small (by decide)), fun t nt => none_of ?_ _ t (s10.trans s11) nt⟩)⟩⟩
      · rw [rb, MM, if_pos (V.str.inj (of_decide_eq_true e))]
        refine ⟨t5, ?_, s11 _ _ h5b⟩
        rw [MM]
        exact s11 _ _ h5a
      · rw [rb, MM, if_neg (fun z => e (decide_eq_true (congrArg V.str z)))]
end
end KW
namespace KW
open PySem PySem.Spec PyProof.Rows L2 GL RZ TL
theorem joinL_app (S : List Nat) : ∀ p q : List (List Nat), p ≠ [] → q ≠ [] → joinL S (p ++ q) = joinL S p ++ (S ++ joinL S q)
  | [], _, h, _ => absurd rfl h
  | [a], [], _, h => absurd rfl h
  | [a], b :: r, _, _ => rfl
  | a :: b :: r, q, _, hq => by
    have ih := joinL_app S (b :: r) q (fun z => nomatch z) hq
    show a ++ (S ++ joinL S ((b :: r) ++ q)) = (a ++ (S ++ joinL S (b :: r))) ++ (S ++ joinL S q)
    rw [ih, List.append_assoc, List.append_assoc]
theorem tl_joinT (ws : List Str) : tl (Txt.join " " ws) = joinL [32] (ws.map tl) := by
  rw [TL.join_eq, tl_join]
  rfl
/-- the words of a sum, of a line -/
def sumWords (ps : List (Str × Int)) : List Str := if wordsW ps = [] then ["0"] else wordsW ps
theorem sumW_join (ps : List (Str × Int)) : sumW ps = Txt.join " " (sumWords ps) := by
  unfold sumW sumWords
  split
  · exact TL.ext_tl (by rw [tl_joinT]; rfl)
  · rfl
theorem sumWords_ne (ps : List (Str × Int)) : sumWords ps ≠ [] := by
  unfold sumWords
  split
  · simp
  · assumption
def modWords : Option Int → List Str
  | none => []
  | some m => [("mod" : Str), Str.ofString (toString m)]
def lineWords (ns : List Str) (fs : List Int) (c : Int) (mo : Option Int) : List Str := sumWords (ns.zip fs) ++ [("=" : Str), Str.ofString (toString c)] ++ modWords mo
theorem lineW_join (ns : List Str) (fs : List Int) (c : Int) (mo : Option Int) : lineW ns fs c mo = Txt.join " " (lineWords ns fs c mo) := by
  have base : tl (Str.empty ++ sumW (ns.zip fs) ++ " = " ++ Str.ofString (toString c)) = joinL [32] ((sumWords (ns.zip fs) ++ [("=" : Str), Str.ofString (toString c)]).map tl) := by
    rw [tl_append, tl_append, tl_append, sumW_join, tl_joinT, List.map_append, joinL_app _ _ _ (fun z => sumWords_ne _ (List.map_eq_nil_iff.mp z)) (by simp)]
    show ([] ++ joinL [32] _ ++ [32, 61, 32]) ++ _ = joinL [32] _ ++ ([32] ++ ([61] ++ ([32] ++ tl (Str.ofString (toString c)))))
    simp
  refine TL.ext_tl ?_
  rw [tl_joinT]
  cases mo with
  | none =>
    unfold lineWords modWords
    rw [List.append_nil]
    exact base
  | some m =>
    unfold lineWords modWords
    rw [List.map_append, joinL_app _ _ _ (by simp) (by simp), ← base]
    show tl (Str.empty ++ _ ++ " mod " ++ Str.ofString (toString m)) = _
    rw [tl_append, tl_append, tl_append (Str.empty)]
    show ([] ++ _ ++ [32, 109, 111, 100, 32]) ++ tl (Str.ofString (toString m)) = _ ++ ([32] ++ ([109, 111, 100] ++ ([32] ++ tl (Str.ofString (toString m)))))
    simp
end KW
namespace KW
open PySem PySem.Spec PyProof.Rows L2 GL RZ TL
def numT (n : Nat) : Str := Str.ofString (toString ((n : Nat) : Int))
theorem tl_numT (n : Nat) : tl (numT n) = numL n := tl_num n
theorem numL_head : ∀ n : Nat, 1 ≤ n → ∃ c r, numL n = c :: r ∧ c ≠ 48 := fun n => by
  induction n using Nat.strongRecOn with
  | _ n ih =>
    intro h
    by_cases h9 : n < 10
    · rw [numL_lt h9]
      exact ⟨48 + n, [], rfl, by omega⟩
    · rw [numL_step (by omega)]
      obtain ⟨c, r, e, hc⟩ := ih (n / 10) (by omega) (by omega)
      exact ⟨c, r ++ [48 + n % 10], by rw [e]; rfl, hc⟩
theorem digB_of {c : Nat} (h : 48 ≤ c ∧ c ≤ 57) : digB c = true := by
  have e : DIGITS.cps.toList = [48, 49, 50, 51, 52, 53, 54, 55, 56, 57] := by decide +kernel
  unfold digB
  rw [e]
  refine decide_eq_true ?_
  obtain ⟨h1, h2⟩ := h
  have : c = 48 ∨ c = 49 ∨ c = 50 ∨ c = 51 ∨ c = 52 ∨ c = 53 ∨ c = 54 ∨ c = 55 ∨ c = 56 ∨ c = 57 := by omega
  rcases this with rfl | rfl | rfl | rfl | rfl | rfl | rfl | rfl | rfl | rfl <;> simp
theorem natB_num {n : Nat} (h : n < 10 ^ 60) : natB (numT n) = true := by
  have t : (numT n).cps.toList = numL n := tl_numT n
  unfold natB
  rw [t]
  have l1 : 1 ≤ (numL n).length := by cases e : numL n with
    | nil => exact absurd e (numL_ne n)
    | cons _ _ => simp
  have l2 := numL_len (k := 60) (by decide) h
  rw [decide_eq_true (⟨l1, l2⟩ : 1 ≤ (numL n).length ∧ (numL n).length ≤ 60), List.all_eq_true.mpr fun c hc => digB_of (numL_digits n c hc), Bool.and_self, Bool.true_and]
  by_cases h0 : n = 0
  · subst h0
    rw [decide_eq_true (show numT 0 = "0" from TL.ext_tl (by rw [tl_numT]; decide +kernel))]; rfl
  · obtain ⟨c, r, e, hc⟩ := numL_head n (by omega)
    rw [e]
    rw [decide_eq_true (show (c :: r)[0]? ≠ some 48 from fun z => hc (Option.some.inj z)), Bool.or_true]
theorem valN_num (n : Nat) : valN (numT n) = n := by
  show ((NumText.digitsVal (numT n).cps.toList : Nat) : Int) = n
  rw [show (numT n).cps.toList = numL n from tl_numT n, numL_val]
theorem int_text (i : Int) : Str.ofString (toString i) = if i < 0 then "-" ++ numT i.natAbs else numT i.natAbs := by
  by_cases h : i < 0
  · rw [if_pos h]
    obtain ⟨n, rfl⟩ : ∃ n : Nat, i = -((n + 1 : Nat) : Int) := ⟨i.natAbs - 1, by omega⟩
    have e : toString (-((n + 1 : Nat) : Int)) = "-" ++ toString (((n + 1 : Nat)) : Int) := rfl
    rw [e]
    refine TL.ext_tl ?_
    rw [tl_append, Int.natAbs_neg, Int.natAbs_natCast]
    show (Str.ofString ("-" ++ toString (((n + 1 : Nat)) : Int))).cps.toList = tl ("-" : Str) ++ (Str.ofString (toString (((n + 1 : Nat)) : Int))).cps.toList
    rw [PyProof.Rows.signs_ofString, PyProof.Rows.signs_ofString, String.toList_append, List.map_append]
    rfl
  · rw [if_neg h]
    unfold numT
    rw [show ((i.natAbs : Nat) : Int) = i by omega]
theorem minus_starts {z : Str} {cs : List Nat} (t : z.cps.toList = 45 :: cs) : Txt.startswith z "-" = true := by
  unfold Txt.startswith
  rw [Bool.and_eq_true]
  have l1 : ("-" : Str).length = 1 := by decide +kernel
  have zl : z.length = z.cps.toList.length := (Array.length_toList ..).symm
  constructor
  · rw [l1, zl, t]
    exact decide_eq_true (by rw [List.length_cons]; omega)
  · show (z.cps.extract 0 (0 + ("-" : Str).length) == ("-" : Str).cps) = true
    rw [beq_iff_eq]
    refine Array.toList_inj.mp ?_
    rw [Array.toList_extract, l1, t, show ("-" : Str).cps.toList = [45] by decide +kernel]
    rfl
theorem no_blank (i : Int) : (32 : Nat) ∉ tl (Str.ofString (toString i)) := fun h => (PyProof.Rows.intText_free_32 i).mp h
theorem whole_num {i : Int} (h : i.natAbs < 10 ^ 60) : wholeB (Str.ofString (toString i)) = true ∧ valW (Str.ofString (toString i)) = i := by
  rw [int_text]
  by_cases n : i < 0
  · rw [if_pos n]
    have t : ("-" ++ numT i.natAbs : Str).cps.toList = 45 :: numL i.natAbs := by
      show tl ("-" ++ numT i.natAbs) = _
      rw [tl_append, tl_numT]; rfl
    have st : Txt.startswith ("-" ++ numT i.natAbs) "-" = true := minus_starts t
    constructor
    · unfold wholeB
      rw [if_pos st]
      have c : cutS ("-" ++ numT i.natAbs) (some 1) none = numT i.natAbs := TL.ext_tl (by
        show (cutS _ _ _).cps.toList = _
        rw [cut1, t, tl_numT]; rfl)
      rw [c, natB_num h, Bool.true_and]
      refine decide_eq_true fun z => ?_
      have := congrArg tl z
      rw [show tl ("-" ++ numT i.natAbs) = 45 :: numL i.natAbs from t] at this
      have h2 : numL i.natAbs = numL 0 := (List.cons.inj this).2
      have := numL_inj h2
      omega
    · unfold valW
      rw [t]
      show -((NumText.digitsVal (numL i.natAbs) : Nat) : Int) = i
      rw [numL_val]; omega
  · rw [if_neg n]
    have ns : ¬ Txt.startswith (numT i.natAbs) "-" = true := fun z => by
      obtain ⟨cs, e⟩ := starts_minus z
      rw [show (numT i.natAbs).cps.toList = numL i.natAbs from tl_numT _] at e
      have := numL_digits i.natAbs 45 (by rw [e]; exact List.mem_cons_self)
      omega
    constructor
    · unfold wholeB
      rw [if_neg ns]
      exact natB_num h
    · have e : valW (numT i.natAbs) = valN (numT i.natAbs) := by
        unfold valW
        split
        · rename_i cs e
          rw [show (numT i.natAbs).cps.toList = numL i.natAbs from tl_numT _] at e
          have := numL_digits i.natAbs 45 (by rw [e]; exact List.mem_cons_self)
          omega
        · rfl
      rw [e, valN_num]; omega
end KW
namespace KW
open PySem PySem.Spec PyProof.Rows L2 GL RZ TL
def sg (f : Int) : Str := if f < 0 then "-" else "+"
def numW (f : Int) : List Str := if 1 < ab f then [Str.ofString (toString (ab f))] else []
def piece (p : Str × Int) : List Str := sg p.2 :: (numW p.2 ++ [p.1])
def real (ps : List (Str × Int)) : List (Str × Int) := ps.filter fun p => decide (p.2 ≠ 0)
theorem step_zero {acc : List Str} {n : Str} : stepW acc (n, 0) = acc := by
  unfold stepW w3 w2 w1
  have e : ab 0 = 0 := by decide
  simp [e]
theorem step_on {acc : List Str} {n : Str} {f : Int} (h : acc ≠ []) (hf : f ≠ 0) : stepW acc (n, f) = acc ++ piece (n, f) := by
  unfold stepW w3 w2 w1 piece numW sg
  by_cases hn : f < 0
  · by_cases ha : 1 < ab f
    · simp [hn, ha, hf]
    · simp [hn, ha, hf]
  · have hp : 0 < f := by omega
    by_cases ha : 1 < ab f
    · simp [hn, ha, hf, hp, h]
    · simp [hn, ha, hf, hp, h]
theorem step_first {n : Str} {f : Int} (hf : f ≠ 0) : stepW [] (n, f) = if f < 0 then piece (n, f) else (piece (n, f)).tail := by
  unfold stepW w3 w2 w1 piece numW sg
  by_cases hn : f < 0
  · by_cases ha : 1 < ab f
    · simp [hn, ha, hf]
    · simp [hn, ha, hf]
  · have hp : 0 < f := by omega
    by_cases ha : 1 < ab f
    · simp [hn, ha, hf, hp]
    · simp [hn, ha, hf, hp]
theorem step_first_ne {n : Str} {f : Int} (hf : f ≠ 0) : stepW [] (n, f) ≠ [] := by
  rw [step_first hf]
  split
  · exact fun z => nomatch z
  · unfold piece
    simp
theorem words_on : ∀ (ps : List (Str × Int)) (acc : List Str), acc ≠ [] → ps.foldl stepW acc = acc ++ (real ps).flatMap piece
  | [], acc, _ => by simp [real]
  | (n, f) :: r, acc, h => by
    by_cases hf : f = 0
    · subst hf
      show r.foldl stepW (stepW acc (n, 0)) = _
      rw [step_zero, words_on r acc h]
      simp [real]
    · show r.foldl stepW (stepW acc (n, f)) = _
      rw [step_on h hf, words_on r _ (by simp [piece])]
      simp [real, hf]
theorem signed_words : ∀ ps : List (Str × Int), (∀ p ∈ ps, p.1 ≠ "-") → real ps ≠ [] → wordsW ps ≠ [] ∧ signedOf (wordsW ps) = (real ps).flatMap piece
  | [], _, h => absurd rfl h
  | (n, f) :: r, hn, h => by
    by_cases hf : f = 0
    · subst hf
      have e : wordsW ((n, 0) :: r) = wordsW r := by
        show r.foldl stepW (stepW [] (n, 0)) = _
        rw [step_zero]; rfl
      have er : real ((n, 0) :: r) = real r := by simp [real]
      rw [e, er]
      rw [er] at h
      exact signed_words r (fun p hp => hn p (List.mem_cons_of_mem _ hp)) h
    · have e : wordsW ((n, f) :: r) = stepW [] (n, f) ++ (real r).flatMap piece := by
        show r.foldl stepW (stepW [] (n, f)) = _
        exact words_on r _ (step_first_ne hf)
      have er : real ((n, f) :: r) = (n, f) :: real r := by simp [real, hf]
      rw [e, er]
      refine ⟨fun z => step_first_ne hf (List.append_eq_nil_iff.mp z).1, ?_⟩
      rw [step_first hf, List.flatMap_cons]
      by_cases hneg : f < 0
      · rw [if_pos hneg]
        unfold signedOf piece sg
        rw [if_pos hneg]
        rfl
      · rw [if_neg hneg]
        have es : piece (n, f) = ("+" : Str) :: (piece (n, f)).tail := by
          unfold piece sg
          rw [if_neg hneg]; rfl
        have hd : ((piece (n, f)).tail ++ (real r).flatMap piece).take 1 ≠ [("-" : Str)] := by
          unfold piece numW
          by_cases ha : 1 < ab f
          · rw [if_pos ha]
            intro z
            have z : Str.ofString (toString (ab f)) = "-" := (List.cons.inj z).1
            have t := congrArg tl z
            have h0 : ¬ ab f < 0 := by omega
            rw [int_text, if_neg h0, tl_numT] at t
            have := numL_digits (ab f).natAbs 45 (by rw [t]; decide +kernel)
            omega
          · rw [if_neg ha]
            intro z
            exact hn (n, f) List.mem_cons_self (List.cons.inj z).1
        unfold signedOf
        rw [if_neg hd]
        conv => rhs; rw [es]
        rfl
theorem num_sg (n : Nat) : isSg (numT n) = false := by
  have d : ∀ c, tl (numT n) = [c] → 48 ≤ c := fun c e => by
    rw [tl_numT] at e
    exact (numL_digits n c (by rw [e]; exact List.mem_cons_self)).1
  unfold isSg
  rw [decide_eq_false (show ¬ numT n = "+" from fun z => absurd (d 43 (by rw [z]; decide +kernel)) (by decide)), decide_eq_false (show ¬ numT n = "-" from fun z => absurd (d 45 (by rw [z]; decide +kernel)) (by decide))]
  rfl
theorem numT_ab {f : Int} : Str.ofString (toString (ab f)) = numT f.natAbs := by
  have h0 : ¬ ab f < 0 := by unfold ab; split <;> omega
  rw [int_text, if_neg h0]
  congr 1
  unfold ab; split <;> omega
theorem sg_is (f : Int) : isSg (sg f) = true := by unfold sg; split <;> decide +kernel
theorem step_sg {P : List (List Str)} {w : Str} (h : isSg w = true) : stepP P w = P ++ [[w]] := if_pos h
theorem step_no {P : List (List Str)} {p : List Str} {w : Str} (h : isSg w = false) : stepP (P ++ [p]) w = P ++ [p ++ [w]] := by
  unfold stepP
  rw [if_neg (by rw [h]; decide), List.dropLast_concat, List.getLastD_concat]
theorem piece_parts {P : List (List Str)} {p : Str × Int} (h : isSg p.1 = false) : (piece p).foldl stepP P = P ++ [piece p] := by
  unfold piece numW
  by_cases ha : 1 < ab p.2
  · rw [if_pos ha]
    show stepP (stepP (stepP P (sg p.2)) _) p.1 = _
    rw [step_sg (sg_is _), step_no (by rw [numT_ab]; exact num_sg _), step_no h]
    rfl
  · rw [if_neg ha]
    show stepP (stepP P (sg p.2)) p.1 = _
    rw [step_sg (sg_is _), step_no h]
    rfl
theorem pieces_parts : ∀ (qs : List (Str × Int)) (P : List (List Str)), (∀ p ∈ qs, isSg p.1 = false) → (qs.flatMap piece).foldl stepP P = P ++ qs.map piece
  | [], P, _ => by simp
  | p :: r, P, h => by
    rw [List.flatMap_cons, List.foldl_append, piece_parts (h p List.mem_cons_self), pieces_parts r _ fun q hq => h q (List.mem_cons_of_mem _ hq)]
    simp
theorem name_sg {z : Str} (h : nameB z = true) : isSg z = false := by
  unfold isSg
  by_cases h1 : z = "+"
  · subst h1; revert h; decide +kernel
  · by_cases h2 : z = "-"
    · subst h2; revert h; decide +kernel
    · rw [decide_eq_false h1, decide_eq_false h2]; rfl
theorem term_piece {p : Str × Int} (hn : nameB p.1 = true) (hf : p.2 ≠ 0) (hb : p.2.natAbs < 10 ^ 60) : termB (piece p) = some (p.2, p.1) := by
  have sv : sgn (sg p.2) = if p.2 < 0 then -1 else 1 := by
    unfold sg sgn
    by_cases h : p.2 < 0
    · rw [if_pos h, if_pos h]; rfl
    · rw [if_neg h, if_neg h]
      exact if_neg (by decide +kernel)
  unfold piece numW
  by_cases ha : 1 < ab p.2
  · rw [if_pos ha]
    show termB [sg p.2, Str.ofString (toString (ab p.2)), p.1] = _
    rw [term3, numT_ab, if_pos ⟨natB_num hb, hn⟩, valN_num, sv]
    congr 1
    refine Prod.ext ?_ rfl
    show (if p.2 < 0 then (-1 : Int) else 1) * ((p.2.natAbs : Nat) : Int) = p.2
    split <;> omega
  · rw [if_neg ha]
    show termB [sg p.2, p.1] = _
    rw [term2, if_pos hn, sv]
    congr 1
    refine Prod.ext ?_ rfl
    show (if p.2 < 0 then (-1 : Int) else 1) = p.2
    unfold ab at ha
    by_cases h : p.2 < 0
    · rw [if_pos h] at ha ⊢; omega
    · rw [if_neg h] at ha ⊢; omega
/-- what is written of a sum is read back -/
theorem terms_words {ps : List (Str × Int)} (hn : ∀ p ∈ ps, nameB p.1 = true) (hb : ∀ p ∈ ps, p.2.natAbs < 10 ^ 60) (hr : real ps ≠ []) : termsOf (sumWords ps) = (real ps).map fun p => some (p.2, p.1) := by
  have hs : ∀ p ∈ ps, isSg p.1 = false := fun p hp => name_sg (hn p hp)
  obtain ⟨w1, w2⟩ := signed_words ps (fun p hp z => by have := hs p hp; rw [z] at this; revert this; decide +kernel) hr
  unfold sumWords
  rw [if_neg w1]
  unfold termsOf partsOf
  rw [w2, pieces_parts (real ps) [] fun p hp => hs p (List.mem_filter.mp hp).1, List.nil_append, List.map_map]
  refine List.map_congr_left fun p hp => ?_
  obtain ⟨h1, h2⟩ := List.mem_filter.mp hp
  exact term_piece (hn p h1) (of_decide_eq_true h2) (hb p h1)
theorem terms_zero {ps : List (Str × Int)} (hr : real ps = []) : termsOf (sumWords ps) = [some ((0 : Int), ("" : Str))] := by
  have e : wordsW ps = [] := by
    have : ∀ qs : List (Str × Int), real qs = [] → qs.foldl stepW [] = [] := fun qs => by
      induction qs with
      | nil => intro _; rfl
      | cons p r ih =>
        intro h
        obtain ⟨n, f⟩ := p
        by_cases hf : f = 0
        · subst hf
          show r.foldl stepW (stepW [] (n, 0)) = []
          rw [step_zero]
          exact ih (by simpa [real] using h)
        · simp [real, hf] at h
    exact this ps hr
  unfold sumWords
  rw [if_pos e]
  decide +kernel
end KW
namespace KW
open PySem PySem.Spec PyProof.Rows L2 GL RZ TL
def selP (ps : List (Str × Int)) (n : Str) : Int := ((real ps).filterMap fun p => if p.1 = n then some p.2 else none).sum
theorem selP_cons (m n : Str) (f : Int) (r : List (Str × Int)) : selP ((m, f) :: r) n = (if m = n then f else 0) + selP r n := by
  unfold selP real
  by_cases hf : f = 0
  · subst hf
    simp
  · by_cases e : m = n
    · simp [hf, e]
    · simp [hf, e]
theorem selP_none : ∀ (ps : List (Str × Int)) (n : Str), (∀ p ∈ ps, p.1 ≠ n) → selP ps n = 0
  | [], _, _ => rfl
  | (m, f) :: r, n, h => by
    rw [selP_cons, if_neg (h (m, f) List.mem_cons_self), selP_none r n fun p hp => h p (List.mem_cons_of_mem _ hp)]
    rfl
theorem selP_all : ∀ (ns : List Str) (fs : List Int), ns.length = fs.length → ns.Nodup → ns.map (selP (ns.zip fs)) = fs
  | [], [], _, _ => rfl
  | [], _ :: _, h, _ => by cases h
  | _ :: _, [], h, _ => by cases h
  | m :: r, f :: g, h, nd => by
    have hl : r.length = g.length := Nat.succ.inj h
    obtain ⟨n1, n2⟩ := List.nodup_cons.mp nd
    have ih := selP_all r g hl n2
    show selP ((m, f) :: r.zip g) m :: r.map (selP ((m, f) :: r.zip g)) = f :: g
    rw [selP_cons, if_pos rfl, selP_none (r.zip g) m fun p hp z => n1 (z ▸ (List.of_mem_zip hp).1), Int.add_zero]
    have e : r.map (selP ((m, f) :: r.zip g)) = r.map (selP (r.zip g)) := List.map_congr_left fun n hn => by
      have mn : ¬ m = n := fun z => n1 (by rw [z]; exact hn)
      rw [selP_cons, if_neg mn, Int.zero_add]
    rw [e, ih]
theorem selL_some (qs : List (Str × Int)) (n : Str) : selL (qs.map fun p => some (p.2, p.1)) n = qs.filterMap fun p => if p.1 = n then some p.2 else none := by
  unfold selL
  rw [List.filterMap_map]
  induction qs with
  | nil => rfl
  | cons p r ih =>
    rw [List.filterMap_cons, List.filterMap_cons]
    show List.filterMap _ ((p.2, p.1) :: _) = _
    rw [List.filterMap_cons]
    by_cases e : p.1 = n
    · simp [e]
      simpa using ih
    · simp [e]
      simpa using ih
theorem sumFor_words {ps : List (Str × Int)} {n : Str} (hn : ∀ p ∈ ps, nameB p.1 = true) (hb : ∀ p ∈ ps, p.2.natAbs < 10 ^ 60) (hz : nameB n = true) : sumFor (termsOf (sumWords ps)) n = selP ps n := by
  by_cases hr : real ps = []
  · rw [terms_zero hr]
    have e : ¬ ("" : Str) = n := fun z => by rw [← z] at hz; revert hz; decide +kernel
    have e2 : selP ps n = 0 := by unfold selP; rw [hr]; rfl
    rw [e2]
    show (selL [some ((0 : Int), ("" : Str))] n).sum = 0
    unfold selL
    simp [e]
  · rw [terms_words hn hb hr]
    show (selL _ n).sum = _
    rw [selL_some]; rfl
theorem terms_some {ps : List (Str × Int)} (hn : ∀ p ∈ ps, nameB p.1 = true) (hb : ∀ p ∈ ps, p.2.natAbs < 10 ^ 60) : (termsOf (sumWords ps)).any Option.isNone = false := by
  by_cases hr : real ps = []
  · rw [terms_zero hr]; rfl
  · rw [terms_words hn hb hr]
    rw [List.any_eq_false]
    intro x hx
    obtain ⟨p, _, rfl⟩ := List.mem_map.mp hx
    exact fun z => by cases z
end KW
namespace KW
open PySem PySem.Spec PyProof.Rows L2 GL RZ TL
theorem name_free {z : Str} (h : nameB z = true) : (32 : Nat) ∉ tl z := fun m => by
  unfold nameB at h
  rw [Bool.and_eq_true, Bool.and_eq_true] at h
  have := List.all_eq_true.mp (Bool.and_eq_true_iff.mp h.2).2 32 m
  revert this
  decide +kernel
def Free (ws : List Str) : Prop := ∀ z ∈ ws, (32 : Nat) ∉ tl z
theorem Free.app {a b : List Str} (h : Free a) (g : Free b) : Free (a ++ b) := fun z hz => (List.mem_append.mp hz).elim (h z) (g z)
theorem Free.one {z : Str} (h : (32 : Nat) ∉ tl z) : Free [z] := fun y hy => by rw [List.mem_singleton.mp hy]; exact h
theorem free_step {acc : List Str} {p : Str × Int} (h : Free acc) (hp : (32 : Nat) ∉ tl p.1) : Free (stepW acc p) := by
  have m : Free [("-" : Str)] := Free.one (by decide +kernel)
  have q : Free [("+" : Str)] := Free.one (by decide +kernel)
  have h1 : Free (w1 acc p.2) := by
    unfold w1
    split
    · exact h.app m
    · split
      · exact h.app q
      · exact h
  have h2 : Free (w2 (w1 acc p.2) p.2) := by
    unfold w2
    split
    · exact h1.app (Free.one (no_blank _))
    · exact h1
  unfold stepW w3
  split
  · exact h2.app (Free.one hp)
  · exact h2
theorem free_words : ∀ (ps : List (Str × Int)) (acc : List Str), Free acc → (∀ p ∈ ps, (32 : Nat) ∉ tl p.1) → Free (ps.foldl stepW acc)
  | [], acc, h, _ => h
  | p :: r, acc, h, hp => free_words r _ (free_step h (hp p List.mem_cons_self)) fun x hx => hp x (List.mem_cons_of_mem _ hx)
theorem free_sum {ps : List (Str × Int)} (hp : ∀ p ∈ ps, (32 : Nat) ∉ tl p.1) : Free (sumWords ps) := by
  unfold sumWords
  split
  · exact Free.one (by decide +kernel)
  · exact free_words ps [] (fun z hz => by cases hz) hp
theorem free_line {ns : List Str} {fs : List Int} {c : Int} {mo : Option Int} (hn : ∀ z ∈ ns, nameB z = true) : Free (lineWords ns fs c mo) := by
  unfold lineWords
  refine Free.app (Free.app (free_sum fun p hp => name_free (hn _ (List.of_mem_zip hp).1)) ?_) ?_
  · exact Free.app (a := [("=" : Str)]) (Free.one (by decide +kernel)) (Free.one (no_blank _))
  · cases mo with
    | none => exact fun z hz => by cases hz
    | some m => exact Free.app (a := [("mod" : Str)]) (Free.one (by decide +kernel)) (Free.one (no_blank _))
theorem split_line {ns : List Str} {fs : List Int} {c : Int} {mo : Option Int} (hn : ∀ z ∈ ns, nameB z = true) : Txt.split (lineW ns fs c mo) " " = lineWords ns fs c mo := by
  rw [lineW_join]
  refine split_join (s := 32) (S := []) rfl (by decide +kernel) (fun z => ?_) (free_line hn)
  unfold lineWords at z
  simp at z
/-- a line that is written is read back -/
theorem read_back {ns : List Str} {fs : List Int} {c : Int} {mo : Option Int} (hn : ∀ z ∈ ns, nameB z = true) (nd : ns.Nodup) (hl : ns.length = fs.length) (hf : ∀ f ∈ fs, f.natAbs < 10 ^ 60) (hc : c.natAbs < 10 ^ 60)
    (hm : ∀ m, mo = some m → 2 ≤ m ∧ m.natAbs < 10 ^ 60) : readB ns (lineW ns fs c mo) = some (fs, c, mo.getD 0) := by
  have em : modOf (lineWords ns fs c mo) = (sumWords (ns.zip fs) ++ [("=" : Str), Str.ofString (toString c)], mo.getD 0) := by
    unfold lineWords
    cases mo with
    | none =>
      unfold modWords
      rw [List.append_nil, modOf_app, if_neg (fun z => absurd z.1 (by decide +kernel))]
      rfl
    | some m =>
      obtain ⟨m2, mb⟩ := hm m rfl
      have h0 : ¬ m < 0 := by omega
      unfold modWords
      have et : Str.ofString (toString m) = numT m.natAbs := by rw [int_text, if_neg h0]
      rw [modOf_app, et, if_pos ⟨rfl, natB_num mb, by rw [valN_num]; omega⟩, valN_num]
      refine Prod.ext rfl ?_
      show ((m.natAbs : Nat) : Int) = m
      omega
  have pn : ∀ p ∈ ns.zip fs, nameB p.1 = true := fun p hp => hn _ (List.of_mem_zip hp).1
  have pb : ∀ p ∈ ns.zip fs, p.2.natAbs < 10 ^ 60 := fun p hp => hf _ (List.of_mem_zip hp).2
  obtain ⟨c1, c2⟩ := whole_num hc
  have l2 : (sumWords (ns.zip fs) ++ [("=" : Str), Str.ofString (toString c)]).length - 2 = (sumWords (ns.zip fs)).length := by rw [List.length_append]; rfl
  have g1 : (sumWords (ns.zip fs) ++ [("=" : Str), Str.ofString (toString c)])[(sumWords (ns.zip fs)).length]? = some ("=" : Str) := by rw [List.getElem?_append_right (Nat.le_refl _), Nat.sub_self]; rfl
  have g2 : lastS (sumWords (ns.zip fs) ++ [("=" : Str), Str.ofString (toString c)]) = Str.ofString (toString c) := by
    unfold lastS
    rw [show sumWords (ns.zip fs) ++ [("=" : Str), Str.ofString (toString c)] = (sumWords (ns.zip fs) ++ [("=" : Str)]) ++ [Str.ofString (toString c)] by simp]
    simp
  have fe : ns.map (sumFor (termsOf (sumWords (ns.zip fs)))) = fs := by
    rw [List.map_congr_left (g := selP (ns.zip fs)) fun n h => sumFor_words pn pb (hn n h)]
    exact selP_all ns fs hl nd
  have me : (if mo.getD 0 = 0 then none else some (mo.getD 0)) = mo := by
    cases mo with
    | none => rfl
    | some m => exact if_neg (fun z => by have := (hm m rfl).1; have z : m = 0 := z; omega)
  unfold readB
  rw [split_line hn, em]
  show (if (termsOf ((sumWords (ns.zip fs) ++ _).take _)).any Option.isNone = true then none else _) = _
  rw [l2, List.take_left, terms_some pn pb]
  rw [if_neg (show ¬ false = true by decide), g1, g2, fe, c2, c1, if_neg (show ¬ ¬ (some ("=" : Str) = some ("=" : Str) ∧ true = true) from fun z => z ⟨rfl, rfl⟩), me]
  exact if_pos rfl
end KW
namespace KW
open PySem PySem.Spec PyProof.Rows L2 GL RZ TL
abbrev Row := List Int × Int
abbrev Rst := List Int × Int × Int
inductive RowsAt (H : Hp) : List V → List Row → Prop
  | nil : RowsAt H [] []
  | cons {p q : Addr} {fs : List Int} {c : Int} {xs : List V} {rs : List Row} : H p = some (.tup [.ref q, .int c]) → H q = some (.tup (fs.map V.int)) → RowsAt H xs rs → RowsAt H (.ref p :: xs) ((fs, c) :: rs)
inductive RestsAt (H : Hp) : List V → List Rst → Prop
  | nil : RestsAt H [] []
  | cons {p q : Addr} {fs : List Int} {c m : Int} {xs : List V} {rs : List Rst} : H p = some (.tup [.ref q, .int c, .int m]) → H q = some (.tup (fs.map V.int)) → RestsAt H xs rs → RestsAt H (.ref p :: xs) ((fs, c, m) :: rs)
theorem RowsAt.len {H : Hp} : ∀ {xs : List V} {rs : List Row}, RowsAt H xs rs → xs.length = rs.length
  | _, _, .nil => rfl
  | _, _, .cons _ _ t => congrArg Nat.succ t.len
theorem RestsAt.len {H : Hp} : ∀ {xs : List V} {rs : List Rst}, RestsAt H xs rs → xs.length = rs.length
  | _, _, .nil => rfl
  | _, _, .cons _ _ t => congrArg Nat.succ t.len
theorem RowsAt.to {H H' : Hp} (k : ∀ a xs, H a = some (.tup xs) → H' a = some (.tup xs)) : ∀ {xs : List V} {rs : List Row}, RowsAt H xs rs → RowsAt H' xs rs
  | _, _, .nil => .nil
  | _, _, .cons a b t => .cons (k _ _ a) (k _ _ b) (t.to k)
theorem RestsAt.to {H H' : Hp} (k : ∀ a xs, H a = some (.tup xs) → H' a = some (.tup xs)) : ∀ {xs : List V} {rs : List Rst}, RestsAt H xs rs → RestsAt H' xs rs
  | _, _, .nil => .nil
  | _, _, .cons a b t => .cons (k _ _ a) (k _ _ b) (t.to k)
theorem RowsAt.snoc {H : Hp} {p q : Addr} {fs : List Int} {c : Int} (h1 : H p = some (.tup [.ref q, .int c])) (h2 : H q = some (.tup (fs.map V.int))) : ∀ {xs : List V} {rs : List Row}, RowsAt H xs rs → RowsAt H (xs ++ [.ref p]) (rs ++ [(fs, c)])
  | _, _, .nil => .cons h1 h2 .nil
  | _, _, .cons a b t => .cons a b (t.snoc h1 h2)
theorem RestsAt.snoc {H : Hp} {p q : Addr} {fs : List Int} {c m : Int} (h1 : H p = some (.tup [.ref q, .int c, .int m])) (h2 : H q = some (.tup (fs.map V.int))) : ∀ {xs : List V} {rs : List Rst}, RestsAt H xs rs → RestsAt H (xs ++ [.ref p]) (rs ++ [(fs, c, m)])
  | _, _, .nil => .cons h1 h2 .nil
  | _, _, .cons a b t => .cons a b (t.snoc h1 h2)
theorem RowsAt.get {H : Hp} : ∀ {xs : List V} {rs : List Row} {i : Nat} {x : V}, RowsAt H xs rs → xs[i]? = some x → ∃ p q fs c, x = .ref p ∧ H p = some (.tup [.ref q, .int c]) ∧ H q = some (.tup (fs.map V.int)) ∧ rs[i]? = some (fs, c)
  | _, _, _, _, .nil, e => by cases e
  | _, _, 0, _, .cons a b t, e => by cases e; exact ⟨_, _, _, _, rfl, a, b, rfl⟩
  | _, _, i + 1, _, .cons a b t, e => RowsAt.get (i := i) t (by simpa using e)
theorem RestsAt.get {H : Hp} : ∀ {xs : List V} {rs : List Rst} {i : Nat} {x : V}, RestsAt H xs rs → xs[i]? = some x → ∃ p q fs c m, x = .ref p ∧ H p = some (.tup [.ref q, .int c, .int m]) ∧ H q = some (.tup (fs.map V.int)) ∧ rs[i]? = some (fs, c, m)
  | _, _, _, _, .nil, e => by cases e
  | _, _, 0, _, .cons a b t, e => by cases e; exact ⟨_, _, _, _, _, rfl, a, b, rfl⟩
  | _, _, i + 1, _, .cons a b t, e => RestsAt.get (i := i) t (by simpa using e)
theorem tups_same {H H' : Hp} (s : Same H H') : ∀ a xs, H a = some (.tup xs) → H' a = some (.tup xs) := fun _ _ h => s _ _ h
/-! ### the class -/
def flds (x y z : V) : List (Str × V) := putF "rests" z (putF "rows" y (putF "names" x []))
theorem f_rests (x y z : V) : (flds x y z).lookup ("rests" : Str) = some z := by
  unfold flds; rw [lookup_putF, if_pos rfl]
theorem f_rows (x y z : V) : (flds x y z).lookup ("rows" : Str) = some y := by
  unfold flds; rw [lookup_putF, if_neg (by decide +kernel), lookup_putF, if_pos rfl]
theorem f_names (x y z : V) : (flds x y z).lookup ("names" : Str) = some x := by
  unfold flds; rw [lookup_putF, if_neg (by decide +kernel), lookup_putF, if_neg (by decide +kernel), lookup_putF, if_pos rfl]
theorem f_no (x y z : V) {m : Str} (h1 : ¬ m = "rests") (h2 : ¬ m = "rows") (h3 : ¬ m = "names") : (flds x y z).lookup m = none := by
  unfold flds; rw [lookup_putF, if_neg h1, lookup_putF, if_neg h2, lookup_putF, if_neg h3]; rfl
theorem fl1 (x : V) : (putF ("names" : Str) x []).length = 1 := rfl
theorem fl2 (x y : V) : (putF ("rows" : Str) y (putF ("names" : Str) x [])).length = 2 := by
  show (if ("names" : Str) = "rows" then [(("names" : Str), y)] else (("names" : Str), x) :: putF "rows" y []).length = 2
  rw [if_neg (by decide +kernel)]; rfl
structure Sys (K : PySem.W.Frag) (mg : Str → Option Value) (C : Addr) : Prop where
  cl : Cls K C
  nN : NoAttr K C "names"
  nR : NoAttr K C "rows"
  nS : NoAttr K C "rests"
  mgC : mg "System" = some (.ref C)
def spInit (C : Addr) : Sp := fun vs H Q _ => ∃ (s dx : Addr) (x y z : V), vs = [.ref s, x, y, z] ∧ H s = some (.ins C dx []) ∧ Q .non (upd H s (.ins C dx (flds x y z)))
section
variable {P : Program} {w : World} {K : PySem.W.Frag} {mg : Str → Option Value} {base : Heap}
abbrev s_System_init : Stmt := inClass (topS 20) 0
theorem sc_System_init : FnScope ["self", "names", "rows", "rests"] ["self", "names", "rows", "rests"] (defScope s_System_init) := ⟨rfl, rfl, rfl, by decide +kernel, rfl, by decide +kernel, by decide +kernel⟩
theorem ok_init {f C E0 : Addr} {fd : FuncData} (F : FunD K "__init__" "System.__init__" (defArgs s_System_init) (defBody s_System_init) (defScope s_System_init) [.ref E0] [] f fd) (S : Sys K mg C) : FnG P w K mg base CX0 1 f fd ["self", "names", "rows", "rests"] (spInit C) := by
  refine okD F sc_System_init (fun vs H Q E h => ?_) fun cdv A outer s H vs Q E hr hc h => ?_
  · obtain ⟨s, dx, x, y, z, rfl, _⟩ := h
    rfl
  · obtain ⟨p, dx, x, y, z, rfl, hp, q⟩ := h
    refine ⟨_, (pss_cons (ps_fld (pv 0) (pv 1) rfl)
      (pss_cons (ps_fld (pv 0) (pv 2) rfl)
      (pss_one (ps_fld (pv 0) (pv 3) rfl)))), ?_⟩
    refine ⟨_, rfl, _, rfl, p, C, dx, _, rfl, hp, S.cl, S.nN, (show 0 < 1000 by decide), _, rfl, _, rfl, p, C, dx, _, rfl, upd_same, S.cl, S.nR, (show 1 < 1000 by decide), _, rfl, _, rfl, p, C, dx, _, rfl, upd_same, S.cl, S.nS, ?_, ?_⟩
    · rw [fl2]; decide
    · rw [upd_upd, upd_upd]; exact q
end
end KW
namespace KW
open PySem PySem.Spec PyProof.Rows L2 GL RZ TL
section
variable {P : Program} {w : World} {K : PySem.W.Frag} {mg : Str → Option Value} {base : Heap}
abbrev s_draw : Stmt := topS 27
theorem sc_draw : FnScope ["_law_deck_here", "_law_many", "_law_cell", "_law_mixed"] ["_law_deck_here", "_law_many"] (defScope s_draw) := ⟨rfl, rfl, rfl, by decide +kernel, rfl, by decide +kernel, by decide +kernel⟩
theorem ok_draw {f : Addr} {fd : FuncData} (F : Fun K "_law_draw" "_law_draw" s_draw f fd) (gl : mg "_law_draw" = some (.ref f)) (T : Bl mg) : DefG P w K mg base 1 "_law_draw" ["_law_deck_here", "_law_many"] spDraw := by
  refine def_mk F gl (F.binds fun _ _ _ _ _ _ us hl => match us, hl with | [_, _], _ => rfl) (okG F sc_draw (fun vs H Q E h => ?_) fun cdv A outer s H vs Q E hr hc h => ?_)
  · obtain ⟨d, g, n, rfl, _⟩ := h
    rfl
  · obtain ⟨d, g, n, rfl, D, n0, nB, q⟩ := h
    have nd := sc_draw.nd
    have hu := hu_of hr
    have hu64 := hr.units
    obtain ⟨m, L, hd, hg, hL, m0, mB⟩ := id D.ex
    have dg := D.ne
    refine ⟨_, (pss_cons (ps_if (pt_cmpR (op_neD hu64) (pe_dget hu (pv 0) pe_str (fun _ _ => rfl)) (pe_lst pa_nil) (nomark _))
        (pss_cons (ps_set (i := 2) nd rfl (by first | exact Or.inl rfl | exact Or.inr rfl) (pe_callTy call_int1 rfl T.int boot_int (pa_cons (pe_bm0 PySem.F.plainAttrs_list PySem.F.slot_list_pop PySem.F.type_list_pop mt_pop (pe_dget hu (pv 0) pe_str (fun _ _ => rfl))) pa_nil)))
        (pss_cons (ps_if (pt_cmpR op_ge (pv 2) (pv 1) (nomark _))
          (pss_one (ps_expr (pe_bm PySem.F.plainAttrs_list PySem.F.slot_list_append PySem.F.type_list_append mt_append (pe_dget hu (pv 0) pe_str (fun _ _ => rfl)) (pa_cons (pe_op op_fdivW (pv 2) (pv 1)) pa_nil))))
          pss_nil)
        (pss_one (ps_ret (pe_op op_mod (pv 2) (pv 1))))))
        pss_nil)
      (pss_cons (ps_set (i := 3) nd rfl (by first | exact Or.inl rfl | exact Or.inr rfl) (pe_op op_mod (pe_callTy call_int1 rfl T.int boot_int (pa_cons (pe_op op_add (pe_op op_mul (pe_callTy call_int1 rfl T.int boot_int (pa_cons (pe_dget hu (pv 0) pe_str (fun _ _ => rfl)) pa_nil)) pe_int) pe_int) pa_nil)) pe_int))
      (pss_cons (ps_dput hu (pv 0) pe_str (pv 3) rfl)
      (pss_cons (ps_set (i := 3) nd rfl (by first | exact Or.inl rfl | exact Or.inr rfl) (pe_op op_mod (pe_callTy call_int1 rfl T.int boot_int (pa_cons (pe_op op_add (pe_op op_mul (pv 3) (pv 3)) (pe_op op_mul pe_int (pv 3))) pa_nil)) pe_int))
      (pss_one (ps_ret (pe_op op_mod (pe_op op_fdivW (pv 3) pe_int) (pv 1)))))))), ?_⟩
    -- deck["great"] != []
    refine ⟨_, rfl, d, _, rfl, deck_great g m ▸ DGet.k (k := Sum.inr "great") hd, Nat.zero_le _, fun o no => ?_⟩
    have god : o ≠ g := (ne_of_none hg no).symm
    have dod : o ≠ d := (ne_of_none hd no).symm
    have sm : Same H (upd H o (.lst [])) := Same.new no
    refine ⟨_, _, .lst (tofL (sm _ _ hg)) (dpa_ints L), .lst (tofL upd_same) .nil, shaped_ints L, shaped_ints [], _, rfl, ?_⟩
    rw [eqv_ints_nil]
    refine ite2 (fun e => ?_) (fun e => ?_)
    · -- cell = int(deck["great"].pop())
      have hne : L ≠ [] := fun z => by rw [z] at e; exact absurd e (by decide)
      obtain ⟨L0, c, rfl⟩ := snoc_of hne
      rw [List.length_append, List.length_singleton] at hL
      have g1 := sm _ _ hg
      refine ⟨_, rfl, d, _, rfl, deck_great g m ▸ DGet.k (k := Sum.inr "great") (sm _ _ hd), ty_l (tofL g1), g, _, _, rfl, rfl, g1, pop_at L0 c, .inl ⟨c, rfl, ?_⟩⟩
      rw [pop_left]
      refine ⟨_, rfl, _, rfl, c, n, rfl, rfl, _, rfl, ?_⟩
      have h1 : upd (upd H o (.lst [])) g (.lst (L0.map V.int)) d = some (.dK (deckD g m)) := by rw [upd_ne dg]; exact sm _ _ hd
      have kp : ∀ x : HO, Mv d g H (upd (upd H o (.lst [])) g x) := fun x => ⟨fun b u hb _ n2 => by rw [upd_ne n2]; exact sm _ _ hb⟩
      refine ite2 (fun _ => ?_) (fun _ => ?_)
      · refine ⟨_, rfl, d, _, rfl, deck_great g m ▸ DGet.k (k := Sum.inr "great") h1, ty_l (tofL upd_same), _, rfl, _, rfl, c, n, rfl, rfl, wide_div (b := 250) n0 (by omega) (by decide) (by decide), g, _, _, rfl, rfl, upd_same, ?_, ?_⟩
        · rw [List.length_map]; exact smallt (by omega)
        · refine ⟨_, rfl, _, rfl, c, n, rfl, rfl, n0, ?_⟩
          rw [upd_upd]
          refine q _ _ (Int.emod_nonneg _ (by omega)) (Int.emod_lt_of_pos _ n0) ⟨m, L0 ++ [c / n], by rw [upd_ne dg]; exact sm _ _ hd, ?_, ?_, m0, mB⟩ (kp _)
          · rw [upd_same, List.map_append, List.map_singleton]
          · rw [List.length_append, List.length_singleton]; exact hL
      · refine ⟨_, rfl, _, rfl, c, n, rfl, rfl, n0, ?_⟩
        exact q _ _ (Int.emod_nonneg _ (by omega)) (Int.emod_lt_of_pos _ n0) ⟨m, L0, h1, upd_same, by omega, m0, mB⟩ (kp _)
    · -- mixed = ..
      refine ⟨_, rfl, d, _, rfl, deck_mixed g m ▸ DGet.k (k := Sum.inr "mixed") (sm _ _ hd), .inl ⟨m, rfl, m, 69621, rfl, rfl, mul_small m0 (by omega), _, 139, rfl, rfl, .inl ⟨_, rfl, _, 2147483587, rfl, rfl, (show (0 : Int) < 2147483587 by decide), ?_⟩⟩⟩
      have a0 : 0 ≤ (m * 69621 + 139) % 2147483587 := Int.emod_nonneg _ (by decide)
      have a1 : (m * 69621 + 139) % 2147483587 < 2147483587 := Int.emod_lt_of_pos _ (by decide)
      refine ⟨_, rfl, _, rfl, d, _, rfl, DPut.k (k := Sum.inr "mixed") (sm _ _ hd) (by show 2 < sizeLine; exact smallt (by omega)), ?_⟩
      rw [deck_put]
      refine ⟨_, rfl, _, rfl, _, _, rfl, rfl, mul_small a0 (by omega), _, rfl, 39373, _, rfl, rfl, mul_small (by decide) (by decide), _, _, rfl, rfl, .inl ⟨_, rfl, _, 2147483579, rfl, rfl, (show (0 : Int) < 2147483579 by decide), ?_⟩⟩
      refine ⟨_, rfl, _, 64, rfl, rfl, wide_div (b := 8) (by decide) (by decide) (by decide) (by decide), _, rfl, _, n, rfl, rfl, n0, ?_⟩
      exact q _ _ (Int.emod_nonneg _ (by omega)) (Int.emod_lt_of_pos _ n0) ⟨_, L, upd_same, by rw [upd_ne dg.symm]; exact sm _ _ hg, hL, a0, a1⟩ ⟨fun b u hb n1 _ => by rw [upd_ne n1]; exact sm _ _ hb⟩
end
theorem deck_merge (g : Addr) (m : Int) : mergeK [] (deckD g m) = deckD g m := by
  have e1 : putK ([] : List (Key × V)) (Sum.inr "great" : Key) (V.ref g) = [((Sum.inr "great" : Key), V.ref g)] := rfl
  have e2 : putK [((Sum.inr "great" : Key), V.ref g)] (Sum.inr "mixed" : Key) (V.int m) = deckD g m := by
    unfold putK
    simp only [List.any_cons, List.any_nil, decide_eq_false gm, Bool.or_false]
    rfl
  show putK (putK ([] : List (Key × V)) (Sum.inr "great" : Key) (V.ref g)) (Sum.inr "mixed" : Key) (V.int m) = _
  rw [e1, e2]
def spDeck (K : PySem.W.Frag) : Sp := fun vs H Q _ => ∃ (a : Addr) (ns : List Int), vs = [.ref a] ∧ SqL K H a (ns.map V.int) ∧ ns.length ≤ 63 ∧
  ∀ (d g : Addr) (H' : Hp), Same H H' → H d = none → H g = none → Deck H' d g → Q (.ref d) H'
theorem cut_map (ns : List Int) (lo hi : Option Int) : cutV (ns.map V.int) lo hi = ((ns.drop (HT.sIx ns.length 0 lo)).take (HT.sIx ns.length ns.length hi - HT.sIx ns.length 0 lo)).map V.int := by
  unfold cutV
  rw [List.length_map, List.map_take, List.map_drop]
theorem cut_ints (ns : List Int) (lo hi : Option Int) : ∃ ms : List Int, cutV (ns.map V.int) lo hi = ms.map V.int ∧ ms.length ≤ ns.length := by
  refine ⟨_, cut_map ns lo hi, ?_⟩
  rw [List.length_take, List.length_drop]
  omega
theorem ints_at {ns : List Int} {i : Nat} {x : V} (h : (ns.map V.int)[i]? = some x) : ∃ n, x = .int n ∧ i < ns.length := by
  rw [List.getElem?_map] at h
  cases e : ns[i]? with
  | none => rw [e] at h; cases h
  | some n =>
    rw [e] at h
    exact ⟨n, (Option.some.inj h).symm, (List.getElem?_eq_some_iff.mp e).1⟩
section
variable {P : Program} {w : World} {K : PySem.W.Frag} {mg : Str → Option Value} {base : Heap}
abbrev s_deck : Stmt := topS 26
theorem sc_deck : FnScope ["_law_script", "_law_mixed", "_law_cell"] ["_law_script"] (defScope s_deck) := ⟨rfl, rfl, rfl, by decide +kernel, rfl, by decide +kernel, by decide +kernel⟩
theorem ok_deck {f : Addr} {fd : FuncData} (F : Fun K "_law_deck" "_law_deck" s_deck f fd) (gl : mg "_law_deck" = some (.ref f)) (T : Bl mg) : DefG P w K mg base 1 "_law_deck" ["_law_script"] (spDeck K) := by
  refine def_mk F gl (F.binds fun _ _ _ _ _ _ us hl => match us, hl with | [_], _ => rfl) (okG F sc_deck (fun vs H Q E h => ?_) fun cdv A outer s H vs Q E hr hc h => ?_)
  · obtain ⟨a, ns, rfl, _⟩ := h
    rfl
  · obtain ⟨a, ns, rfl, hS, hlen, q⟩ := h
    have nd := sc_deck.nd
    refine ⟨_, (pss_cons (ps_set (i := 1) nd rfl (by first | exact Or.inl rfl | exact Or.inr rfl) pe_int)
      (pss_cons (ps_for PassesOwn.never rfl (pi_list (pe_slice sl_list (pv 0) po_none (po_some pe_int))) (pg_name (i := 2) nd rfl (by first | exact Or.inl rfl | exact Or.inr rfl))
        (pss_one (ps_set (i := 1) nd rfl (by first | exact Or.inl rfl | exact Or.inr rfl) (pe_op op_mod (pe_callTy call_int1 rfl T.int boot_int (pa_cons (pe_op op_add (pe_op op_add (pe_op op_mul (pv 1) pe_int) (pe_op op_mod (pe_callTy call_int1 rfl T.int boot_int (pa_cons (pv 2) pa_nil)) pe_int)) pe_int) pa_nil)) pe_int))))
      (pss_one (ps_ret (pe_disp (pps_cons pe_str (pe_revL (pe_lc (own := [("_law_cell", 2)]) (g := gName 2) rfl nd (pi_list (pe_slice sl_list (pv 0) po_none (po_some pe_int))) (blkOk_by (own := [("_law_cell", 2)]) (N := ["_law_script", "_law_mixed", "_law_cell"]) (sc := defScope s_deck) (by decide +kernel)) (fun _ _ _ _ _ => pg_name (i := 2) nd rfl (by first | exact Or.inl rfl | exact Or.inr rfl)) (fun _ _ _ _ _ => pts_one (pt_cmpR op_ge (pv 2) (pe_op op_pow pe_int pe_int) (nomark _))) (fun _ _ _ _ _ => pv 2)))
        (pps_cons pe_str (pv 1) pps_nil)) rfl rfl (by decide) (by decide)))))), ?_⟩
    -- for cell in script[:63]
    refine ⟨_, rfl, 63, rfl, a, _, rfl, hS, fun c nc => ?_⟩
    obtain ⟨ms, em, lm⟩ := cut_ints ns none (some 63)
    rw [em]
    have s1 : Same H (upd H c (.lst (ms.map V.int))) := Same.new nc
    refine ⟨c, rfl, ⟨_, tofL upd_same⟩, for_list (K := K) (a := c) (xs := ms.map V.int) (fun i σ H2 => ∃ (m : Int) (v : Option V), σ = [some (.ref a), some (.int m), v] ∧ H2 = upd H c (.lst (ms.map V.int)) ∧ 0 ≤ m ∧ m < 2147483587)
      ⟨_, none, rfl, rfl, by decide, by decide⟩ (fun i σ H2 _ ⟨_, _, _, e, _⟩ => by rw [e]; exact tofL upd_same) ?_ ?_⟩
    · rintro i y σ H2 hi ⟨m, v, rfl, rfl, m0, m1⟩
      obtain ⟨x, rfl, _⟩ := ints_at hi
      have b0 := Int.emod_nonneg x (show (2147483629 : Int) ≠ 0 by decide)
      refine ⟨_, rfl, m, 48271, rfl, rfl, mul_small m0 (by omega), _, rfl, .inl ⟨x, rfl, x, 2147483629, rfl, rfl, (show (0 : Int) < 2147483629 by decide), _, _, rfl, rfl, _, _, rfl, rfl, .inl ⟨_, rfl, _, 2147483587, rfl, rfl, (show (0 : Int) < 2147483587 by decide), _, _, rfl, rfl, Int.emod_nonneg _ (by decide), Int.emod_lt_of_pos _ (by decide)⟩⟩⟩
    · rintro σ H2 ⟨m, v, rfl, rfl, m0, m1⟩
      intro p np
      have npc : c ≠ p := ne_of_none upd_same np
      have s2 : Same H (upd (upd H c (.lst (ms.map V.int))) p (.dK [])) := s1.trans (Same.new np)
      refine ⟨_, rfl, 63, rfl, a, _, rfl, s2.seq hS, fun c2 nc2 => ?_⟩
      rw [em]
      have s3 := s2.trans (Same.new (o := .lst (ms.map V.int)) nc2)
      have ncp : p ≠ c2 := ne_of_none upd_same nc2
      refine ⟨c2, rfl, ⟨_, tofL upd_same⟩, fun D nD => ?_⟩
      have ncD : c2 ≠ D := ne_of_none upd_same nD
      have npD : p ≠ D := ne_of_none (by rw [upd_ne ncp]; exact upd_same) nD
      refine lc_list (K := K) (a := c2) (xs := ms.map V.int) (fun i H2 => ∃ L : List Int, Same H H2 ∧ H2 D = some (.lst (L.map V.int)) ∧ H2 c2 = some (.lst (ms.map V.int)) ∧ H2 p = some (.dK []) ∧ L.length ≤ i)
        ⟨[], s3.trans (Same.new nD), upd_same, by rw [upd_ne ncD]; exact upd_same, by rw [upd_ne npD, upd_ne ncp]; exact upd_same, Nat.le_refl _⟩
        (fun i H2 _ ⟨_, _, _, e, _⟩ => tofL e) ?_ ?_
      · rintro i y H2 hi ⟨L, sm, hD, hc2, hp, hL⟩
        obtain ⟨x, rfl, hil⟩ := ints_at hi
        refine ⟨rfl, _, rfl, 10, 18, rfl, rfl, ⟨by decide, by decide, by decide⟩, _, _, rfl, rfl, _, rfl, ?_⟩
        refine ite2 (fun _ => ?_) (fun _ => ?_)
        · refine ⟨_, rfl, _, hD, by rw [List.length_map]; exact smallt (by omega), L ++ [x], ?_, ?_, ?_, ?_, ?_⟩
          · intro b u hb
            rw [upd_ne (ne_of_none hb (s3.free nD))]
            exact sm _ _ hb
          · rw [upd_same, List.map_append]; rfl
          · rw [upd_ne ncD]; exact hc2
          · rw [upd_ne npD]; exact hp
          · rw [List.length_append]; exact Nat.succ_le_succ hL
        · exact ⟨L, sm, hD, hc2, hp, by omega⟩
      · rintro H2 ⟨L, sm, hD, hc2, hp, hL⟩
        refine ⟨D, _, rfl, tofL hD, fun g ng => ⟨_, rfl, ?_, deckD g m, rfl, (show 2 ≤ 15 by decide), ?_⟩⟩
        · rw [upd_ne (ne_of_none hp ng)]; exact hp
        · rw [deck_merge]
          have npg : p ≠ g := ne_of_none hp ng
          refine q p g _ (fun b u hb => ?_) (s1.free np) (sm.free ng) ⟨m, L.reverse, upd_same, ?_, ?_, m0, m1⟩
          · rw [upd_ne (ne_of_none hb (s1.free np)), upd_ne (ne_of_none hb (sm.free ng))]
            exact sm _ _ hb
          · rw [upd_ne npg.symm, upd_same, List.map_reverse]
          · rw [List.length_reverse]
            rw [List.length_map] at hL
            omega
end
section
variable {P : Program} {w : World} {K : PySem.W.Frag} {mg : Str → Option Value} {base : Heap}
abbrev s_pick : Stmt := topS 28
theorem sc_pick : FnScope ["_law_deck_here", "_law_some"] ["_law_deck_here", "_law_some"] (defScope s_pick) := ⟨rfl, rfl, rfl, by decide +kernel, rfl, by decide +kernel, by decide +kernel⟩
theorem ok_pickL {f : Addr} {fd : FuncData} (F : Fun K "_law_pick" "_law_pick" s_pick f fd) (gl : mg "_law_pick" = some (.ref f)) (T : Bl mg) (D_draw : DefG P w K mg base 1 "_law_draw" ["_law_deck_here", "_law_many"] spDraw) :
    DefG P w K mg base 2 "_law_pick" ["_law_deck_here", "_law_some"] spPickL := by
  refine def_mk F gl (F.binds fun _ _ _ _ _ _ us hl => match us, hl with | [_, _], _ => rfl) (okG F sc_pick (fun vs H Q E h => ?_) fun cdv A outer s H vs Q E hr hc h => ?_)
  · obtain ⟨d, g, a, xs, rfl, _⟩ := h
    rfl
  · obtain ⟨d, g, a, xs, rfl, D, ha, nag, hne, hl, q⟩ := h
    have nd := sc_pick.nd
    refine ⟨_, (pss_one (ps_ret (pe_ix ix_list (pv 1) (pe_def D_draw (hr.mono (by decide)) hc rfl (pa_cons (pv 0) (pa_cons (pe_callB call_len_seq rfl T.len boot_len (pa_cons (pv 1) pa_nil)) pa_nil))) (fun _ _ => rfl)))), ?_⟩
    have nad : a ≠ d ∧ a ≠ g := ⟨by obtain ⟨m, L, h1, _⟩ := D.ex; exact (ne_of h1 ha (fun z => nomatch z)).symm, nag⟩
    have h0 : 0 < xs.length := List.length_pos_iff.mpr hne
    refine ⟨_, rfl, _, rfl, _, rfl, a, xs, rfl, .inl (tofL ha), d, g, _, rfl, D, by omega, by omega, fun r H' r0 r1 D' M => ?_⟩
    obtain ⟨x, hx, e⟩ := at_in (xs := xs) r0 r1
    exact ⟨a, xs, r, x, rfl, rfl, tofL (M.at ha nad), e, q x H' hx D' M⟩
theorem ok_pickS {f : Addr} {fd : FuncData} (F : Fun K "_law_pick" "_law_pick" s_pick f fd) (gl : mg "_law_pick" = some (.ref f)) (T : Bl mg) (D_draw : DefG P w K mg base 1 "_law_draw" ["_law_deck_here", "_law_many"] spDraw) :
    DefG P w K mg base 2 "_law_pick" ["_law_deck_here", "_law_some"] spPickS := by
  refine def_mk F gl (F.binds fun _ _ _ _ _ _ us hl => match us, hl with | [_, _], _ => rfl) (okG F sc_pick (fun vs H Q E h => ?_) fun cdv A outer s H vs Q E hr hc h => ?_)
  · obtain ⟨d, g, z, rfl, _⟩ := h
    rfl
  · obtain ⟨d, g, z, rfl, D, hne, hl, q⟩ := h
    have nd := sc_pick.nd
    refine ⟨_, (pss_one (ps_ret (pe_ix ix_str (pv 1) (pe_def D_draw (hr.mono (by decide)) hc rfl (pa_cons (pv 0) (pa_cons (pe_callB call_len_str rfl T.len boot_len (pa_cons (pv 1) pa_nil)) pa_nil))) (fun _ _ => rfl)))), ?_⟩
    have h0 : 0 < z.cps.toList.length := List.length_pos_iff.mpr hne
    have e0 := str_len z
    refine ⟨_, rfl, _, rfl, _, rfl, z, rfl, small (by omega), d, g, _, rfl, D, by omega, by omega, fun r H' r0 r1 D' M => ?_⟩
    obtain ⟨x, hx, e⟩ := at_in (xs := z.cps.toList) r0 (by omega)
    exact ⟨z, r, x, rfl, rfl, small (by omega), e, q x H' hx D' M⟩
end
end KW
namespace KW
open PySem PySem.Spec PyProof.Rows L2 GL RZ TL KX
/-! ### names that are called -/
def S1 (c : Nat) : Str := ⟨#[c]⟩
abbrev alnum : List Nat := (LETTERS ++ DIGITS).cps.toList
def Wd (z : Str) : Prop := (1 ≤ z.cps.toList.length ∧ z.cps.toList.length ≤ 8) ∧ (∀ c, z.cps.toList[0]? = some c → c ∈ LETTERS.cps.toList) ∧ ∀ c ∈ z.cps.toList, c ∈ alnum
theorem wd_name {z : Str} (h : Wd z) (ht : z ∉ TAKEN) : nameB z = true := by
  obtain ⟨h1, h2, h3⟩ := h
  unfold nameB
  rw [decide_eq_true h1, decide_eq_false ht, Bool.true_and, Bool.not_false, Bool.true_and, Bool.and_eq_true]
  refine ⟨decide_eq_true ?_, List.all_eq_true.mpr fun c hc => decide_eq_true (h3 c hc)⟩
  have e : z.cps.toList[0]? = some z.cps.toList[0] := List.getElem?_eq_getElem (by omega)
  have := h2 _ e
  rwa [List.getD_eq_getElem?_getD, e]
theorem joinL_one : ∀ cs : List Nat, joinL [] (cs.map fun c => [c]) = cs
  | [] => rfl
  | [c] => rfl
  | c :: d :: r => by
    have ih := joinL_one (d :: r)
    show [c] ++ ([] ++ joinL [] ((d :: r).map fun c => [c])) = c :: d :: r
    rw [ih]; rfl
theorem tl_S1 (cs : List Nat) : (Txt.join "" (cs.map S1)).cps.toList = cs := by
  rw [tl_join0, List.map_map]
  exact joinL_one cs
theorem S1_len (cs : List Nat) : ((cs.map S1).map (·.length)).sum = cs.length := by
  induction cs with
  | nil => rfl
  | cons c r ih =>
    rw [List.map_cons, List.map_cons, List.sum_cons, ih, List.length_cons]
    show 1 + r.length = _
    omega
def Cs (cs : List Nat) : Prop := (1 ≤ cs.length ∧ cs.length ≤ 8) ∧ (∀ c, cs[0]? = some c → c ∈ LETTERS.cps.toList) ∧ ∀ c ∈ cs, c ∈ alnum
theorem let_alnum {c : Nat} (h : c ∈ LETTERS.cps.toList) : c ∈ alnum := by
  have e : alnum = LETTERS.cps.toList ++ DIGITS.cps.toList := Array.toList_append
  rw [e]
  exact List.mem_append_left _ h
theorem Cs.set {cs : List Nat} {i c : Nat} (h : Cs cs) (hc : c ∈ LETTERS.cps.toList) : Cs (cs.set i c) := by
  obtain ⟨h1, h2, h3⟩ := h
  refine ⟨by rw [List.length_set]; exact h1, fun d hd => ?_, fun d hd => ?_⟩
  · rw [List.getElem?_set] at hd
    by_cases e : i = 0
    · subst e
      rw [if_pos rfl, if_pos (by omega)] at hd
      cases hd; exact hc
    · rw [if_neg e] at hd
      exact h2 d hd
  · rcases List.mem_or_eq_of_mem_set hd with hd | rfl
    · exact h3 d hd
    · exact let_alnum hc
theorem Cs.wd {cs : List Nat} (h : Cs cs) : Wd (Txt.join "" (cs.map S1)) := by
  unfold Wd
  rw [tl_S1]
  exact h
theorem app_list (x y : Str) : (x ++ y).cps.toList = x.cps.toList ++ y.cps.toList := by
  show (x.cps ++ y.cps).toList = _
  exact Array.toList_append
theorem let_at {fi : Int} {i c : Nat} (e : atI (Str.ofString "abcdefghijklmnopqrstuvwxyz").cps.toList ((fi + 7 * (0 + (i : Nat))) % 26) = some c) : abcL[((fi + 7 * (i : Nat)) % 26).toNat]? = some c := by
  unfold atI ixN at e
  rw [if_pos (Int.emod_nonneg _ (by decide)), show (Str.ofString "abcdefghijklmnopqrstuvwxyz").cps.toList.length = 26 from abcL_len, if_pos (show (fi + 7 * (0 + (i : Int))) % 26 < ((26 : Nat) : Int) from Int.emod_lt_of_pos _ (by decide)), show (0 + (i : Int)) = (i : Int) by omega] at e
  exact e
theorem cut_first (z : Str) : (cutS z none (some 1)).cps.toList = z.cps.toList.take 1 := by
  unfold cutS
  show ((z.cps.toList.drop _).take _).toArray.toList = _
  have zl : z.length = z.cps.toList.length := (Array.length_toList ..).symm
  rw [List.toList_toArray, HT.sIx_none, show HT.sIx z.length z.length (some 1) = min 1 z.length from HT.sIx_nat _ _ 1, List.drop_zero, Nat.sub_zero, zl]
  cases z.cps.toList with
  | nil => rfl
  | cons a r => rw [show min 1 (a :: r).length = 1 by rw [List.length_cons]; omega]
theorem num_one : ∀ k : Nat, k < 6 → ∃ c, (Str.ofString (toString (k : Int))).cps.toList = [c] ∧ c ∈ alnum := by
  intro k hk
  have : k = 0 ∨ k = 1 ∨ k = 2 ∨ k = 3 ∨ k = 4 ∨ k = 5 := by omega
  rcases this with rfl | rfl | rfl | rfl | rfl | rfl
  · exact ⟨48, by decide +kernel, by decide +kernel⟩
  · exact ⟨49, by decide +kernel, by decide +kernel⟩
  · exact ⟨50, by decide +kernel, by decide +kernel⟩
  · exact ⟨51, by decide +kernel, by decide +kernel⟩
  · exact ⟨52, by decide +kernel, by decide +kernel⟩
  · exact ⟨53, by decide +kernel, by decide +kernel⟩
theorem log_small : ∀ k : Nat, k < 6 → (k : Int).natAbs.log2 < 1920 := by
  intro k hk
  have : k = 0 ∨ k = 1 ∨ k = 2 ∨ k = 3 ∨ k = 4 ∨ k = 5 := by omega
  rcases this with rfl | rfl | rfl | rfl | rfl | rfl <;> decide +kernel
theorem strs_at {ns : List Str} {i : Nat} {x : V} (h : (ns.map V.str)[i]? = some x) : ∃ n, x = .str n ∧ ns[i]? = some n ∧ i < ns.length := by
  rw [List.getElem?_map] at h
  cases e : ns[i]? with
  | none => rw [e] at h; cases h
  | some n => rw [e] at h; exact ⟨n, (Option.some.inj h).symm, rfl, (List.getElem?_eq_some_iff.mp e).1⟩
theorem ixN_of {n : Nat} {r : Int} (h0 : 0 ≤ r) (h1 : r < n) : ixN n r = some r.toNat := by
  unfold ixN
  rw [if_pos h0, if_pos h1]
theorem short_free {z : Str} (h : z.cps.toList.length = 2) : z ∉ TAKEN := fun m => by
  have a : ∀ y ∈ TAKEN, y.cps.toList.length ≠ 2 := by decide +kernel
  exact a z m h
theorem flt_take {z : Str} {ns : List Str} {i : Nat} (p : Str → Bool) (e : ns[i]? = some z) : (ns.take (i + 1)).filter p = (ns.take i).filter p ++ (if p z then [z] else []) := by
  rw [List.take_add_one, e, List.filter_append]
  cases h : p z <;> simp [h]
def spCalled (K : PySem.W.Frag) : Sp := fun vs H Q _ => ∃ (d g : Addr) (n : Int), vs = [.ref d, .int n] ∧ Deck H d g ∧ 1 ≤ n ∧ n ≤ 6 ∧
  ∀ (p : Addr) (ns : List Str) (H' : Hp), Deck H' d g → Mv d g H H' → SqZ K H' p (ns.map V.str) → (ns.length : Int) = n → (∀ z ∈ ns, nameB z = true) → ns.Nodup → Q (.ref p) H'
abbrev abc : Str := "abcdefghijklmnopqrstuvwxyz"
theorem abc_len : abc.cps.toList.length = 26 := by decide +kernel
theorem abc9_len : (abc ++ "0123456789").cps.toList.length = 36 := by decide +kernel
section
variable {P : Program} {w : World} {K : PySem.W.Frag} {mg : Str → Option Value} {base : Heap}
abbrev s_called : Stmt := topS 29
theorem sc_called : FnScope ["_law_deck_here", "_law_many", "_law_letters", "_law_word", "_law_k", "_law_at", "_law_first", "_law_found", "_law_kept", "_law_name_here"] ["_law_deck_here", "_law_many"] (defScope s_called) := ⟨rfl, rfl, rfl, by decide +kernel, rfl, by decide +kernel, by decide +kernel⟩
theorem ok_called {f : Addr} {fd : FuncData} (F : Fun K "_law_called" "_law_called" s_called f fd) (gl : mg "_law_called" = some (.ref f)) (T : Bl mg) (D_draw : DefG P w K mg base 1 "_law_draw" ["_law_deck_here", "_law_many"] spDraw)
    (D_pick : DefG P w K mg base 2 "_law_pick" ["_law_deck_here", "_law_some"] spPickS) : DefG P w K mg base 3 "_law_called" ["_law_deck_here", "_law_many"] (spCalled K) := by
  refine def_mk F gl (F.binds fun _ _ _ _ _ _ us hl => match us, hl with | [_, _], _ => rfl) (okG F sc_called (fun vs H Q E h => ?_) fun cdv A outer s H vs Q E hr hc h => ?_)
  · obtain ⟨d, g, n, rfl, _⟩ := h
    rfl
  · obtain ⟨d, g, n, rfl, D, n1, n6, q⟩ := h
    have nd := sc_called.nd
    have hu64 := hr.units
    refine ⟨_, (pss_cons (ps_set (i := 2) nd rfl (by first | exact Or.inl rfl | exact Or.inr rfl) pe_str)
      (pss_cons (ps_set (i := 3) nd rfl (by first | exact Or.inl rfl | exact Or.inr rfl) (pe_lst (pa_cons (pe_def D_pick (hr.mono (by decide)) hc (by rfl) (pa_cons (pv 0) (pa_cons (pv 2) pa_nil))) pa_nil)))
      (pss_cons (ps_for PassesOwn.never rfl (pi_range1 (by rfl) T.range (pa_cons (pe_def D_draw (hr.mono (by decide)) hc (by rfl) (pa_cons (pv 0) (pa_cons pe_int pa_nil))) pa_nil)) (pg_name (i := 4) nd rfl (by first | exact Or.inl rfl | exact Or.inr rfl))
        (pss_one (ps_expr (pe_bm PySem.F.plainAttrs_list PySem.F.slot_list_append PySem.F.type_list_append mt_append (pv 3) (pa_cons (pe_def D_pick (hr.mono (by decide)) hc (by rfl) (pa_cons (pv 0) (pa_cons (pe_op op_add_str (pv 2) pe_str) pa_nil))) pa_nil)))))
      (pss_cons (ps_par3 (i := 5) (j := 6) (l := 7) rfl nd rfl rfl rfl (by decide) (by decide) (by decide) rfl rfl rfl (pa_cons (pe_def D_draw (hr.mono (by decide)) hc (by rfl) (pa_cons (pv 0) (pa_cons (pe_callB call_len_seq (by rfl) T.len boot_len (pa_cons (pv 3) pa_nil)) pa_nil))) (pa_cons (pe_def D_draw (hr.mono (by decide)) hc (by rfl) (pa_cons (pv 0) (pa_cons pe_int pa_nil))) (pa_cons (pe_lst pa_nil) pa_nil))) rfl)
      (pss_cons (ps_for PassesOwn.never rfl (pi_range1 (by rfl) T.range (pa_cons (pv 1) pa_nil)) (pg_name (i := 4) nd rfl (by first | exact Or.inl rfl | exact Or.inr rfl))
        (pss_cons (ps_asg (pe_ix ix_str (pv 2) (pe_op op_mod (pe_op op_add (pv 6) (pe_op op_mul pe_int (pv 4))) pe_int) (fun _ _ => rfl)) (pg_sub (pv 3) (pv 5) set_list))
        (pss_one (ps_expr (pe_bm PySem.F.plainAttrs_list PySem.F.slot_list_append PySem.F.type_list_append mt_append (pv 7) (pa_cons (pe_join pe_str (pv 3)) pa_nil))))))
      (pss_cons (ps_set (i := 8) nd rfl (by first | exact Or.inl rfl | exact Or.inr rfl) (pe_lst (pa_cons pe_str (pa_cons pe_str (pa_cons pe_str (pa_cons pe_str (pa_cons pe_str (pa_cons pe_str (pa_cons pe_str (pa_cons pe_str (pa_cons pe_str pa_nil)))))))))))
      (pss_cons (ps_if (pt_cmpR (op_neP (K := K) hu64) (pe_lc (own := [("_law_name_here", 9)]) (g := (gName 9)) rfl nd (pi_list (pv 7)) (blkOk_by (own := [("_law_name_here", 9)]) (N := ["_law_deck_here", "_law_many", "_law_letters", "_law_word", "_law_k", "_law_at", "_law_first", "_law_found", "_law_kept", "_law_name_here"]) (sc := defScope s_called) (by decide +kernel)) (fun _ _ _ _ _ => (pg_name (i := 9) nd rfl (by first | exact Or.inl rfl | exact Or.inr rfl))) (fun _ _ _ _ _ => (pts_one (pt_cmpR (op_inK (K := K)) (pv 9) (pv 8) (by with_unfolding_all rfl)))) (fun _ _ _ _ _ => (pv 9))) (pe_lst pa_nil) (nomark _))
        (pss_one (ps_setLc (i := 7) (own := [("_law_k", 4), ("_law_name_here", 9)]) (g := (gTup K 2 (gCons (gName 4) (gCons (gName 9) gNil)))) (tt := tYes) rfl nd rfl rfl (sw_true rfl rfl rfl (by decide +kernel)) (pi_enum (by rfl) T.enumerate (pa_cons (pv 7) pa_nil)) (blkOk_by (own := [("_law_k", 4), ("_law_name_here", 9)]) (N := ["_law_deck_here", "_law_many", "_law_letters", "_law_word", "_law_k", "_law_at", "_law_first", "_law_found", "_law_kept", "_law_name_here"]) (sc := defScope s_called) (by decide +kernel)) (fun _ _ _ _ _ => (pg_tup rfl (pgs_cons (pg_name (i := 4) nd rfl (by first | exact Or.inl rfl | exact Or.inr rfl)) (pgs_cons (pg_name (i := 9) nd rfl (by first | exact Or.inl rfl | exact Or.inr rfl)) pgs_nil)))) (fun _ _ _ _ _ => pts_nil) (fun _ _ _ _ _ => (pe_op op_add_str (pe_slice sl_str (pv 9) po_none (po_some pe_int)) (pe_callTy call_str_int (by rfl) T.str boot_str (pa_cons (pv 4) pa_nil))))))
        pss_nil)
      (pss_one (ps_ret (pe_tupleZ (by rfl) T.tuple (pv 7))))))))))), ?_⟩
    -- letters; word = [pick(letters)]
    refine ⟨_, rfl, _, rfl, d, g, abc, rfl, D, (fun z => by have := abc_len; rw [z] at this; cases this), by rw [str_len, abc_len]; decide, fun c0 H1 hc0 D1 M1 => ⟨(show 1 ≤ sizeLine from small (by decide)), fun p np => ?_⟩⟩
    have offp := D1.off np
    have npH := M1.free D D1 np
    -- for k in range(draw(8))
    refine ⟨_, rfl, d, g, 8, rfl, D1.new np, by decide, by decide, fun r8 H2 r80 r81 D2 M2 => ⟨r8, rfl, by omega, by omega, ?_⟩⟩
    have M02 : Mv d g H H2 := M1.trans ((Mv.of (Same.new np)).trans M2)
    refine for_range (fun i σ H3 => Deck H3 d g ∧ Mv d g H H3 ∧ ∃ (cs : List Nat) (v4 : Option V), σ = [some (.ref d), some (.int n), some (.str abc), some (.ref p), v4, none, none, none, none, none] ∧ H3 p = some (.lst ((cs.map S1).map V.str)) ∧ cs.length = 1 + i ∧ (∀ c, cs[0]? = some c → c ∈ LETTERS.cps.toList) ∧ ∀ c ∈ cs, c ∈ alnum)
      ⟨D2, M02, [c0], none, rfl, M2.at upd_same offp, rfl, (fun c e => by cases e; exact hc0), fun c hc => by rw [List.mem_singleton.mp hc]; exact let_alnum hc0⟩ ?_ ?_
    · rintro i σ H3 hi ⟨D3, M3, cs, v4, rfl, hp, hl, hs0, hs⟩
      refine ⟨_, rfl, ty_l (tofL hp), _, rfl, _, rfl, abc, _, rfl, rfl, small (by rw [str_len, str_len, abc_len]; decide), d, g, _, rfl, D3, (fun z => by have := abc9_len; rw [z] at this; cases this), by rw [str_len, abc9_len]; decide, fun c H4 hc4 D4 M4 => ?_⟩
      refine ⟨p, _, _, rfl, rfl, M4.at hp offp, by rw [List.length_map, List.length_map]; exact smallt (by omega), D4.mut offp, (M3.trans M4).mut npH, cs ++ [c], _, rfl, ?_, ?_, ?_, ?_⟩
      · rw [upd_same, List.map_append, List.map_append]; rfl
      · rw [List.length_append, hl]; rfl
      · intro c' hc'
        rw [List.getElem?_append_left (by omega)] at hc'
        exact hs0 c' hc'
      · intro z hz
        rcases List.mem_append.mp hz with hz | hz
        · exact hs z hz
        · rw [List.mem_singleton.mp hz]; exact hc4
    · rintro σ H3 ⟨D3, M3, cs, v4, rfl, hp, hl, hs0, hs⟩
      have hcs : Cs cs := ⟨⟨by omega, by omega⟩, hs0, hs⟩
      have hl8 : cs.length ≤ 8 := by omega
      have lm : ∀ cs : List Nat, ((cs.map S1).map V.str).length = cs.length := fun cs => by rw [List.length_map, List.length_map]
      -- at, first, found
      refine ⟨_, rfl, _, rfl, p, _, rfl, .inl (tofL hp), d, g, _, rfl, D3, by rw [lm]; omega, by rw [lm]; omega, fun at_ H4 a0 a1 D4 M4 => ?_⟩
      rw [lm] at a1
      refine ⟨_, rfl, d, g, 26, rfl, D4, by decide, by decide, fun fi H5 f0 f1 D5 M5 => ⟨Nat.zero_le _, fun fn nfn => ?_⟩⟩
      have offn := D5.off nfn
      have hp5 : H5 p = some (.lst ((cs.map S1).map V.str)) := M5.at (M4.at hp offp) offp
      have npf : p ≠ fn := ne_of_none hp5 nfn
      have M05 : Mv d g H H5 := M3.trans (M4.trans M5)
      have nfH := M05.free D D5 nfn
      refine ⟨_, _, _, rfl, ?_⟩
      -- for k in range(many)
      refine ⟨_, rfl, n, rfl, by omega, by omega, ?_⟩
      refine for_range (fun i σ H6 => Deck H6 d g ∧ Mv d g H H6 ∧ ∃ (cs : List Nat) (ns : List Str) (v4 : Option V), σ = [some (.ref d), some (.int n), some (.str abc), some (.ref p), v4, some (.int at_), some (.int fi), some (.ref fn), none, none] ∧
          H6 p = some (.lst ((cs.map S1).map V.str)) ∧ Cs cs ∧ at_ < cs.length ∧ H6 fn = some (.lst (ns.map V.str)) ∧ ns.length = i ∧ NmAt at_ fi i ns (cs.map S1) ∧ ∀ z ∈ ns, Wd z)
        ⟨D5.new nfn, M05.trans (Mv.of (Same.new nfn)), cs, [], v4, rfl, by rw [upd_ne npf]; exact hp5, hcs, a1, upd_same, rfl, NmAt.new (fun z hz => by obtain ⟨c, _, rfl⟩ := List.mem_map.mp hz; exact ⟨c, rfl⟩) (by rw [List.length_map]; omega), fun z hz => nomatch hz⟩ ?_ ?_
      · rintro i σ H6 hi ⟨D6, M6, cs, ns, v4, rfl, hp, hs, ha, hf, hn, hnm, hw⟩
        obtain ⟨c, hcm, ec⟩ := at_in (xs := abc.cps.toList) (r := (fi + 7 * (0 + (i : Nat))) % 26) (Int.emod_nonneg _ (by decide)) (by rw [abc_len]; exact Int.emod_lt_of_pos _ (by decide))
        refine ⟨_, rfl, _, rfl, _, rfl, 7, _, rfl, rfl, mul_small (by decide) (by decide), _, _, rfl, rfl, _, 26, rfl, rfl, (show (0 : Int) < 26 by decide), abc, _, c, rfl, rfl, small (by rw [str_len, abc_len]; decide), ec, ?_⟩
        have hs2 : Cs (cs.set at_.toNat c) := hs.set hcm
        refine ⟨_, rfl, _, rfl, p, _, at_, at_.toNat, rfl, rfl, hp, ixN_of a0 (by rw [lm]; exact ha), ?_⟩
        have em0 : (cs.map S1).set at_.toNat (S1 c) = (cs.set at_.toNat c).map S1 := by rw [List.map_set]
        have em : ((cs.map S1).map V.str).set at_.toNat (.str ⟨#[c]⟩) = ((cs.set at_.toNat c).map S1).map V.str := by rw [← em0, List.map_set]; rfl
        rw [em]
        have hf2 : upd H6 p (.lst (((cs.set at_.toNat c).map S1).map V.str)) fn = some (.lst (ns.map V.str)) := by rw [upd_ne npf.symm]; exact hf
        have stp := hnm.step (let_at ec)
        rw [show (cs.map S1).set at_.toNat ⟨#[c]⟩ = (cs.set at_.toNat c).map S1 from em0] at stp
        refine ⟨_, rfl, ty_l (tofL hf2), ⟨_, rfl⟩, _, rfl, "", p, (cs.set at_.toNat c).map S1, rfl, rfl, .inl (tofL upd_same), ?_, fn, _, _, rfl, rfl, hf2, by rw [List.length_map]; exact smallt (by omega), (D6.mut offp).mut offn, (M6.mut npH).mut nfH, cs.set at_.toNat c, ns ++ [Txt.join "" ((cs.set at_.toNat c).map S1)], _, rfl, ?_, hs2, by rw [List.length_set]; exact ha, ?_, ?_, stp, ?_⟩
        · rw [S1_len, List.length_map, List.length_set]
          have : (Str.ofString "").length = 0 := by decide +kernel
          rw [this]
          have := hs.1.2
          omega
        · rw [upd_ne npf, upd_same]
        · rw [upd_same, List.map_append]; rfl
        · rw [List.length_append, hn]; rfl
        · intro z hz
          rcases List.mem_append.mp hz with hz | hz
          · exact hw z hz
          · rw [List.mem_singleton.mp hz]
            exact hs2.wd
      · rintro σ H6 ⟨D6, M6, cs2, ns, v5, rfl, hp6, hs6, ha6, hf6, hn6, hnm6, hw6⟩
        have fin : ∀ (Hx : Hp) (x : Addr) (ms : List Str), Deck Hx d g → Mv d g H Hx → Hx x = some (.lst (ms.map V.str)) → (ms.length : Int) = n → (∀ z ∈ ms, nameB z = true) → ms.Nodup → kTupZ K (.ref x) Hx Q :=
          fun Hx x ms Dx Mx hx hlx hwx hdx => ⟨x, _, rfl, tofL hx, fun t o nt od => q t ms _ (Dx.new nt) (Mx.trans (Mv.of (Same.new nt))) (.inl ⟨o, upd_same, od⟩) hlx hwx hdx⟩
        -- kept
        refine ⟨(show 9 ≤ sizeLine from small (by decide)), fun kp nkp => ?_⟩
        have s7 := Same.new (o := .lst [.str "check", .str "input", .str "keep", .str "let", .str "mod", .str "names", .str "open", .str "self", .str "take"]) nkp
        have hk7 : upd H6 kp (.lst [.str "check", .str "input", .str "keep", .str "let", .str "mod", .str "names", .str "open", .str "self", .str "take"]) kp = some (.lst [.str "check", .str "input", .str "keep", .str "let", .str "mod", .str "names", .str "open", .str "self", .str "take"]) := upd_same
        revert s7 hk7
        generalize upd H6 kp (.lst [.str "check", .str "input", .str "keep", .str "let", .str "mod", .str "names", .str "open", .str "self", .str "take"]) = H7
        intro s7 hk7
        have hk7 : H7 kp = some (.lst (TAKEN.map V.str)) := hk7
        have D7 := D6.same s7
        have M7 := M6.trans (Mv.of s7)
        -- [name for name in found if name in kept] != []
        refine ⟨_, rfl, fn, rfl, ⟨_, tofL (s7 _ _ hf6)⟩, fun Dl nDl => ?_⟩
        refine lc_list (K := K) (a := fn) (xs := ns.map V.str) (fun i H8 => Same H7 H8 ∧ H8 Dl = some (.lst (((ns.take i).filter fun z => decide (z ∈ TAKEN)).map V.str))) ⟨Same.new nDl, upd_same⟩
          (fun i H8 _ h => tofL (h.1 _ _ (s7 _ _ hf6))) ?_ ?_
        · rintro i x H8 hi ⟨s8, hD⟩
          obtain ⟨z, rfl, hz, hil⟩ := strs_at hi
          have ft := flt_take (fun z => decide (z ∈ TAKEN)) hz
          refine ⟨rfl, _, rfl, _, rfl, kp, _, rfl, .inl (tofL (s8 _ _ hk7)), rfl, flat_strs TAKEN, _, rfl, ?_⟩
          rw [if_neg (show ¬ false = true by decide), inV_strs]
          refine ite2 (fun e => ?_) (fun e => ?_)
          · refine ⟨_, rfl, _, hD, ?_, ?_, ?_⟩
            · rw [List.length_map]; exact smallt (Nat.lt_of_le_of_lt (List.length_filter_le _ _) (by rw [List.length_take]; omega))
            · intro b u hb
              rw [upd_ne (ne_of_none hb nDl)]
              exact s8 _ _ hb
            · rw [upd_same, ft, if_pos e, List.map_append]; rfl
          · refine ⟨s8, ?_⟩
            rw [ft, if_neg e, List.append_nil]
            exact hD
        · rintro H8 ⟨s8, hD⟩
          rw [List.length_map, List.take_length] at hD
          refine ⟨Nat.zero_le _, fun o no => ?_⟩
          have s9 := s8.trans (Same.new (o := .lst []) no)
          have hD9 := Same.new (o := .lst []) no _ _ hD
          have ho9 : upd H8 o (.lst []) o = some (.lst (([] : List Str).map V.str)) := upd_same
          have hf9 := s9 _ _ (s7 _ _ hf6)
          revert s9 hf9 hD9 ho9
          generalize upd H8 o (.lst []) = H9
          intro s9 hD9 ho9 hf9
          refine ⟨.list ((ns.filter fun z => decide (z ∈ TAKEN)).map PyData.str), .list (([] : List Str).map PyData.str), .lst (tofL hD9) (dpa_strs _), .lst (tofL ho9) (dpa_strs []), plain_strs _, plain_strs _, depth_strs _, _, rfl, ?_⟩
          rw [eqv_strs]
          refine ite2 (fun _ => ?_) (fun em => ?_)
          · refine ⟨_, rfl, fn, _, rfl, tofL hf9, fun D2 nD2 => ?_⟩
            have hnl : ns.length ≤ 6 := by omega
            refine lc_it (walk_enum (K := K) (a := fn) (xs := ns.map V.str)) (fun i H10 => Same H9 H10 ∧ ∃ ms : List Str, H10 D2 = some (.lst (ms.map V.str)) ∧ ms.length = i ∧ NumAt ms ∧ ∀ z ∈ ms, nameB z = true) ⟨Same.new nD2, [], upd_same, rfl, (fun j z e => by cases e), fun z hz => nomatch hz⟩
              (fun i H10 _ h => tofL (h.1 _ _ hf9)) ?_ ?_
            · rintro i x H10 H11 hi ⟨s10, ms, hD2, hml, hnu, hmw⟩ ⟨t, u, v, rfl, nt, rfl, f1, f2⟩
              rw [List.length_map] at hi
              have e1 : u = .int (i : Nat) := (Option.some.inj f1).symm
              subst e1
              obtain ⟨z, rfl, hz, hil⟩ := strs_at f2
              have hzw := hw6 z (List.mem_of_getElem? hz)
              obtain ⟨cd, ecd, hcd⟩ := num_one i (by omega)
              have nDt : D2 ≠ t := ne_of_none hD2 nt
              obtain ⟨c1, r1, e1⟩ : ∃ c1 r1, z.cps.toList = c1 :: r1 := by
                cases e : z.cps.toList with
                | nil => have := hzw.1.1; rw [e] at this; exact absurd this (by decide)
                | cons a r => exact ⟨a, r, rfl⟩
              have ec1 : (cutS z none (some 1)).cps.toList = [c1] := by rw [cut_first, e1]; rfl
              have el : (cutS z none (some 1) ++ Str.ofString (toString (i : Int))).cps.toList = [c1, cd] := by rw [app_list, ec1, ecd]; rfl
              have lc1 : (cutS z none (some 1)).length = 1 := by rw [str_len, ec1]; rfl
              have lcd : (Str.ofString (toString (i : Int))).length = 1 := by rw [str_len, ecd]; rfl
              have hc1 : c1 ∈ LETTERS.cps.toList := hzw.2.1 c1 (by rw [e1]; rfl)
              refine ⟨t, _, rfl, tofT upd_same, rfl, _, _, rfl, _, _, rfl, rfl, rfl, ?_⟩
              refine ⟨_, rfl, 1, rfl, z, rfl, small (by rw [str_len]; have := hzw.1.2; omega), _, rfl, (i : Int), rfl, log_small i (by omega), _, _, rfl, rfl, small (by rw [lc1, lcd]; decide), _, (by rw [upd_ne nDt]; exact hD2), by rw [List.length_map]; exact smallt (by omega), ?_, ms ++ [cutS z none (some 1) ++ Str.ofString (toString (i : Int))], ?_, ?_, (by have q := hnu.snoc (p := cutS z none (some 1)) (by rw [ec1]; rfl); rw [hml] at q; exact q), ?_⟩
              · intro b o hb
                rw [upd_ne (ne_of_none hb nD2), upd_ne (ne_of_none (s10 _ _ hb) nt)]
                exact s10 _ _ hb
              · rw [upd_same, List.map_append]; rfl
              · rw [List.length_append, hml]; rfl
              · intro y hy
                rcases List.mem_append.mp hy with hy | hy
                · exact hmw y hy
                · rw [List.mem_singleton.mp hy]
                  refine wd_name ?_ (short_free (by rw [el]; rfl))
                  unfold Wd
                  rw [el]
                  refine ⟨⟨Nat.le_add_left _ _, (show 2 ≤ 8 by decide)⟩, fun c hc => (by cases hc; exact hc1), fun c hc => ?_⟩
                  rcases List.mem_cons.mp hc with rfl | hc
                  · exact let_alnum hc1
                  · rw [List.mem_singleton.mp hc]; exact hcd
            · rintro H10 ⟨s10, ms, hD2, hml, hnu, hmw⟩
              rw [List.length_map] at hml
              exact ⟨_, rfl, fin H10 D2 ms ((D7.same s9).same s10) (M7.trans ((Mv.of s9).trans (Mv.of s10))) hD2 (by omega) hmw (hnu.nodup (by omega))⟩
          · have emp : (ns.filter fun z => decide (z ∈ TAKEN)) = [] := by
              cases e : (ns.filter fun z => decide (z ∈ TAKEN)) with
              | nil => rfl
              | cons y r => rw [e] at em; exact absurd rfl em
            exact ⟨_, rfl, fin H9 fn ns (D7.same s9) (M7.trans (Mv.of s9)) hf9 (by omega) (fun z hz => wd_name (hw6 z hz) fun ht => absurd (decide_eq_true ht) (List.filter_eq_nil_iff.mp emp z hz)) (hnm6.nodup (by omega))⟩
end
end KW
namespace KW
open PySem PySem.Spec PyProof.Rows L2 GL RZ TL
theorem map_at {ns : List Int} {i : Nat} (h : i < ns.length) : (ns.map V.int)[i]? = some (.int ns[i]) := by
  rw [List.getElem?_map, List.getElem?_eq_getElem h]; rfl
theorem idx_facts (z : Str) : ∀ ns : List Str, z ∈ ns → ns[ns.idxOf z]? = some z ∧ ∀ m, m < ns.idxOf z → ns[m]? ≠ some z
  | [], h => nomatch h
  | y :: r, h => by
    by_cases e : y = z
    · subst e
      rw [List.idxOf_cons_self]
      exact ⟨rfl, fun m hm => absurd hm (Nat.not_lt_zero m)⟩
    · have hr : z ∈ r := (List.mem_cons.mp h).resolve_left (fun q => e q.symm)
      obtain ⟨h1, h2⟩ := idx_facts z r hr
      have ei : (y :: r).idxOf z = r.idxOf z + 1 := by
        rw [List.idxOf_cons, show (y == z) = false from beq_eq_false_iff_ne.mpr e]; rfl
      rw [ei]
      refine ⟨h1, fun m hm => ?_⟩
      cases m with
      | zero => exact fun q => e (Option.some.inj q)
      | succ m => exact h2 m (by omega)
/-- the factor of a name -/
def facOf (fs : List Int) (old : List Str) (z : Str) : Int := if z ∈ old then fs.getD (old.idxOf z) 0 else 0
abbrev Line := List Int × List Int
/-- a line as it lies: factors, then what stands behind them -/
inductive LnAt (H : Hp) : List V → List Line → Prop
  | nil : LnAt H [] []
  | cons {p q : Addr} {fs ms : List Int} {xs : List V} {ls : List Line} : H p = some (.tup (.ref q :: ms.map V.int)) → H q = some (.tup (fs.map V.int)) → LnAt H xs ls → LnAt H (.ref p :: xs) ((fs, ms) :: ls)
theorem LnAt.len {H : Hp} : ∀ {xs : List V} {ls : List Line}, LnAt H xs ls → xs.length = ls.length
  | _, _, .nil => rfl
  | _, _, .cons _ _ t => congrArg Nat.succ t.len
theorem LnAt.to {H H' : Hp} (k : ∀ a xs, H a = some (.tup xs) → H' a = some (.tup xs)) : ∀ {xs : List V} {ls : List Line}, LnAt H xs ls → LnAt H' xs ls
  | _, _, .nil => .nil
  | _, _, .cons a b t => .cons (k _ _ a) (k _ _ b) (t.to k)
theorem LnAt.snoc {H : Hp} {p q : Addr} {fs ms : List Int} (h1 : H p = some (.tup (.ref q :: ms.map V.int))) (h2 : H q = some (.tup (fs.map V.int))) : ∀ {xs : List V} {ls : List Line}, LnAt H xs ls → LnAt H (xs ++ [.ref p]) (ls ++ [(fs, ms)])
  | _, _, .nil => .cons h1 h2 .nil
  | _, _, .cons a b t => .cons a b (t.snoc h1 h2)
theorem LnAt.get {H : Hp} : ∀ {xs : List V} {ls : List Line} {i : Nat} {x : V}, LnAt H xs ls → xs[i]? = some x → ∃ p q fs ms, x = .ref p ∧ H p = some (.tup (.ref q :: ms.map V.int)) ∧ H q = some (.tup (fs.map V.int)) ∧ ls[i]? = some (fs, ms)
  | _, _, _, _, .nil, e => by cases e
  | _, _, 0, _, .cons a b t, e => by cases e; exact ⟨_, _, _, _, rfl, a, b, rfl⟩
  | _, _, i + 1, _, .cons a b t, e => LnAt.get (i := i) t (by simpa using e)
theorem LnAt.app {H : Hp} : ∀ {xs ys : List V} {ls ms : List Line}, LnAt H xs ls → LnAt H ys ms → LnAt H (xs ++ ys) (ls ++ ms)
  | _, _, _, _, .nil, h => h
  | _, _, _, _, .cons a b t, h => .cons a b (t.app h)
def lnR (r : Row) : Line := (r.1, [r.2])
def lnS (r : Rst) : Line := (r.1, [r.2.1, r.2.2])
theorem ln_rows {H : Hp} : ∀ {xs : List V} {rs : List Row}, RowsAt H xs rs → LnAt H xs (rs.map lnR)
  | _, _, .nil => .nil
  | _, _, .cons a b t => .cons (ms := [_]) a b (ln_rows t)
theorem ln_rests {H : Hp} : ∀ {xs : List V} {rs : List Rst}, RestsAt H xs rs → LnAt H xs (rs.map lnS)
  | _, _, .nil => .nil
  | _, _, .cons a b t => .cons (ms := [_, _]) a b (ln_rests t)
theorem rows_ln {H : Hp} : ∀ {xs : List V} {rs : List Row}, LnAt H xs (rs.map lnR) → RowsAt H xs rs
  | _, [], .nil => .nil
  | _, (_, _) :: _, .cons a b t => .cons a b (rows_ln t)
theorem rests_ln {H : Hp} : ∀ {xs : List V} {rs : List Rst}, LnAt H xs (rs.map lnS) → RestsAt H xs rs
  | _, [], .nil => .nil
  | _, (_, _, _) :: _, .cons a b t => .cons a b (rests_ln t)
def sprd (old ns : List Str) (l : Line) : Line := (ns.map (facOf l.1 old), l.2)
def spFac (K : PySem.W.Frag) : Sp := fun vs H Q _ => ∃ (a o : Addr) (fs : List Int) (old : List Str) (z : Str), vs = [.ref a, .ref o, .str z] ∧ SqT K H a (fs.map V.int) ∧ SqZ K H o (old.map V.str) ∧ fs.length = old.length ∧ old.length ≤ 100 ∧ Q (.int (facOf fs old z)) H
def spSpread (K : PySem.W.Frag) : Sp := fun vs H Q _ => ∃ (a o n : Addr) (xs : List V) (ls : List Line) (old ns : List Str), vs = [.ref a, .ref o, .ref n] ∧ SqT K H a xs ∧ LnAt H xs ls ∧ SqZ K H o (old.map V.str) ∧ SqT K H n (ns.map V.str) ∧ ns.length ≤ 100 ∧ old.length ≤ 100 ∧
  ls.length ≤ 100 ∧ (∀ l ∈ ls, l.1.length = old.length ∧ 1 ≤ l.2.length ∧ l.2.length ≤ 2) ∧ ∀ (p : Addr) (ys : List V) (H' : Hp), Same H H' → H p = none → H' p = some (.tup ys) → LnAt H' ys (ls.map (sprd old ns)) → Q (.ref p) H'
section
variable {P : Program} {w : World} {K : PySem.W.Frag} {mg : Str → Option Value} {base : Heap}
abbrev s_factor : Stmt := topS 22
theorem sc_factor : FnScope ["factors", "old", "name"] ["factors", "old", "name"] (defScope s_factor) := ⟨rfl, rfl, rfl, by decide +kernel, rfl, by decide +kernel, by decide +kernel⟩
theorem ok_factor {f : Addr} {fd : FuncData} (F : Fun K "_factor" "_factor" s_factor f fd) (gl : mg "_factor" = some (.ref f)) (T : Bl mg) : DefG P w K mg base 1 "_factor" ["factors", "old", "name"] (spFac K) := by
  refine def_mk F gl (F.binds fun _ _ _ _ _ _ us hl => match us, hl with | [_, _, _], _ => rfl) (okG F sc_factor (fun vs H Q E h => ?_) fun cdv A outer s H vs Q E hr hc h => ?_)
  · obtain ⟨a, o, fs, old, z, rfl, _⟩ := h
    rfl
  · obtain ⟨a, o, fs, old, z, rfl, hA, hO, el, l1, q⟩ := h
    refine ⟨_, (pss_one (ps_ret (pe_ifExp (pt_cmpR (op_inK (K := K)) (pv 2) (pv 1) (by with_unfolding_all rfl)) (pe_ix ix_tup (pv 0) (pe_bmZ PySem.F.slot_tuple_index PySem.F.type_tuple_index mt_tup_index (pv 1) (pa_cons (pv 2) pa_nil)) (fun _ _ => rfl)) pe_int))), ?_⟩
    refine ⟨_, rfl, _, rfl, o, _, rfl, .inr hO.t, rfl, flat_strs old, _, rfl, ?_⟩
    rw [if_neg (show ¬ false = true by decide), inV_strs]
    refine ite2 (fun e => ?_) (fun e => ?_)
    · have hz : z ∈ old := of_decide_eq_true e
      have li : old.idxOf z < old.length := List.idxOf_lt_length_of_mem hz
      obtain ⟨h1, h2⟩ := idx_facts z old hz
      have li2 : old.idxOf z < fs.length := by omega
      refine ⟨_, rfl, _, rfl, ⟨o, _, rfl, hO⟩, _, rfl, o, old, z, old.idxOf z, rfl, rfl, hO.t, h1, h2, a, _, _, _, rfl, rfl, hA, at_of rfl (map_at li2), ?_⟩
      unfold facOf at q
      rw [if_pos hz, List.getD_eq_getElem?_getD, List.getElem?_eq_getElem li2] at q
      exact q
    · have hz : z ∉ old := fun m => e (decide_eq_true m)
      unfold facOf at q
      rw [if_neg hz] at q
      exact q
abbrev s_spread : Stmt := topS 21
theorem sc_spread : FnScope ["lines", "old", "names", "name", "factors", "more"] ["lines", "old", "names"] (defScope s_spread) := ⟨rfl, rfl, rfl, by decide +kernel, rfl, by decide +kernel, by decide +kernel⟩
theorem ok_spread {f : Addr} {fd : FuncData} (F : Fun K "_spread" "_spread" s_spread f fd) (gl : mg "_spread" = some (.ref f)) (T : Bl mg) (D__factor : DefG P w K mg base 1 "_factor" ["factors", "old", "name"] (spFac K)) : DefG P w K mg base 2 "_spread" ["lines", "old", "names"] (spSpread K) := by
  refine def_mk F gl (F.binds fun _ _ _ _ _ _ us hl => match us, hl with | [_, _, _], _ => rfl) (okG F sc_spread (fun vs H Q E h => ?_) fun cdv A outer s H vs Q E hr hc h => ?_)
  · obtain ⟨a, o, n, xs, ls, old, ns, rfl, _⟩ := h
    rfl
  · obtain ⟨a, o, n, xs, ls, old, ns, rfl, hA, hL, hO, hN, l1, l2, l3, hf, q⟩ := h
    have nd := sc_spread.nd
    refine ⟨_, (pss_one (ps_ret (pe_tupleOf (by rfl) T.tuple (pe_lc (own := [("factors", 4), ("more", 5)]) (g := (gStar K 2 1 (gCons (gName 4) (gCons (gName 5) gNil)))) (tt := tYes) rfl nd (pi_tup (pv 0)) (blkOk_by (own := [("factors", 4), ("more", 5)]) (N := ["lines", "old", "names", "name", "factors", "more"]) (sc := defScope s_spread) (by decide +kernel)) (fun _ _ _ _ _ => (pg_star rfl (pgs_cons (pg_name (i := 4) nd rfl (by first | exact Or.inl rfl | exact Or.inr rfl)) (pgs_consS (pg_name (i := 5) nd rfl (by first | exact Or.inl rfl | exact Or.inr rfl)) pgs_nil)))) (fun _ _ _ _ _ => pts_nil) (fun _ _ _ _ _ => (pe_tup (pa_cons (pe_tupleOfK (K := K) (by rfl) T.tuple (pe_lc (own := [("name", 3)]) (g := (gName 3)) (tt := tYes) rfl nd (pi_tupK (K := K) (pv 2)) (blkOk_by (own := [("name", 3)]) (by with_unfolding_all rfl)) (fun _ _ _ _ _ => (pg_name (i := 3) nd rfl (by first | exact Or.inl rfl | exact Or.inr rfl))) (fun _ _ _ _ _ => pts_nil) (fun _ _ _ _ _ => (pe_def D__factor (hr.mono (by decide)) hc (by rfl) (pa_cons (pv 4) (pa_cons (pv 1) (pa_cons (pv 3) pa_nil))))))) (pa_starK (K := K) (pv 5) pa_nil)))))))), ?_⟩
    refine ⟨_, rfl, a, rfl, ⟨_, hA⟩, fun D nD => ?_⟩
    refine lc_tup (K := K) (a := a) (xs := xs) (fun i H2 => Same H H2 ∧ ∃ ys, H2 D = some (.lst ys) ∧ LnAt H2 ys ((ls.take i).map (sprd old ns))) ⟨Same.new nD, [], upd_same, .nil⟩ (fun i H2 _ h => Same.tup h.1 hA) ?_ ?_
    · rintro i y H2 hi ⟨s2, ys, hD, hY⟩
      obtain ⟨k1, k2, fs, ms, rfl, hk1, hk2, hl⟩ := (hL.to (tups_same s2)).get hi
      have hlf := hf _ (List.mem_of_getElem? hl)
      have hm2 : ms.length ≤ 2 := hlf.2.2
      have il := (List.getElem?_eq_some_iff.mp hl).1
      have lm : (V.ref k2 :: ms.map V.int).length = ms.length + 1 := by rw [List.length_cons, List.length_map]
      refine ⟨k1, _, rfl, tofT hk1, by rw [lm]; omega, by rw [lm]; omega, fun M nM => ?_⟩
      have e1 : ((V.ref k2 :: ms.map V.int).drop 1).take ((V.ref k2 :: ms.map V.int).length + 1 - 2) = ms.map V.int := by
        rw [lm]
        show (ms.map V.int).take _ = _
        exact List.take_of_length_le (by rw [List.length_map]; omega)
      have e2 : (V.ref k2 :: ms.map V.int).take 1 ++ [V.ref M] ++ ((V.ref k2 :: ms.map V.int).drop 1).drop ((V.ref k2 :: ms.map V.int).length + 1 - 2) = [V.ref k2, V.ref M] := by
        rw [lm]
        show [V.ref k2] ++ [V.ref M] ++ (ms.map V.int).drop _ = _
        rw [List.drop_eq_nil_of_le (by rw [List.length_map]; omega)]
        rfl
      rw [e1, e2]
      have nDM : D ≠ M := ne_of_none hD nM
      refine ⟨_, _, rfl, _, _, rfl, rfl, rfl, ?_⟩
      have sM : Same H2 (upd H2 M (.lst (ms.map V.int))) := Same.new nM
      have s3 : Same H (upd H2 M (.lst (ms.map V.int))) := s2.trans sM
      have hM0 : upd H2 M (.lst (ms.map V.int)) M = some (.lst (ms.map V.int)) := upd_same
      revert sM s3 hM0
      generalize upd H2 M (.lst (ms.map V.int)) = Hm
      intro sM s3 hM0
      refine ⟨_, rfl, n, rfl, ⟨_, Same.tup s3 hN⟩, fun D2 nD2 => ?_⟩
      refine lc_tup (K := K) (a := n) (xs := ns.map V.str) (fun j H3 => Same Hm H3 ∧ H3 D2 = some (.lst (((ns.take j).map (facOf fs old)).map V.int))) ⟨Same.new nD2, upd_same⟩ (fun j H3 _ h => Same.tup h.1 (Same.tup s3 hN)) ?_ ?_
      · rintro j y H3 hj ⟨s4, hD2⟩
        obtain ⟨z, ez, rfl⟩ : ∃ z, ns[j]? = some z ∧ y = .str z := by
          rw [List.getElem?_map] at hj
          cases e : ns[j]? with
          | none => rw [e] at hj; cases hj
          | some z => rw [e] at hj; exact ⟨z, rfl, (Option.some.inj hj).symm⟩
        have jl := (List.getElem?_eq_some_iff.mp ez).1
        refine ⟨rfl, _, rfl, _, rfl, _, rfl, k2, o, fs, old, z, rfl, Same.tup s4 (tofT (sM _ _ hk2)), (hO.same s3).same s4, hlf.1, l2, _, hD2, ?_, ?_, ?_⟩
        · rw [List.length_map, List.length_map, List.length_take]; exact smallt (by omega)
        · intro b u hb
          rw [upd_ne (ne_of_none hb nD2)]
          exact s4 _ _ hb
        · rw [upd_same, List.take_add_one, ez, List.map_append, List.map_append]; rfl
      · rintro H3 ⟨s4, hD2⟩
        rw [List.length_map, List.take_length] at hD2
        refine .inl ⟨D2, _, rfl, tofL hD2, fun t nt => ?_⟩
        have s5 : Same Hm (upd H3 t (.tup ((ns.map (facOf fs old)).map V.int))) := s4.trans (Same.new nt)
        have ht : upd H3 t (.tup ((ns.map (facOf fs old)).map V.int)) t = some (.tup ((ns.map (facOf fs old)).map V.int)) := upd_same
        revert s5 ht
        generalize upd H3 t (.tup ((ns.map (facOf fs old)).map V.int)) = H4
        intro s5 ht
        refine ⟨_, rfl, M, _, rfl, .inr (tofL (s5 _ _ hM0)), ?_⟩
        show (V.ref t :: (ms.map V.int ++ [])).length ≤ sizeLine ∧ _
        rw [List.append_nil]
        refine ⟨by rw [List.length_cons, List.length_map]; exact smallt (by omega), fun p np => ?_⟩
        have s6 : Same H2 (upd H4 p (.tup (.ref t :: ms.map V.int))) := sM.trans (s5.trans (Same.new np))
        have hp : upd H4 p (.tup (.ref t :: ms.map V.int)) p = some (.tup (.ref t :: ms.map V.int)) := upd_same
        have ht2 : upd H4 p (.tup (.ref t :: ms.map V.int)) t = some (.tup ((ns.map (facOf fs old)).map V.int)) := Same.new np _ _ ht
        revert s6 hp ht2
        generalize upd H4 p (.tup (.ref t :: ms.map V.int)) = H5
        intro s6 hp ht2
        have ly := hY.len
        have npD : p ≠ D := fun e => by rw [e, s6 _ _ hD] at hp; cases hp
        have ntD : t ≠ D := fun e => by rw [e, s6 _ _ hD] at ht2; cases ht2
        refine ⟨_, s6 _ _ hD, ?_, ?_, _, upd_same, ?_⟩
        · rw [ly, List.length_map, List.length_take]; exact smallt (by omega)
        · intro b u hb
          rw [upd_ne (ne_of_none hb nD)]
          exact s6 _ _ (s2 _ _ hb)
        · rw [List.take_add_one, hl, List.map_append]
          refine ((hY.to (tups_same s6)).to fun b xs hb => ?_).snoc (by rw [upd_ne npD]; exact hp) (by rw [upd_ne ntD]; exact ht2)
          rw [upd_ne (fun e => by rw [e, s6 _ _ hD] at hb; cases hb)]
          exact hb
    · rintro H2 ⟨s2, ys, hD, hY⟩
      rw [hL.len, List.take_length] at hY
      exact .inl ⟨D, _, rfl, tofL hD, fun t nt => q t ys _ (s2.trans (Same.new nt)) (s2.free nt) upd_same (hY.to (tups_same (Same.new nt)))⟩
end
end KW
namespace KW
open PySem PySem.Spec PyProof.Rows L2 GL RZ TL
theorem catZ_of {K : PySem.W.Frag} {H : Hp} {a b : Addr} {xs ys : List V} {Q : VK} (zx : SqZ K H a xs) (zy : SqZ K H b ys) (hz : xs.length + ys.length ≤ sizeLine)
    (q : ∀ (p : Addr) (H' : Hp), Same H H' → SqZ K H' p (xs ++ ys) → Q (.ref p) H') : rCatZ K (.ref a) (.ref b) H Q := by
  refine ⟨a, b, xs, ys, rfl, rfl, zx.t, zy.t, hz, fun e => ?_, fun _ e => ?_, fun _ _ => fun p o np od => q p _ (Same.new np) (.inl ⟨o, upd_same, od⟩)⟩
  · subst e
    exact q b H (fun _ _ h => h) zy
  · subst e
    exact q a H (fun _ _ h => h) (by rw [List.append_nil]; exact zx)
/-! ### systems as they lie -/
/-- all but lists and dicts stays -/
def Kp (H H' : Hp) : Prop := ∀ b o, H b = some o → (∀ l, o ≠ .lst l) → (∀ k, o ≠ .dK k) → H' b = some o
theorem Kp.of {H H' : Hp} (s : Same H H') : Kp H H' := fun b o h _ _ => s b o h
theorem Kp.refl {H : Hp} : Kp H H := fun _ _ h _ _ => h
theorem Kp.trans {H1 H2 H3 : Hp} (a : Kp H1 H2) (b : Kp H2 H3) : Kp H1 H3 := fun p o h n1 n2 => b p o (a p o h n1 n2) n1 n2
theorem Kp.mv {H H' : Hp} {d g : Addr} (D : Deck H d g) (m : Mv d g H H') : Kp H H' := fun b o h n1 n2 => by
  obtain ⟨k, L, h1, h2, _⟩ := D.ex
  exact m.keep _ _ h (fun e => by rw [e, h1] at h; exact n2 _ (Option.some.inj h).symm) (fun e => by rw [e, h2] at h; exact n1 _ (Option.some.inj h).symm)
theorem Kp.tups {H H' : Hp} (k : Kp H H') : ∀ a xs, H a = some (.tup xs) → H' a = some (.tup xs) := fun a xs h => k a _ h (fun _ z => nomatch z) (fun _ z => nomatch z)
theorem Kp.tup {K : PySem.W.Frag} {H H' : Hp} {a : Addr} {xs : List V} (k : Kp H H') (h : SqT K H a xs) : SqT K H' a xs := by
  rcases h with (h | ⟨o, h⟩) | h
  · exact .inl (.inl (k.tups _ _ h))
  · exact .inl (.inr ⟨o, k _ _ h (fun _ z => nomatch z) (fun _ z => nomatch z)⟩)
  · exact .inr h
theorem Kp.z {K : PySem.W.Frag} {H H' : Hp} {a : Addr} {xs : List V} (k : Kp H H') (h : SqZ K H a xs) : SqZ K H' a xs := h.to fun _ e => k _ _ e (fun _ z => nomatch z) (fun _ z => nomatch z)
theorem Kp.ins {H H' : Hp} {a C dx : Addr} {fs : List (Str × V)} (k : Kp H H') (h : H a = some (.ins C dx fs)) : H' a = some (.ins C dx fs) := k _ _ h (fun _ z => nomatch z) (fun _ z => nomatch z)
structure Parts (K : PySem.W.Frag) (H : Hp) (tn tr ts : Addr) (ns : List Str) (rows rests : List Line) : Prop where
  names : SqZ K H tn (ns.map V.str)
  rows : ∃ xs, SqT K H tr xs ∧ LnAt H xs rows
  rests : ∃ xs, SqT K H ts xs ∧ LnAt H xs rests
theorem Parts.kp {K : PySem.W.Frag} {H H' : Hp} {tn tr ts : Addr} {ns : List Str} {rows rests : List Line} (p : Parts K H tn tr ts ns rows rests) (k : Kp H H') : Parts K H' tn tr ts ns rows rests :=
  ⟨k.z p.names, p.rows.imp fun xs h => ⟨k.tup h.1, h.2.to k.tups⟩, p.rests.imp fun xs h => ⟨k.tup h.1, h.2.to k.tups⟩⟩
def SysAt (K : PySem.W.Frag) (C : Addr) (H : Hp) (a : Addr) (ns : List Str) (rows rests : List Line) : Prop :=
  ∃ dx tn tr ts, H a = some (.ins C dx (flds (.ref tn) (.ref tr) (.ref ts))) ∧ Parts K H tn tr ts ns rows rests
theorem SysAt.kp {K : PySem.W.Frag} {C : Addr} {H H' : Hp} {a : Addr} {ns : List Str} {rows rests : List Line} (h : SysAt K C H a ns rows rests) (k : Kp H H') : SysAt K C H' a ns rows rests := by
  obtain ⟨dx, tn, tr, ts, h1, h2⟩ := h
  exact ⟨dx, tn, tr, ts, k.ins h1, h2.kp k⟩
/-- a new system -/
theorem made_at {K : PySem.W.Frag} {C : Addr} {H : Hp} {x dx tn tr ts : Addr} {ns : List Str} {rows rests : List Line} (p : Parts K H tn tr ts ns rows rests) (nx : H x = none) (ndx : H dx = none) (ne : dx ≠ x) :
    Same H (upd (upd (upd H dx (.own x)) x (.ins C dx [])) x (.ins C dx (flds (.ref tn) (.ref tr) (.ref ts)))) ∧ SysAt K C (upd (upd (upd H dx (.own x)) x (.ins C dx [])) x (.ins C dx (flds (.ref tn) (.ref tr) (.ref ts)))) x ns rows rests := by
  have s : Same H (upd (upd (upd H dx (.own x)) x (.ins C dx [])) x (.ins C dx (flds (.ref tn) (.ref tr) (.ref ts)))) := by
    rw [upd_upd]
    exact (Same.new ndx).trans (Same.new (by rw [upd_ne ne.symm]; exact nx))
  exact ⟨s, dx, tn, tr, ts, upd_same, p.kp (Kp.of s)⟩
/-- lines fit their names -/
def Fit (n : Nat) (ls : List Line) : Prop := ls.length ≤ 40 ∧ ∀ l ∈ ls, l.1.length = n ∧ 1 ≤ l.2.length ∧ l.2.length ≤ 2
def joinN (n1 n2 : List Str) : List Str := n1 ++ n2.filter fun z => !decide (z ∈ n1)
def joinL2 (n1 n2 : List Str) (l1 l2 : List Line) : List Line := l1.map (sprd n1 (joinN n1 n2)) ++ l2.map (sprd n2 (joinN n1 n2))
def spAnd (K : PySem.W.Frag) (C : Addr) : Sp := fun vs H Q _ => ∃ (a b : Addr) (n1 n2 : List Str) (r1 r2 s1 s2 : List Line), vs = [.ref a, .ref b] ∧ SysAt K C H a n1 r1 s1 ∧ SysAt K C H b n2 r2 s2 ∧ n1.length ≤ 20 ∧ n2.length ≤ 20 ∧ Fit n1.length r1 ∧ Fit n1.length s1 ∧ Fit n2.length r2 ∧ Fit n2.length s2 ∧
  ∀ (p : Addr) (H' : Hp), Same H H' → SysAt K C H' p (joinN n1 n2) (joinL2 n1 n2 r1 r2) (joinL2 n1 n2 s1 s2) → Q (.ref p) H'
section
variable {P : Program} {w : World} {K : PySem.W.Frag} {mg : Str → Option Value} {base : Heap}
abbrev s_and : Stmt := inClass (topS 20) 7
theorem sc_and : FnScope ["self", "other", "names", "name", "rows", "rests"] ["self", "other"] (defScope s_and) := ⟨rfl, rfl, rfl, by decide +kernel, rfl, by decide +kernel, by decide +kernel⟩
theorem ok_and {f C fI : Addr} {fd fdI : FuncData} (F : Fun K "__and__" "System.__and__" s_and f fd) (S : Sys K mg C) (T : Bl mg) (D__spread : DefG P w K mg base 2 "_spread" ["lines", "old", "names"] (spSpread K))
    (MK : Mk K C fI) (FI : FnG P w K mg base CX0 1 fI fdI ["self", "names", "rows", "rests"] (spInit C)) (B4 : Binds K fdI ["self", "names", "rows", "rests"] []) : FnG P w K mg base CX0 3 f fd ["self", "other"] (spAnd K C) := by
  refine okG F sc_and (fun vs H Q E h => ?_) fun cdv A outer s H vs Q E hr hc h => ?_
  · obtain ⟨a, b, n1, n2, r1, r2, z1, z2, rfl, _⟩ := h
    rfl
  · obtain ⟨a, b, n1, n2, r1, r2, z1, z2, rfl, h1, h2, l1, l2, f1, g1, f2, g2, q⟩ := h
    have nd := sc_and.nd
    refine ⟨_, (pss_cons (ps_set (i := 2) nd rfl (by first | exact Or.inl rfl | exact Or.inr rfl) (pe_op op_catZ (pe_fld (pv 0) rfl) (pe_tupleZ (by rfl) T.tuple (pe_lc (own := [("name", 3)]) (g := (gName 3)) rfl nd (pi_tup (pe_fld (pv 1) rfl)) (blkOk_by (own := [("name", 3)]) (N := ["self", "other", "names", "name", "rows", "rests"]) (sc := defScope s_and) (by decide +kernel)) (fun _ _ _ _ _ => (pg_name (i := 3) nd rfl (by first | exact Or.inl rfl | exact Or.inr rfl))) (fun _ _ _ _ _ => (pts_one (pt_cmpR (op_notInK (K := K)) (pv 3) (pe_fldK (K := K) (pv 0) rfl) (by with_unfolding_all rfl)))) (fun _ _ _ _ _ => (pv 3))))))
      (pss_cons (ps_set (i := 4) nd rfl (by first | exact Or.inl rfl | exact Or.inr rfl) (pe_op op_catA (pe_def D__spread (hr.mono (by decide)) hc (by rfl) (pa_cons (pe_fld (pv 0) rfl) (pa_cons (pe_fld (pv 0) rfl) (pa_cons (pv 2) pa_nil)))) (pe_def D__spread (hr.mono (by decide)) hc (by rfl) (pa_cons (pe_fld (pv 1) rfl) (pa_cons (pe_fld (pv 1) rfl) (pa_cons (pv 2) pa_nil))))))
      (pss_cons (ps_set (i := 5) nd rfl (by first | exact Or.inl rfl | exact Or.inr rfl) (pe_op op_catA (pe_def D__spread (hr.mono (by decide)) hc (by rfl) (pa_cons (pe_fld (pv 0) rfl) (pa_cons (pe_fld (pv 0) rfl) (pa_cons (pv 2) pa_nil)))) (pe_def D__spread (hr.mono (by decide)) hc (by rfl) (pa_cons (pe_fld (pv 1) rfl) (pa_cons (pe_fld (pv 1) rfl) (pa_cons (pv 2) pa_nil))))))
      (pss_one (ps_ret (pe_makeG MK FI (hr.mono (by decide)) hc (by rfl) S.mgC B4 .nil pass0 (pa_cons (pv 2) (pa_cons (pv 4) (pa_cons (pv 5) pa_nil))))))))), ?_⟩
    obtain ⟨dxa, ta, tra, tsa, ha, pa⟩ := h1
    obtain ⟨dxb, tb, trb, tsb, hb, pb⟩ := h2
    -- names
    refine ⟨_, rfl, a, C, dxa, _, _, rfl, ha, S.cl, S.nN, f_names _ _ _, ?_⟩
    refine ⟨_, rfl, b, C, dxb, _, _, rfl, hb, S.cl, S.nN, f_names _ _ _, tb, rfl, ⟨_, pb.names.t⟩, fun D nD => ?_⟩
    refine lc_tup (K := K) (a := tb) (xs := n2.map V.str) (fun i H2 => Same H H2 ∧ H2 D = some (.lst (((n2.take i).filter fun z => !decide (z ∈ n1)).map V.str))) ⟨Same.new nD, upd_same⟩ (fun i H2 _ h => (Kp.of h.1).tup pb.names.t) ?_ ?_
    · rintro i y H2 hi ⟨s2, hD⟩
      obtain ⟨z, ez, rfl⟩ : ∃ z, n2[i]? = some z ∧ y = .str z := by
        rw [List.getElem?_map] at hi
        cases e : n2[i]? with
        | none => rw [e] at hi; cases hi
        | some z => rw [e] at hi; exact ⟨z, rfl, (Option.some.inj hi).symm⟩
      have il := (List.getElem?_eq_some_iff.mp ez).1
      have ft := flt_take (fun z => !decide (z ∈ n1)) ez
      refine ⟨rfl, _, rfl, _, rfl, a, C, dxa, _, _, rfl, s2 _ _ ha, S.cl, S.nN, f_names _ _ _, ta, _, rfl, .inr ((Kp.of s2).tup pa.names.t), rfl, flat_strs n1, _, rfl, ?_⟩
      rw [if_pos rfl, inV_strs]
      refine ite2 (fun e => ?_) (fun e => ?_)
      · refine ⟨_, rfl, _, hD, ?_, ?_, ?_⟩
        · rw [List.length_map]; exact smallt (Nat.lt_of_le_of_lt (List.length_filter_le _ _) (by rw [List.length_take]; omega))
        · intro c u hc'
          rw [upd_ne (ne_of_none hc' nD)]
          exact s2 _ _ hc'
        · rw [upd_same, ft, if_pos e, List.map_append]; rfl
      · refine ⟨s2, ?_⟩
        rw [ft, if_neg e, List.append_nil]
        exact hD
    · rintro H2 ⟨s2, hD⟩
      rw [List.length_map, List.take_length] at hD
      refine ⟨D, _, rfl, tofL hD, fun t o nt od => ?_⟩
      have s3 : Same H (upd H2 t (.frz o (.tup ((n2.filter fun z => !decide (z ∈ n1)).map V.str)))) := s2.trans (Same.new nt)
      have ht : SqZ K (upd H2 t (.frz o (.tup ((n2.filter fun z => !decide (z ∈ n1)).map V.str)))) t ((n2.filter fun z => !decide (z ∈ n1)).map V.str) := .inl ⟨o, upd_same, od⟩
      revert s3 ht
      generalize upd H2 t (.frz o (.tup ((n2.filter fun z => !decide (z ∈ n1)).map V.str))) = H3
      intro s3 ht
      have fl : (n2.filter fun z => !decide (z ∈ n1)).length ≤ n2.length := List.length_filter_le _ _
      refine catZ_of ((Kp.of s3).z pa.names) ht (by rw [List.length_map, List.length_map]; exact small (by omega)) fun tn H4 s4 hN => ?_
      rw [← List.map_append] at hN
      have jl : (joinN n1 n2).length ≤ 40 := by
        show (n1 ++ n2.filter _).length ≤ 40
        rw [List.length_append]
        omega
      have sH4 : Same H H4 := s3.trans s4
      refine ⟨_, rfl, a, C, dxa, _, _, rfl, sH4 _ _ ha, S.cl, S.nR, f_rows _ _ _, _, rfl, a, C, dxa, _, _, rfl, sH4 _ _ ha, S.cl, S.nN, f_names _ _ _, _, rfl, ?_⟩
      obtain ⟨x1r, h1r, e1r⟩ := pa.rows
      obtain ⟨x2r, h2r, e2r⟩ := pb.rows
      refine ⟨_, ta, tn, x1r, r1, n1, joinN n1 n2, rfl, (Kp.of sH4).tup h1r, e1r.to (Kp.of sH4).tups, (Kp.of sH4).z pa.names, hN.t, by omega, by omega, by have := f1.1; omega, f1.2, fun p1r y1r H1r s1r _ k1r g1r => ?_⟩
      have t1r : Same H H1r := sH4.trans s1r
      refine ⟨_, rfl, b, C, dxb, _, _, rfl, t1r _ _ hb, S.cl, S.nR, f_rows _ _ _, _, rfl, b, C, dxb, _, _, rfl, t1r _ _ hb, S.cl, S.nN, f_names _ _ _, _, rfl, ?_⟩
      refine ⟨_, tb, tn, x2r, r2, n2, joinN n1 n2, rfl, (Kp.of t1r).tup h2r, e2r.to (Kp.of t1r).tups, (Kp.of t1r).z pb.names, ((Kp.of s1r).z hN).t, by omega, by omega, by have := f2.1; omega, f2.2, fun p2r y2r H2r s2r _ k2r g2r => ?_⟩
      refine catA_of (tofT (s2r _ _ k1r)) (tofT k2r) (by rw [g1r.len, g2r.len, List.length_map, List.length_map]; have := f1.1; have := f2.1; omega) fun trr H3r s3r qr => ?_
      have wr : LnAt H3r (y1r ++ y2r) (joinL2 n1 n2 r1 r2) := ((g1r.to (Kp.of s2r).tups).app g2r).to (Kp.of s3r).tups
      have ur : Same H4 H3r := s1r.trans (s2r.trans s3r)
      have sr : Same H H3r := sH4.trans ur
      have hNr : SqZ K H3r tn ((joinN n1 n2).map V.str) := (Kp.of ur).z hN
      refine ⟨_, rfl, a, C, dxa, _, _, rfl, sr _ _ ha, S.cl, S.nS, f_rests _ _ _, _, rfl, a, C, dxa, _, _, rfl, sr _ _ ha, S.cl, S.nN, f_names _ _ _, _, rfl, ?_⟩
      obtain ⟨x1s, h1s, e1s⟩ := pa.rests
      obtain ⟨x2s, h2s, e2s⟩ := pb.rests
      refine ⟨_, ta, tn, x1s, z1, n1, joinN n1 n2, rfl, (Kp.of sr).tup h1s, e1s.to (Kp.of sr).tups, (Kp.of sr).z pa.names, hNr.t, by omega, by omega, by have := g1.1; omega, g1.2, fun p1s y1s H1s s1s _ k1s g1s => ?_⟩
      have t1s : Same H H1s := sr.trans s1s
      refine ⟨_, rfl, b, C, dxb, _, _, rfl, t1s _ _ hb, S.cl, S.nS, f_rests _ _ _, _, rfl, b, C, dxb, _, _, rfl, t1s _ _ hb, S.cl, S.nN, f_names _ _ _, _, rfl, ?_⟩
      refine ⟨_, tb, tn, x2s, z2, n2, joinN n1 n2, rfl, (Kp.of t1s).tup h2s, e2s.to (Kp.of t1s).tups, (Kp.of t1s).z pb.names, ((Kp.of s1s).z hNr).t, by omega, by omega, by have := g2.1; omega, g2.2, fun p2s y2s H2s s2s _ k2s g2s => ?_⟩
      refine catA_of (tofT (s2s _ _ k1s)) (tofT k2s) (by rw [g1s.len, g2s.len, List.length_map, List.length_map]; have := g1.1; have := g2.1; omega) fun trs H3s s3s qs => ?_
      have ws : LnAt H3s (y1s ++ y2s) (joinL2 n1 n2 z1 z2) := ((g1s.to (Kp.of s2s).tups).app g2s).to (Kp.of s3s).tups
      have us : Same H3r H3s := s1s.trans (s2s.trans s3s)
      have ss : Same H H3s := sr.trans us
      have pz : Parts K H3s tn trr trs (joinN n1 n2) (joinL2 n1 n2 r1 r2) (joinL2 n1 n2 z1 z2) := ⟨(Kp.of us).z hNr, ⟨_, (Kp.of us).tup qr, wr.to (Kp.of us).tups⟩, ⟨_, qs, ws⟩⟩
      refine ⟨_, rfl, _, rfl, _, rfl, fun x dx nx ndx ne => ⟨x, dx, _, _, _, rfl, upd_same, rfl, ?_⟩⟩
      obtain ⟨sz, hz⟩ := made_at (C := C) pz nx ndx ne
      exact q x _ (ss.trans sz) hz
end
end KW
namespace KW
open PySem PySem.Spec PyProof.Rows L2 GL RZ TL
theorem pe_fldK {X : Cx} {K : PySem.W.Frag} {e : Expr} {ta : TE} {f : Str} {pos : Pos} (he : PE X e ta) (hb : attributeBase e f X.env (eval e X.env) = eval e X.env) (h : X.K = K := by rfl) : PE X (.Attribute e f pos) (tFld K ta f) := h ▸ pe_fld he hb
/-- the rows and the rests, as they are written -/
def textW (ns : List Str) (rows : List Row) (rests : List Rst) : Str := Txt.join "\n" (Txt.join " " ("names" :: ns) :: (rows.map (fun r => lineW ns r.1 r.2 none) ++ rests.map fun r => lineW ns r.1 r.2.1 (some r.2.2)))
def FineL (ns : List Str) (rows : List Row) (rests : List Rst) : Prop := ns.length ≤ 12 ∧ (∀ z ∈ ns, z.length ≤ 2000) ∧ rows.length ≤ 12 ∧ rests.length ≤ 12 ∧
  (∀ r ∈ rows, ns.length = r.1.length ∧ (∀ f ∈ r.1, (ab f).natAbs.log2 < 1920) ∧ r.2.natAbs.log2 < 1920) ∧ ∀ r ∈ rests, ns.length = r.1.length ∧ (∀ f ∈ r.1, (ab f).natAbs.log2 < 1920) ∧ r.2.1.natAbs.log2 < 1920 ∧ r.2.2.natAbs.log2 < 1920
def spStr (K : PySem.W.Frag) (C : Addr) : Sp := fun vs H Q _ => ∃ (a : Addr) (ns : List Str) (rows : List Row) (rests : List Rst), vs = [.ref a] ∧ SysAt K C H a ns (rows.map lnR) (rests.map lnS) ∧ FineL ns rows rests ∧ ∀ H', Same H H' → Q (.str (textW ns rows rests)) H'
theorem joinT_len (y : Str) (B : Nat) (ws : List Str) (h : ∀ z ∈ ws, z.length ≤ B) : (Txt.join y ws).length ≤ ws.length * (B + y.length) := by
  have l1 := joinL_len (tl y) B (ws.map tl) fun p hp => by
    obtain ⟨z, hz, rfl⟩ := List.mem_map.mp hp
    rw [show (tl z).length = z.length from Array.length_toList ..]
    exact h z hz
  rw [List.length_map, show (tl y).length = y.length from Array.length_toList ..] at l1
  rw [← show (tl (Txt.join y ws)).length = (Txt.join y ws).length from Array.length_toList .., TL.join_eq, tl_join]
  exact l1
theorem line_len {ns : List Str} {fs : List Int} {c : Int} {mo : Option Int} (n20 : ns.length ≤ 20) (nf : ns.length = fs.length) (nz : ∀ z ∈ ns, z.length ≤ 2000) (fz : ∀ f ∈ fs, (ab f).natAbs.log2 < 1920) (cz : c.natAbs.log2 < 1920) (mz : ∀ m, mo = some m → m.natAbs.log2 < 1920) : (lineW ns fs c mo).length ≤ 140000 := by
  have sl := sumW_len (ns.zip fs) (by rw [List.length_zip]; omega) fun p hp => ⟨nz _ (List.of_mem_zip hp).1, fz _ (List.of_mem_zip hp).2⟩
  have la : ∀ x y : Str, (x ++ y).length = x.length + y.length := fun x y => by
    show (x ++ y).cps.size = x.cps.size + y.cps.size
    exact Array.size_append ..
  have li : ∀ i : Int, i.natAbs.log2 < 1920 → (Str.ofString (toString i)).length ≤ 1930 := fun i hi => by
    rw [PySem.ofString_length]
    exact Nat.le_trans (PySem.int_text_length_le (k := 1920) (by decide) hi) (by decide)
  have e0 : Str.empty.length = 0 := rfl
  have e3 : (" = " : Str).length = 3 := by decide +kernel
  have e5 : (" mod " : Str).length = 5 := by decide +kernel
  have hc1 := li c cz
  have lt1 : (Str.empty ++ sumW (ns.zip fs) ++ " = " ++ Str.ofString (toString c)).length ≤ 132000 := by
    rw [la, la, la, e0, e3]; omega
  cases mo with
  | none => exact Nat.le_trans lt1 (by decide)
  | some m =>
    have := li m (mz m rfl)
    show (Str.empty ++ (Str.empty ++ sumW (ns.zip fs) ++ " = " ++ Str.ofString (toString c)) ++ " mod " ++ Str.ofString (toString m)).length ≤ _
    rw [la, la, la Str.empty (Str.empty ++ sumW (ns.zip fs) ++ " = " ++ Str.ofString (toString c)), e0, e5]
    omega
def linesW (ns : List Str) (rows : List Row) (rests : List Rst) : List Str := rows.map (fun r => lineW ns r.1 r.2 none) ++ rests.map fun r => lineW ns r.1 r.2.1 (some r.2.2)
/-- the k-th of them: where its tuple lies -/
theorem line_at {H : Hp} {xs ys : List V} {rows : List Row} {rests : List Rst} (h1 : RowsAt H xs rows) (h2 : RestsAt H ys rests) {ns : List Str} (fine : FineL ns rows rests) {i : Nat} {x : V} (hi : (xs ++ ys)[i]? = some x) :
    ∃ (p b : Addr) (fs : List Int) (c : Int) (mo : Option Int), x = .ref p ∧ H p = some (.tup (lineV b c mo)) ∧ H b = some (.tup (fs.map V.int)) ∧ ns.length = fs.length ∧ (∀ f ∈ fs, (ab f).natAbs.log2 < 1920) ∧ c.natAbs.log2 < 1920 ∧ (∀ m, mo = some m → m.natAbs.log2 < 1920) ∧ (linesW ns rows rests)[i]? = some (lineW ns fs c mo) := by
  obtain ⟨_, _, _, _, fr, fs'⟩ := fine
  unfold linesW
  rcases Nat.lt_or_ge i xs.length with lt | ge
  · rw [List.getElem?_append_left lt] at hi
    obtain ⟨p, q, fs, c, rfl, a1, a2, hr⟩ := h1.get hi
    obtain ⟨b1, b2, b3⟩ := fr _ (List.mem_of_getElem? hr)
    refine ⟨p, q, fs, c, none, rfl, a1, a2, b1, b2, b3, (fun m z => by cases z), ?_⟩
    rw [List.getElem?_append_left (by rw [List.length_map, ← h1.len]; exact lt), List.getElem?_map, hr]; rfl
  · rw [List.getElem?_append_right ge] at hi
    obtain ⟨p, q, fs, c, m, rfl, a1, a2, hr⟩ := h2.get hi
    obtain ⟨b1, b2, b3, b4⟩ := fs' _ (List.mem_of_getElem? hr)
    refine ⟨p, q, fs, c, some m, rfl, a1, a2, b1, b2, b3, (fun m z => by cases z; exact b4), ?_⟩
    rw [List.getElem?_append_right (by rw [List.length_map, ← h1.len]; exact ge), List.length_map, ← h1.len, List.getElem?_map, hr]; rfl
section
variable {P : Program} {w : World} {K : PySem.W.Frag} {mg : Str → Option Value} {base : Heap}
abbrev s_System_str : Stmt := inClass (topS 20) 11
theorem sc_System_str : FnScope ["self", "head", "line"] ["self"] (defScope s_System_str) := ⟨rfl, rfl, rfl, by decide +kernel, rfl, by decide +kernel, by decide +kernel⟩
theorem ok_str {f C : Addr} {fd : FuncData} (F : Fun K "__str__" "System.__str__" s_System_str f fd) (S : Sys K mg C) (T : Bl mg) (D_write_line : DefG P w K mg base 2 "_write_line" ["names", "line"] (spWLine K)) : FnG P w K mg base CX0 3 f fd ["self"] (spStr K C) := by
  refine okG F sc_System_str (fun vs H Q E h => ?_) fun cdv A outer s H vs Q E hr hc h => ?_
  · obtain ⟨a, ns, rows, rests, rfl, _⟩ := h
    rfl
  · obtain ⟨a, ns, rows, rests, rfl, hs, fine, q⟩ := h
    have nd := sc_System_str.nd
    refine ⟨_, (pss_cons (ps_set (i := 1) nd rfl (by first | exact Or.inl rfl | exact Or.inr rfl) (pe_lst (pa_cons (pe_join pe_str (pe_lst (pa_cons pe_str (StX.pa_star (pe_fld (pv 0) rfl) pa_nil)))) pa_nil)))
      (pss_one (ps_ret (pe_join pe_str (pe_op op_cat (pv 1) (pe_lc (own := [("line", 2)]) (g := (gName 2)) (tt := tYes) rfl nd (pi_tup (pe_cutE (pe_op (G3.op_catAK (K := K)) (pe_fld (pv 0) rfl) (pe_fld (pv 0) rfl)))) (blkOk_by (own := [("line", 2)]) (N := ["self", "head", "line"]) (sc := defScope s_System_str) (by decide +kernel)) (fun _ _ _ _ _ => (pg_name (i := 2) nd rfl (by first | exact Or.inl rfl | exact Or.inr rfl))) (fun _ _ _ _ _ => pts_nil) (fun _ _ _ _ _ => (pe_def D_write_line (hr.mono (by decide)) hc (by rfl) (pa_cons (pe_fldK (K := K) (pv 0) rfl) (pa_cons (pv 2) pa_nil)))))))))), ?_⟩
    obtain ⟨dx, tn, tr, ts, h1, h2, ⟨xs, h3, h4⟩, ⟨ys, h5, h6⟩⟩ := id hs
    have h4 := rows_ln h4
    have h6 := rests_ln h6
    obtain ⟨n12, nz, r12, t12, _⟩ := id fine
    refine ⟨⟨_, rfl⟩, _, rfl, a, C, dx, _, _, rfl, h1, S.cl, S.nN, f_names _ _ _, tn, _, rfl, .inl h2.t, ?_⟩
    have len2000 : ∀ z ∈ ns, z.length ≤ 2000 := nz
    have nsum : (ns.map (·.length)).sum ≤ 12 * 2000 := Few.sum (k := 12) ⟨n12, nz⟩
    refine ⟨small (by show ([V.str ("names" : Str)] ++ (ns.map V.str ++ [])).length ≤ 100000; simp; omega), fun p1 np1 => ?_⟩
    have s1 := Same.new (o := .lst (.str "names" :: (ns.map V.str ++ []))) np1
    have hp1 : upd H p1 (.lst (.str "names" :: (ns.map V.str ++ []))) p1 = some (.lst ((("names" : Str) :: ns).map V.str)) := by rw [upd_same, List.append_nil]; rfl
    generalize upd H p1 (.lst (.str "names" :: (ns.map V.str ++ []))) = H1 at *
    have nm5 : ("names" : Str).length = 5 := by decide +kernel
    have b1 : (" " : Str).length = 1 := by decide +kernel
    have c1 : ("\n" : Str).length = 1 := by decide +kernel
    refine ⟨" ", p1, "names" :: ns, rfl, rfl, .inl (tofL hp1), (by rw [List.map_cons, List.sum_cons, List.length_cons, nm5, b1]; omega), (show 1 ≤ sizeLine from small (by decide)), fun p2 np2 => ?_⟩
    have s2 := Same.new (o := .lst [.str (Txt.join " " ("names" :: ns))]) np2
    have hp2 : upd H1 p2 (.lst [.str (Txt.join " " ("names" :: ns))]) p2 = some (.lst [.str (Txt.join " " ("names" :: ns))]) := upd_same
    generalize upd H1 p2 (.lst [.str (Txt.join " " ("names" :: ns))]) = H2 at *
    have s12 := s1.trans s2
    have lx := h4.len
    have ly := h6.len
    refine ⟨⟨_, rfl⟩, _, rfl, fun x H' => ∃ t, x = .ref t ∧ Same H2 H' ∧ SqT K H' t (xs ++ ys), ?_, ?_⟩
    · refine ⟨_, rfl, a, C, dx, _, _, rfl, s12 _ _ h1, S.cl, S.nR, f_rows _ _ _, _, rfl, a, C, dx, _, _, rfl, s12 _ _ h1, S.cl, S.nS, f_rests _ _ _, ?_⟩
      exact catA_of (Same.tup s12 h3) (Same.tup s12 h5) (by show _ ≤ 100000; omega) fun t H' sx qx => ⟨t, rfl, sx, qx⟩
    rintro x H3 ⟨t, rfl, s3, ht⟩
    have s13 := s12.trans s3
    have ll : (linesW ns rows rests).length = (xs ++ ys).length := by
      unfold linesW
      rw [List.length_append, List.length_append, List.length_map, List.length_map, lx, ly]
    refine ⟨t, rfl, ⟨_, ht⟩, fun D nD => ?_⟩
    refine lc_tup (K := K) (a := t) (xs := xs ++ ys) (fun i Hy => Same H3 Hy ∧ Hy D = some (.lst (((linesW ns rows rests).take i).map V.str))) ⟨Same.new nD, upd_same⟩ (fun i Hy _ h => Same.tup h.1 ht) ?_ ?_
    · rintro i x Hy hi ⟨sy, hD⟩
      have sHy := s13.trans sy
      obtain ⟨p, b, fs, c, mo, rfl, g1, g2, g3, g4, g5, g6, g7⟩ := line_at (h4.to (tups_same sHy)) (h6.to (tups_same sHy)) fine hi
      have il := (List.getElem?_eq_some_iff.mp g7).1
      refine ⟨rfl, _, rfl, a, C, dx, _, _, rfl, sHy _ _ h1, S.cl, S.nN, f_names _ _ _, _, rfl, tn, p, b, ns, fs, c, mo, rfl, (fun Hq sq => (h2.same (sHy.trans sq)).t), g1, g2, g3, by omega, nz, g4, g5, g6, fun H4 s4 => ⟨_, s4 _ _ hD, ?_, ?_, ?_⟩⟩
      · rw [List.length_map, List.length_take]; exact smallt (by rw [List.length_append] at ll; omega)
      · intro b' o hb
        rw [upd_ne (ne_of_none hb nD)]
        exact s4 _ _ (sy _ _ hb)
      · rw [upd_same, List.take_add_one, g7, List.map_append]; rfl
    rintro Hy ⟨sy, hD⟩
    rw [← ll, List.take_length] at hD
    have l24 : (linesW ns rows rests).length ≤ 24 := by rw [ll, List.length_append]; omega
    refine ⟨p2, D, _, _, rfl, rfl, (s3.trans sy) _ _ hp2, hD, small (by rw [List.length_map]; show 1 + _ ≤ 100000; omega), fun p3 np3 => ?_⟩
    have s4 := Same.new (o := .lst ([.str (Txt.join " " ("names" :: ns))] ++ (linesW ns rows rests).map V.str)) np3
    refine ⟨"\n", p3, Txt.join " " ("names" :: ns) :: linesW ns rows rests, rfl, rfl, .inl (tofL upd_same), ?_, ?_⟩
    · have lj := joinT_len " " 2000 ("names" :: ns) fun z hz => by
        rcases List.mem_cons.mp hz with rfl | hz
        · rw [nm5]; decide
        · exact nz z hz
      rw [List.length_cons, b1] at lj
      have ln : ∀ z ∈ linesW ns rows rests, z.length ≤ 140000 := fun z hz => by
        obtain ⟨_, _, _, _, fr, ft⟩ := fine
        rcases List.mem_append.mp hz with hz | hz
        · obtain ⟨r, hr, rfl⟩ := List.mem_map.mp hz
          obtain ⟨e1, e2, e3⟩ := fr r hr
          exact line_len (by omega) e1 nz e2 e3 (fun m z => by cases z)
        · obtain ⟨r, hr, rfl⟩ := List.mem_map.mp hz
          obtain ⟨e1, e2, e3, e4⟩ := ft r hr
          exact line_len (by omega) e1 nz e2 e3 (fun m z => by cases z; exact e4)
      have sm : ∀ l : List Str, (∀ z ∈ l, z.length ≤ 140000) → (l.map (·.length)).sum ≤ l.length * 140000 := fun l => by
        induction l with
        | nil => intro _; exact Nat.le_refl _
        | cons x r ih =>
          intro h
          have i1 := h x List.mem_cons_self
          have i2 := ih fun z hz => h z (List.mem_cons_of_mem _ hz)
          show x.length + (r.map (·.length)).sum ≤ (r.length + 1) * 140000
          omega
      have s0 := sm _ ln
      rw [List.map_cons, List.sum_cons, List.length_cons, c1]
      have k1 : (ns.length + 1) * (2000 + 1) ≤ 13 * 2001 := Nat.mul_le_mul_right _ (by omega)
      have k2 : (linesW ns rows rests).length * 140000 ≤ 24 * 140000 := Nat.mul_le_mul_right _ l24
      omega
    · exact q _ ((s13.trans sy).trans s4)
end
end KW
namespace KW
open PySem PySem.Spec PyProof.Rows L2 GL RZ TL
/-! ### what is true of all words of a line -/
def All (P : Str → Prop) (ws : List Str) : Prop := ∀ z ∈ ws, P z
theorem All.app {P : Str → Prop} {a b : List Str} (h : All P a) (g : All P b) : All P (a ++ b) := fun z hz => (List.mem_append.mp hz).elim (h z) (g z)
theorem All.one {P : Str → Prop} {z : Str} (h : P z) : All P [z] := fun y hy => by rw [List.mem_singleton.mp hy]; exact h
structure Wds (P : Str → Prop) : Prop where
  m : P "-"
  p : P "+"
  z : P "0"
  e : P "="
  d : P "mod"
  n : ∀ i : Int, P (Str.ofString (toString i))
theorem all_step {P : Str → Prop} (W : Wds P) {acc : List Str} {p : Str × Int} (h : All P acc) (hp : P p.1) : All P (stepW acc p) := by
  have h1 : All P (w1 acc p.2) := by
    unfold w1
    split
    · exact h.app (All.one W.m)
    · split
      · exact h.app (All.one W.p)
      · exact h
  have h2 : All P (w2 (w1 acc p.2) p.2) := by
    unfold w2
    split
    · exact h1.app (All.one (W.n _))
    · exact h1
  unfold stepW w3
  split
  · exact h2.app (All.one hp)
  · exact h2
theorem all_words {P : Str → Prop} (W : Wds P) : ∀ (ps : List (Str × Int)) (acc : List Str), All P acc → (∀ p ∈ ps, P p.1) → All P (ps.foldl stepW acc)
  | [], acc, h, _ => h
  | p :: r, acc, h, hp => all_words W r _ (all_step W h (hp p List.mem_cons_self)) fun x hx => hp x (List.mem_cons_of_mem _ hx)
theorem all_line {P : Str → Prop} (W : Wds P) {ns : List Str} {fs : List Int} {c : Int} {mo : Option Int} (hn : ∀ z ∈ ns, P z) : All P (lineWords ns fs c mo) := by
  unfold lineWords
  refine All.app (All.app ?_ ?_) ?_
  · unfold sumWords
    split
    · exact All.one W.z
    · exact all_words W _ [] (fun z hz => by cases hz) fun p hp => hn _ (List.of_mem_zip hp).1
  · exact All.app (a := [("=" : Str)]) (All.one W.e) (All.one (W.n _))
  · cases mo with
    | none => exact fun z hz => by cases hz
    | some m => exact All.app (a := [("mod" : Str)]) (All.one W.d) (All.one (W.n _))
theorem stepW_len (acc : List Str) (p : Str × Int) : (stepW acc p).length ≤ acc.length + 3 := by
  have h1 : (w1 acc p.2).length ≤ acc.length + 1 := by
    unfold w1
    split
    · rw [List.length_append]; exact Nat.le_refl _
    · split
      · rw [List.length_append]; exact Nat.le_refl _
      · omega
  have h2 : (w2 (w1 acc p.2) p.2).length ≤ acc.length + 2 := by
    unfold w2
    split
    · rw [List.length_append]; exact Nat.succ_le_succ h1
    · omega
  unfold stepW w3
  split
  · rw [List.length_append]; exact Nat.succ_le_succ h2
  · omega
theorem wordsW_len : ∀ (ps : List (Str × Int)) (acc : List Str), (ps.foldl stepW acc).length ≤ acc.length + 3 * ps.length
  | [], acc => Nat.le_refl _
  | p :: r, acc => by
    have h1 := stepW_len acc p
    have h2 := wordsW_len r (stepW acc p)
    show (r.foldl stepW (stepW acc p)).length ≤ acc.length + 3 * (r.length + 1)
    omega
theorem lineWords_len {ns : List Str} {fs : List Int} {c : Int} {mo : Option Int} (h : ns.length ≤ 6) : 2 ≤ (lineWords ns fs c mo).length ∧ (lineWords ns fs c mo).length ≤ 23 := by
  have h1 : (sumWords (ns.zip fs)).length ≤ 19 := by
    unfold sumWords
    split
    · decide
    · have := wordsW_len (ns.zip fs) []
      have l : (ns.zip fs).length ≤ 6 := by rw [List.length_zip]; omega
      show ((ns.zip fs).foldl stepW []).length ≤ 19
      rw [List.length_nil] at this
      omega
  have h2 : (modWords mo).length ≤ 2 := by cases mo <;> simp [modWords]
  unfold lineWords
  rw [List.length_append, List.length_append]
  show 2 ≤ _ + 2 + _ ∧ _ + 2 + _ ≤ 23
  omega
def NoNl (z : Str) : Prop := (10 : Nat) ∉ tl z
theorem name_nl {z : Str} (h : nameB z = true) : NoNl z := fun m => by
  unfold nameB at h
  rw [Bool.and_eq_true, Bool.and_eq_true] at h
  have := List.all_eq_true.mp (Bool.and_eq_true_iff.mp h.2).2 10 m
  revert this
  decide +kernel
theorem wds_nl : Wds NoNl := ⟨by unfold NoNl; decide +kernel, by unfold NoNl; decide +kernel, by unfold NoNl; decide +kernel, by unfold NoNl; decide +kernel, by unfold NoNl; decide +kernel, fun i => PyProof.Rows.int_text_free' 10 ⟨by decide, by decide⟩ i⟩
theorem mem_joinL {S : List Nat} {c : Nat} : ∀ ls : List (List Nat), c ∈ joinL S ls → c ∈ S ∨ ∃ l ∈ ls, c ∈ l
  | [], h => nomatch h
  | [p], h => .inr ⟨p, List.mem_cons_self, h⟩
  | p :: q :: r, h => by
    have h' : c ∈ p ++ (S ++ joinL S (q :: r)) := h
    rcases List.mem_append.mp h' with h | h
    · exact .inr ⟨p, List.mem_cons_self, h⟩
    · rcases List.mem_append.mp h with h | h
      · exact .inl h
      · rcases mem_joinL (q :: r) h with h | ⟨l, hl, hc⟩
        · exact .inl h
        · exact .inr ⟨l, List.mem_cons_of_mem _ hl, hc⟩
theorem nl_join {ws : List Str} (h : All NoNl ws) : NoNl (Txt.join " " ws) := fun m => by
  rw [tl_joinT] at m
  rcases mem_joinL _ m with m | ⟨l, hl, hc⟩
  · exact absurd m (by decide)
  · obtain ⟨z, hz, rfl⟩ := List.mem_map.mp hl
    exact h z hz hc
theorem name_len8 {z : Str} (h : nameB z = true) : 1 ≤ z.cps.toList.length ∧ z.cps.toList.length ≤ 8 := by
  unfold nameB at h
  rw [Bool.and_eq_true, Bool.and_eq_true] at h
  exact of_decide_eq_true h.1.1
/-- what a text of a system is made of -/
def GoodR (n : Nat) (r : Row) : Prop := n = r.1.length ∧ (∀ f ∈ r.1, f.natAbs < 10 ^ 60) ∧ r.2.natAbs < 10 ^ 60
def GoodS (n : Nat) (r : Rst) : Prop := n = r.1.length ∧ (∀ f ∈ r.1, f.natAbs < 10 ^ 60) ∧ r.2.1.natAbs < 10 ^ 60 ∧ 2 ≤ r.2.2 ∧ r.2.2.natAbs < 10 ^ 60
structure Good (ns : List Str) (rows : List Row) (rests : List Rst) : Prop where
  n1 : 1 ≤ ns.length
  n6 : ns.length ≤ 6
  nd : ns.Nodup
  nm : ∀ z ∈ ns, nameB z = true
  r12 : rows.length ≤ 12
  s12 : rests.length ≤ 12
  rs : ∀ r ∈ rows, GoodR ns.length r
  ss : ∀ r ∈ rests, GoodS ns.length r
theorem abs_ab (f : Int) : (ab f).natAbs = f.natAbs := by unfold ab; split <;> omega
theorem Good.fine {ns : List Str} {rows : List Row} {rests : List Rst} (g : Good ns rows rests) : FineL ns rows rests := by
  have lg : ∀ i : Int, i.natAbs < 10 ^ 60 → i.natAbs.log2 < 1920 := fun i h => log_of (Nat.le_trans (Nat.le_of_lt h) (by decide +kernel))
  refine ⟨Nat.le_trans g.n6 (by decide), fun z hz => ?_, g.r12, g.s12, fun r hr => ?_, fun r hr => ?_⟩
  · have := (name_len8 (g.nm z hz)).2
    rw [show z.length = z.cps.toList.length from (Array.length_toList ..).symm]; omega
  · obtain ⟨h1, h2, h3⟩ := g.rs r hr
    exact ⟨h1, fun f hf => by rw [abs_ab]; exact lg f (h2 f hf), lg _ h3⟩
  · obtain ⟨h1, h2, h3, _, h5⟩ := g.ss r hr
    exact ⟨h1, fun f hf => by rw [abs_ab]; exact lg f (h2 f hf), lg _ h3, lg _ h5⟩
theorem nl_names {ns : List Str} (hn : ∀ z ∈ ns, nameB z = true) : All NoNl (("names" : Str) :: ns) := fun z hz => by
  rcases List.mem_cons.mp hz with rfl | hz
  · unfold NoNl; decide +kernel
  · exact name_nl (hn z hz)
theorem split_text {ns : List Str} {rows : List Row} {rests : List Rst} (hn : ∀ z ∈ ns, nameB z = true) : Txt.split (textW ns rows rests) "\n" = Txt.join " " ("names" :: ns) :: linesW ns rows rests := by
  have hl : ∀ fs c mo, NoNl (lineW ns fs c mo) := fun fs c mo => by
    rw [lineW_join]
    exact nl_join (all_line wds_nl fun z hz => name_nl (hn z hz))
  refine split_join (s := 10) (S := []) rfl (by decide +kernel) (by simp) fun z hz => ?_
  rcases List.mem_cons.mp hz with rfl | hz
  · exact nl_join (nl_names hn)
  · rcases List.mem_append.mp hz with hz | hz
    · obtain ⟨r, _, rfl⟩ := List.mem_map.mp hz
      exact hl _ _ _
    · obtain ⟨r, _, rfl⟩ := List.mem_map.mp hz
      exact hl _ _ _
theorem split_head {ns : List Str} (hn : ∀ z ∈ ns, nameB z = true) : Txt.split (Txt.join " " (("names" : Str) :: ns)) " " = ("names" : Str) :: ns := by
  refine split_join (s := 32) (S := []) rfl (by decide +kernel) (by simp) fun z hz => ?_
  rcases List.mem_cons.mp hz with rfl | hz
  · decide +kernel
  · exact name_free (hn z hz)
theorem text_len {ns : List Str} {rows : List Row} {rests : List Rst} (g : Good ns rows rests) : (textW ns rows rests).length ≤ 4000000 := by
  have fine := g.fine
  obtain ⟨n12, nz, _, _, fr, ft⟩ := fine
  have nm5 : ("names" : Str).length = 5 := by decide +kernel
  have b1 : (" " : Str).length = 1 := by decide +kernel
  have c1 : ("\n" : Str).length = 1 := by decide +kernel
  have lj := joinT_len " " 2000 ("names" :: ns) fun z hz => by
    rcases List.mem_cons.mp hz with rfl | hz
    · rw [nm5]; decide
    · exact nz z hz
  rw [List.length_cons, b1] at lj
  have k1 : (ns.length + 1) * (2000 + 1) ≤ 13 * 2001 := Nat.mul_le_mul_right _ (by omega)
  have ln : ∀ z ∈ linesW ns rows rests, z.length ≤ 140000 := fun z hz => by
    rcases List.mem_append.mp hz with hz | hz
    · obtain ⟨r, hr, rfl⟩ := List.mem_map.mp hz
      obtain ⟨e1, e2, e3⟩ := fr r hr
      exact line_len (by omega) e1 nz e2 e3 (fun m z => by cases z)
    · obtain ⟨r, hr, rfl⟩ := List.mem_map.mp hz
      obtain ⟨e1, e2, e3, e4⟩ := ft r hr
      exact line_len (by omega) e1 nz e2 e3 (fun m z => by cases z; exact e4)
  have lt := joinT_len "\n" 140000 (Txt.join " " ("names" :: ns) :: linesW ns rows rests) fun z hz => by
    rcases List.mem_cons.mp hz with rfl | hz
    · omega
    · exact ln z hz
  have l24 : (linesW ns rows rests).length ≤ 24 := by
    unfold linesW
    rw [List.length_append, List.length_map, List.length_map]
    have := g.r12
    have := g.s12
    omega
  rw [List.length_cons, c1] at lt
  have k2 : ((linesW ns rows rests).length + 1) * (140000 + 1) ≤ 25 * 140001 := Nat.mul_le_mul_right _ (by omega)
  show (Txt.join "\n" (Txt.join " " ("names" :: ns) :: linesW ns rows rests)).length ≤ _
  omega
theorem line_len2 {ns : List Str} {fs : List Int} {c : Int} {mo : Option Int} (h6 : ns.length ≤ 6) (hl : ns.length = fs.length) (hn : ∀ z ∈ ns, nameB z = true) (hf : ∀ f ∈ fs, f.natAbs < 10 ^ 60) (hc : c.natAbs < 10 ^ 60) (hm : ∀ m, mo = some m → m.natAbs < 10 ^ 60) :
    (lineW ns fs c mo).length ≤ 100000 ∧ ∀ z ∈ lineWords ns fs c mo, z.cps.toList.length ≤ 2000 := by
  have lg : ∀ i : Int, i.natAbs < 10 ^ 60 → i.natAbs.log2 < 1920 := fun i h => log_of (Nat.le_trans (Nat.le_of_lt h) (by decide +kernel))
  have li : ∀ i : Int, i.natAbs < 10 ^ 60 → (Str.ofString (toString i)).length ≤ 2000 := fun i hi => by
    rw [PySem.ofString_length]
    exact Nat.le_trans (PySem.int_text_length_le (k := 1920) (by decide) (lg i hi)) (by decide)
  have ln : ∀ z ∈ ns, z.length ≤ 2000 := fun z hz => by
    have := (name_len8 (hn z hz)).2
    rw [show z.length = z.cps.toList.length from (Array.length_toList ..).symm]; omega
  have fw := few_words (ns.zip fs) [] 0 ⟨Nat.le_refl _, fun z hz => by cases hz⟩ fun p hp => ⟨ln _ (List.of_mem_zip hp).1, by rw [abs_ab]; exact lg _ (hf _ (List.of_mem_zip hp).2)⟩
  have hw : ∀ z ∈ lineWords ns fs c mo, z.length ≤ 2000 := fun z hz => by
    unfold lineWords at hz
    rcases List.mem_append.mp hz with hz | hz
    · rcases List.mem_append.mp hz with hz | hz
      · unfold sumWords at hz
        split at hz
        · rw [List.mem_singleton.mp hz]; decide +kernel
        · exact fw.2 z hz
      · rcases List.mem_cons.mp hz with rfl | hz
        · decide +kernel
        · rw [List.mem_singleton.mp hz]; exact li c hc
    · cases mo with
      | none => cases hz
      | some m =>
        rcases List.mem_cons.mp hz with rfl | hz
        · decide +kernel
        · rw [List.mem_singleton.mp hz]; exact li m (hm m rfl)
  refine ⟨?_, fun z hz => by rw [show z.cps.toList.length = z.length from Array.length_toList ..]; exact hw z hz⟩
  rw [lineW_join]
  have := joinT_len " " 2000 (lineWords ns fs c mo) hw
  have b1 : (" " : Str).length = 1 := by decide +kernel
  rw [b1] at this
  have l := (lineWords_len (c := c) (mo := mo) (fs := fs) h6).2
  have k1 : (lineWords ns fs c mo).length * (2000 + 1) ≤ 23 * 2001 := Nat.mul_le_mul_right _ l
  omega
end KW
namespace KW
open PySem PySem.Spec PyProof.Rows L2 GL RZ TL GX
/-! ### a text of a system, read line by line -/
def linesOf (tx : Str) : List Str := Txt.split tx "\n"
def wordsOf (z : Str) : List Str := Txt.split z " "
def rdS (ns : List Str) (rows : List Row) (rests : List Rst) (k : Nat) : List Str → Sum Nat (List Row × List Rst)
  | [] => .inr (rows, rests)
  | z :: r => match readB ns z with
    | none => .inl k
    | some (fs, c, m) => if m = 0 then (if rests = [] then rdS ns (rows ++ [(fs, c)]) rests (k + 1) r else .inl k) else rdS ns rows (rests ++ [(fs, c, m)]) (k + 1) r
theorem rs_none {ns : List Str} {rows : List Row} {rests : List Rst} {k : Nat} {z : Str} {r : List Str} (h : readB ns z = none) : rdS ns rows rests k (z :: r) = .inl k := by
  show (match readB ns z with | none => Sum.inl k | some (fs, c, m) => _) = _
  rw [h]
theorem rs_some {ns : List Str} {rows : List Row} {rests : List Rst} {k : Nat} {z : Str} {r : List Str} {fs : List Int} {c m : Int} (h : readB ns z = some (fs, c, m)) :
    rdS ns rows rests k (z :: r) = if m = 0 then (if rests = [] then rdS ns (rows ++ [(fs, c)]) rests (k + 1) r else .inl k) else rdS ns rows (rests ++ [(fs, c, m)]) (k + 1) r := by
  show (match readB ns z with | none => Sum.inl k | some (fs, c, m) => if m = 0 then (if rests = [] then rdS ns (rows ++ [(fs, c)]) rests (k + 1) r else .inl k) else rdS ns rows (rests ++ [(fs, c, m)]) (k + 1) r) = _
  rw [h]
def mkS (ns : List Str) : Sum Nat (List Row × List Rst) → Sum Nat (List Str × List Row × List Rst)
  | .inl k => .inl k
  | .inr p => .inr (ns, p.1, p.2)
/-- the first line, and those behind it -/
def rdH (ls : List Str) : List Str → Sum Nat (List Str × List Row × List Rst)
  | [] => .inl 1
  | w :: ns => if w = "names" ∧ namesB ns = true then mkS ns (rdS ns [] [] 2 ls) else .inl 1
def rdT (tx : Str) : Sum Nat (List Str × List Row × List Rst) := rdH (linesOf tx).tail (wordsOf ((linesOf tx).headD ""))
theorem split_few (z y : Str) (h : 1 ≤ y.length) : 1 ≤ (Txt.split z y).length ∧ (Txt.split z y).length ≤ z.length + 1 ∧ ∀ w ∈ Txt.split z y, w.length ≤ z.length := by
  have a := PyProof.Rows.split_weight z y h
  have b := PyProof.Rows.split_pos z y
  refine ⟨b, by omega, fun w hw => ?_⟩
  have : ∀ l : List Str, w ∈ l → w.length ≤ (l.map (·.length)).sum := fun l => by
    induction l with
    | nil => intro h; cases h
    | cons x r ih =>
      intro h
      rw [List.map_cons, List.sum_cons]
      rcases List.mem_cons.mp h with rfl | h
      · omega
      · have := ih h; omega
  have := this _ hw
  omega
theorem str_len3 (z : Str) : z.length = z.cps.toList.length := (Array.length_toList ..).symm
theorem drop_cons {ws : List Str} {k : Nat} {z : Str} (h : ws[k]? = some z) : ws.drop k = z :: ws.drop (k + 1) := by
  have hl := (List.getElem?_eq_some_iff.mp h).1
  rw [List.drop_eq_getElem_cons hl]
  rw [List.getElem?_eq_getElem hl] at h
  rw [Option.some.inj h]
/-- what BadText(line) makes -/
def spBad (CE : Addr) : Sp := fun vs H Q _ => ∃ (a : Addr) (s : Int), vs = [.ref a, .int s] ∧ H a = some (exo a CE none) ∧ ∀ d, H d = none → d ≠ a → Q .non (upd (upd H d (exd d [(("line" : Str), .int s)])) a (exo a CE (some d)))
def spRead (K : PySem.W.Frag) (CF C : Addr) : Sp := fun vs H Q E => ∃ tx : Str, vs = [.str tx] ∧ tx.length ≤ 61000 ∧
  (∀ (k : Nat) (d : Addr) (H' : Hp), rdT tx = .inl k → Same H H' → H' d = some (.xd [(("line" : Str), .int (k : Nat))]) → E (.ref CF) (some d) H') ∧
  (∀ (ns : List Str) (rows : List Row) (rests : List Rst) (p : Addr) (H' : Hp), rdT tx = .inr (ns, rows, rests) → Same H H' → SysAt K C H' p ns (rows.map lnR) (rests.map lnS) → Q (.ref p) H')
theorem nb_facts {ns : List Str} (h : namesB ns = true) : 1 ≤ ns.length ∧ ns.length ≤ 6 ∧ ∀ z ∈ ns, nameB z = true := by
  unfold namesB at h
  rw [Bool.and_eq_true, Bool.and_eq_true] at h
  have h1 := of_decide_eq_true h.1
  exact ⟨h1.1, h1.2, fun z hz => List.all_eq_true.mp h.2.2 z hz⟩
theorem strD (a b : Str) : decide (V.str a = V.str b) = decide (a = b) := by
  by_cases e : a = b
  · rw [decide_eq_true e, decide_eq_true (congrArg V.str e)]
  · rw [decide_eq_false e, decide_eq_false (fun z => e (V.str.inj z))]
section
variable {P : Program} {w : World} {K : PySem.W.Frag} {mg : Str → Option Value} {base : Heap}
abbrev s_BadText_init : Stmt := inClass (topS 3) 0
theorem sc_BadText_init : FnScope ["self", "line"] ["self", "line"] (defScope s_BadText_init) := ⟨rfl, rfl, rfl, by decide +kernel, rfl, by decide +kernel, by decide +kernel⟩
theorem ok_bad {f CE BE : Addr} {fd : FuncData} (F : Fun K "__init__" "BadText.__init__" s_BadText_init f fd) (T : OexE K CE BE) (no : PySem.W.findIn K (.ref CE) "line" = some none) (gB : mg "BoxError" = some (.ref BE))
    (ga : PySem.W.specialIn K (.ref BE) "__getattribute__" = some (some (.builtin "type.__getattribute__"))) (rd : PySem.W.readsIn K BE (.type "type") = true) (fi : PySem.W.findCls K (.ref BE) (.type "type") "__init__" = some (.val (.builtin "Exception.__init__"))) :
    FnG P w K mg base CX0 1 f fd ["self", "line"] (spBad CE) := by
  refine okG F sc_BadText_init (fun vs H Q E h => ?_) fun cdv A outer s H vs Q E hr hc h => ?_
  · obtain ⟨a, s, rfl, _⟩ := h
    rfl
  · obtain ⟨a, z, rfl, ha, q⟩ := h
    have nd := sc_BadText_init.nd
    refine ⟨_, (pss_cons (ps_expr (pe_base (by rfl) gB ga rd fi (pa_cons (pv 0) (pa_cons pe_str pa_nil)))) (pss_one (ps_put (pv 0) (pv 1)))), ?_⟩
    exact ⟨_, rfl, a, CE, BE, _, rfl, (show 1 ≤ 1000 by decide), T, ha, _, rfl, _, rfl, a, CE, BE, rfl, T, no, ha, fun d nd' ne => q d nd' ne⟩
abbrev s_System_read : Stmt := inClass (topS 20) 12
theorem sc_System_read : FnScope ["text", "head", "lines", "first", "words", "names", "rows", "rests", "at", "line", "parts"] ["text"] (defScope s_System_read) := ⟨rfl, rfl, rfl, by decide +kernel, rfl, by decide +kernel, by decide +kernel⟩
theorem ok_read {f C fI CF BE fE : Addr} {fd fdI fdE : FuncData} (F : Fun K "read" "System.read" s_System_read f fd) (S : Sys K mg C) (T : Bl mg) (TE : OexE K CF BE) (gE : mg "BadText" = some (.ref CF)) (iE : PySem.W.findIn K (.ref CF) "__init__" = some (some (.ref fE))) (tE : PySem.W.typeIn K (.ref fE) = some (.type "function"))
    (FE : FnG P w K mg base CX0 1 fE fdE ["self", "line"] (spBad CF)) (BE' : Binds K fdE ["self", "line"] []) (D_are_names : DefG P w K mg base 2 "are_names" ["words"] (spNames K)) (D_read_line : DefG P w K mg base 4 "_read_line" ["names", "line"] (spRLine K))
    (MK : Mk K C fI) (FI : FnG P w K mg base CX0 1 fI fdI ["self", "names", "rows", "rests"] (spInit C)) (BI : Binds K fdI ["self", "names", "rows", "rests"] []) : FnG P w K mg base (L2.CX P w) 5 f fd ["text"] (spRead K CF C) := by
  refine okGX F sc_System_read (fun vs H Q E h => ?_) fun cdv A outer s H vs Q E hr hc h => ?_
  · obtain ⟨tx, rfl, _⟩ := h
    rfl
  · obtain ⟨tx, rfl, tl61, bad, fine⟩ := h
    have nd := sc_System_read.nd
    have hu64 := hr.units
    refine ⟨_, (pss_cons (ps_asg (pe_bm PySem.F.plainAttrs_str PySem.F.slot_str_split PySem.F.type_str_split mt_split (pv 0) (pa_cons pe_str pa_nil)) (pg_starL (n := 2) (i := 1) rfl (pgs_cons (pg_name (i := 1) nd rfl (by first | exact Or.inl rfl | exact Or.inr rfl)) (pgs_consS (pg_name (i := 2) nd rfl (by first | exact Or.inl rfl | exact Or.inr rfl)) pgs_nil))))
      (pss_cons (ps_asg (pe_bm PySem.F.plainAttrs_str PySem.F.slot_str_split PySem.F.type_str_split mt_split (pv 1) (pa_cons pe_str pa_nil)) (pg_starL (n := 2) (i := 1) rfl (pgs_cons (pg_name (i := 3) nd rfl (by first | exact Or.inl rfl | exact Or.inr rfl)) (pgs_consS (pg_name (i := 4) nd rfl (by first | exact Or.inl rfl | exact Or.inr rfl)) pgs_nil))))
      (pss_cons (ps_if (PW.pt (pw_or (pt_cmpR op_ne (pv 3) pe_str (nomark _)) (pw_or1 (pt_not (pt_val (pe_def D_are_names (hr.mono (by decide)) hc (by rfl) (pa_cons (pv 4) pa_nil)))))))
        (pss_one (ps_raise rfl (takes_of rfl rfl rfl rfl) (GX.pmkE TE iE tE FE (hr.mono (by decide)) hc BE' pass0 (by rfl) gE (pa_cons pe_int pa_nil))))
        pss_nil)
      (pss_cons (ps_set (i := 5) nd rfl (by first | exact Or.inl rfl | exact Or.inr rfl) (pe_tupleZ (by rfl) T.tuple (pv 4)))
      (pss_cons (ps_set (i := 6) nd rfl (by first | exact Or.inl rfl | exact Or.inr rfl) (pe_lst pa_nil))
      (pss_cons (ps_set (i := 7) nd rfl (by first | exact Or.inl rfl | exact Or.inr rfl) (pe_lst pa_nil))
      (pss_cons (ps_for (passes_of rfl) rfl (pi_enumS (k := 2) (by rfl) T.enumerate (pa_cons (pv 2) pa_nil) pe_int) (pg_tup rfl (pgs_cons (pg_name (i := 8) nd rfl (by first | exact Or.inl rfl | exact Or.inr rfl)) (pgs_cons (pg_name (i := 9) nd rfl (by first | exact Or.inl rfl | exact Or.inr rfl)) pgs_nil)))
        (pss_cons (ps_set (i := 10) nd rfl (by first | exact Or.inl rfl | exact Or.inr rfl) (pe_def D_read_line (hr.mono (by decide)) hc (by rfl) (pa_cons (pv 5) (pa_cons (pv 9) pa_nil))))
        (pss_one (ps_if (pt_cmpR op_eq (pe_callB call_len_seq (by rfl) T.len boot_len (pa_cons (pv 10) pa_nil)) pe_int (nomark _))
          (pss_one (ps_expr (pe_bm PySem.F.plainAttrs_list PySem.F.slot_list_append PySem.F.type_list_append mt_append (pv 7) (pa_cons (pv 10) pa_nil))))
          (pss_one (ps_if (PW.pt (pw_and (pt_cmpR op_eq (pe_callB call_len_seq (by rfl) T.len boot_len (pa_cons (pv 10) pa_nil)) pe_int (nomark _)) (pw_and1 (pt_not (pt_truth (pv 7) (fun _ => rfl))))))
            (pss_one (ps_expr (pe_bm PySem.F.plainAttrs_list PySem.F.slot_list_append PySem.F.type_list_append mt_append (pv 6) (pa_cons (pv 10) pa_nil))))
            (pss_one (ps_raise rfl (takes_of rfl rfl rfl rfl) (GX.pmkE TE iE tE FE (hr.mono (by decide)) hc BE' pass0 (by rfl) gE (pa_cons (pv 8) pa_nil))))))))))
      (pss_one (ps_ret (pe_makeG MK FI (hr.mono (by decide)) hc (by rfl) S.mgC BI .nil pass0 (pa_cons (pv 5) (pa_cons (pe_tupleOf (by rfl) T.tuple (pv 6)) (pa_cons (pe_tupleOf (by rfl) T.tuple (pv 7)) pa_nil))))))))))))), ?_⟩
    obtain ⟨w1, w2, w3⟩ := split_few tx "\n" (by decide +kernel)
    have eB : rdT tx = rdH (linesOf tx).tail (wordsOf ((linesOf tx).headD "")) := rfl
    have eL : linesOf tx = Txt.split tx "\n" := rfl
    refine ⟨_, rfl, rfl, tx, "\n", rfl, rfl, by decide +kernel, Nat.le_trans (Nat.add_le_add_right tl61 2) (by decide), fun p1 np1 => ?_⟩
    rw [← eL] at w1 w2 w3 ⊢
    obtain ⟨hd, ls, els⟩ : ∃ hd ls, linesOf tx = hd :: ls := by
      cases e : linesOf tx with
      | nil => rw [e] at w1; exact absurd w1 (by decide)
      | cons a r => exact ⟨a, r, rfl⟩
    rw [els] at w1 w2 w3 eB ⊢
    have eB : rdT tx = rdH ls (wordsOf hd) := eB
    rw [List.length_cons] at w2
    clear eL els
    have s1 := Same.new (o := .lst ((hd :: ls).map V.str)) np1
    have hp1 : upd H p1 (.lst ((hd :: ls).map V.str)) p1 = some (.lst ((hd :: ls).map V.str)) := upd_same
    generalize upd H p1 (.lst ((hd :: ls).map V.str)) = H1 at *
    refine ⟨p1, _, rfl, tofL hp1, by simp, by rw [List.length_map, List.length_cons]; omega, fun L nL => ?_⟩
    have tk : ∀ (a : Str) (r : List Str), ((((a :: r).map V.str).drop 1).take (((a :: r).map V.str).length + 1 - 2)) = r.map V.str := fun a r => by
      rw [List.map_cons, List.length_cons, List.length_map]
      show (r.map V.str).take _ = _
      exact List.take_of_length_le (by rw [List.length_map]; omega)
    have dp : ∀ (a : Str) (r : List Str), ((((a :: r).map V.str).drop 1).drop (((a :: r).map V.str).length + 1 - 2)) = [] := fun a r => by
      rw [List.map_cons, List.length_cons, List.length_map]
      exact List.drop_eq_nil_of_le (by show (r.map V.str).length ≤ _; rw [List.length_map]; omega)
    rw [tk, dp]
    have s2 := Same.new (o := .lst (ls.map V.str)) nL
    have hL : upd H1 L (.lst (ls.map V.str)) L = some (.lst (ls.map V.str)) := upd_same
    generalize upd H1 L (.lst (ls.map V.str)) = H2 at *
    rw [show ((hd :: ls).map V.str).take 1 ++ [V.ref L] ++ [] = [V.str hd, V.ref L] from rfl]
    refine ⟨_, _, rfl, _, _, rfl, rfl, ?_⟩
    -- the first line
    have hdl : hd.length ≤ tx.length := w3 hd List.mem_cons_self
    obtain ⟨u1, u2, u3⟩ := split_few hd " " (by decide +kernel)
    have ew : wordsOf hd = Txt.split hd " " := rfl
    refine ⟨_, rfl, rfl, hd, " ", rfl, rfl, by decide +kernel, Nat.le_trans (Nat.add_le_add_right (Nat.le_trans hdl tl61) 2) (by decide), fun p2 np2 => ?_⟩
    rw [← ew] at u1 u2 u3 ⊢
    obtain ⟨fi, ns, ek⟩ : ∃ fi ns, wordsOf hd = fi :: ns := by
      cases e : wordsOf hd with
      | nil => rw [e] at u1; exact absurd u1 (by decide)
      | cons a r => exact ⟨a, r, rfl⟩
    rw [ek] at u1 u2 u3 eB ⊢
    have eB : rdT tx = if fi = "names" ∧ namesB ns = true then mkS ns (rdS ns [] [] 2 ls) else .inl 1 := eB
    rw [List.length_cons] at u2
    clear ew ek
    have s3 := Same.new (o := .lst ((fi :: ns).map V.str)) np2
    have hp2 : upd H2 p2 (.lst ((fi :: ns).map V.str)) p2 = some (.lst ((fi :: ns).map V.str)) := upd_same
    generalize upd H2 p2 (.lst ((fi :: ns).map V.str)) = H3 at *
    refine ⟨p2, _, rfl, tofL hp2, by simp, by rw [List.length_map, List.length_cons]; omega, fun W nW => ?_⟩
    rw [tk, dp]
    have s4 := Same.new (o := .lst (ns.map V.str)) nW
    have hW : upd H3 W (.lst (ns.map V.str)) W = some (.lst (ns.map V.str)) := upd_same
    generalize upd H3 W (.lst (ns.map V.str)) = H4 at *
    rw [show ((fi :: ns).map V.str).take 1 ++ [V.ref W] ++ [] = [V.str fi, V.ref W] from rfl]
    refine ⟨_, _, rfl, _, _, rfl, rfl, ?_⟩
    have s14 : Same H H4 := s1.trans (s2.trans (s3.trans s4))
    have hL4 : H4 L = some (.lst (ls.map V.str)) := s4 _ _ (s3 _ _ hL)
    -- raised for line k
    have rz : ∀ (k : Nat) (kk : Int), kk = (k : Nat) → rdT tx = .inl k → ∀ Hz, Same H Hz → (fun vs H1 => vs.length ≤ 1000 ∧ ∀ (a : Addr), H1 a = none → spBad CF (V.ref a :: (vs ++ [])) (upd H1 a (exo a CF none)) (fun v H2 => v = V.non ∧ ∃ d fs, H2 a = some (exo a CF (some d)) ∧ H2 d = some (exd d fs) ∧ H1 d = none ∧ E (Value.ref CF) (some d) (upd (del H2 a) d (HO.xd fs))) fun x x_1 x_2 => False) [V.int kk] Hz := fun k kk ekk e Hz sz => by
      subst ekk
      refine ⟨(show 1 ≤ 1000 by decide), fun a na => ⟨a, ((k : Nat) : Int), rfl, upd_same, fun d nd' dne => ⟨rfl, d, _, upd_same, by rw [upd_ne dne, upd_same], ?_, ?_⟩⟩⟩
      · rw [upd_ne dne] at nd'
        exact nd'
      refine bad k d _ e (fun q o hq => ?_) upd_same
      rw [upd_ne dne] at nd'
      have hqz := sz _ _ hq
      have re : q ≠ a := ne_of_none hqz na
      have rd : q ≠ d := ne_of_none hqz nd'
      rw [upd_ne rd, del_ne re, upd_ne re, upd_ne rd, upd_ne re]
      exact hqz
    -- the test
    refine ⟨_, rfl, rfl, _, rfl, ?_⟩
    rw [strD]
    by_cases e1 : fi = "names"
    rotate_left
    · rw [decide_eq_false e1]
      rw [if_neg (fun z => e1 z.1)] at eB
      exact iteT (iteT (rz 1 1 rfl eB H4 s14))
    subst e1
    rw [decide_eq_true rfl]
    refine iteF ?_
    refine ⟨_, rfl, W, ns, rfl, hW, by omega, (fun z hz => by rw [← str_len3]; have := u3 z (List.mem_cons_of_mem _ hz); omega), fun H5 s5 => ⟨_, rfl, ?_⟩⟩
    have hW5 := s5 _ _ hW
    have hL5 := s5 _ _ hL4
    have s15 := s14.trans s5
    cases enb : namesB ns with
    | false =>
      rw [if_neg (fun z => by rw [enb] at z; cases z.2)] at eB
      exact iteT (rz 1 1 rfl eB H5 s15)
    | true =>
    rw [if_pos ⟨rfl, enb⟩] at eB
    obtain ⟨n1, n6, nm⟩ := nb_facts enb
    refine iteF ?_
    refine ⟨_, rfl, W, _, rfl, tofL hW5, fun N o nN od => ?_⟩
    have s6 := Same.new (o := .frz o (.tup (ns.map V.str))) nN
    have hN : SqZ K (upd H5 N (.frz o (.tup (ns.map V.str)))) N (ns.map V.str) := .inl ⟨o, upd_same, od⟩
    have hL6 := s6 _ _ hL5
    have s16 := s15.trans s6
    generalize upd H5 N (.frz o (.tup (ns.map V.str))) = H6 at *
    refine ⟨Nat.zero_le _, fun R nR => ?_⟩
    have nLR : L ≠ R := ne_of_none hL6 nR
    have s7 := Same.new (o := .lst []) nR
    have hR7 : upd H6 R (.lst []) R = some (.lst []) := upd_same
    have hL7 := s7 _ _ hL6
    have hN7 := hN.same s7
    have s17 := s16.trans s7
    generalize upd H6 R (.lst []) = H7 at *
    refine ⟨Nat.zero_le _, fun Z nZ => ?_⟩
    have nLZ : L ≠ Z := ne_of_none hL7 nZ
    have nRZ : R ≠ Z := ne_of_none hR7 nZ
    have s8 := Same.new (o := .lst []) nZ
    have hZ8 : upd H7 Z (.lst []) Z = some (.lst []) := upd_same
    have hR8 := s8 _ _ hR7
    have hL8 := s8 _ _ hL7
    have hN8 := hN7.same s8
    have s18 := s17.trans s8
    have nR0 : H R = none := by
      cases e : H R with
      | none => rfl
      | some o => rw [s16 _ _ e] at nR; cases nR
    have nZ0 : H Z = none := by
      cases e : H Z with
      | none => rfl
      | some o => rw [s17 _ _ e] at nZ; cases nZ
    generalize upd H7 Z (.lst []) = H8 at *
    refine ⟨_, rfl, L, rfl, rfl, _, tofL hL8, ?_⟩
    refine for_it (walk_enumS (K := K) (k := 2) (a := L) (xs := ls.map V.str))
      (fun i σ Hx => ∃ (rows : List Row) (rests : List Rst) (xs ys : List V) (v8 v9 v10 : Option V), σ = [some (.str tx), some (.str hd), some (.ref L), some (.str "names"), some (.ref W), some (.ref N), some (.ref R), some (.ref Z), v8, v9, v10] ∧ Same H Hx ∧ Hx L = some (.lst (ls.map V.str)) ∧ SqZ K Hx N (ns.map V.str) ∧
        Hx R = some (.lst xs) ∧ Hx Z = some (.lst ys) ∧ LnAt Hx xs (rows.map lnR) ∧ LnAt Hx ys (rests.map lnS) ∧ rows.length + rests.length = i ∧ rdS ns rows rests (2 + i) (ls.drop i) = rdS ns [] [] 2 ls)
      ⟨[], [], [], [], none, none, none, rfl, s18, hL8, hN8, hR8, hZ8, .nil, .nil, rfl, rfl⟩ (fun i σ Hx _ ⟨_, _, _, _, _, _, _, _, _, h, _⟩ => tofL h) ?_ ?_
    · rintro i x σ Hx Ht hi ⟨rows, rests, xs, ys, v8, v9, v10, rfl, sx, hLx, hNx, hRx, hZx, lx, ly, li, er⟩ ⟨t, u, v, rfl, nt, rfl, g1, g2⟩
      have e1 : u = .int ((2 + i : Nat) : Int) := (Option.some.inj g1).symm
      subst e1
      obtain ⟨z, hz, rfl⟩ : ∃ z, ls[i]? = some z ∧ v = .str z := by
        replace g2 : (ls.map V.str)[i]? = some v := g2
        rw [List.getElem?_map] at g2
        cases e : ls[i]? with
        | none => rw [e] at g2; cases g2
        | some n => rw [e] at g2; exact ⟨n, rfl, (Option.some.inj g2).symm⟩
      have il := (List.getElem?_eq_some_iff.mp hz).1
      have zl : z.length ≤ tx.length := w3 z (List.mem_cons_of_mem _ (List.mem_of_getElem? hz))
      rw [drop_cons hz] at er
      refine ⟨t, _, rfl, tofT upd_same, rfl, _, _, rfl, _, _, rfl, rfl, ?_⟩
      have su := Same.new (o := .tup [V.int ((2 + i : Nat) : Int), .str z]) nt
      have hLu := su _ _ hLx
      have hRu := su _ _ hRx
      have hZu := su _ _ hZx
      have hNu := hNx.same su
      have lxu := lx.to (tups_same su)
      have lyu := ly.to (tups_same su)
      have sxu := sx.trans su
      generalize upd Hx t (.tup [V.int ((2 + i : Nat) : Int), .str z]) = Hu at *
      obtain ⟨v1, v2, v3⟩ := split_few z " " (by decide +kernel)
      refine ⟨_, rfl, _, rfl, N, ns, z, rfl, (fun H' s' => (hNu.same s').t), by omega, (fun y hy => by rw [str_len3]; exact Nat.le_trans (name_len8 (nm y hy)).2 (by decide)), by omega, v1, by omega, (fun y hy => by rw [← str_len3]; have := v3 y hy; omega), fun tp Hv sv cond => ?_⟩
      have s10 := sxu.trans sv
      have hLv := sv _ _ hLu
      have hRv := sv _ _ hRu
      have hZv := sv _ _ hZu
      have hNv := hNu.same sv
      have lxv := lxu.to (tups_same sv)
      have lyv := lyu.to (tups_same sv)
      cases erb : readB ns z with
      | none =>
        rw [erb] at cond
        have ht : Hv tp = some (.tup []) := cond
        rw [rs_none erb] at er
        refine ⟨_, rfl, tp, _, rfl, .inr (tofT ht), rfl, _, rfl, ite2 (fun e => absurd e (by simp)) fun _ => ?_⟩
        refine ⟨_, rfl, tp, _, rfl, .inr (tofT ht), rfl, _, rfl, ite2 (fun e => absurd e (by simp)) fun _ => iteF ?_⟩
        exact ⟨_, rfl, rz (2 + i) _ rfl (by rw [eB, ← er]; rfl) Hv s10⟩
      | some p =>
      obtain ⟨fs, c, m⟩ := p
      rw [erb] at cond
      obtain ⟨b, ht, hb⟩ := cond
      rw [rs_some erb] at er
      by_cases m0 : m = 0
      · rw [if_pos m0] at er
        replace ht : Hv tp = some (.tup [.ref b, .int c]) := by rw [if_pos m0] at ht; exact ht
        refine ⟨_, rfl, tp, _, rfl, .inr (tofT ht), rfl, _, rfl, ite2 (fun e => absurd e (by simp)) fun _ => ?_⟩
        refine ⟨_, rfl, tp, _, rfl, .inr (tofT ht), rfl, _, rfl, iteT ?_⟩
        cases rests with
        | cons r0 rr =>
          rw [if_neg (fun z => by cases z)] at er
          obtain ⟨y0, yr, rfl⟩ : ∃ y r, ys = y :: r := by
            cases ys with
            | nil => cases lyv
            | cons y r => exact ⟨y, r, rfl⟩
          refine ⟨_, rfl, _, .inl ⟨_, tofL hZv, rfl⟩, iteF ?_⟩
          exact ⟨_, rfl, rz (2 + i) _ rfl (by rw [eB, ← er]; rfl) Hv s10⟩
        | nil =>
        rw [if_pos rfl] at er
        cases lyv
        refine ⟨_, rfl, _, .inl ⟨_, tofL hZv, rfl⟩, iteT ?_⟩
        refine ⟨_, rfl, ty_l (tofL hRv), _, rfl, R, _, _, rfl, rfl, hRv, by rw [lxv.len, List.length_map]; exact smallt (by have : rows.length + 0 = i := li; omega), ?_⟩
        refine ⟨rows ++ [(fs, c)], [], xs ++ [.ref tp], [], _, _, _, rfl, ?_, ?_, ?_, upd_same, ?_, ?_, .nil, by rw [List.length_append]; show rows.length + 1 + 0 = i + 1; have : rows.length + 0 = i := li; omega, er⟩
        · intro b' o hb'
          rw [upd_ne (fun e => by rw [e, nR0] at hb'; cases hb')]
          exact s10 _ _ hb'
        · rw [upd_ne nLR]; exact hLv
        · exact hNv.to fun _ e => by rw [upd_ne (fun z => by rw [z, hRv] at e; cases e)]; exact e
        · rw [upd_ne nRZ.symm]; exact hZv
        · have kp : ∀ a xs', Hv a = some (.tup xs') → upd Hv R (.lst (xs ++ [.ref tp])) a = some (.tup xs') := fun a xs' e => by rw [upd_ne (fun z => by rw [z, hRv] at e; cases e)]; exact e
          rw [List.map_append]
          exact (lxv.to kp).snoc (ms := [c]) (kp _ _ ht) (kp _ _ hb)
      · rw [if_neg m0] at er
        replace ht : Hv tp = some (.tup [.ref b, .int c, .int m]) := by rw [if_neg m0] at ht; exact ht
        refine ⟨_, rfl, tp, _, rfl, .inr (tofT ht), rfl, _, rfl, iteT ?_⟩
        refine ⟨_, rfl, ty_l (tofL hZv), _, rfl, Z, _, _, rfl, rfl, hZv, by rw [lyv.len, List.length_map]; exact smallt (by omega), ?_⟩
        refine ⟨rows, rests ++ [(fs, c, m)], xs, ys ++ [.ref tp], _, _, _, rfl, ?_, ?_, ?_, ?_, upd_same, ?_, ?_, by rw [List.length_append]; show rows.length + (rests.length + 1) = i + 1; omega, er⟩
        · intro b' o hb'
          rw [upd_ne (fun e => by rw [e, nZ0] at hb'; cases hb')]
          exact s10 _ _ hb'
        · rw [upd_ne nLZ]; exact hLv
        · exact hNv.to fun _ e => by rw [upd_ne (fun z => by rw [z, hZv] at e; cases e)]; exact e
        · rw [upd_ne nRZ]; exact hRv
        · have kp : ∀ a xs', Hv a = some (.tup xs') → upd Hv Z (.lst (ys ++ [.ref tp])) a = some (.tup xs') := fun a xs' e => by rw [upd_ne (fun z => by rw [z, hZv] at e; cases e)]; exact e
          exact lxv.to kp
        · have kp : ∀ a xs', Hv a = some (.tup xs') → upd Hv Z (.lst (ys ++ [.ref tp])) a = some (.tup xs') := fun a xs' e => by rw [upd_ne (fun z => by rw [z, hZv] at e; cases e)]; exact e
          rw [List.map_append]
          exact (lyv.to kp).snoc (ms := [c, m]) (kp _ _ ht) (kp _ _ hb)
    · rintro σ Hx ⟨rows, rests, xs, ys, v8, v9, v10, rfl, sx, hLx, hNx, hRx, hZx, lx, ly, li, er⟩
      rw [List.length_map] at er
      rw [List.drop_of_length_le (Nat.le_refl _)] at er
      have er : rdS ns [] [] 2 ls = .inr (rows, rests) := er.symm
      rw [er] at eB
      have eB : rdT tx = .inr (ns, rows, rests) := eB
      refine ⟨_, rfl, _, rfl, .inl ⟨R, _, rfl, tofL hRx, fun tr ntr => ?_⟩⟩
      have sa := Same.new (o := .tup xs) ntr
      have htr : upd Hx tr (.tup xs) tr = some (.tup xs) := upd_same
      have hZa := sa _ _ hZx
      have lxa := lx.to (tups_same sa)
      have lya := ly.to (tups_same sa)
      have hNa := hNx.same sa
      generalize upd Hx tr (.tup xs) = Ha at *
      refine ⟨_, rfl, .inl ⟨Z, _, rfl, tofL hZa, fun ts nts => ?_⟩⟩
      have sb := Same.new (o := .tup ys) nts
      have pz : Parts K (upd Ha ts (.tup ys)) N tr ts ns (rows.map lnR) (rests.map lnS) := ⟨hNa.same sb, ⟨xs, tofT (sb _ _ htr), lxa.to (tups_same sb)⟩, ⟨ys, tofT upd_same, lya.to (tups_same sb)⟩⟩
      have sab := sx.trans (sa.trans sb)
      generalize upd Ha ts (.tup ys) = Hb at *
      refine fun x dx nx ndx ne => ⟨x, dx, _, _, _, rfl, upd_same, rfl, ?_⟩
      obtain ⟨sz, hz⟩ := made_at (C := C) pz nx ndx ne
      exact fine ns rows rests x _ eB (sab.trans sz) hz
end
end KW
namespace KW
open PySem PySem.Spec PyProof.Rows L2 GL RZ TL
/-! ### the law's own text of a sum -/
def far (n : Str) (f : Int) : Str := if ab f = 1 then n else Str.ofString (toString (ab f)) ++ " " ++ n
def stepQ (acc : List Str) (p : Str × Int) : List Str := if 0 < p.2 then acc ++ [if acc = [] then far p.1 p.2 else "+ " ++ far p.1 p.2] else if p.2 < 0 then acc ++ ["- " ++ far p.1 p.2] else acc
def partsQ (ps : List (Str × Int)) : List Str := ps.foldl stepQ []
def sumQ (ps : List (Str × Int)) : Str := if partsQ ps = [] then "0" else Txt.join " " (partsQ ps)
theorem far_words {n : Str} {f : Int} (hf : f ≠ 0) : tl (far n f) = joinL [32] ((numW f ++ [n]).map tl) := by
  have a1 : 1 ≤ ab f := by unfold ab; split <;> omega
  unfold far numW
  by_cases e : ab f = 1
  · rw [if_pos e, if_neg (by omega)]; rfl
  · rw [if_neg e, if_pos (by omega), tl_append, tl_append]
    show tl (Str.ofString (toString (ab f))) ++ [32] ++ tl n = tl (Str.ofString (toString (ab f))) ++ ([32] ++ tl n)
    rw [List.append_assoc]
theorem sign_words {n : Str} {f : Int} (hf : f ≠ 0) (s : Str) (c : Nat) (hs : tl s = [c, 32]) (z : Str) (hz : tl z = [c]) : tl (s ++ far n f) = joinL [32] ((z :: (numW f ++ [n])).map tl) := by
  rw [tl_append, hs, far_words hf, List.map_cons, hz]
  have ne : (numW f ++ [n]).map tl ≠ [] := by simp
  cases e : (numW f ++ [n]).map tl with
  | nil => exact absurd e ne
  | cons a r => rfl
theorem step_same {acc wacc : List Str} {p : Str × Int} (h1 : acc = [] ↔ wacc = []) (h2 : joinL [32] (acc.map tl) = joinL [32] (wacc.map tl)) :
    (stepQ acc p = [] ↔ stepW wacc p = []) ∧ joinL [32] ((stepQ acc p).map tl) = joinL [32] ((stepW wacc p).map tl) := by
  obtain ⟨n, f⟩ := p
  by_cases hf : f = 0
  · subst hf
    have e : stepQ acc (n, 0) = acc := by unfold stepQ; simp
    rw [e, step_zero]
    exact ⟨h1, h2⟩
  · have pl : tl ("+ " : Str) = [43, 32] := by decide +kernel
    have mi : tl ("- " : Str) = [45, 32] := by decide +kernel
    have pl1 : tl ("+" : Str) = [43] := by decide +kernel
    have mi1 : tl ("-" : Str) = [45] := by decide +kernel
    by_cases hw : wacc = []
    · have ha := h1.mpr hw
      subst hw ha
      refine ⟨⟨fun z => ?_, fun z => absurd z (step_first_ne hf)⟩, ?_⟩
      · unfold stepQ at z
        by_cases h0 : 0 < f
        · simp [h0] at z
        · simp [h0, show f < 0 by omega] at z
      · rw [step_first hf]
        unfold stepQ
        by_cases h0 : 0 < f
        · rw [if_pos h0, if_pos rfl, if_neg (by omega)]
          show tl (far n f) = _
          rw [far_words hf]
          rfl
        · rw [if_neg h0, if_pos (show f < 0 by omega), if_pos (show f < 0 by omega)]
          show tl ("- " ++ far n f) = _
          rw [sign_words hf "- " 45 mi "-" mi1]
          unfold piece sg
          rw [if_pos (show f < 0 by omega)]
    · have ha : acc ≠ [] := fun z => hw (h1.mp z)
      rw [step_on hw hf]
      have pn : piece (n, f) ≠ [] := fun z => nomatch z
      have e : ∃ z, stepQ acc (n, f) = acc ++ [z] ∧ tl z = joinL [32] ((piece (n, f)).map tl) := by
        unfold stepQ
        by_cases h0 : 0 < f
        · refine ⟨"+ " ++ far n f, by rw [if_pos h0, if_neg ha], ?_⟩
          rw [sign_words hf "+ " 43 pl "+" pl1]
          unfold piece sg
          rw [if_neg (show ¬ f < 0 by omega)]
        · refine ⟨"- " ++ far n f, by rw [if_neg h0, if_pos (show f < 0 by omega)], ?_⟩
          rw [sign_words hf "- " 45 mi "-" mi1]
          unfold piece sg
          rw [if_pos (show f < 0 by omega)]
      obtain ⟨z, e1, e2⟩ := e
      rw [e1]
      refine ⟨⟨fun q => by simp at q, fun q => absurd (List.append_eq_nil_iff.mp q).1 hw⟩, ?_⟩
      rw [List.map_append, List.map_append, joinL_app _ _ _ (fun q => ha (List.map_eq_nil_iff.mp q)) (by simp), joinL_app _ _ _ (fun q => hw (List.map_eq_nil_iff.mp q)) (fun q => pn (List.map_eq_nil_iff.mp q)), h2, ← e2]
      rfl
theorem steps_same : ∀ (ps : List (Str × Int)) (acc wacc : List Str), (acc = [] ↔ wacc = []) → joinL [32] (acc.map tl) = joinL [32] (wacc.map tl) →
    (ps.foldl stepQ acc = [] ↔ ps.foldl stepW wacc = []) ∧ joinL [32] ((ps.foldl stepQ acc).map tl) = joinL [32] ((ps.foldl stepW wacc).map tl)
  | [], _, _, h1, h2 => ⟨h1, h2⟩
  | p :: r, acc, wacc, h1, h2 => by
    obtain ⟨g1, g2⟩ := step_same (p := p) h1 h2
    exact steps_same r _ _ g1 g2
theorem sumQ_sumW (ps : List (Str × Int)) : sumQ ps = sumW ps := by
  obtain ⟨h1, h2⟩ := steps_same ps [] [] Iff.rfl rfl
  have e : wordsW ps = ps.foldl stepW [] := rfl
  unfold sumQ sumW
  by_cases hp : partsQ ps = []
  · rw [if_pos hp, if_pos (by rw [e]; exact h1.mp hp)]
  · rw [if_neg hp, if_neg (by rw [e]; exact fun z => hp (h1.mpr z))]
    refine TL.ext_tl ?_
    rw [tl_joinT, tl_joinT]
    exact h2
def FewQ (k : Nat) (ws : List Str) : Prop := ws.length ≤ k ∧ ∀ z ∈ ws, z.length ≤ 4000
theorem str_app_len (x y : Str) : (x ++ y).length = x.length + y.length := by
  show (x ++ y).cps.size = x.cps.size + y.cps.size
  exact Array.size_append ..
theorem far_len {n : Str} {f : Int} (hn : n.length ≤ 2000) (hf : (ab f).natAbs.log2 < 1920) : (far n f).length ≤ 3990 := by
  unfold far
  split
  · omega
  · have li : (Str.ofString (toString (ab f))).length ≤ 1930 := by
      rw [PySem.ofString_length]
      exact Nat.le_trans (PySem.int_text_length_le (k := 1920) (by decide) hf) (by decide)
    have b1 : (" " : Str).length = 1 := by decide +kernel
    rw [str_app_len, str_app_len, b1]; omega
def spSumT (K : PySem.W.Frag) : Sp := fun vs H Q _ => ∃ (a b : Addr) (ns : List Str) (fs : List Int), vs = [.ref a, .ref b] ∧ SqT K H a (ns.map V.str) ∧ SqT K H b (fs.map V.int) ∧ ns.length = fs.length ∧ ns.length ≤ 20 ∧ (∀ z ∈ ns, z.length ≤ 2000) ∧ (∀ f ∈ fs, (ab f).natAbs.log2 < 1920) ∧
  ∀ H', Same H H' → Q (.str (sumW (ns.zip fs))) H'
section
variable {P : Program} {w : World} {K : PySem.W.Frag} {mg : Str → Option Value} {base : Heap}
abbrev s_sum_text : Stmt := topS 30
theorem sc_sum_text : FnScope ["_law_called_here", "_law_factors", "_law_parts", "_law_name_here", "_law_factor", "_law_far"] ["_law_called_here", "_law_factors"] (defScope s_sum_text) := ⟨rfl, rfl, rfl, by decide +kernel, rfl, by decide +kernel, by decide +kernel⟩
theorem ok_sum_text {f : Addr} {fd : FuncData} (F : Fun K "_law_sum_text" "_law_sum_text" s_sum_text f fd) (gl : mg "_law_sum_text" = some (.ref f)) (T : Bl mg) : DefG P w K mg base 1 "_law_sum_text" ["_law_called_here", "_law_factors"] (spSumT K) := by
  refine def_mk F gl (F.binds fun _ _ _ _ _ _ us hl => match us, hl with | [_, _], _ => rfl) (okG F sc_sum_text (fun vs H Q E h => ?_) fun cdv A outer s H vs Q E hr hc h => ?_)
  · obtain ⟨a, b, ns, fs, rfl, _⟩ := h
    rfl
  · obtain ⟨a, b, ns, fs, rfl, hA, hB, ll, l20, hn, hf, q⟩ := h
    have nd := sc_sum_text.nd
    have hu64 := hr.units
    refine ⟨_, (pss_cons (ps_set (i := 2) nd rfl (by first | exact Or.inl rfl | exact Or.inr rfl) (pe_lst pa_nil))
      (pss_cons (ps_for PassesOwn.never rfl (pi_zipA (by rfl) T.zip (pa_cons (pv 0) (pa_cons (pv 1) pa_nil))) (pg_tup rfl (pgs_cons (pg_name (i := 3) nd rfl (by first | exact Or.inl rfl | exact Or.inr rfl)) (pgs_cons (pg_name (i := 4) nd rfl (by first | exact Or.inl rfl | exact Or.inr rfl)) pgs_nil)))
        (pss_cons (ps_set (i := 5) nd rfl (by first | exact Or.inl rfl | exact Or.inr rfl) (pe_cutE (pe_ifExp (pt_cmpR op_eq (pe_callB call_abs (by rfl) T.abs boot_abs (pa_cons (pv 4) pa_nil)) pe_int (nomark _)) (pv 3) (pe_op op_add_str (pe_op op_add_str (pe_callTy call_str_int (by rfl) T.str boot_str (pa_cons (pe_callB call_abs (by rfl) T.abs boot_abs (pa_cons (pv 4) pa_nil)) pa_nil)) pe_str) (pv 3)))))
        (pss_cons (ps_if (pt_cmpR op_gt (pv 4) pe_int (nomark _))
          (pss_one (ps_expr (pe_bm PySem.F.plainAttrs_list PySem.F.slot_list_append PySem.F.type_list_append mt_append (pv 2) (pa_cons (pe_cutE (pe_ifExp (pt_cmpR (op_eqP (K := K) hu64) (pv 2) (pe_lst pa_nil) (nomark _)) (pv 5) (pe_op op_add_str pe_str (pv 5)))) pa_nil))))
          pss_nil)
        (pss_one (ps_if (pt_cmpR op_lt (pv 4) pe_int (nomark _))
          (pss_one (ps_expr (pe_bm PySem.F.plainAttrs_list PySem.F.slot_list_append PySem.F.type_list_append mt_append (pv 2) (pa_cons (pe_op op_add_str pe_str (pv 5)) pa_nil))))
          pss_nil)))))
      (pss_one (ps_ret (pe_ifExp (pt_cmpR (op_neP (K := K) hu64) (pv 2) (pe_lst pa_nil) (nomark _)) (pe_join pe_str (pv 2)) pe_str))))), ?_⟩
    refine ⟨Nat.zero_le _, fun l nl => ?_⟩
    refine ⟨_, rfl, _, rfl, a, b, _, _, rfl, .inr ⟨Same.tup (Same.new nl) hA, Same.tup (Same.new nl) hB, ?_⟩⟩
    refine for_it (walk_zipT (K := K) (a := a) (b := b) (xs := ns.map V.str) (ys := fs.map V.int) (n := ns.length) (by rw [List.length_map, List.length_map]; omega))
      (fun i σ Hx => ∃ v3 v4 v5 : Option V, σ = [some (.ref a), some (.ref b), some (.ref l), v3, v4, v5] ∧ Same H Hx ∧ Hx l = some (.lst ((partsQ ((ns.zip fs).take i)).map V.str)) ∧ FewQ i (partsQ ((ns.zip fs).take i)))
      ⟨none, none, none, rfl, Same.new nl, upd_same, Nat.le_refl _, fun z hz => nomatch hz⟩ (fun i σ Hx _ ⟨_, _, _, _, sx, _⟩ => ⟨Same.tup sx hA, Same.tup sx hB⟩) ?_ ?_
    · rintro i x σ Hx Hy hi ⟨v3, v4, v5, rfl, sx, hl, few⟩ ⟨t2, u, v, rfl, nt, rfl, f1, f2⟩
      obtain ⟨n, en, rfl⟩ : ∃ n, ns[i]? = some n ∧ u = .str n := by
        replace f1 : (ns.map V.str)[i]? = some u := f1
        rw [List.getElem?_map] at f1
        cases e : ns[i]? with
        | none => rw [e] at f1; cases f1
        | some n => rw [e] at f1; exact ⟨n, rfl, (Option.some.inj f1).symm⟩
      obtain ⟨f0, ef, rfl⟩ : ∃ f, fs[i]? = some f ∧ v = .int f := by
        replace f2 : (fs.map V.int)[i]? = some v := f2
        rw [List.getElem?_map] at f2
        cases e : fs[i]? with
        | none => rw [e] at f2; cases f2
        | some n => rw [e] at f2; exact ⟨n, rfl, (Option.some.inj f2).symm⟩
      have ez : (ns.zip fs)[i]? = some (n, f0) := by
        rw [List.getElem?_zip_eq_some]
        exact ⟨en, ef⟩
      have et : partsQ ((ns.zip fs).take (i + 1)) = stepQ (partsQ ((ns.zip fs).take i)) (n, f0) := by
        unfold partsQ
        rw [List.take_add_one, ez, List.foldl_append]
        rfl
      have nn := hn n (List.mem_of_getElem? en)
      have ff := hf f0 (List.mem_of_getElem? ef)
      have fl := far_len nn ff
      rw [et]
      revert hl few
      generalize partsQ ((ns.zip fs).take i) = acc
      intro hl few
      have nlt : l ≠ t2 := ne_of_none hl nt
      have sy : Same H (upd Hx t2 (.tup [.str n, .int f0])) := sx.trans (Same.new nt)
      have hl2 : upd Hx t2 (.tup [.str n, .int f0]) l = some (.lst (acc.map V.str)) := by rw [upd_ne nlt]; exact hl
      refine ⟨t2, _, rfl, tofT upd_same, rfl, _, _, rfl, _, _, rfl, rfl, ?_⟩
      revert sy hl2
      generalize upd Hx t2 (.tup [.str n, .int f0]) = Hz
      intro sy hl2
      have put : ∀ (Hu : Hp) (ws : List Str) (z : Str), Same H Hu → Hu l = some (.lst (ws.map V.str)) → Same H (upd Hu l (.lst (ws.map V.str ++ [V.str z]))) ∧ upd Hu l (.lst (ws.map V.str ++ [V.str z])) l = some (.lst ((ws ++ [z]).map V.str)) := fun Hu ws z su hu =>
        ⟨fun c o hc' => by rw [upd_ne (ne_of_none hc' nl)]; exact su _ _ hc', by rw [upd_same, List.map_append]; rfl⟩
      have few' : ∀ z : Str, z.length ≤ 4000 → FewQ (i + 1) (acc ++ [z]) := fun z hz => ⟨by rw [List.length_append]; exact Nat.succ_le_succ few.1, fun y hy => (List.mem_append.mp hy).elim (few.2 y) fun h => by rw [List.mem_singleton.mp h]; exact hz⟩
      have lenF : (acc.map V.str).length < sizeLine := by rw [List.length_map]; exact smallt (by have := few.1; omega)
      have li : (Str.ofString (toString (ab f0))).length ≤ 1930 := by
        rw [PySem.ofString_length]
        exact Nat.le_trans (PySem.int_text_length_le (k := 1920) (by decide) ff) (by decide)
      have b1 : (" " : Str).length = 1 := by decide +kernel
      have b2 : ("+ " : Str).length = 2 := by decide +kernel
      have b3 : ("- " : Str).length = 2 := by decide +kernel
      -- far
      refine ⟨fun x H' => x = .str (far n f0) ∧ H' = Hz, ?_, ?_⟩
      · refine ⟨_, rfl, f0, rfl, rfl, _, rfl, ite2 (fun e => ?_) (fun e => ?_)⟩
        · have e1 : ab f0 = 1 := V.int.inj (of_decide_eq_true e)
          exact ⟨_, rfl, by unfold far; rw [if_pos e1], rfl⟩
        · have e1 : ¬ ab f0 = 1 := fun z => e (decide_eq_true (congrArg V.int z))
          refine ⟨_, rfl, f0, rfl, _, rfl, ff, _, _, rfl, rfl, small (show (Str.ofString (toString (ab f0))).length + (" " : Str).length ≤ 100000 by rw [b1]; omega), _, rfl, _, _, rfl, rfl, small (show (Str.ofString (toString (ab f0)) ++ (" " : Str)).length + n.length ≤ 100000 by rw [str_app_len, b1]; omega), ?_, rfl⟩
          unfold far; rw [if_neg e1]; rfl
      rintro x H' ⟨rfl, rfl⟩
      rcases Int.lt_trichotomy f0 0 with neg | z0 | pos
      · have st : stepQ acc (n, f0) = acc ++ ["- " ++ far n f0] := by
          unfold stepQ
          rw [if_neg (show ¬ 0 < f0 by omega), if_pos neg]
        rw [st]
        obtain ⟨p1, p2⟩ := put H' acc ("- " ++ far n f0) sy hl2
        refine ⟨_, rfl, f0, 0, rfl, rfl, _, rfl, ite2 (fun e => absurd (of_decide_eq_true e) (by omega)) fun _ => ?_⟩
        refine ⟨_, rfl, f0, 0, rfl, rfl, _, rfl, ite2 (fun _ => ?_) (fun e => absurd (decide_eq_true neg) e)⟩
        exact ⟨_, rfl, ty_l (tofL hl2), _, rfl, _, _, rfl, rfl, small (by rw [b3]; omega), l, _, _, rfl, rfl, hl2, lenF, _, _, _, rfl, p1, p2, few' _ (by rw [str_app_len, b3]; omega)⟩
      · have st : stepQ acc (n, f0) = acc := by
          unfold stepQ
          rw [if_neg (show ¬ 0 < f0 by omega), if_neg (show ¬ f0 < 0 by omega)]
        rw [st]
        refine ⟨_, rfl, f0, 0, rfl, rfl, _, rfl, ite2 (fun e => absurd (of_decide_eq_true e) (by omega)) fun _ => ?_⟩
        refine ⟨_, rfl, f0, 0, rfl, rfl, _, rfl, ite2 (fun e => absurd (of_decide_eq_true e) (by omega)) fun _ => ?_⟩
        exact ⟨_, _, _, rfl, sy, hl2, Nat.le_succ_of_le few.1, few.2⟩
      · have st : stepQ acc (n, f0) = acc ++ [if acc = [] then far n f0 else "+ " ++ far n f0] := by
          unfold stepQ
          rw [if_pos (show 0 < f0 from pos)]
        rw [st]
        have zl : (if acc = [] then far n f0 else "+ " ++ far n f0).length ≤ 4000 := by
          split
          · omega
          · rw [str_app_len, b2]; omega
        generalize ez : (if acc = [] then far n f0 else "+ " ++ far n f0) = z at *
        refine ⟨_, rfl, f0, 0, rfl, rfl, _, rfl, ite2 (fun _ => ?_) (fun e => absurd (decide_eq_true pos) e)⟩
        refine ⟨_, rfl, ty_l (tofL hl2), fun x Hq => x = .str z ∧ Same H' Hq, ?_, ?_⟩
        · refine ⟨_, rfl, Nat.zero_le _, fun o no => ?_⟩
          have so := Same.new (o := .lst []) no
          refine ⟨.list (acc.map PyData.str), .list (([] : List Str).map PyData.str), .lst (tofL (so _ _ hl2)) (dpa_strs _), .lst (tofL upd_same) (dpa_strs []), plain_strs _, plain_strs _, depth_strs _, _, rfl, ?_⟩
          rw [eqv_strs]
          refine ite2 (fun e => ?_) (fun e => ?_)
          · have e1 : acc = [] := of_decide_eq_true e
            exact ⟨_, rfl, by rw [← ez, if_pos e1], so⟩
          · have e1 : ¬ acc = [] := fun z => e (decide_eq_true z)
            exact ⟨_, rfl, _, _, rfl, rfl, small (by rw [b2]; omega), by rw [← ez, if_neg e1], so⟩
        rintro x Hq ⟨rfl, sq⟩
        obtain ⟨p1, p2⟩ := put Hq acc z (sy.trans sq) (sq _ _ hl2)
        refine ⟨l, _, _, rfl, rfl, sq _ _ hl2, lenF, ?_⟩
        refine ⟨_, rfl, f0, 0, rfl, rfl, _, rfl, ite2 (fun e => absurd (of_decide_eq_true e) (by omega)) fun _ => ?_⟩
        exact ⟨_, _, _, rfl, p1, p2, few' _ zl⟩
    · rintro σ Hx ⟨v3, v4, v5, rfl, sx, hl, few⟩
      rw [List.take_of_length_le (by rw [List.length_zip]; omega)] at hl few
      have e : sumW (ns.zip fs) = if partsQ (ns.zip fs) = [] then ("0" : Str) else Txt.join " " (partsQ (ns.zip fs)) := (sumQ_sumW _).symm
      revert hl few e
      generalize partsQ (ns.zip fs) = ws
      intro hl few e
      refine ⟨_, rfl, Nat.zero_le _, fun o no => ?_⟩
      have so := Same.new (o := .lst []) no
      have hl2 := so _ _ hl
      refine ⟨.list (ws.map PyData.str), .list (([] : List Str).map PyData.str), .lst (tofL hl2) (dpa_strs _), .lst (tofL upd_same) (dpa_strs []), plain_strs _, plain_strs _, depth_strs _, _, rfl, ?_⟩
      rw [eqv_strs]
      refine ite2 (fun e2 => ?_) (fun e2 => ?_)
      · have e1 : ¬ ws = [] := fun z => by rw [z] at e2; exact absurd e2 (by simp)
        rw [if_neg e1] at e
        refine ⟨⟨_, rfl⟩, _, rfl, " ", l, ws, rfl, rfl, .inl (tofL hl2), ?_, ?_⟩
        · have h1 : (ws.map (·.length)).sum ≤ ws.length * 4000 := by
            have sm : ∀ l : List Str, (∀ z ∈ l, z.length ≤ 4000) → (l.map (·.length)).sum ≤ l.length * 4000 := fun l => by
              induction l with
              | nil => intro _; exact Nat.le_refl _
              | cons x r ih =>
                intro h
                have i1 := h x List.mem_cons_self
                have i2 := ih fun z hz => h z (List.mem_cons_of_mem _ hz)
                show x.length + (r.map (·.length)).sum ≤ (r.length + 1) * 4000
                omega
            exact sm _ few.2
          have h2 := few.1
          have h3 : (" " : Str).length = 1 := by decide +kernel
          have k : ws.length * 4000 ≤ 20 * 4000 := Nat.mul_le_mul_right _ (by omega)
          rw [h3]
          omega
        · rw [← e]
          exact q _ (sx.trans so)
      · have e1 : ws = [] := by
          cases ws with
          | nil => rfl
          | cons y r => exact absurd (by rfl) e2
        rw [if_pos e1] at e
        rw [← e]
        exact q _ (sx.trans so)
end
end KW
namespace KW
open PySem PySem.Spec PyProof.Rows L2 GL RZ TL
/-! ### the law's own text of a system -/
def spWritten (K : PySem.W.Frag) : Sp := fun vs H Q _ => ∃ (a b d : Addr) (ns : List Str) (xs ys : List V) (rows : List Row) (rests : List Rst), vs = [.ref a, .ref b, .ref d] ∧ SqT K H a (ns.map V.str) ∧ SqT K H b xs ∧ RowsAt H xs rows ∧ SqT K H d ys ∧ RestsAt H ys rests ∧ Good ns rows rests ∧
  ∀ H', Same H H' → Q (.str (textW ns rows rests)) H'
theorem line_q (x : Str) (c : Int) : x ++ " = " ++ Str.ofString (toString c) = Str.empty ++ x ++ " = " ++ Str.ofString (toString c) := TL.ext_tl (by rw [tl_append, tl_append, tl_append, tl_append, tl_append]; rfl)
theorem line_q2 (x : Str) (m : Int) : x ++ " mod " ++ Str.ofString (toString m) = Str.empty ++ x ++ " mod " ++ Str.ofString (toString m) := TL.ext_tl (by rw [tl_append, tl_append, tl_append, tl_append, tl_append]; rfl)
theorem head_q {ns : List Str} (h : ns ≠ []) : ("names " : Str) ++ Txt.join " " ns = Txt.join " " (("names" : Str) :: ns) := by
  refine TL.ext_tl ?_
  rw [tl_append, tl_joinT, tl_joinT]
  cases ns with
  | nil => exact absurd rfl h
  | cons n r =>
    show tl ("names " : Str) ++ joinL [32] ((n :: r).map tl) = tl ("names" : Str) ++ ([32] ++ joinL [32] ((n :: r).map tl))
    rw [← List.append_assoc]
    congr 1
theorem lines_sum {ns : List Str} {rows : List Row} {rests : List Rst} (g : Good ns rows rests) : ((Txt.join " " (("names" : Str) :: ns) :: linesW ns rows rests).map (·.length)).sum + (Txt.join " " (("names" : Str) :: ns) :: linesW ns rows rests).length * ("\n" : Str).length ≤ 16777216 := by
  obtain ⟨n12, nz, _, _, fr, ft⟩ := g.fine
  have nm5 : ("names" : Str).length = 5 := by decide +kernel
  have b1 : (" " : Str).length = 1 := by decide +kernel
  have c1 : ("\n" : Str).length = 1 := by decide +kernel
  have lj := joinT_len " " 2000 ("names" :: ns) fun z hz => by
    rcases List.mem_cons.mp hz with rfl | hz
    · rw [nm5]; decide
    · exact nz z hz
  rw [List.length_cons, b1] at lj
  have k1 : (ns.length + 1) * (2000 + 1) ≤ 13 * 2001 := Nat.mul_le_mul_right _ (by omega)
  have ln : ∀ z ∈ linesW ns rows rests, z.length ≤ 140000 := fun z hz => by
    rcases List.mem_append.mp hz with hz | hz
    · obtain ⟨r, hr, rfl⟩ := List.mem_map.mp hz
      obtain ⟨e1, e2, e3⟩ := fr r hr
      exact line_len (by omega) e1 nz e2 e3 (fun m z => by cases z)
    · obtain ⟨r, hr, rfl⟩ := List.mem_map.mp hz
      obtain ⟨e1, e2, e3, e4⟩ := ft r hr
      exact line_len (by omega) e1 nz e2 e3 (fun m z => by cases z; exact e4)
  have sm : ∀ l : List Str, (∀ z ∈ l, z.length ≤ 140000) → (l.map (·.length)).sum ≤ l.length * 140000 := fun l => by
    induction l with
    | nil => intro _; exact Nat.le_refl _
    | cons x r ih =>
      intro h
      have i1 := h x List.mem_cons_self
      have i2 := ih fun z hz => h z (List.mem_cons_of_mem _ hz)
      show x.length + (r.map (·.length)).sum ≤ (r.length + 1) * 140000
      omega
  have s0 := sm _ ln
  have l24 : (linesW ns rows rests).length ≤ 24 := by
    unfold linesW
    rw [List.length_append, List.length_map, List.length_map]
    have := g.r12
    have := g.s12
    omega
  have k2 : (linesW ns rows rests).length * 140000 ≤ 24 * 140000 := Nat.mul_le_mul_right _ l24
  rw [List.map_cons, List.sum_cons, List.length_cons, c1]
  omega
section
variable {P : Program} {w : World} {K : PySem.W.Frag} {mg : Str → Option Value} {base : Heap}
abbrev s_written : Stmt := topS 31
theorem sc_written : FnScope ["_law_called_here", "_law_lines", "_law_pieces", "_law_found", "_law_row"] ["_law_called_here", "_law_lines", "_law_pieces"] (defScope s_written) := ⟨rfl, rfl, rfl, by decide +kernel, rfl, by decide +kernel, by decide +kernel⟩
theorem ok_written {f : Addr} {fd : FuncData} (F : Fun K "_law_written" "_law_written" s_written f fd) (gl : mg "_law_written" = some (.ref f)) (T : Bl mg) (D_sum_text : DefG P w K mg base 1 "_law_sum_text" ["_law_called_here", "_law_factors"] (spSumT K)) :
    DefG P w K mg base 2 "_law_written" ["_law_called_here", "_law_lines", "_law_pieces"] (spWritten K) := by
  refine def_mk F gl (F.binds fun _ _ _ _ _ _ us hl => match us, hl with | [_, _, _], _ => rfl) (okG F sc_written (fun vs H Q E h => ?_) fun cdv A outer s H vs Q E hr hc h => ?_)
  · obtain ⟨a, b, d, ns, xs, ys, rows, rests, rfl, _⟩ := h
    rfl
  · obtain ⟨a, b, d, ns, xs, ys, rows, rests, rfl, hA, hB, hX, hD, hY, gd, q⟩ := h
    have nd := sc_written.nd
    have n6 := gd.n6
    have n1 := gd.n1
    have fine := gd.fine
    obtain ⟨_, nz, _, _, fr, ft⟩ := id fine
    refine ⟨_, (pss_cons (ps_set (i := 3) nd rfl (by first | exact Or.inl rfl | exact Or.inr rfl) (pe_lst (pa_cons (pe_op op_add_str pe_str (pe_join pe_str (pv 0))) pa_nil)))
      (pss_cons (ps_expr (pe_bm PySem.F.plainAttrs_list PySem.F.slot_list_extend PySem.F.type_list_extend mt_extend (pv 3) (pa_cons (pe_lc (own := [("_law_row", 4)]) (g := (gName 4)) (tt := tYes) rfl nd (pi_tup (pv 1)) (blkOk_by (own := [("_law_row", 4)]) (N := ["_law_called_here", "_law_lines", "_law_pieces", "_law_found", "_law_row"]) (sc := defScope s_written) (by decide +kernel)) (fun _ _ _ _ _ => (pg_name (i := 4) nd rfl (by first | exact Or.inl rfl | exact Or.inr rfl))) (fun _ _ _ _ _ => pts_nil) (fun _ _ _ _ _ => (pe_op op_add_str (pe_op op_add_str (pe_def D_sum_text (hr.mono (by decide)) hc (by rfl) (pa_cons (pv 0) (pa_cons (pe_ix (G3.ix_tupK (K := K)) (pv 4) pe_int (fun _ _ => rfl)) pa_nil))) pe_str) (pe_callTy call_str_int (by rfl) T.str boot_str (pa_cons (pe_ix (G3.ix_tupK (K := K)) (pv 4) pe_int (fun _ _ => rfl)) pa_nil))))) pa_nil)))
      (pss_cons (ps_for PassesOwn.never rfl (pi_tup (pv 2)) (pg_name (i := 4) nd rfl (by first | exact Or.inl rfl | exact Or.inr rfl))
        (pss_one (ps_expr (pe_bm PySem.F.plainAttrs_list PySem.F.slot_list_append PySem.F.type_list_append mt_append (pv 3) (pa_cons (pe_op op_add_str (pe_op op_add_str (pe_op op_add_str (pe_op op_add_str (pe_def D_sum_text (hr.mono (by decide)) hc (by rfl) (pa_cons (pv 0) (pa_cons (pe_ix ix_tup (pv 4) pe_int (fun _ _ => rfl)) pa_nil))) pe_str) (pe_callTy call_str_int (by rfl) T.str boot_str (pa_cons (pe_ix ix_tup (pv 4) pe_int (fun _ _ => rfl)) pa_nil))) pe_str) (pe_callTy call_str_int (by rfl) T.str boot_str (pa_cons (pe_ix ix_tup (pv 4) pe_int (fun _ _ => rfl)) pa_nil))) pa_nil)))))
      (pss_one (ps_ret (pe_join pe_str (pv 3))))))), ?_⟩
    have b1 : (" " : Str).length = 1 := by decide +kernel
    have b3 : (" = " : Str).length = 3 := by decide +kernel
    have b5 : (" mod " : Str).length = 5 := by decide +kernel
    have b6 : ("names " : Str).length = 6 := by decide +kernel
    have lj := joinT_len " " 2000 ns nz
    have nj : (Txt.join " " ns).length ≤ 12006 := by
      rw [b1] at lj
      have k1 : ns.length * (2000 + 1) ≤ 6 * 2001 := Nat.mul_le_mul_right _ n6
      omega
    have li : ∀ i : Int, i.natAbs.log2 < 1920 → (Str.ofString (toString i)).length ≤ 1930 := fun i hi => by
      rw [PySem.ofString_length]
      exact Nat.le_trans (PySem.int_text_length_le (k := 1920) (by decide) hi) (by decide)
    have nsum : (ns.map (·.length)).sum ≤ 6 * 2000 := by
      have h := Few.sum (k := 6) ⟨n6, nz⟩
      omega
    have hne : ns ≠ [] := fun z => by rw [z] at n1; exact absurd n1 (by decide)
    refine ⟨⟨_, rfl⟩, _, rfl, " ", a, ns, rfl, rfl, .inr hA, by rw [b1]; omega, ?_⟩
    refine ⟨_, _, rfl, rfl, small (by rw [b6]; omega), (show 1 ≤ sizeLine from small (by decide)), fun p np => ?_⟩
    have s1 := Same.new (o := .lst [.str (("names " : Str) ++ Txt.join " " ns)]) np
    have hp : upd H p (.lst [.str (("names " : Str) ++ Txt.join " " ns)]) p = some (.lst [.str (Txt.join " " (("names" : Str) :: ns))]) := by rw [upd_same, head_q hne]
    generalize upd H p (.lst [.str (("names " : Str) ++ Txt.join " " ns)]) = H1 at *
    -- the rows
    refine ⟨_, rfl, ty_l (tofL hp), _, rfl, b, rfl, ⟨_, Same.tup s1 hB⟩, fun D nD => ?_⟩
    have npD : p ≠ D := ne_of_none hp nD
    refine lc_tup (K := K) (a := b) (xs := xs) (fun i H2 => Same H1 H2 ∧ H2 D = some (.lst (((rows.take i).map fun r => lineW ns r.1 r.2 none).map V.str))) ⟨Same.new nD, upd_same⟩ (fun i H2 _ h => Same.tup (s1.trans h.1) hB) ?_ ?_
    · rintro i x H2 hi ⟨s2, hD2⟩
      have s12 := s1.trans s2
      obtain ⟨p1, q1, fs, c, rfl, g1, g2, hr⟩ := (hX.to (tups_same s12)).get hi
      obtain ⟨e1, e2, e3⟩ := fr _ (List.mem_of_getElem? hr)
      have il := (List.getElem?_eq_some_iff.mp hr).1
      have r12 := gd.r12
      have sl := sumW_len (ns.zip fs) (by rw [List.length_zip]; omega) fun p hp => ⟨nz _ (List.of_mem_zip hp).1, e2 _ (List.of_mem_zip hp).2⟩
      have lc := li c e3
      refine ⟨rfl, _, rfl, _, rfl, p1, _, 0, _, rfl, rfl, tofT g1, atI_nat (j := 0) rfl, a, q1, ns, fs, rfl, Same.tup s12 hA, tofT g2, e1, by omega, nz, e2, fun H3 s3 => ?_⟩
      refine ⟨_, _, rfl, rfl, Nat.le_trans (show (sumW (ns.zip fs)).length + (" = " : Str).length ≤ 200000 by rw [b3]; omega) (by decide), _, rfl, p1, _, 1, _, rfl, rfl, tofT (s3 _ _ g1), atI_nat (j := 1) rfl, c, rfl, e3, _, _, rfl, rfl, Nat.le_trans (show (sumW (ns.zip fs) ++ (" = " : Str)).length + (Str.ofString (toString c)).length ≤ 200000 by rw [str_app_len, b3]; omega) (by decide), ?_⟩
      refine ⟨_, s3 _ _ hD2, ?_, ?_, ?_⟩
      · rw [List.length_map, List.length_map, List.length_take]; exact smallt (by omega)
      · intro b' o hb
        rw [upd_ne (ne_of_none hb nD)]
        exact s3 _ _ (s2 _ _ hb)
      · rw [upd_same, List.take_add_one, hr, List.map_append, List.map_append, line_q]; rfl
    rintro H2 ⟨s2, hD2⟩
    rw [hX.len, List.take_of_length_le (Nat.le_refl _)] at hD2
    have hp2 := s2 _ _ hp
    have s12 := s1.trans s2
    refine ⟨p, D, _, _, rfl, rfl, hp2, hD2, small (by rw [List.length_map, List.length_map]; have := gd.r12; show 1 + _ ≤ 100000; omega), ?_⟩
    have np0 : H p = none := np
    have kp : ∀ (Hx : Hp) (o : HO), Same H Hx → Same H (upd Hx p o) := fun Hx o s b' o' hb => by rw [upd_ne (ne_of_none hb np0)]; exact s _ _ hb
    have s3 := kp H2 (.lst ([.str (Txt.join " " (("names" : Str) :: ns))] ++ (rows.map fun r => lineW ns r.1 r.2 none).map V.str)) s12
    have hp3 : upd H2 p (.lst ([.str (Txt.join " " (("names" : Str) :: ns))] ++ (rows.map fun r => lineW ns r.1 r.2 none).map V.str)) p = some (.lst ((Txt.join " " (("names" : Str) :: ns) :: (rows.map fun r => lineW ns r.1 r.2 none)).map V.str)) := upd_same
    generalize upd H2 p (.lst ([.str (Txt.join " " (("names" : Str) :: ns))] ++ (rows.map fun r => lineW ns r.1 r.2 none).map V.str)) = H3 at *
    -- the rests
    refine ⟨_, rfl, d, rfl, ⟨_, Same.tup s3 hD⟩, ?_⟩
    refine for_tup (K := K) (a := d) (xs := ys) (fun i σ Hx => ∃ v4 : Option V, σ = [some (.ref a), some (.ref b), some (.ref d), some (.ref p), v4] ∧ Same H Hx ∧ Hx p = some (.lst ((Txt.join " " (("names" : Str) :: ns) :: ((rows.map fun r => lineW ns r.1 r.2 none) ++ (rests.take i).map fun r => lineW ns r.1 r.2.1 (some r.2.2))).map V.str)))
      ⟨none, rfl, s3, by rw [show (rests.take 0).map (fun r => lineW ns r.1 r.2.1 (some r.2.2)) = [] from rfl, List.append_nil]; exact hp3⟩ (fun i σ Hx _ ⟨_, _, sx, _⟩ => Same.tup sx hD) ?_ ?_
    · rintro i x σ Hx hi ⟨v4, rfl, sx, hpx⟩
      obtain ⟨p1, q1, fs, c, m, rfl, g1, g2, hr⟩ := (hY.to (tups_same sx)).get hi
      obtain ⟨e1, e2, e3, e4⟩ := ft _ (List.mem_of_getElem? hr)
      have il := (List.getElem?_eq_some_iff.mp hr).1
      have r12 := gd.r12
      have s12' := gd.s12
      have sl := sumW_len (ns.zip fs) (by rw [List.length_zip]; omega) fun p hp => ⟨nz _ (List.of_mem_zip hp).1, e2 _ (List.of_mem_zip hp).2⟩
      have lc := li c e3
      have lm := li m e4
      refine ⟨_, rfl, ty_l (tofL hpx), _, rfl, _, rfl, p1, _, 0, _, rfl, rfl, tofT g1, atI_nat (j := 0) rfl, a, q1, ns, fs, rfl, Same.tup sx hA, tofT g2, e1, by omega, nz, e2, fun H4 s4 => ?_⟩
      refine ⟨_, _, rfl, rfl, Nat.le_trans (show (sumW (ns.zip fs)).length + (" = " : Str).length ≤ 200000 by rw [b3]; omega) (by decide), _, rfl, p1, _, 1, _, rfl, rfl, tofT (s4 _ _ g1), atI_nat (j := 1) rfl, c, rfl, e3, _, _, rfl, rfl, Nat.le_trans (show (sumW (ns.zip fs) ++ (" = " : Str)).length + (Str.ofString (toString c)).length ≤ 200000 by rw [str_app_len, b3]; omega) (by decide), ?_⟩
      refine ⟨_, _, rfl, rfl, Nat.le_trans (show (sumW (ns.zip fs) ++ (" = " : Str) ++ Str.ofString (toString c)).length + (" mod " : Str).length ≤ 200000 by rw [str_app_len, str_app_len, b3, b5]; omega) (by decide), _, rfl, p1, _, 2, _, rfl, rfl, tofT (s4 _ _ g1), atI_nat (j := 2) rfl, m, rfl, e4, _, _, rfl, rfl, Nat.le_trans (show (sumW (ns.zip fs) ++ (" = " : Str) ++ Str.ofString (toString c) ++ (" mod " : Str)).length + (Str.ofString (toString m)).length ≤ 200000 by rw [str_app_len, str_app_len, str_app_len, b3, b5]; omega) (by decide), ?_⟩
      refine ⟨p, _, _, rfl, rfl, s4 _ _ hpx, ?_, ?_⟩
      · rw [List.length_map, List.length_cons, List.length_append, List.length_map, List.length_map, List.length_take]; exact smallt (by omega)
      refine ⟨_, rfl, kp _ _ (sx.trans s4), ?_⟩
      rw [upd_same, List.take_add_one, hr, line_q, line_q2]
      refine congrArg (fun z => some (HO.lst z)) ?_
      simp only [List.map_cons, List.map_append, List.append_assoc, List.cons_append]
      rfl
    · rintro σ Hx ⟨v4, rfl, sx, hpx⟩
      rw [hY.len, List.take_of_length_le (Nat.le_refl _)] at hpx
      refine ⟨⟨_, rfl⟩, _, rfl, "\n", p, _, rfl, rfl, .inl (tofL hpx), ?_, ?_⟩
      · exact lines_sum gd
      · exact q Hx sx
end
end KW
namespace KW
open PySem PySem.Spec PyProof.Rows L2 GL RZ TL
def spInteger : Sp := fun vs H Q _ => ∃ (d g : Addr) (n : Int), vs = [.ref d, .int n] ∧ Deck H d g ∧ 0 ≤ n ∧ n < 10 ^ 60 ∧
  ∀ (r : Int) (H' : Hp), r.natAbs ≤ n.natAbs → Deck H' d g → Mv d g H H' → Q (.int r) H'
def spDrawn (K : PySem.W.Frag) : Sp := fun vs H Q _ => ∃ (d g : Addr), vs = [.ref d] ∧ Deck H d g ∧
  ∀ (t a b e : Addr) (ns : List Str) (xs ys : List V) (rows : List Row) (rests : List Rst) (bo : Bool) (H' : Hp), Deck H' d g → Mv d g H H' → H' t = some (.tup [.ref a, .ref b, .ref e, .bl bo]) → SqZ K H' a (ns.map V.str) →
    H' b = some (.tup xs) → RowsAt H' xs rows → H' e = some (.tup ys) → RestsAt H' ys rests → Good ns rows rests → Q (.ref t) H'
theorem tups_mv {H H' : Hp} {d g : Addr} (D : Deck H d g) (m : Mv d g H H') : ∀ a xs, H a = some (.tup xs) → H' a = some (.tup xs) := fun a xs h => by
  obtain ⟨k, L, h1, h2, _⟩ := D.ex
  exact m.keep _ _ h (ne_of h h1 (fun z => nomatch z)) (ne_of h h2 (fun z => nomatch z))
section
variable {P : Program} {w : World} {K : PySem.W.Frag} {mg : Str → Option Value} {base : Heap}
abbrev s_integer : Stmt := topS 32
theorem sc_integer : FnScope ["_law_deck_here", "_law_far"] ["_law_deck_here", "_law_far"] (defScope s_integer) := ⟨rfl, rfl, rfl, by decide +kernel, rfl, by decide +kernel, by decide +kernel⟩
theorem ok_integer {f : Addr} {fd : FuncData} (F : Fun K "_law_integer" "_law_integer" s_integer f fd) (gl : mg "_law_integer" = some (.ref f)) (T : Bl mg) (D_draw : DefG P w K mg base 1 "_law_draw" ["_law_deck_here", "_law_many"] spDraw) :
    DefG P w K mg base 2 "_law_integer" ["_law_deck_here", "_law_far"] spInteger := by
  refine def_mk F gl (F.binds fun _ _ _ _ _ _ us hl => match us, hl with | [_, _], _ => rfl) (okG F sc_integer (fun vs H Q E h => ?_) fun cdv A outer s H vs Q E hr hc h => ?_)
  · obtain ⟨d, g, n, rfl, _⟩ := h
    rfl
  · obtain ⟨d, g, n, rfl, D, n0, nB, q⟩ := h
    have nd := sc_integer.nd
    refine ⟨_, (pss_one (ps_ret (pe_op op_sub (pe_def D_draw (hr.mono (by decide)) hc (by rfl) (pa_cons (pv 0) (pa_cons (pe_op op_add (pe_op op_mulW pe_int (pv 1)) pe_int) pa_nil))) (pv 1)))), ?_⟩
    have nn : n.natAbs < 2 ^ 210 := Nat.lt_trans (show n.natAbs < 10 ^ 60 by omega) (by decide +kernel)
    have n2 : 2 * n + 1 < 2 ^ 250 := by
      have : (2 : Int) * 10 ^ 60 + 1 < 2 ^ 250 := by decide +kernel
      omega
    refine ⟨_, rfl, _, rfl, 2, n, rfl, rfl, wide_mul (a := 2) (b := 210) (by decide) nn (by decide) (by decide) (by decide), _, _, rfl, rfl, d, g, _, rfl, D, by omega, n2, fun r H' r0 r1 D' M => ?_⟩
    exact ⟨_, rfl, r, n, rfl, rfl, q _ _ (by omega) D' M⟩
abbrev s_drawn : Stmt := topS 33
theorem sc_drawn : FnScope ["_law_deck_here", "_law_many", "_law_called_here", "_law_far", "_law_lines", "_law_pieces", "_law_near", "_law_k", "_law_factors", "_law_at", "_law_by"] ["_law_deck_here"] (defScope s_drawn) := ⟨rfl, rfl, rfl, by decide +kernel, rfl, by decide +kernel, by decide +kernel⟩
theorem ok_drawn {f : Addr} {fd : FuncData} (F : Fun K "_law_drawn" "_law_drawn" s_drawn f fd) (gl : mg "_law_drawn" = some (.ref f)) (T : Bl mg) (D_draw : DefG P w K mg base 1 "_law_draw" ["_law_deck_here", "_law_many"] spDraw)
    (D_pick : DefG P w K mg base 2 "_law_pick" ["_law_deck_here", "_law_some"] spPickL) (D_called : DefG P w K mg base 3 "_law_called" ["_law_deck_here", "_law_many"] (spCalled K)) (D_integer : DefG P w K mg base 2 "_law_integer" ["_law_deck_here", "_law_far"] spInteger) :
    DefG P w K mg base 4 "_law_drawn" ["_law_deck_here"] (spDrawn K) := by
  refine def_mk F gl (F.binds fun _ _ _ _ _ _ us hl => match us, hl with | [_], _ => rfl) (okG F sc_drawn (fun vs H Q E h => ?_) fun cdv A outer s H vs Q E hr hc h => ?_)
  · obtain ⟨d, g, rfl, _⟩ := h
    rfl
  · obtain ⟨d, g, rfl, D, q⟩ := h
    have nd := sc_drawn.nd
    refine ⟨_, (pss_cons (ps_set (i := 1) nd rfl (by first | exact Or.inl rfl | exact Or.inr rfl) (pe_op op_add pe_int (pe_def D_draw (hr.mono (by decide)) hc (by rfl) (pa_cons (pv 0) (pa_cons pe_int pa_nil)))))
      (pss_cons (ps_asg (pe_tup (pa_cons (pe_def D_called (hr.mono (by decide)) hc (by rfl) (pa_cons (pv 0) (pa_cons (pv 1) pa_nil))) (pa_cons (pe_def D_pick (hr.mono (by decide)) hc (by rfl) (pa_cons (pv 0) (pa_cons (pe_lst (pa_cons pe_int (pa_cons pe_int (pa_cons pe_int (pa_cons pe_int (pa_cons (pe_op op_pow pe_int pe_int) (pa_cons (pe_op op_sub (pe_op op_pow pe_int pe_int) pe_int) pa_nil))))))) pa_nil))) pa_nil))) (pg_tup rfl (pgs_cons (pg_name (i := 2) nd rfl (by first | exact Or.inl rfl | exact Or.inr rfl)) (pgs_cons (pg_name (i := 3) nd rfl (by first | exact Or.inl rfl | exact Or.inr rfl)) pgs_nil))))
      (pss_cons (ps_par (i := 4) (j := 5) rfl nd rfl rfl (by decide) rfl rfl (pa_cons (pe_lst pa_nil) (pa_cons (pe_lst pa_nil) pa_nil)) rfl)
      (pss_cons (ps_set (i := 6) nd rfl (by first | exact Or.inl rfl | exact Or.inr rfl) (pe_cutE (pe_ifExp (pt_cmpR op_lt (pv 3) pe_int (nomark _)) pe_int (pe_op op_add (pv 3) pe_int))))
      (pss_cons (ps_for PassesOwn.never rfl (pi_range1 (by rfl) T.range (pa_cons (pe_def D_draw (hr.mono (by decide)) hc (by rfl) (pa_cons (pv 0) (pa_cons pe_int pa_nil))) pa_nil)) (pg_name (i := 7) nd rfl (by first | exact Or.inl rfl | exact Or.inr rfl))
        (pss_cons (ps_setLc (i := 8) (own := [("_law_at", 9)]) (g := (gName 9)) (tt := tYes) rfl nd rfl rfl (sw_true rfl rfl rfl (by decide +kernel)) (pi_range1 (by rfl) T.range (pa_cons (pv 1) pa_nil)) (blkOk_by (own := [("_law_at", 9)]) (N := ["_law_deck_here", "_law_many", "_law_called_here", "_law_far", "_law_lines", "_law_pieces", "_law_near", "_law_k", "_law_factors", "_law_at", "_law_by"]) (sc := defScope s_drawn) (by decide +kernel)) (fun _ _ _ _ _ => (pg_name (i := 9) nd rfl (by first | exact Or.inl rfl | exact Or.inr rfl))) (fun _ _ _ _ _ => pts_nil) (fun _ _ _ _ _ => (pe_op op_mulW (pe_def D_integer (hr.mono (by decide)) hc (by rfl) (pa_cons (pv 0) (pa_cons (pv 3) pa_nil))) (pe_callTy call_int1 (by rfl) T.int boot_int (pa_cons (pe_cmpR op_gt (pe_def D_draw (hr.mono (by decide)) hc (by rfl) (pa_cons (pv 0) (pa_cons pe_int pa_nil))) pe_int (nomark _)) pa_nil)))))
        (pss_one (ps_expr (pe_bm PySem.F.plainAttrs_list PySem.F.slot_list_append PySem.F.type_list_append mt_append (pv 4) (pa_cons (pe_tup (pa_cons (pe_tupleOf (by rfl) T.tuple (pv 8)) (pa_cons (pe_def D_integer (hr.mono (by decide)) hc (by rfl) (pa_cons (pv 0) (pa_cons (pe_op op_sub (pv 6) pe_int) pa_nil))) pa_nil))) pa_nil))))))
      (pss_cons (ps_for PassesOwn.never rfl (pi_range1 (by rfl) T.range (pa_cons (pe_def D_draw (hr.mono (by decide)) hc (by rfl) (pa_cons (pv 0) (pa_cons pe_int pa_nil))) pa_nil)) (pg_name (i := 7) nd rfl (by first | exact Or.inl rfl | exact Or.inr rfl))
        (pss_cons (ps_setLc (i := 8) (own := [("_law_at", 9)]) (g := (gName 9)) (tt := tYes) rfl nd rfl rfl (sw_true rfl rfl rfl (by decide +kernel)) (pi_range1 (by rfl) T.range (pa_cons (pv 1) pa_nil)) (blkOk_by (own := [("_law_at", 9)]) (N := ["_law_deck_here", "_law_many", "_law_called_here", "_law_far", "_law_lines", "_law_pieces", "_law_near", "_law_k", "_law_factors", "_law_at", "_law_by"]) (sc := defScope s_drawn) (by decide +kernel)) (fun _ _ _ _ _ => (pg_name (i := 9) nd rfl (by first | exact Or.inl rfl | exact Or.inr rfl))) (fun _ _ _ _ _ => pts_nil) (fun _ _ _ _ _ => (pe_op op_mulW (pe_def D_integer (hr.mono (by decide)) hc (by rfl) (pa_cons (pv 0) (pa_cons (pv 3) pa_nil))) (pe_callTy call_int1 (by rfl) T.int boot_int (pa_cons (pe_cmpR op_gt (pe_def D_draw (hr.mono (by decide)) hc (by rfl) (pa_cons (pv 0) (pa_cons pe_int pa_nil))) pe_int (nomark _)) pa_nil)))))
        (pss_cons (ps_set (i := 10) nd rfl (by first | exact Or.inl rfl | exact Or.inr rfl) (pe_op op_add pe_int (pe_def D_draw (hr.mono (by decide)) hc (by rfl) (pa_cons (pv 0) (pa_cons (pe_cutE (pe_ifExp (pt_cmpR op_lt (pv 3) pe_int (nomark _)) pe_int (pe_op op_sub (pv 3) pe_int))) pa_nil)))))
        (pss_one (ps_expr (pe_bm PySem.F.plainAttrs_list PySem.F.slot_list_append PySem.F.type_list_append mt_append (pv 5) (pa_cons (pe_tup (pa_cons (pe_tupleOf (by rfl) T.tuple (pv 8)) (pa_cons (pe_def D_integer (hr.mono (by decide)) hc (by rfl) (pa_cons (pv 0) (pa_cons (pe_op op_sub (pv 6) pe_int) pa_nil))) (pa_cons (pv 10) pa_nil)))) pa_nil)))))))
      (pss_one (ps_ret (pe_tup (pa_cons (pv 2) (pa_cons (pe_tupleOf (by rfl) T.tuple (pv 4)) (pa_cons (pe_tupleOf (by rfl) T.tuple (pv 5)) (pa_cons (pe_cmpR op_lt (pv 3) pe_int (nomark _)) pa_nil))))))))))))), ?_⟩
    refine ⟨_, rfl, d, g, 6, rfl, D, by decide, by decide, fun r6 H1 r60 r61 D1 M1 => ⟨1, r6, rfl, rfl, ?_⟩⟩
    refine ⟨_, rfl, _, rfl, d, g, _, rfl, D1, by omega, by omega, fun tn ns H2 D2 M2 hN nl nm nnd => ?_⟩
    refine ⟨_, rfl, 10, 30, rfl, rfl, ⟨by decide, by decide, by decide⟩, 10, 60, rfl, rfl, ⟨by decide, by decide, by decide⟩, _, 1, rfl, rfl, (show 6 ≤ sizeLine from small (by decide)), fun p np => ?_⟩
    have off := D2.off np
    refine ⟨d, g, p, _, rfl, D2.new np, upd_same, off.2, (fun z => nomatch z), (show 6 ≤ 1000 by decide), fun x H3 hx D3 M3 => ?_⟩
    have hk : ∃ k : Int, x = .int k ∧ 1 ≤ k ∧ k < 10 ^ 60 ∧ (k < 10 ∨ 40 ≤ k) := by
      rcases List.mem_cons.mp hx with rfl | hx
      · exact ⟨1, rfl, by decide, by decide +kernel, .inl (by decide)⟩
      rcases List.mem_cons.mp hx with rfl | hx
      · exact ⟨9, rfl, by decide, by decide +kernel, .inl (by decide)⟩
      rcases List.mem_cons.mp hx with rfl | hx
      · exact ⟨9, rfl, by decide, by decide +kernel, .inl (by decide)⟩
      rcases List.mem_cons.mp hx with rfl | hx
      · exact ⟨40, rfl, by decide, by decide +kernel, .inr (by decide)⟩
      rcases List.mem_cons.mp hx with rfl | hx
      · exact ⟨_, rfl, by decide +kernel, by decide +kernel, .inr (by decide +kernel)⟩
      rcases List.mem_cons.mp hx with rfl | hx
      · exact ⟨_, rfl, by decide +kernel, by decide +kernel, .inr (by decide +kernel)⟩
      · cases hx
    obtain ⟨k, rfl, k1, kB, k40⟩ := hk
    refine ⟨(show 2 ≤ sizeLine from small (by decide)), fun t1 nt1 => ?_⟩
    refine ⟨t1, _, rfl, tofT upd_same, rfl, _, _, rfl, _, _, rfl, rfl, ?_⟩
    have M03 : Mv d g H (upd H3 t1 (.tup [.ref tn, .int k])) := M1.trans (M2.trans ((Mv.of (Same.new np)).trans (M3.trans (Mv.of (Same.new nt1)))))
    have hN3 : SqZ K (upd H3 t1 (.tup [.ref tn, .int k])) tn (ns.map V.str) := (Kp.of (Same.new nt1)).z ((Kp.mv (D2.new np) M3).z ((Kp.of (Same.new np)).z hN))
    have D4 := D3.new (o := .tup [.ref tn, .int k]) nt1
    generalize upd H3 t1 (.tup [.ref tn, .int k]) = H4 at *
    -- lines, pieces
    refine ⟨Nat.zero_le _, fun pl npl => ⟨Nat.zero_le _, fun pp npp => ⟨_, _, rfl, ?_⟩⟩⟩
    have offl := D4.off npl
    have offp := (D4.new npl).off npp
    have nlp : pl ≠ pp := ne_of_none upd_same npp
    have npp0 : H4 pp = none := (Same.new npl).free npp
    have npl0 := M03.free D D4 npl
    have npp1 := M03.free D D4 npp0
    have D5 := (D4.new (o := .lst []) npl).new (o := .lst []) npp
    have M5 : Mv d g H4 (upd (upd H4 pl (.lst [])) pp (.lst [])) := Mv.of ((Same.new npl).trans (Same.new npp))
    have hl5 : upd (upd H4 pl (.lst [])) pp (.lst []) pl = some (.lst []) := by rw [upd_ne nlp]; exact upd_same
    have hp5 : upd (upd H4 pl (.lst [])) pp (.lst []) pp = some (.lst []) := upd_same
    generalize upd (upd H4 pl (.lst [])) pp (.lst []) = H5 at *
    -- near
    refine ⟨fun x H' => (∃ nr : Int, x = .int nr ∧ 2 ≤ nr ∧ nr ≤ 10 ^ 60) ∧ H' = H5, ?_, ?_⟩
    · refine ⟨_, rfl, k, 10, rfl, rfl, _, rfl, ite2 (fun e => ⟨⟨41, rfl, by decide, by decide +kernel⟩, rfl⟩) (fun e => ⟨_, rfl, k, 1, rfl, rfl, ⟨_, rfl, by omega, by omega⟩, rfl⟩)⟩
    rintro x H' ⟨⟨nr, rfl, nr1, nr2⟩, rfl⟩
    -- the rows
    refine ⟨_, rfl, d, g, 5, rfl, D5, by decide, by decide, fun r5 H6 r50 r51 D6 M6 => ⟨r5, rfl, by omega, by omega, ?_⟩⟩
    have M06 : Mv d g H H6 := M03.trans (M5.trans M6)
    have hN6 : SqZ K H6 tn (ns.map V.str) := (Kp.mv D5 M6).z ((Kp.mv D4 M5).z hN3)
    refine for_range (fun i σ Hx => Deck Hx d g ∧ Mv d g H Hx ∧ ∃ (xs : List V) (rows : List Row) (v7 v8 v9 v10 : Option V), σ = [some (.ref d), some (.int (1 + r6)), some (.ref tn), some (.int k), some (.ref pl), some (.ref pp), some (.int nr), v7, v8, v9, v10] ∧
        SqZ K Hx tn (ns.map V.str) ∧ Hx pl = some (.lst xs) ∧ RowsAt Hx xs rows ∧ rows.length = i ∧ (∀ r ∈ rows, GoodR ns.length r) ∧ Hx pp = some (.lst []))
      ⟨D6, M06, [], [], none, none, none, none, rfl, hN6, M6.at hl5 offl, .nil, rfl, (fun z hz => nomatch hz), M6.at hp5 offp⟩ ?_ ?_
    · rintro i σ Hx hi ⟨Dx, Mx, xs, rows, v7, v8, v9, v10, rfl, hNx, hl, hr, hrl, hf, hp⟩
      refine ⟨_, rfl, 1 + r6, rfl, by omega, by omega, fun Df nDf => ?_⟩
      have offf := Dx.off nDf
      have nDf0 := Mx.free D Dx nDf
      refine lc_range (fun j H2 => Deck H2 d g ∧ Mv d g Hx H2 ∧ ∃ fs : List Int, H2 Df = some (.lst (fs.map V.int)) ∧ fs.length = j ∧ ∀ f ∈ fs, f.natAbs ≤ k.natAbs) ⟨Dx.new nDf, Mv.of (Same.new nDf), [], upd_same, rfl, fun f hf => nomatch hf⟩ ?_ ?_
      · rintro j H2 hj ⟨D2, M2, fs, hD, hfl, hfs⟩
        refine ⟨rfl, _, rfl, _, rfl, d, g, k, rfl, D2, by omega, kB, fun r1 Ha hr1 Da Ma => ?_⟩
        refine ⟨_, rfl, d, g, 3, rfl, Da, by decide, by decide, fun r3 Hb r30 r31 Db Mb => ⟨r3, 0, rfl, rfl, .inr ⟨_, rfl, ?_⟩⟩⟩
        have w1 : r1.natAbs < 2 ^ 210 := Nat.lt_of_le_of_lt hr1 (Nat.lt_trans (show k.natAbs < 10 ^ 60 by omega) (by decide +kernel))
        have w2 : (if decide (0 < r3) = true then (1 : Int) else 0).natAbs ≤ 1 := by split <;> decide
        refine ⟨r1, _, rfl, rfl, wide_mul (a := 210) (b := 2) w1 (Nat.lt_of_le_of_lt w2 (by decide)) (by decide) (by decide) (by decide), ?_⟩
        have pr : (r1 * (if decide (0 < r3) = true then (1 : Int) else 0)).natAbs ≤ k.natAbs := by
          rw [Int.natAbs_mul]
          exact Nat.le_trans (Nat.mul_le_mul_left _ w2) (by rw [Nat.mul_one]; exact hr1)
        refine ⟨_, Mb.at (Ma.at hD offf) offf, ?_, Db.mut offf, (M2.trans (Ma.trans Mb)).mut nDf, fs ++ [r1 * (if decide (0 < r3) = true then (1 : Int) else 0)], ?_, ?_, ?_⟩
        · rw [List.length_map]; exact smallt (by omega)
        · rw [upd_same, List.map_append]; rfl
        · rw [List.length_append, hfl]; rfl
        · intro f hf
          rcases List.mem_append.mp hf with hf | hf
          · exact hfs f hf
          · rw [List.mem_singleton.mp hf]; exact pr
      rintro H2 ⟨D2, M2, fs, hD, hfl, hfs⟩
      refine ⟨_, rfl, ty_l (tofL (M2.at hl offl)), _, rfl, .inl ⟨Df, _, rfl, tofL hD, fun tf ntf => ?_⟩⟩
      have D3' := D2.new (o := .tup (fs.map V.int)) ntf
      refine ⟨_, rfl, _, rfl, nr, 1, rfl, rfl, d, g, _, rfl, D3', by omega, by omega, fun c Hz hc' Dz Mz => ⟨(show 2 ≤ sizeLine from small (by decide)), fun t nt => ?_⟩⟩
      have Mxz : Mv d g Hx Hz := M2.trans ((Mv.of (Same.new ntf)).trans Mz)
      have hlz : Hz pl = some (.lst xs) := Mxz.at hl offl
      have htf : Hz tf = some (.tup (fs.map V.int)) := tups_mv D3' Mz _ _ upd_same
      have ntl : pl ≠ t := ne_of_none hlz nt
      have ntp : pp ≠ t := ne_of_none (Mxz.at hp offp) nt
      refine ⟨pl, _, _, rfl, rfl, by rw [upd_ne ntl]; exact hlz, by rw [hr.len]; exact smallt (by omega), (Dz.new nt).mut offl, ((Mx.trans Mxz).trans (Mv.of (Same.new nt))).mut npl0, xs ++ [.ref t], rows ++ [(fs, c)], _, _, _, _, rfl, ?_, upd_same, ?_, ?_, ?_, ?_⟩
      · exact (Kp.mv Dx Mxz).z hNx |>.to fun o e => by
          rw [upd_ne (fun z => by rw [z, hlz] at e; cases e), upd_ne (ne_of_none e nt)]; exact e
      · have kt : ∀ a ys, Hx a = some (.tup ys) → upd (upd Hz t (.tup [.ref tf, .int c])) pl (.lst (xs ++ [.ref t])) a = some (.tup ys) := fun a ys ha => by
          rw [upd_ne (ne_of ha hl (fun z => nomatch z))]
          exact Same.new nt _ _ (tups_mv Dx Mxz _ _ ha)
        refine RowsAt.snoc (q := tf) ?_ ?_ (hr.to kt)
        · rw [upd_ne ntl.symm]; exact upd_same
        · rw [upd_ne (ne_of htf hlz (fun z => nomatch z))]
          exact Same.new nt _ _ htf
      · rw [List.length_append, hrl]; rfl
      · intro z hz
        rcases List.mem_append.mp hz with hz | hz
        · exact hf z hz
        · rw [List.mem_singleton.mp hz]
          exact ⟨by show ns.length = fs.length; omega, fun f hf' => by have := hfs f hf'; omega, by show c.natAbs < 10 ^ 60; omega⟩
      · rw [upd_ne nlp.symm, upd_ne ntp]
        exact Mxz.at hp offp
    rintro σ H7 ⟨D7, M7, xs, rows, v7, v8, v9, v10, rfl, hN7, hl7, hr7, hrl, fR, hp7⟩
    -- the rests
    refine ⟨_, rfl, d, g, 4, rfl, D7, by decide, by decide, fun r4 H8 r40 r41 D8 M8 => ⟨r4, rfl, by omega, by omega, ?_⟩⟩
    refine for_range (fun i σ Hx => Deck Hx d g ∧ Mv d g H Hx ∧ ∃ (ys : List V) (rests : List Rst) (v7 v8 v9 v10 : Option V), σ = [some (.ref d), some (.int (1 + r6)), some (.ref tn), some (.int k), some (.ref pl), some (.ref pp), some (.int nr), v7, v8, v9, v10] ∧
        SqZ K Hx tn (ns.map V.str) ∧ Hx pl = some (.lst xs) ∧ RowsAt Hx xs rows ∧ Hx pp = some (.lst ys) ∧ RestsAt Hx ys rests ∧ rests.length = i ∧ (∀ r ∈ rests, GoodS ns.length r))
      ⟨D8, M7.trans M8, [], [], v7, v8, v9, v10, rfl, (Kp.mv D7 M8).z hN7, M8.at hl7 offl, hr7.to (tups_mv D7 M8), M8.at hp7 offp, .nil, rfl, (fun z hz => nomatch hz)⟩ ?_ ?_
    · rintro i σ Hx hi ⟨Dx, Mx, ys, rests, v7, v8, v9, v10, rfl, hNx, hl, hr, hp, hs, hsl, hf⟩
      refine ⟨_, rfl, 1 + r6, rfl, by omega, by omega, fun Df nDf => ?_⟩
      have offf := Dx.off nDf
      have nDf0 := Mx.free D Dx nDf
      refine lc_range (fun j H2 => Deck H2 d g ∧ Mv d g Hx H2 ∧ ∃ fs : List Int, H2 Df = some (.lst (fs.map V.int)) ∧ fs.length = j ∧ ∀ f ∈ fs, f.natAbs ≤ k.natAbs) ⟨Dx.new nDf, Mv.of (Same.new nDf), [], upd_same, rfl, fun f hf => nomatch hf⟩ ?_ ?_
      · rintro j H2 hj ⟨D2, M2, fs, hD, hfl, hfs⟩
        refine ⟨rfl, _, rfl, _, rfl, d, g, k, rfl, D2, by omega, kB, fun r1 Ha hr1 Da Ma => ?_⟩
        refine ⟨_, rfl, d, g, 3, rfl, Da, by decide, by decide, fun r3 Hb r30 r31 Db Mb => ⟨r3, 0, rfl, rfl, .inr ⟨_, rfl, ?_⟩⟩⟩
        have w1 : r1.natAbs < 2 ^ 210 := Nat.lt_of_le_of_lt hr1 (Nat.lt_trans (show k.natAbs < 10 ^ 60 by omega) (by decide +kernel))
        have w2 : (if decide (0 < r3) = true then (1 : Int) else 0).natAbs ≤ 1 := by split <;> decide
        refine ⟨r1, _, rfl, rfl, wide_mul (a := 210) (b := 2) w1 (Nat.lt_of_le_of_lt w2 (by decide)) (by decide) (by decide) (by decide), ?_⟩
        have pr : (r1 * (if decide (0 < r3) = true then (1 : Int) else 0)).natAbs ≤ k.natAbs := by
          rw [Int.natAbs_mul]
          exact Nat.le_trans (Nat.mul_le_mul_left _ w2) (by rw [Nat.mul_one]; exact hr1)
        refine ⟨_, Mb.at (Ma.at hD offf) offf, ?_, Db.mut offf, (M2.trans (Ma.trans Mb)).mut nDf, fs ++ [r1 * (if decide (0 < r3) = true then (1 : Int) else 0)], ?_, ?_, ?_⟩
        · rw [List.length_map]; exact smallt (by omega)
        · rw [upd_same, List.map_append]; rfl
        · rw [List.length_append, hfl]; rfl
        · intro f hf
          rcases List.mem_append.mp hf with hf | hf
          · exact hfs f hf
          · rw [List.mem_singleton.mp hf]; exact pr
      rintro H2 ⟨D2, M2, fs, hD, hfl, hfs⟩
      -- the modulus
      refine ⟨_, rfl, fun x H' => (∃ m : Int, x = .int m ∧ 1 ≤ m ∧ m < 10 ^ 60 - 1) ∧ H' = H2, ?_, ?_⟩
      · refine ⟨_, rfl, k, 10, rfl, rfl, _, rfl, ite2 (fun e => ⟨⟨11, rfl, by decide, by decide +kernel⟩, rfl⟩) (fun e => ?_)⟩
        have e : ¬ k < 10 := fun z => e (decide_eq_true z)
        exact ⟨_, rfl, k, 1, rfl, rfl, ⟨k - 1, rfl, by omega, by omega⟩, rfl⟩
      rintro x H' ⟨⟨m, rfl, m1, m2⟩, rfl⟩
      have mB : m < 2 ^ 250 := Int.lt_trans m2 (by decide +kernel)
      refine ⟨d, g, m, rfl, D2, by omega, mB, fun r Hm r0 r1 Dm Mm => ⟨2, r, rfl, rfl, ?_⟩⟩
      have hDm := Mm.at hD offf
      have M2m := M2.trans Mm
      refine ⟨_, rfl, ty_l (tofL (M2m.at hp offp)), _, rfl, .inl ⟨Df, _, rfl, tofL hDm, fun tf ntf => ?_⟩⟩
      have D3' := Dm.new (o := .tup (fs.map V.int)) ntf
      refine ⟨_, rfl, _, rfl, nr, 1, rfl, rfl, d, g, _, rfl, D3', by omega, by omega, fun c Hz hc' Dz Mz => ⟨_, rfl, (show 3 ≤ sizeLine from small (by decide)), fun t nt => ?_⟩⟩
      have Mxz : Mv d g Hx Hz := M2m.trans ((Mv.of (Same.new ntf)).trans Mz)
      have hpz : Hz pp = some (.lst ys) := Mxz.at hp offp
      have hlz : Hz pl = some (.lst xs) := Mxz.at hl offl
      have htf : Hz tf = some (.tup (fs.map V.int)) := tups_mv D3' Mz _ _ upd_same
      have ntl : pl ≠ t := ne_of_none hlz nt
      have ntp : pp ≠ t := ne_of_none hpz nt
      have kt : ∀ a zs, Hx a = some (.tup zs) → upd (upd Hz t (.tup [.ref tf, .int c, .int (2 + r)])) pp (.lst (ys ++ [.ref t])) a = some (.tup zs) := fun a zs ha => by
        rw [upd_ne (ne_of ha hp (fun z => nomatch z))]
        exact Same.new nt _ _ (tups_mv Dx Mxz _ _ ha)
      refine ⟨pp, _, _, rfl, rfl, by rw [upd_ne ntp]; exact hpz, by rw [hs.len]; exact smallt (by omega), (Dz.new nt).mut offp, ((Mx.trans Mxz).trans (Mv.of (Same.new nt))).mut npp1, ys ++ [.ref t], rests ++ [(fs, c, 2 + r)], _, _, _, _, rfl, ?_, ?_, hr.to kt, upd_same, ?_, ?_, ?_⟩
      · exact (Kp.mv Dx Mxz).z hNx |>.to fun o e => by
          rw [upd_ne (fun z => by rw [z, hpz] at e; cases e), upd_ne (ne_of_none e nt)]; exact e
      · rw [upd_ne nlp, upd_ne ntl]; exact hlz
      · refine RestsAt.snoc (q := tf) ?_ ?_ (hs.to kt)
        · rw [upd_ne ntp.symm]; exact upd_same
        · rw [upd_ne (ne_of htf hpz (fun z => nomatch z))]
          exact Same.new nt _ _ htf
      · rw [List.length_append, hsl]; rfl
      · intro z hz
        rcases List.mem_append.mp hz with hz | hz
        · exact hf z hz
        · rw [List.mem_singleton.mp hz]
          exact ⟨by show ns.length = fs.length; omega, fun f hf' => by have := hfs f hf'; omega, by show c.natAbs < 10 ^ 60; omega, by show 2 ≤ 2 + r; omega, by show (2 + r).natAbs < 10 ^ 60; omega⟩
    rintro σ H9 ⟨D9, M9, ys, rests, v7, v8, v9, v10, rfl, hN9, hl9, hr9, hp9, hs9, hsl, fS⟩
    refine ⟨_, rfl, _, rfl, .inl ⟨pl, xs, rfl, tofL hl9, fun tl ntl => ⟨_, rfl, .inl ⟨pp, ys, rfl, tofL (Same.new ntl _ _ hp9), fun tp ntp => ?_⟩⟩⟩⟩
    have s9 := (Same.new (o := .tup xs) ntl).trans (Same.new (o := .tup ys) ntp)
    have h9l : upd (upd H9 tl (.tup xs)) tp (.tup ys) tl = some (.tup xs) := Same.new ntp _ _ upd_same
    have h9p : upd (upd H9 tl (.tup xs)) tp (.tup ys) tp = some (.tup ys) := upd_same
    have D10 := (D9.new (o := .tup xs) ntl).new (o := .tup ys) ntp
    generalize upd (upd H9 tl (.tup xs)) tp (.tup ys) = Hc at *
    refine ⟨_, rfl, k, 10, rfl, rfl, (show 4 ≤ sizeLine from small (by decide)), fun t nt => ?_⟩
    have st := Same.new (o := .tup [.ref tn, .ref tl, .ref tp, .bl (decide (k < 10))]) nt
    have s10 := s9.trans st
    exact q t tn tl tp ns xs ys rows rests _ _ (D10.new nt) (M9.trans (Mv.of s10)) upd_same ((Kp.of s10).z hN9) (st _ _ h9l) (hr9.to (Kp.of s10).tups) (st _ _ h9p) (hs9.to (Kp.of s10).tups)
      ⟨by omega, by omega, nnd, nm, by omega, by omega, fR, fS⟩
end
end KW
namespace KW
open PySem PySem.Spec PyProof.Rows L2 GL RZ TL
/-! ### rows as they are written, word by word -/
theorem digits_back : ∀ (n : Nat) (cs : List Nat), cs.length = n → NumText.AllDigits cs → cs ≠ [] → (cs = [48] ∨ cs[0]? ≠ some 48) → numL (NumText.digitsVal cs) = cs := fun n => by
  induction n with
  | zero => intro cs h _ ne _; exact absurd (List.eq_nil_of_length_eq_zero h) ne
  | succ k ih =>
    intro cs hl hd ne h0
    obtain ⟨init, d, rfl⟩ : ∃ r a, cs = r ++ [a] := ⟨cs.dropLast, cs.getLast ne, (List.dropLast_concat_getLast ne).symm⟩
    have dd := hd d (by simp)
    have ev : NumText.digitsVal (init ++ [d]) = NumText.digitsVal init * 10 + (d - 48) := by
      show (init ++ [d]).foldl (fun acc c => acc * 10 + (c - 48)) 0 = _
      rw [List.foldl_append]; rfl
    rw [ev]
    cases init with
    | nil =>
      show numL (0 * 10 + (d - 48)) = [d]
      rw [numL_lt (by omega)]
      congr 1
      omega
    | cons a r =>
      have h1 : (a :: r)[0]? ≠ some 48 := by
        rcases h0 with h0 | h0
        · have := congrArg List.length h0
          simp at this
        · exact h0
      have i := ih (a :: r) (by rw [List.length_append] at hl; simpa using hl) (fun c hc => hd c (List.mem_append_left _ hc)) (by simp) (.inr h1)
      generalize hv : NumText.digitsVal (a :: r) = v at i
      have v1 : v ≠ 0 := fun z => by
        rw [z, numL_lt (by decide)] at i
        rw [← i] at h1
        exact h1 rfl
      rw [numL_step (by omega), show (v * 10 + (d - 48)) / 10 = v by omega, show (v * 10 + (d - 48)) % 10 = d - 48 by omega, i, show 48 + (d - 48) = d by omega]
theorem num_back {z : Str} (h : natB z = true) : z = numT (valN z).natAbs := by
  obtain ⟨d1, d2, d3⟩ := nat_digits h
  refine TL.ext_tl ?_
  rw [tl_numT]
  show tl z = numL ((NumText.digitsVal z.cps.toList : Nat) : Int).natAbs
  rw [Int.natAbs_natCast]
  refine (digits_back _ z.cps.toList rfl d1 d2 ?_).symm
  unfold natB at h
  rw [Bool.and_eq_true] at h
  rcases Bool.or_eq_true_iff.mp h.2 with e | e
  · left
    rw [of_decide_eq_true e]; decide +kernel
  · exact .inr (of_decide_eq_true e)
theorem val_lt {z : Str} (h : natB z = true) : (valN z).natAbs < 10 ^ 60 ∧ 0 ≤ valN z := by
  obtain ⟨d1, _, d3⟩ := nat_digits h
  have := digits_lt z.cps.toList 0 d1
  have l : (10 : Nat) ^ z.cps.toList.length ≤ 10 ^ 60 := Nat.pow_le_pow_right (by decide) d3
  refine ⟨?_, Int.natCast_nonneg _⟩
  show ((NumText.digitsVal z.cps.toList : Nat) : Int).natAbs < _
  rw [Int.natAbs_natCast]
  have e : NumText.digitsVal z.cps.toList = z.cps.toList.foldl (fun acc c => acc * 10 + (c - 48)) 0 := rfl
  omega
def Canon (ns : List Str) (fs : List Int) : Prop := fs.length = ns.length ∧ ∀ f ∈ fs, f.natAbs < 10 ^ 60
/-- what stands of pairs where something stands ahead (b), or nothing -/
def restW (b : Bool) (ps : List (Str × Int)) : List Str := if b = true then (real ps).flatMap piece else wordsW ps
/-- one term's words -/
def tmW (b : Bool) (f : Int) (n : Str) : List Str := (if b = false ∧ 0 < f then [] else [sg f]) ++ (numW f ++ [n])
theorem rest_front : ∀ (ps : List (Str × Int)) (b : Bool), restW b ps ≠ [] → ∃ A n f B, ps = A ++ (n, f) :: B ∧ (∀ p ∈ A, p.2 = 0) ∧ f ≠ 0 ∧ restW b ps = tmW b f n ++ restW true B
  | [], b, h => by cases b <;> exact absurd rfl h
  | (n, f) :: r, b, h => by
    by_cases hf : f = 0
    · subst hf
      have e : restW b ((n, 0) :: r) = restW b r := by
        unfold restW
        cases b with
        | true => simp [real]
        | false =>
          show r.foldl stepW (stepW [] (n, 0)) = r.foldl stepW []
          rw [step_zero]
      rw [e] at h ⊢
      obtain ⟨A, m, f, B, e1, e2, e3, e4⟩ := rest_front r b h
      exact ⟨(n, 0) :: A, m, f, B, by rw [e1]; rfl, fun p hp => by rcases List.mem_cons.mp hp with rfl | hp; exact rfl; exact e2 p hp, e3, e4⟩
    · refine ⟨[], n, f, r, rfl, (fun p hp => nomatch hp), hf, ?_⟩
      cases b with
      | true =>
        show (real ((n, f) :: r)).flatMap piece = tmW true f n ++ (real r).flatMap piece
        simp [real, hf, piece, tmW]
      | false =>
        show r.foldl stepW (stepW [] (n, f)) = tmW false f n ++ (real r).flatMap piece
        rw [words_on r _ (step_first_ne hf), step_first hf]
        congr 1
        unfold tmW piece sg
        by_cases hn : f < 0
        · rw [if_pos hn, if_pos hn, if_neg (by omega)]; rfl
        · rw [if_neg hn, if_neg hn, if_pos ⟨rfl, by omega⟩]; rfl
theorem fold_zero : ∀ (Z : List (Str × Int)) (acc : List Str), (∀ p ∈ Z, p.2 = 0) → Z.foldl stepW acc = acc
  | [], _, _ => rfl
  | (n, f) :: r, acc, h => by
    have hf : f = 0 := h (n, f) List.mem_cons_self
    subst hf
    show r.foldl stepW (stepW acc (n, 0)) = _
    rw [step_zero]
    exact fold_zero r acc fun p hp => h p (List.mem_cons_of_mem _ hp)
theorem words_put {A Z : List (Str × Int)} {n : Str} {f : Int} (hf : f ≠ 0) (hz : ∀ p ∈ Z, p.2 = 0) : wordsW (A ++ (n, f) :: Z) = wordsW A ++ tmW (decide (wordsW A ≠ [])) f n := by
  unfold wordsW
  rw [List.foldl_append, List.foldl_cons, fold_zero Z _ hz]
  generalize A.foldl stepW [] = acc
  by_cases ha : acc = []
  · subst ha
    rw [step_first hf, decide_eq_false (by simp)]
    unfold tmW piece sg
    by_cases hn : f < 0
    · rw [if_pos hn, if_pos hn, if_neg (by omega)]; rfl
    · rw [if_neg hn, if_neg hn, if_pos ⟨rfl, by omega⟩]; rfl
  · rw [step_on ha hf, decide_eq_true ha]
    rfl
theorem zip_split {ns : List Str} {fs : List Int} {j : Nat} {n : Str} {f : Int} (hl : fs.length = ns.length) (hn : ns[j]? = some n) (hf : fs[j]? = some f) :
    ns.zip fs = (ns.take j).zip (fs.take j) ++ (n, f) :: (ns.drop (j + 1)).zip (fs.drop (j + 1)) := by
  have e1 : ns = ns.take j ++ n :: ns.drop (j + 1) := by rw [← drop_cons hn, List.take_append_drop]
  have e2 : fs = fs.take j ++ f :: fs.drop (j + 1) := by
    have hj := (List.getElem?_eq_some_iff.mp hf).1
    have : fs.drop j = f :: fs.drop (j + 1) := by
      rw [List.drop_eq_getElem_cons hj]
      rw [List.getElem?_eq_getElem hj] at hf
      rw [Option.some.inj hf]
    rw [← this, List.take_append_drop]
  conv => lhs; rw [e1, e2]
  rw [List.zip_append (by rw [List.length_take, List.length_take]; omega), List.zip_cons_cons]
/-! ### a term's words tell the term -/
theorem num_nosg {f : Int} (h : 1 < ab f) (hb : f.natAbs < 10 ^ 60) : natB (Str.ofString (toString (ab f))) = true ∧ valN (Str.ofString (toString (ab f))) = (f.natAbs : Int) ∧ 2 ≤ f.natAbs := by
  rw [numT_ab]
  refine ⟨natB_num hb, by rw [valN_num], ?_⟩
  unfold ab at h
  split at h <;> omega
theorem nat_nname {w : Str} (h : natB w = true) : nameB w = false := Bool.eq_false_iff.mpr fun hn => by
  obtain ⟨d1, d2, _⟩ := nat_digits h
  unfold nameB at hn
  rw [Bool.and_eq_true, Bool.and_eq_true] at hn
  have l2 : letB (w.cps.toList.getD 0 0) = true := (Bool.and_eq_true_iff.mp hn.2).1
  have l3 := of_decide_eq_true l2
  have ge : ∀ c ∈ LETTERS.cps.toList, 97 ≤ c := by decide +kernel
  have g1 := ge _ l3
  cases ec : w.cps.toList with
  | nil => exact d2 ec
  | cons c rr =>
    rw [ec] at g1
    have g2 := d1 c (by rw [ec]; exact List.mem_cons_self)
    have g1 : 97 ≤ c := g1
    omega
theorem nat_nsg {w : Str} (h : natB w = true) : isSg w = false := by
  cases e : isSg w with
  | false => rfl
  | true =>
    unfold isSg at e
    rcases Bool.or_eq_true_iff.mp e with e | e
    · rw [of_decide_eq_true e] at h; revert h; decide +kernel
    · rw [of_decide_eq_true e] at h; revert h; decide +kernel
theorem sg_inj {f g : Int} (hf : f ≠ 0) (hg : g ≠ 0) (h : sg f = sg g) : (f < 0 ↔ g < 0) := by
  unfold sg at h
  by_cases a : f < 0
  · by_cases b : g < 0
    · exact ⟨fun _ => b, fun _ => a⟩
    · rw [if_pos a, if_neg b] at h
      exact absurd h (by decide +kernel)
  · by_cases b : g < 0
    · rw [if_neg a, if_pos b] at h
      exact absurd h (by decide +kernel)
    · exact ⟨fun z => absurd z a, fun z => absurd z b⟩
/-- behind the sign -/
theorem tail_inj {f g : Int} {n m : Str} {X Y : List Str} (hf : f ≠ 0) (hg : g ≠ 0) (bf : f.natAbs < 10 ^ 60) (bg : g.natAbs < 10 ^ 60) (hn : nameB n = true) (hm : nameB m = true) (s : f < 0 ↔ g < 0)
    (h : numW f ++ (n :: X) = numW g ++ (m :: Y)) : f = g ∧ n = m ∧ X = Y := by
  have abe : ∀ {f : Int}, ¬ 1 < ab f → f ≠ 0 → f.natAbs = 1 := fun {f} h h0 => by unfold ab at h; split at h <;> omega
  unfold numW at h
  by_cases a : 1 < ab f
  · obtain ⟨a1, a2, a3⟩ := num_nosg a bf
    rw [if_pos a] at h
    by_cases b : 1 < ab g
    · obtain ⟨b1, b2, b3⟩ := num_nosg b bg
      rw [if_pos b] at h
      obtain ⟨h1, h2⟩ := List.cons.inj h
      obtain ⟨h3, h4⟩ := List.cons.inj h2
      have : (f.natAbs : Int) = g.natAbs := by rw [← a2, ← b2, h1]
      exact ⟨by omega, h3, h4⟩
    · rw [if_neg b] at h
      obtain ⟨h1, _⟩ := List.cons.inj h
      rw [h1] at a1
      rw [nat_nname a1] at hm; cases hm
  · rw [if_neg a] at h
    by_cases b : 1 < ab g
    · obtain ⟨b1, b2, b3⟩ := num_nosg b bg
      rw [if_pos b] at h
      obtain ⟨h1, _⟩ := List.cons.inj h
      rw [← h1] at b1
      rw [nat_nname b1] at hn; cases hn
    · rw [if_neg b] at h
      obtain ⟨h1, h2⟩ := List.cons.inj h
      have := abe a hf
      have := abe b hg
      exact ⟨by omega, h1, h2⟩
/-- the first word behind the sign is no sign -/
theorem tail_head {f : Int} {n : Str} (X : List Str) (bf : f.natAbs < 10 ^ 60) (hn : nameB n = true) : ∃ w r, numW f ++ (n :: X) = w :: r ∧ isSg w = false := by
  unfold numW
  by_cases a : 1 < ab f
  · rw [if_pos a]
    exact ⟨_, _, rfl, nat_nsg (num_nosg a bf).1⟩
  · rw [if_neg a]
    exact ⟨_, _, rfl, name_sg hn⟩
theorem tm_inj {b : Bool} {f g : Int} {n m : Str} {X Y : List Str} (hf : f ≠ 0) (hg : g ≠ 0) (bf : f.natAbs < 10 ^ 60) (bg : g.natAbs < 10 ^ 60) (hn : nameB n = true) (hm : nameB m = true) (h : tmW b f n ++ X = tmW b g m ++ Y) : f = g ∧ n = m ∧ X = Y := by
  unfold tmW at h
  simp only [List.append_assoc, List.singleton_append] at h
  by_cases a : b = false ∧ 0 < f
  · rw [if_pos a] at h
    by_cases c : b = false ∧ 0 < g
    · rw [if_pos c] at h
      exact tail_inj hf hg bf bg hn hm (by have := a.2; have := c.2; omega) h
    · rw [if_neg c] at h
      have g0 : g < 0 := by
        have : ¬ 0 < g := fun z => c ⟨a.1, z⟩
        omega
      obtain ⟨w, r, e, es⟩ := tail_head X bf hn
      rw [List.nil_append, e] at h
      have := (List.cons.inj h).1
      rw [this, sg_is] at es
      cases es
  · rw [if_neg a] at h
    by_cases c : b = false ∧ 0 < g
    · rw [if_pos c] at h
      obtain ⟨w, r, e, es⟩ := tail_head Y bg hm
      rw [List.nil_append, e] at h
      have := (List.cons.inj h).1
      rw [← this, sg_is] at es
      cases es
    · rw [if_neg c] at h
      obtain ⟨h1, h2⟩ := List.cons.inj h
      exact tail_inj hf hg bf bg hn hm (sg_inj hf hg h1) h2
/-! ### the state between two terms -/
structure LI (ns ws : List Str) (fd : List Int) (k p : Nat) : Prop where
  fl : fd.length = ns.length
  fb : ∀ f ∈ fd, f.natAbs < 10 ^ 60
  fz : ∀ i f, p ≤ i → fd[i]? = some f → f = 0
  pl : p ≤ ns.length
  kl : k ≤ ws.length
  kp : k = 0 ↔ p = 0
  i1 : ws.take k = wordsW (ns.zip fd)
  i2 : ∀ fs, Canon ns fs → ws = wordsW (ns.zip fs) → fs.take p = fd.take p ∧ ws.drop k = restW (decide (k ≠ 0)) ((ns.zip fs).drop p)
theorem zeros_words : ∀ (ns : List Str) (n : Nat), wordsW (ns.zip (List.replicate n (0 : Int))) = [] := fun ns n => by
  unfold wordsW
  refine fold_zero _ _ fun p hp => ?_
  have := (List.of_mem_zip hp).2
  exact (List.mem_replicate.mp this).2
theorem LI.start (ns ws : List Str) : LI ns ws (List.replicate ns.length 0) 0 0 where
  fl := List.length_replicate
  fb := fun f hf => by rw [(List.mem_replicate.mp hf).2]; decide +kernel
  fz := fun i f _ h => (List.mem_replicate.mp (List.mem_of_getElem? h)).2
  pl := Nat.zero_le _
  kl := Nat.zero_le _
  kp := ⟨fun _ => rfl, fun _ => rfl⟩
  i1 := by rw [zeros_words]; rfl
  i2 := fun fs hc e => ⟨rfl, by
    show ws = restW (decide ((0 : Nat) ≠ 0)) (ns.zip fs)
    rw [decide_eq_false (by simp)]
    exact e⟩
/-- the next term of what is written in order -/
theorem LI.front {ns ws : List Str} {fd : List Int} {k p : Nat} (h : LI ns ws fd k p) (hk : k < ws.length) {fs : List Int} (hc : Canon ns fs) (e : ws = wordsW (ns.zip fs)) :
    ∃ j n f, p ≤ j ∧ ns[j]? = some n ∧ fs[j]? = some f ∧ f ≠ 0 ∧ f.natAbs < 10 ^ 60 ∧ (∀ i x, p ≤ i → i < j → fs[i]? = some x → x = 0) ∧ ws.drop k = tmW (decide (k ≠ 0)) f n ++ restW true ((ns.zip fs).drop (j + 1)) := by
  obtain ⟨_, i2⟩ := h.i2 fs hc e
  have ne : ws.drop k ≠ [] := fun z => by
    have := congrArg List.length z
    rw [List.length_drop, List.length_nil] at this
    omega
  rw [i2] at ne
  obtain ⟨A, n, f, B, e1, e2, e3, e4⟩ := rest_front _ _ ne
  have zat : ∀ i, ((ns.zip fs).drop p)[i]? = (ns.zip fs)[p + i]? := fun i => by rw [List.getElem?_drop]
  have zz : ∀ {i : Nat} {q : Str × Int}, (ns.zip fs)[i]? = some q → ns[i]? = some q.1 ∧ fs[i]? = some q.2 := fun {i q} hq => by
    rw [List.getElem?_zip_eq_some] at hq
    exact hq
  have at1 : (ns.zip fs)[p + A.length]? = some (n, f) := by
    rw [← zat, e1, List.getElem?_append_right (Nat.le_refl _), Nat.sub_self]; rfl
  obtain ⟨a1, a2⟩ := zz at1
  refine ⟨p + A.length, n, f, Nat.le_add_right _ _, a1, a2, e3, hc.2 f (List.mem_of_getElem? a2), fun i x pi ij hx => ?_, ?_⟩
  · have hi : i - p < A.length := by omega
    have il : i < (ns.zip fs).length := by
      rw [List.length_zip, hc.1, Nat.min_self]
      have := (List.getElem?_eq_some_iff.mp a1).1
      omega
    obtain ⟨q, hq⟩ : ∃ q, (ns.zip fs)[i]? = some q := ⟨_, List.getElem?_eq_getElem il⟩
    have hq2 := (zz hq).2
    rw [hx] at hq2
    have e5 : A[i - p]? = some q := by
      have := zat (i - p)
      rw [show p + (i - p) = i by omega, hq, e1, List.getElem?_append_left hi] at this
      exact this
    have := e2 q (List.mem_of_getElem? e5)
    rw [← Option.some.inj hq2] at this
    exact this
  · rw [i2, e4]
    congr 2
    have : (ns.zip fs).drop (p + A.length + 1) = ((ns.zip fs).drop p).drop (A.length + 1) := by rw [List.drop_drop]; congr 1
    rw [this, e1, show A.length + 1 = (A ++ [(n, f)]).length by rw [List.length_append]; rfl, show A ++ (n, f) :: B = (A ++ [(n, f)]) ++ B by simp, List.drop_left]
/-- a term more -/
theorem LI.step {ns ws : List Str} {fd : List Int} {k p k' : Nat} (h : LI ns ws fd k p) (nd : ns.Nodup) (nm : ∀ z ∈ ns, nameB z = true) {j : Nat} {n : Str} {f : Int} (hn : ns[j]? = some n) (pj : p ≤ j) (hf : f ≠ 0) (bf : f.natAbs < 10 ^ 60)
    (hk : k' ≤ ws.length) (ek : k' = k + (tmW (decide (k ≠ 0)) f n).length) (e : ws.drop k = tmW (decide (k ≠ 0)) f n ++ ws.drop k') : LI ns ws (fd.set j f) k' (j + 1) := by
  have jl := (List.getElem?_eq_some_iff.mp hn).1
  have fl := h.fl
  obtain ⟨f0, hf0⟩ : ∃ f0, fd[j]? = some f0 := ⟨_, List.getElem?_eq_getElem (by omega)⟩
  have z0 := h.fz j f0 pj hf0
  subst z0
  have tne : 1 ≤ (tmW (decide (k ≠ 0)) f n).length := by unfold tmW; rw [List.length_append, List.length_append]; show 1 ≤ _ + (_ + 1); omega
  have setj : (fd.set j f)[j]? = some f := List.getElem?_set_self (by omega)
  have hz : ∀ q ∈ (ns.drop (j + 1)).zip (fd.drop (j + 1)), q.2 = 0 := fun q hq => by
    obtain ⟨i, hi⟩ := List.getElem?_of_mem (List.of_mem_zip hq).2
    rw [List.getElem?_drop] at hi
    exact h.fz _ _ (by omega) hi
  have c1 := zip_split (fl.trans rfl) hn hf0
  have c2 := zip_split (fs := fd.set j f) (by rw [List.length_set]; exact fl) hn setj
  have t1 : (fd.set j f).take j = fd.take j := List.take_set_of_le (Nat.le_refl _)
  have t2 : (fd.set j f).drop (j + 1) = fd.drop (j + 1) := List.drop_set_of_lt (Nat.lt_succ_self _)
  rw [t1, t2] at c2
  have wA : wordsW ((ns.take j).zip (fd.take j)) = ws.take k := by
    rw [h.i1, c1]
    unfold wordsW
    rw [List.foldl_append, List.foldl_cons, step_zero, fold_zero _ _ hz]
  have nek : decide (ws.take k ≠ []) = decide (k ≠ 0) := by
    by_cases k0 : k = 0
    · rw [k0]; rfl
    · rw [decide_eq_true k0]
      refine decide_eq_true fun z => ?_
      have := congrArg List.length z
      rw [List.length_take, List.length_nil] at this
      have := h.kl
      omega
  refine ⟨by rw [List.length_set]; exact fl, fun x hx => ?_, fun i x pi hx => ?_, jl, hk, ⟨fun z => by omega, fun z => by omega⟩, ?_, fun fs hc es => ?_⟩
  · rcases List.mem_or_eq_of_mem_set hx with hx | rfl
    · exact h.fb x hx
    · exact bf
  · rw [List.getElem?_set_ne (by omega)] at hx
    exact h.fz i x (by omega) hx
  · rw [c2, words_put hf hz, wA, nek, ek]
    have l : ws.take (k + (tmW (decide (k ≠ 0)) f n).length) = ws.take k ++ (ws.drop k).take (tmW (decide (k ≠ 0)) f n).length := by rw [List.take_add]
    rw [l, e, List.take_left]
  · have kw : k < ws.length := by omega
    obtain ⟨j1, n1, f1, pj1, hn1, hf1, ne1, b1, zs, e1⟩ := h.front kw hc es
    have n1m := List.mem_of_getElem? hn1
    have nnm := List.mem_of_getElem? hn
    rw [e] at e1
    obtain ⟨i1, i2, i3⟩ := tm_inj hf ne1 bf b1 (nm n nnm) (nm n1 n1m) e1
    subst i1 i2
    have j1l := (List.getElem?_eq_some_iff.mp hn1).1
    have ej : j = j1 := by
      have a1 := (List.getElem?_eq_some_iff.mp hn).2
      have a2 := (List.getElem?_eq_some_iff.mp hn1).2
      exact (List.getElem_inj nd).mp (a1.trans a2.symm)
    subst ej
    obtain ⟨tk, _⟩ := h.i2 fs hc es
    refine ⟨List.ext_getElem? fun i => ?_, by rw [i3, decide_eq_true (show k' ≠ 0 by omega)]⟩
    rcases Nat.lt_or_ge i (j + 1) with lt | ge
    · rw [List.getElem?_take_of_lt lt, List.getElem?_take_of_lt lt]
      rcases Nat.lt_or_ge i p with ip | ip
      · have := congrArg (fun l => l[i]?) tk
        simp only [List.getElem?_take_of_lt ip] at this
        rw [this, List.getElem?_set_ne (by omega)]
      · by_cases ij : i = j
        · rw [ij, hf1, setj]
        · rw [List.getElem?_set_ne (fun z => ij z.symm)]
          have il : i < fs.length := by rw [hc.1]; omega
          have il2 : i < fd.length := by omega
          have h1 := zs i _ ip (by omega) (List.getElem?_eq_getElem il)
          have h2 := h.fz i _ ip (List.getElem?_eq_getElem il2)
          rw [List.getElem?_eq_getElem il, List.getElem?_eq_getElem il2, h1, h2]
    · rw [List.getElem?_eq_none (by rw [List.length_take]; omega), List.getElem?_eq_none (by rw [List.length_take]; omega)]
end KW
namespace KW
open PySem PySem.Spec PyProof.Rows L2 GL RZ TL
/-! ### the law's own reader: names and whole numbers -/
theorem ext_l {a b : Str} (h : a.cps.toList = b.cps.toList) : a = b := TL.ext_tl h
/-- the marks of a word that are not among some: an empty list or not -/
theorem marks_none {p : Nat → Bool} (cs : List Nat) : decide (((cs.filter fun c => !p c).map S1) = ([] : List Str)) = cs.all p := by
  by_cases h : cs.all p = true
  · rw [h, decide_eq_true_eq, List.map_eq_nil_iff, List.filter_eq_nil_iff]
    intro c hc
    have := List.all_eq_true.mp h c hc
    simp [this]
  · have h2 : cs.all p = false := Bool.eq_false_iff.mpr h
    rw [h2]
    refine decide_eq_false fun z => h ?_
    rw [List.map_eq_nil_iff, List.filter_eq_nil_iff] at z
    exact List.all_eq_true.mpr fun c hc => by simpa using z c hc
theorem flt_nt {p : Nat → Bool} {cs : List Nat} {i c : Nat} (h : cs[i]? = some c) : (cs.take (i + 1)).filter (fun c => !p c) = (cs.take i).filter (fun c => !p c) ++ (if p c = true then [] else [c]) := by
  rw [List.take_add_one, h, List.filter_append]
  cases e : p c <;> simp [e]
def spLName : Sp := fun vs H Q _ => ∃ z : Str, vs = [.str z] ∧ z.cps.toList.length ≤ 61001 ∧ ∀ H', Same H H' → Q (.bl (nameB z)) H'
def restS (z : Str) : Str := if z.cps.toList[0]? = some 45 then cutS z (some 1) none else z
theorem cut_minus (z : Str) : decide (V.str (cutS z none (some 1)) = V.str ("-" : Str)) = decide (z.cps.toList[0]? = some 45) := by
  have e : (cutS z none (some 1)).cps.toList = z.cps.toList.take 1 := cut_first z
  have m : ("-" : Str).cps.toList = [45] := by decide +kernel
  by_cases h : z.cps.toList[0]? = some 45
  · rw [decide_eq_true h, decide_eq_true_eq]
    congr 1
    refine ext_l ?_
    rw [e, m]
    cases ez : z.cps.toList with
    | nil => rw [ez] at h; cases h
    | cons a r => rw [ez] at h; cases h; rfl
  · rw [decide_eq_false h]
    refine decide_eq_false fun z2 => h ?_
    have z3 := congrArg (fun s : Str => s.cps.toList) (V.str.inj z2)
    simp only [e, m] at z3
    cases ez : z.cps.toList with
    | nil => rw [ez] at z3; cases z3
    | cons a r =>
      rw [ez] at z3
      have z3 : [a] = [45] := z3
      rw [(List.cons.inj z3).1]; rfl
/-- a whole number that the law reads is a natural one just where it has no sign -/
theorem whole_nat {z : Str} (h1 : 1 ≤ (restS z).cps.toList.length ∧ (restS z).cps.toList.length ≤ 60) (h2 : (restS z).cps.toList.all digB = true) (h3 : ¬ ((restS z).cps.toList[0]? = some 48 ∧ z ≠ "0")) :
    (natB z = true) ∨ (z.cps.toList[0]? = some 45 ∧ ∃ cs, z.cps.toList = 45 :: cs ∧ NumText.AllDigits cs ∧ cs ≠ [] ∧ cs.length ≤ 60) := by
  have dg : ∀ cs : List Nat, cs.all digB = true → NumText.AllDigits cs := fun cs h c hc => by
    have hc2 : c ∈ DIGITS.cps.toList := of_decide_eq_true (List.all_eq_true.mp h c hc)
    have ds : ∀ d ∈ DIGITS.cps.toList, 48 ≤ d ∧ d ≤ 57 := by decide +kernel
    exact ds c hc2
  unfold restS at h1 h2 h3
  by_cases hm : z.cps.toList[0]? = some 45
  · rw [if_pos hm] at h1 h2 h3
    rw [cut1] at h1 h2
    cases ez : z.cps.toList with
    | nil => rw [ez] at hm; cases hm
    | cons a r =>
      rw [ez] at hm h1 h2
      have ea : a = 45 := Option.some.inj hm
      subst ea
      have h1 : 1 ≤ r.length ∧ r.length ≤ 60 := h1
      exact .inr ⟨rfl, r, rfl, dg r h2, (fun e => by rw [e] at h1; exact absurd h1.1 (by decide)), h1.2⟩
  · rw [if_neg hm] at h1 h2 h3
    refine .inl ?_
    unfold natB
    rw [decide_eq_true h1, h2, Bool.true_and, Bool.true_and]
    by_cases e : z = "0"
    · rw [decide_eq_true e, Bool.true_or]
    · rw [decide_eq_false e, Bool.false_or]
      exact decide_eq_true fun q => h3 ⟨q, e⟩
theorem nat_rest {z : Str} (h : natB z = true) : z.cps.toList[0]? ≠ some 45 ∧ restS z = z := by
  have hm : z.cps.toList[0]? ≠ some 45 := fun e => by
    obtain ⟨d, _, _⟩ := nat_digits h
    have := d 45 (List.mem_of_getElem? e)
    omega
  refine ⟨hm, ?_⟩
  unfold restS
  rw [if_neg hm]
/-- what the law reads of a word as a whole number -/
def okW (z : Str) : Bool := decide (1 ≤ (restS z).cps.toList.length ∧ (restS z).cps.toList.length ≤ 60) && ((restS z).cps.toList.all digB && decide (¬ ((restS z).cps.toList[0]? = some 48 ∧ z ≠ "0")))
def wV (z : Str) : V := if okW z = true then .int ((PySem.intText? z).getD 0) else .non
theorem okW_of {z : Str} (h : okW z = true) : (natB z = true) ∨ (z.cps.toList[0]? = some 45 ∧ ∃ cs, z.cps.toList = 45 :: cs ∧ NumText.AllDigits cs ∧ cs ≠ [] ∧ cs.length ≤ 60) := by
  unfold okW at h
  rw [Bool.and_eq_true, Bool.and_eq_true] at h
  exact whole_nat (of_decide_eq_true h.1) h.2.1 (of_decide_eq_true h.2.2)
theorem nat_okW {z : Str} (h : natB z = true) : okW z = true := by
  have e := (nat_rest h).2
  unfold natB at h
  rw [Bool.and_eq_true, Bool.and_eq_true] at h
  unfold okW
  rw [e, h.1.1, h.1.2, Bool.true_and, Bool.true_and]
  refine decide_eq_true fun q => ?_
  rcases Bool.or_eq_true_iff.mp h.2 with h | h
  · exact q.2 (of_decide_eq_true h)
  · exact of_decide_eq_true h q.1
theorem wV_nat {z : Str} (h : natB z = true) : wV z = .int (valN z) := by
  unfold wV
  rw [if_pos (nat_okW h), (nat_int h).1]; rfl
theorem neg_int {z : Str} (h : okW z = true) (n : natB z = false) : ∃ v, v ≤ 0 ∧ PySem.intText? z = some v ∧ z.length ≤ 640 ∧ z.cps.toList[0]? = some 45 := by
  rcases okW_of h with W | ⟨w0, cs, ec, d1, d2, d3⟩
  · rw [n] at W; cases W
  · have zl : z.length = z.cps.toList.length := (Array.length_toList ..).symm
    have l : z.length ≤ 61 := by rw [zl, ec, List.length_cons]; omega
    exact ⟨_, (by omega), PySem.intText_neg ec d1 d2 (by omega), by omega, w0⟩
theorem wV_not {z : Str} (h : natB z = false) : wV z = .non ∨ ∃ v, v ≤ 0 ∧ z.cps.toList[0]? = some 45 ∧ wV z = .int v := by
  cases e : okW z with
  | false =>
    refine .inl ?_
    unfold wV
    rw [e]; rfl
  | true =>
    obtain ⟨v, v0, i1, _, w0⟩ := neg_int e h
    refine .inr ⟨v, v0, w0, ?_⟩
    unfold wV
    rw [if_pos e, i1]; rfl
def spLWhole : Sp := fun vs H Q _ => ∃ z : Str, vs = [.str z] ∧ z.cps.toList.length ≤ 61001 ∧ ∀ H', Same H H' → Q (wV z) H'
section
variable {P : Program} {w : World} {K : PySem.W.Frag} {mg : Str → Option Value} {base : Heap}
abbrev s_name : Stmt := topS 34
theorem sc_name : FnScope ["_law_word", "_law_kept", "_law_letters", "_law_mark"] ["_law_word"] (defScope s_name) := ⟨rfl, rfl, rfl, by decide +kernel, rfl, by decide +kernel, by decide +kernel⟩
theorem ok_name {f : Addr} {fd : FuncData} (F : Fun K "_law_name" "_law_name" s_name f fd) (gl : mg "_law_name" = some (.ref f)) (T : Bl mg) : DefG P w K mg base 1 "_law_name" ["_law_word"] spLName := by
  refine def_mk F gl (F.binds fun _ _ _ _ _ _ us hl => match us, hl with | [_], _ => rfl) (okG F sc_name (fun vs H Q E h => ?_) fun cdv A outer s H vs Q E hr hc h => ?_)
  · obtain ⟨z, rfl, _⟩ := h
    rfl
  · obtain ⟨z, rfl, lz, q⟩ := h
    have nd := sc_name.nd
    have hu64 := hr.units
    refine ⟨_, (pss_cons (ps_set (i := 1) nd rfl (by first | exact Or.inl rfl | exact Or.inr rfl) (pe_lst (pa_cons pe_str (pa_cons pe_str (pa_cons pe_str (pa_cons pe_str (pa_cons pe_str (pa_cons pe_str (pa_cons pe_str (pa_cons pe_str (pa_cons pe_str pa_nil)))))))))))
      (pss_cons (ps_set (i := 2) nd rfl (by first | exact Or.inl rfl | exact Or.inr rfl) pe_str)
      (pss_cons (ps_if (PW.pt (pw_or (pt_not (pt_chain op_lt op_lt pe_int (pe_callB call_len_str (by rfl) T.len boot_len (pa_cons (pv 0) pa_nil)) pe_int)) (pw_or (pt_cmpR (op_inK (K := K)) (pv 0) (pv 1) (by with_unfolding_all rfl)) (pw_or1 (pt_cmpR op_notIn_sign (pe_ix ix_str (pv 0) pe_int (fun _ _ => rfl)) (pv 2) (by with_unfolding_all rfl))))))
        (pss_one (ps_ret pe_bl))
        pss_nil)
      (pss_one (ps_ret (pe_cmpR (op_eqP (K := K) hu64) (pe_lc (own := [("_law_mark", 3)]) (g := (gName 3)) rfl nd (pi_str (pv 0)) (blkOk_by (own := [("_law_mark", 3)]) (N := ["_law_word", "_law_kept", "_law_letters", "_law_mark"]) (sc := defScope s_name) (by decide +kernel)) (fun _ _ _ _ _ => (pg_name (i := 3) nd rfl (by first | exact Or.inl rfl | exact Or.inr rfl))) (fun _ _ _ _ _ => (pts_one (pt_cmpR op_notIn_sign (pv 3) (pe_op op_add_str (pv 2) pe_str) (by with_unfolding_all rfl)))) (fun _ _ _ _ _ => (pv 3))) (pe_lst pa_nil) (nomark _))))))), ?_⟩
    have zl : z.length = z.cps.toList.length := (Array.length_toList ..).symm
    have lz2 : z.length ≤ sizeLine := by rw [zl]; exact small (by omega)
    refine ⟨(show 9 ≤ sizeLine from small (by decide)), fun kp nkp => ?_⟩
    have s1 := Same.new (o := .lst [.str "check", .str "input", .str "keep", .str "let", .str "mod", .str "names", .str "open", .str "self", .str "take"]) nkp
    have hk : upd H kp (.lst [.str "check", .str "input", .str "keep", .str "let", .str "mod", .str "names", .str "open", .str "self", .str "take"]) kp = some (.lst (TAKEN.map V.str)) := upd_same
    generalize upd H kp (.lst [.str "check", .str "input", .str "keep", .str "let", .str "mod", .str "names", .str "open", .str "self", .str "take"]) = H1 at *
    have no : nameB z = false → Q (.bl false) H1 := fun e => by rw [← e]; exact q H1 s1
    refine ⟨_, rfl, z, rfl, lz2, (0 : Int), (z.length : Int), rfl, rfl, _, rfl, ?_⟩
    refine ite2 (fun e1 => ⟨_, _, rfl, rfl, _, rfl, ?_⟩) (fun e1 => ⟨_, rfl, iteT (iteT (no ?_))⟩)
    rotate_left
    · have h1 : ¬ (1 ≤ z.cps.toList.length ∧ z.cps.toList.length ≤ 8) := fun h => e1 (decide_eq_true (by rw [zl]; omega))
      unfold nameB
      rw [decide_eq_false h1]; rfl
    by_cases h2 : z.cps.toList.length ≤ 8
    rotate_left
    · have e2 : decide ((z.length : Int) < 9) = false := decide_eq_false (by rw [zl]; omega)
      rw [e2]
      refine iteT (iteT (no ?_))
      have h1 : ¬ (1 ≤ z.cps.toList.length ∧ z.cps.toList.length ≤ 8) := fun h => h2 h.2
      unfold nameB
      rw [decide_eq_false h1]; rfl
    have e2 : decide ((z.length : Int) < 9) = true := decide_eq_true (by rw [zl]; omega)
    rw [e2]
    refine iteF ?_
    have h1 : 1 ≤ z.cps.toList.length ∧ z.cps.toList.length ≤ 8 := ⟨by have := of_decide_eq_true e1; rw [zl] at this; omega, h2⟩
    obtain ⟨c0, hc0⟩ : ∃ c, z.cps.toList[0]? = some c := ⟨_, List.getElem?_eq_getElem (by omega)⟩
    have g0 : z.cps.toList.getD 0 0 = c0 := by rw [List.getD_eq_getElem?_getD, hc0]; rfl
    refine ⟨_, rfl, _, rfl, kp, _, rfl, .inl (tofL hk), rfl, flat_strs TAKEN, _, rfl, ?_⟩
    rw [if_neg (show ¬ false = true by decide), inV_strs]
    cases ht : decide (z ∈ TAKEN) with
    | true =>
      refine iteT (iteT (no ?_))
      unfold nameB
      rw [ht, decide_eq_true h1]; rfl
    | false =>
      refine iteF ?_
      have fin : nameB z = (letB c0 && z.cps.toList.all bothB) := by
        unfold nameB
        rw [ht, decide_eq_true h1, g0]; rfl
      refine ⟨_, rfl, z, 0, c0, rfl, rfl, lz2, atI_nat (j := 0) hc0, _, rfl, c0, LETTERS, rfl, rfl, _, rfl, ?_⟩
      show if (!letB c0) = true then _ else _
      cases hl : letB c0 with
      | false =>
        refine iteT (no ?_)
        rw [hl, Bool.false_and] at fin
        exact fin
      | true =>
        rw [hl, Bool.true_and] at fin
        refine iteF ?_
        refine ⟨_, rfl, z, rfl, fun D nD => ?_⟩
        have toL : ∀ (i : Nat) (c : Nat), z.cps[i]? = some c → z.cps.toList[i]? = some c := fun i c h => by rw [Array.getElem?_toList]; exact h
        refine lc_it walk_str (fun i Hx => Same H1 Hx ∧ Hx D = some (.lst ((((z.cps.toList.take i).filter fun c => !bothB c).map S1).map V.str))) ⟨Same.new nD, upd_same⟩ (fun _ _ _ _ => True.intro) ?_ ?_
        · rintro i x Hx Hy hi ⟨sx, hD⟩ ⟨rfl, c, hc', rfl⟩
          have hL := toL i c hc'
          have ft := flt_nt (p := bothB) hL
          refine ⟨rfl, _, rfl, _, rfl, _, _, rfl, rfl, small (by decide +kernel), c, LETTERS ++ DIGITS, rfl, rfl, _, rfl, ?_⟩
          show if (!bothB c) = true then _ else _
          cases hb : bothB c with
          | true =>
            refine iteF ⟨sx, ?_⟩
            rw [ft, hb, if_pos rfl, List.append_nil]; exact hD
          | false =>
            refine iteT ⟨_, rfl, _, hD, ?_, ?_, ?_⟩
            · rw [List.length_map, List.length_map]; exact smallt (Nat.lt_of_le_of_lt (List.length_filter_le _ _) (by rw [List.length_take]; omega))
            · intro b u hb'
              rw [upd_ne (ne_of_none hb' nD)]
              exact sx _ _ hb'
            · rw [upd_same, ft, hb, if_neg (by decide), List.map_append, List.map_append]; rfl
        · rintro Hx ⟨sx, hD⟩
          rw [show z.cps.size = z.cps.toList.length from rfl, List.take_length] at hD
          refine ⟨Nat.zero_le _, fun o no' => ?_⟩
          have so := Same.new (o := .lst []) no'
          have ho : upd Hx o (.lst []) o = some (.lst (([] : List Str).map V.str)) := upd_same
          have hD' := so _ _ hD
          generalize upd Hx o (.lst []) = Hy at *
          refine ⟨.list ((((z.cps.toList).filter fun c => !bothB c).map S1).map PyData.str), .list (([] : List Str).map PyData.str), .lst (tofL hD') (dpa_strs _), .lst (tofL ho) (dpa_strs []), plain_strs _, plain_strs _, depth_strs _, ?_⟩
          rw [eqv_strs, marks_none, ← fin]
          exact q Hy (s1.trans (sx.trans so))
abbrev s_whole : Stmt := topS 35
theorem sc_whole : FnScope ["_law_word", "_law_rest", "_law_mark"] ["_law_word"] (defScope s_whole) := ⟨rfl, rfl, rfl, by decide +kernel, rfl, by decide +kernel, by decide +kernel⟩
theorem ok_whole {f : Addr} {fd : FuncData} (F : Fun K "_law_whole" "_law_whole" s_whole f fd) (gl : mg "_law_whole" = some (.ref f)) (T : Bl mg) : DefG P w K mg base 1 "_law_whole" ["_law_word"] spLWhole := by
  refine def_mk F gl (F.binds fun _ _ _ _ _ _ us hl => match us, hl with | [_], _ => rfl) (okG F sc_whole (fun vs H Q E h => ?_) fun cdv A outer s H vs Q E hr hc h => ?_)
  · obtain ⟨z, rfl, _⟩ := h
    rfl
  · obtain ⟨z, rfl, lz, q⟩ := h
    have nd := sc_whole.nd
    have hu64 := hr.units
    refine ⟨_, (pss_cons (ps_set (i := 1) nd rfl (by first | exact Or.inl rfl | exact Or.inr rfl) (pe_cutE (pe_ifExp (pt_cmpR op_eq (pe_slice sl_str (pv 0) po_none (po_some pe_int)) pe_str (nomark _)) (pe_slice sl_str (pv 0) (po_some pe_int) po_none) (pv 0))))
      (pss_cons (ps_if (PW.pt (pw_or (pt_cmpR op_eq (pv 1) pe_str (nomark _)) (pw_or (pt_cmpR op_gt (pe_callB call_len_str (by rfl) T.len boot_len (pa_cons (pv 1) pa_nil)) pe_int (nomark _)) (pw_or1 (pt_cmpR (op_neP (K := K) hu64) (pe_lc (own := [("_law_mark", 2)]) (g := (gName 2)) rfl nd (pi_str (pv 1)) (blkOk_by (own := [("_law_mark", 2)]) (N := ["_law_word", "_law_rest", "_law_mark"]) (sc := defScope s_whole) (by decide +kernel)) (fun _ _ _ _ _ => (pg_name (i := 2) nd rfl (by first | exact Or.inl rfl | exact Or.inr rfl))) (fun _ _ _ _ _ => (pts_one (pt_cmpR op_notIn_sign (pv 2) pe_str (by with_unfolding_all rfl)))) (fun _ _ _ _ _ => (pv 2))) (pe_lst pa_nil) (nomark _))))))
        (pss_one (ps_ret pe_non))
        pss_nil)
      (pss_cons (ps_if (PW.pt (pw_and (pt_cmpR op_eq (pe_ix ix_str (pv 1) pe_int (fun _ _ => rfl)) pe_str (nomark _)) (pw_and1 (pt_cmpR op_ne (pv 0) pe_str (nomark _)))))
        (pss_one (ps_ret pe_non))
        pss_nil)
      (pss_one (ps_ret (pe_callTy call_int_str (by rfl) T.int boot_int (pa_cons (pv 0) pa_nil))))))), ?_⟩
    have zl : ∀ z : Str, z.length = z.cps.toList.length := fun z => (Array.length_toList ..).symm
    have lz2 : z.length ≤ sizeLine := by rw [zl]; exact small (by omega)
    -- the rest behind a sign
    refine ⟨fun x H' => x = .str (restS z) ∧ H' = H, ?_, ?_⟩
    · refine ⟨_, rfl, 1, rfl, z, rfl, lz2, rfl, _, rfl, ?_⟩
      rw [cut_minus]
      refine ite2 (fun e => ?_) (fun e => ?_)
      · refine ⟨_, rfl, 1, rfl, z, rfl, lz2, ?_, rfl⟩
        unfold restS
        rw [if_pos (of_decide_eq_true e)]
      · refine ⟨_, rfl, ?_, rfl⟩
        unfold restS
        rw [if_neg (fun h => e (decide_eq_true h))]
    rintro x H' ⟨rfl, rfl⟩
    have lr : (restS z).cps.toList.length ≤ 61001 := by
      unfold restS
      split
      · exact Nat.le_trans (cut_len z _ _) lz
      · exact lz
    have lr2 : (restS z).length ≤ sizeLine := by rw [zl]; exact small (by omega)
    have out : okW z = false → ∀ Hx, Same H' Hx → Q .non Hx := fun e Hx sx => by
      have := q Hx sx
      unfold wV at this
      rw [e] at this
      exact this
    have eok : okW z = (decide (1 ≤ (restS z).cps.toList.length ∧ (restS z).cps.toList.length ≤ 60) && ((restS z).cps.toList.all digB && decide (¬ ((restS z).cps.toList[0]? = some 48 ∧ z ≠ "0")))) := rfl
    refine ⟨_, rfl, rfl, _, rfl, ?_⟩
    rw [strD]
    by_cases e1 : restS z = ""
    · rw [decide_eq_true e1]
      refine iteT (iteT (out ?_ H' (Same.refl _)))
      rw [eok, decide_eq_false (fun h => ?_), Bool.false_and]
      rw [e1] at h
      exact absurd h.1 (by decide +kernel)
    rw [decide_eq_false e1]
    refine iteF ?_
    refine ⟨_, rfl, restS z, rfl, lr2, _, 60, rfl, rfl, _, rfl, ?_⟩
    by_cases e2 : (restS z).cps.toList.length ≤ 60
    rotate_left
    · rw [decide_eq_true (show ((restS z).length : Int) > 60 by rw [zl]; omega)]
      refine iteT (iteT (out ?_ H' (Same.refl _)))
      rw [eok, decide_eq_false (fun h => e2 h.2), Bool.false_and]
    rw [decide_eq_false (show ¬ ((restS z).length : Int) > 60 by rw [zl]; omega)]
    refine iteF ?_
    have r1 : 1 ≤ (restS z).cps.toList.length ∧ (restS z).cps.toList.length ≤ 60 := ⟨Nat.one_le_iff_ne_zero.mpr fun h => e1 (ext_l (by rw [List.eq_nil_of_length_eq_zero h]; decide +kernel)), e2⟩
    refine ⟨_, rfl, restS z, rfl, fun D nD => ?_⟩
    have toL : ∀ (i : Nat) (c : Nat), (restS z).cps[i]? = some c → (restS z).cps.toList[i]? = some c := fun i c h => by rw [Array.getElem?_toList]; exact h
    refine lc_it walk_str (fun i Hx => Same H' Hx ∧ Hx D = some (.lst (((((restS z).cps.toList.take i).filter fun c => !digB c).map S1).map V.str))) ⟨Same.new nD, upd_same⟩ (fun _ _ _ _ => True.intro) ?_ ?_
    · rintro i x Hx Hy hi ⟨sx, hD⟩ ⟨rfl, c, hc', rfl⟩
      have hL := toL i c hc'
      have ft := flt_nt (p := digB) hL
      refine ⟨rfl, _, rfl, c, DIGITS, rfl, rfl, _, rfl, ?_⟩
      show if (!digB c) = true then _ else _
      cases hb : digB c with
      | true =>
        refine iteF ⟨sx, ?_⟩
        rw [ft, hb, if_pos rfl, List.append_nil]; exact hD
      | false =>
        refine iteT ⟨_, rfl, _, hD, ?_, ?_, ?_⟩
        · rw [List.length_map, List.length_map]; exact smallt (Nat.lt_of_le_of_lt (List.length_filter_le _ _) (by rw [List.length_take]; omega))
        · intro b u hb'
          rw [upd_ne (ne_of_none hb' nD)]
          exact sx _ _ hb'
        · rw [upd_same, ft, hb, if_neg (by decide), List.map_append, List.map_append]; rfl
    rintro Hx ⟨sx, hD⟩
    rw [show (restS z).cps.size = (restS z).cps.toList.length from rfl, List.take_length] at hD
    refine ⟨Nat.zero_le _, fun o no' => ?_⟩
    have so := Same.new (o := .lst []) no'
    have ho : upd Hx o (.lst []) o = some (.lst (([] : List Str).map V.str)) := upd_same
    have hD' := so _ _ hD
    have s2 := sx.trans so
    generalize upd Hx o (.lst []) = Hy at *
    refine ⟨.list (((((restS z).cps.toList).filter fun c => !digB c).map S1).map PyData.str), .list (([] : List Str).map PyData.str), .lst (tofL hD') (dpa_strs _), .lst (tofL ho) (dpa_strs []), plain_strs _, plain_strs _, depth_strs _, _, rfl, ?_⟩
    rw [eqv_strs, marks_none]
    cases r2 : (restS z).cps.toList.all digB with
    | false =>
      refine iteT (out ?_ Hy s2)
      rw [eok, r2, Bool.false_and, Bool.and_false]
    | true =>
    refine iteF ?_
    obtain ⟨c0, hc0⟩ : ∃ c, (restS z).cps.toList[0]? = some c := ⟨_, List.getElem?_eq_getElem (by omega)⟩
    have z48 : ("0" : Str) = ⟨#[48]⟩ := by decide +kernel
    have c48 : decide (V.str ({ cps := #[c0] } : Str) = V.str ("0" : Str)) = decide (c0 = 48) := by
      rw [strD, z48]
      by_cases h : c0 = 48
      · subst h; rfl
      · rw [decide_eq_false h]
        refine decide_eq_false fun e => h ?_
        have e' := congrArg (fun s : Str => s.cps.toList) e
        exact (List.cons.inj (show [c0] = [48] from e')).1
    refine ⟨_, rfl, restS z, 0, c0, rfl, rfl, lr2, atI_nat (j := 0) hc0, rfl, _, rfl, ?_⟩
    rw [c48]
    by_cases h0 : c0 = 48 ∧ z ≠ "0"
    · rw [decide_eq_true h0.1]
      refine iteT ⟨_, rfl, rfl, _, rfl, ?_⟩
      rw [strD, decide_eq_false h0.2]
      refine iteT (out ?_ Hy s2)
      rw [eok, decide_eq_false (show ¬ ¬ _ from fun h => h ⟨by rw [hc0, h0.1], h0.2⟩), Bool.and_false, Bool.and_false]
    have h3 : ¬ ((restS z).cps.toList[0]? = some 48 ∧ z ≠ "0") := fun e => h0 ⟨by have := e.1; rw [hc0] at this; exact Option.some.inj this, e.2⟩
    have ok : okW z = true := by rw [eok, decide_eq_true r1, r2, decide_eq_true h3]; rfl
    have go : ∃ v, PySem.intText? z = some v ∧ z.length ≤ 640 ∧ Q (.int v) Hy := by
      have qq := q Hy s2
      cases en : natB z with
      | true => rw [wV_nat en] at qq; exact ⟨valN z, (nat_int en).1, (nat_int en).2, qq⟩
      | false =>
        obtain ⟨v, v0, i1, i2, w0⟩ := neg_int ok en
        unfold wV at qq
        rw [if_pos ok, i1] at qq
        exact ⟨v, i1, i2, qq⟩
    obtain ⟨v, i1, i2, i3⟩ := go
    by_cases h4 : c0 = 48
    · rw [decide_eq_true h4]
      refine iteT ⟨_, rfl, rfl, _, rfl, ?_⟩
      rw [strD, decide_eq_true (Classical.byContradiction fun e => h0 ⟨h4, e⟩)]
      exact iteF ⟨_, rfl, z, v, rfl, i1, i2, i3⟩
    · rw [decide_eq_false h4]
      exact iteF (iteF ⟨_, rfl, z, v, rfl, i1, i2, i3⟩)
end
end KW
namespace KW
open PySem PySem.Spec PyProof.Rows L2 GL RZ TL GX
/-! ### the law's own reader: a row's factors -/
def digL : List Str := DIGITS.cps.toList.map fun c => (⟨#[c]⟩ : Str)
def digS (z : Str) : Bool := decide (cutS z none (some 1) ∈ digL)
theorem digS_iff (z : Str) : digS z = true ↔ ∃ c r, z.cps.toList = c :: r ∧ c ∈ DIGITS.cps.toList := by
  have e : (cutS z none (some 1)).cps.toList = z.cps.toList.take 1 := cut_first z
  unfold digS
  rw [decide_eq_true_eq]
  constructor
  · intro h
    obtain ⟨c, hc, ec⟩ := List.mem_map.mp h
    rw [← ec] at e
    have e : [c] = z.cps.toList.take 1 := e
    cases ez : z.cps.toList with
    | nil => rw [ez] at e; cases e
    | cons a r =>
      rw [ez] at e
      have e : [c] = [a] := e
      exact ⟨a, r, rfl, (List.cons.inj e).1 ▸ hc⟩
  · rintro ⟨c, r, ez, hc⟩
    refine List.mem_map.mpr ⟨c, hc, ext_l ?_⟩
    rw [e, ez]; rfl
theorem nat_digS {z : Str} (h : natB z = true) : digS z = true := by
  obtain ⟨_, ne, _⟩ := nat_digits h
  unfold natB at h
  rw [Bool.and_eq_true, Bool.and_eq_true] at h
  cases ez : z.cps.toList with
  | nil => exact absurd ez ne
  | cons c r =>
    refine (digS_iff z).mpr ⟨c, r, ez, ?_⟩
    exact of_decide_eq_true (List.all_eq_true.mp h.1.2 c (by rw [ez]; exact List.mem_cons_self))
theorem name_digS {z : Str} (h : nameB z = true) : digS z = false := Bool.eq_false_iff.mpr fun e => by
  obtain ⟨c, r, ez, hc⟩ := (digS_iff z).mp e
  unfold nameB at h
  rw [Bool.and_eq_true, Bool.and_eq_true] at h
  have l3 := of_decide_eq_true (Bool.and_eq_true_iff.mp h.2).1
  rw [ez] at l3
  have ge : ∀ c ∈ LETTERS.cps.toList, 97 ≤ c := by decide +kernel
  have le : ∀ c ∈ DIGITS.cps.toList, c ≤ 57 := by decide +kernel
  have := ge _ l3
  have := le _ hc
  have : 97 ≤ c := ‹97 ≤ (c :: r).getD 0 0›
  omega
/-- the sign at k is read: k1 is behind it, s is 1 or -1 -/
def SgAt (ws : List Str) (k k1 : Nat) (s : Int) : Prop := (k1 = k ∧ k = 0 ∧ s = 1 ∧ ∀ z, ws[k]? = some z → isSg z = false) ∨ (k1 = k + 1 ∧ ((s = -1 ∧ ws[k]? = some ("-" : Str)) ∨ (s = 1 ∧ k ≠ 0 ∧ ws[k]? = some ("+" : Str))))
/-- the number at k1 is read: k2 is behind it -/
def NmAt2 (ws : List Str) (k1 k2 : Nat) (v : Int) : Prop := (k2 = k1 ∧ v = 1 ∧ ∀ z, ws[k1]? = some z → digS z = false) ∨ (k2 = k1 + 1 ∧ ∃ z, ws[k1]? = some z ∧ natB z = true ∧ v = valN z ∧ 2 ≤ v)
theorem drop_at {ws : List Str} {k : Nat} {z : Str} {r : List Str} (h : ws.drop k = z :: r) : ws[k]? = some z ∧ ws.drop (k + 1) = r := by
  have a : (ws.drop k)[0]? = some z := by rw [h]; rfl
  rw [List.getElem?_drop, Nat.add_zero] at a
  refine ⟨a, ?_⟩
  rw [drop_cons a] at h
  exact (List.cons.inj h).2
theorem sg_behind {ws : List Str} {k k1 : Nat} {s : Int} (h : SgAt ws k k1 s) {f : Int} {n : Str} {R : List Str} (bf : f.natAbs < 10 ^ 60) (hn : nameB n = true) (e : ws.drop k = tmW (decide (k ≠ 0)) f n ++ R) : ws.drop k1 = numW f ++ (n :: R) := by
  have e2 : ws.drop k = (if decide (k ≠ 0) = false ∧ 0 < f then [] else [sg f]) ++ (numW f ++ (n :: R)) := by
    rw [e]; unfold tmW; simp
  obtain ⟨w, r, eh, es⟩ := tail_head (f := f) (n := n) R bf hn
  by_cases c : decide (k ≠ 0) = false ∧ 0 < f
  · rw [if_pos c, List.nil_append] at e2
    have k0 : k = 0 := by simpa using c.1
    have hw : ws[k]? = some w := by rw [eh] at e2; exact (drop_at e2).1
    rcases h with ⟨h1, _⟩ | ⟨h1, h2⟩
    · rw [h1]; exact e2
    · rcases h2 with ⟨_, h3⟩ | ⟨_, h3, _⟩
      · rw [hw] at h3
        rw [Option.some.inj h3] at es
        exact absurd es (by decide +kernel)
      · exact absurd k0 h3
  · rw [if_neg c] at e2
    have d := drop_at (r := numW f ++ (n :: R)) e2
    rcases h with ⟨h1, _, _, h4⟩ | ⟨h1, _⟩
    · have := h4 _ d.1
      rw [sg_is] at this
      cases this
    · rw [h1]; exact d.2
theorem nm_behind {ws : List Str} {k1 k2 : Nat} {v : Int} (h : NmAt2 ws k1 k2 v) {f : Int} {n : Str} {R : List Str} (hf : f ≠ 0) (bf : f.natAbs < 10 ^ 60) (hn : nameB n = true) (e : ws.drop k1 = numW f ++ (n :: R)) : ws[k2]? = some n := by
  unfold numW at e
  by_cases a : 1 < ab f
  · rw [if_pos a] at e
    have d := drop_at (r := n :: R) e
    have nb := (num_nosg a bf).1
    rcases h with ⟨_, _, h3⟩ | ⟨h1, _⟩
    · have := h3 _ d.1
      rw [nat_digS nb] at this
      cases this
    · rw [h1]; exact (drop_at d.2).1
  · rw [if_neg a] at e
    have d := drop_at (r := R) e
    rcases h with ⟨h1, _⟩ | ⟨_, z, hz, hb, _⟩
    · rw [h1]; exact d.1
    · rw [d.1] at hz
      rw [← Option.some.inj hz, ] at hb
      rw [nat_nname hb] at hn; cases hn
/-- what was read is a term's words -/
theorem read_term {ws : List Str} {k k1 k2 : Nat} {s v : Int} {n : Str} (h : SgAt ws k k1 s) (g : NmAt2 ws k1 k2 v) (hn : ws[k2]? = some n) :
    s * v ≠ 0 ∧ (s * v).natAbs < 10 ^ 60 ∧ k2 + 1 = k + (tmW (decide (k ≠ 0)) (s * v) n).length ∧ ws.drop k = tmW (decide (k ≠ 0)) (s * v) n ++ ws.drop (k2 + 1) := by
  have vf : 1 ≤ v ∧ v.natAbs < 10 ^ 60 := by
    rcases g with ⟨_, rfl, _⟩ | ⟨_, z, _, hb, rfl, h2⟩
    · exact ⟨by decide, by decide +kernel⟩
    · exact ⟨by omega, (val_lt hb).1⟩
  have sf : s = 1 ∨ s = -1 := by
    rcases h with ⟨_, _, h, _⟩ | ⟨_, ⟨h, _⟩ | ⟨h, _⟩⟩
    · exact .inl h
    · exact .inr h
    · exact .inl h
  have nab : (s * v).natAbs = v.natAbs := by rcases sf with rfl | rfl <;> omega
  have abv : ab (s * v) = v := by unfold ab; rcases sf with rfl | rfl <;> split <;> omega
  have num : ws.drop k1 = numW (s * v) ++ ws.drop k2 ∧ k2 = k1 + (numW (s * v)).length := by
    unfold numW
    rw [abv]
    rcases g with ⟨h1, h2, _⟩ | ⟨h1, z, hz, hb, h2, h3⟩
    · rw [if_neg (by omega), h1]; exact ⟨rfl, rfl⟩
    · rw [if_pos (by omega), h1]
      refine ⟨?_, rfl⟩
      rw [drop_cons hz]
      have e : z = Str.ofString (toString v) := by
        have b := num_back hb
        rw [← h2] at b
        rw [b]
        unfold numT
        congr 2
        omega
      rw [← e]; rfl
  have nm : ws.drop k2 = n :: ws.drop (k2 + 1) := drop_cons hn
  refine ⟨fun z => by rw [z] at nab; omega, by rw [nab]; exact vf.2, ?_⟩
  have sgn : ws.drop k = (if decide (k ≠ 0) = false ∧ 0 < s * v then [] else [sg (s * v)]) ++ ws.drop k1 ∧ k1 = k + (if decide (k ≠ 0) = false ∧ 0 < s * v then ([] : List Str) else [sg (s * v)]).length := by
    rcases h with ⟨h1, h2, h3, _⟩ | ⟨h1, ⟨h2, h3⟩ | ⟨h2, h3, h4⟩⟩
    · rw [if_pos ⟨by rw [h2]; decide, by rw [h3]; omega⟩, h1]; exact ⟨rfl, rfl⟩
    · have ng : ¬ 0 < s * v := by rw [h2]; omega
      rw [if_neg (fun z => ng z.2), h1, drop_cons h3]
      refine ⟨?_, rfl⟩
      unfold sg
      rw [if_pos (by rw [h2]; omega)]; rfl
    · rw [if_neg (fun z => by rw [decide_eq_true h3] at z; cases z.1), h1, drop_cons h4]
      refine ⟨?_, rfl⟩
      unfold sg
      rw [if_neg (by rw [h2]; omega)]; rfl
  refine ⟨?_, ?_⟩
  · unfold tmW
    rw [List.length_append, List.length_append]
    have a1 := sgn.2
    have a2 := num.2
    have a3 : ([n] : List Str).length = 1 := rfl
    omega
  · rw [sgn.1, num.1, nm]
    unfold tmW
    simp
theorem sum_words {ns : List Str} {fs : List Int} {ws : List Str} (e : ws = sumWords (ns.zip fs)) (h : ws ≠ [("0" : Str)]) : ws = wordsW (ns.zip fs) := by
  unfold sumWords at e
  by_cases z : wordsW (ns.zip fs) = []
  · rw [if_pos z] at e; exact absurd e h
  · rw [if_neg z] at e; exact e
theorem rep_flat (n : Nat) : (List.replicate n [V.int 0]).flatten = (List.replicate n (0 : Int)).map V.int := by
  induction n with
  | zero => rfl
  | succ k ih => rw [List.replicate_succ, List.flatten_cons, ih, List.replicate_succ]; rfl
theorem first_at : ∀ {ns : List Str} {z : Str}, z ∈ ns → ∃ j : Nat, ns[j]? = some z ∧ ∀ m : Nat, m < j → ns[m]? ≠ some z
  | [], _, h => nomatch h
  | a :: r, z, h => by
    by_cases e : a = z
    · exact ⟨0, by rw [e]; rfl, fun m h => absurd h (Nat.not_lt_zero _)⟩
    · obtain ⟨j, h1, h2⟩ := first_at ((List.mem_cons.mp h).resolve_left fun q => e q.symm)
      refine ⟨j + 1, by simpa using h1, fun m hm => ?_⟩
      cases m with
      | zero => intro q; exact e (Option.some.inj q)
      | succ m => intro q; exact h2 m (by omega) (by simpa using q)
def spFO (K : PySem.W.Frag) : Sp := fun vs H Q _ => ∃ (a l : Addr) (ns ws : List Str), vs = [.ref a, .ref l] ∧ (∀ H', Same H H' → SqZ K H' a (ns.map V.str)) ∧ H l = some (.lst (ws.map V.str)) ∧ ns.length ≤ 20 ∧ ns.Nodup ∧ (∀ z ∈ ns, nameB z = true) ∧ ws.length ≤ 62000 ∧ (∀ z ∈ ws, z.cps.toList.length ≤ 61001) ∧
  (∀ (fs : List Int) (t : Addr) (H' : Hp), Same H H' → Canon ns fs → ws = sumWords (ns.zip fs) → H' t = some (.tup (fs.map V.int)) → Q (.ref t) H') ∧ (∀ H', Same H H' → (∀ fs, Canon ns fs → ws ≠ sumWords (ns.zip fs)) → Q .non H')
def WF (H : Hp) (a l fd : Addr) (ns ws : List Str) (m : Nat) (σ : L2.St) (Hx : Hp) : Prop := ∃ (k p : Nat) (fs : List Int) (v5 v6 : Option V), σ = [some (.ref a), some (.ref l), some (.ref fd), some (.int ((p : Int) - 1)), some (.int (k : Nat)), v5, v6] ∧ Same H Hx ∧ Hx fd = some (.lst (fs.map V.int)) ∧ LI ns ws fs k p ∧ m + k = ws.length
section
variable {P : Program} {w : World} {K : PySem.W.Frag} {mg : Str → Option Value} {base : Heap}
abbrev s_factors_of : Stmt := topS 36
theorem sc_factors_of : FnScope ["_law_called_here", "_law_some", "_law_found", "_law_last", "_law_k", "_law_sign", "_law_factor"] ["_law_called_here", "_law_some"] (defScope s_factors_of) := ⟨rfl, rfl, rfl, by decide +kernel, rfl, by decide +kernel, by decide +kernel⟩
theorem ok_factors_of {f : Addr} {fd : FuncData} (F : Fun K "_law_factors_of" "_law_factors_of" s_factors_of f fd) (gl : mg "_law_factors_of" = some (.ref f)) (T : Bl mg) (Tlist : mg "list" = none) (D_whole : DefG P w K mg base 1 "_law_whole" ["_law_word"] spLWhole) : DefG P w K mg base 2 "_law_factors_of" ["_law_called_here", "_law_some"] (spFO K) := by
  refine def_mk F gl (F.binds fun _ _ _ _ _ _ us hl => match us, hl with | [_, _], _ => rfl) (okG F sc_factors_of (fun vs H Q E h => ?_) fun cdv A outer s H vs Q E hr hc h => ?_)
  · obtain ⟨a, l, ns, ws, rfl, _⟩ := h
    rfl
  · obtain ⟨a, l, ns, ws, rfl, ha, hl, n20, nd', nm, w62, wl, q1, q2⟩ := h
    have nd := sc_factors_of.nd
    have hu64 := hr.units
    refine ⟨_, (pss_cons (ps_par (i := 2) (j := 3) rfl nd rfl rfl (by decide) rfl rfl (pa_cons (pe_op op_rep (pe_lst (pa_cons pe_int pa_nil)) (pe_callB call_len_seq (by rfl) T.len boot_len (pa_cons (pv 0) pa_nil))) (pa_cons (pe_un un_neg pe_int) pa_nil)) rfl)
      (pss_cons (ps_if (pt_cmpR (op_eqP (K := K) hu64) (pv 1) (pe_lst (pa_cons pe_str pa_nil)) (nomark _))
        (pss_one (ps_ret (pe_tupleOf (by rfl) T.tuple (pv 2))))
        pss_nil)
      (pss_cons (ps_set (i := 4) nd rfl (by first | exact Or.inl rfl | exact Or.inr rfl) pe_int)
      (pss_cons (ps_while PassesOwn.never (pt_cmpR op_lt (pv 4) (pe_callB call_len_seq (by rfl) T.len boot_len (pa_cons (pv 1) pa_nil)) (nomark _))
        (pss_cons (ps_set (i := 5) nd rfl (by first | exact Or.inl rfl | exact Or.inr rfl) pe_int)
        (C8.pss_cut (ps_if (pt_cmpR (op_inK (K := K)) (pe_ix ix_list (pv 1) (pv 4) (fun _ _ => rfl)) (pe_tup (pa_cons pe_str (pa_cons pe_str pa_nil))) (by with_unfolding_all rfl))
          (pss_cons (ps_if (PW.pt (pw_and (pt_cmpR op_eq (pv 4) pe_int (nomark _)) (pw_and1 (pt_cmpR op_eq (pe_ix ix_list (pv 1) (pv 4) (fun _ _ => rfl)) pe_str (nomark _)))))
            (pss_one (ps_ret pe_non))
            pss_nil)
          (pss_cons (ps_set (i := 5) nd rfl (by first | exact Or.inl rfl | exact Or.inr rfl) (pe_cutE (pe_ifExp (pt_cmpR op_eq (pe_ix ix_list (pv 1) (pv 4) (fun _ _ => rfl)) pe_str (nomark _)) pe_int (pe_un un_neg pe_int))))
          (pss_one (ps_set (i := 4) nd rfl (by first | exact Or.inl rfl | exact Or.inr rfl) (pe_op op_add (pv 4) pe_int)))))
          (pss_one (ps_if (pt_cmpR op_gt (pv 4) pe_int (nomark _))
            (pss_one (ps_ret pe_non))
            pss_nil)))
        (pss_cons (ps_set (i := 6) nd rfl (by first | exact Or.inl rfl | exact Or.inr rfl) pe_int)
        (C8.pss_cut (ps_if (PW.pt (pw_and (pt_cmpR op_lt (pv 4) (pe_callB call_len_seq (by rfl) T.len boot_len (pa_cons (pv 1) pa_nil)) (nomark _)) (pw_and1 (pt_cmpR (op_inK (K := K)) (pe_slice sl_str (pe_ix ix_list (pv 1) (pv 4) (fun _ _ => rfl)) po_none (po_some pe_int)) (pe_callTy (call_listS rfl) (by rfl) Tlist boot_list (pa_cons pe_str pa_nil)) (by with_unfolding_all rfl)))))
          (pss_cons (ps_set (i := 6) nd rfl (by first | exact Or.inl rfl | exact Or.inr rfl) (pe_def D_whole (hr.mono (by decide)) hc (by rfl) (pa_cons (pe_ix ix_list (pv 1) (pv 4) (fun _ _ => rfl)) pa_nil)))
          (pss_cons (ps_if (PW.pt (pw_or (pt_cmpR op_isN (pv 6) pe_non (nomark _)) (pw_or1 (pt_cmpR op_lt (pv 6) pe_int (nomark _)))))
            (pss_one (ps_ret pe_non))
            pss_nil)
          (pss_one (ps_set (i := 4) nd rfl (by first | exact Or.inl rfl | exact Or.inr rfl) (pe_op op_add (pv 4) pe_int)))))
          pss_nil)
        (pss_cons (ps_if (PW.pt (pw_or (pt_cmpR op_eq (pv 4) (pe_callB call_len_seq (by rfl) T.len boot_len (pa_cons (pv 1) pa_nil)) (nomark _)) (pw_or (pt_cmpR (op_notInK (K := K)) (pe_ix ix_list (pv 1) (pv 4) (fun _ _ => rfl)) (pv 0) (by with_unfolding_all rfl)) (pw_or1 (pt_cmpR op_le (pe_bmZ PySem.F.slot_tuple_index PySem.F.type_tuple_index mt_tup_index (pv 0) (pa_cons (pe_ix ix_list (pv 1) (pv 4) (fun _ _ => rfl)) pa_nil)) (pv 3) (nomark _))))))
          (pss_one (ps_ret pe_non))
          pss_nil)
        (pss_cons (ps_set (i := 3) nd rfl (by first | exact Or.inl rfl | exact Or.inr rfl) (pe_bmZ PySem.F.slot_tuple_index PySem.F.type_tuple_index mt_tup_index (pv 0) (pa_cons (pe_ix ix_list (pv 1) (pv 4) (fun _ _ => rfl)) pa_nil)))
        (pss_cons (ps_asg (pe_op op_mul (pv 5) (pv 6)) (pg_sub (pv 2) (pv 3) set_list))
        (pss_one (ps_set (i := 4) nd rfl (by first | exact Or.inl rfl | exact Or.inr rfl) (pe_op op_add (pv 4) pe_int)))))))))))
      (pss_one (ps_ret (pe_ifExp (pt_cmpR op_ge (pv 3) pe_int (nomark _)) (pe_tupleOf (by rfl) T.tuple (pv 2)) pe_non))))))), ?_⟩
    refine ⟨(show 1 ≤ sizeLine from small (by decide)), fun p0 np0 => ?_⟩
    have s0 := Same.new (o := .lst [.int 0]) np0
    refine ⟨_, rfl, a, _, rfl, .inr (ha _ s0).t, p0, _, [.int 0], rfl, rfl, upd_same, by rw [List.length_map]; omega, by rw [List.length_map]; omega, by rw [List.length_map]; exact small (by rw [Int.toNat_natCast]; show 1 * _ ≤ _; omega), fun fd nfd => ⟨1, rfl, ?_⟩⟩
    rw [List.length_map, Int.toNat_natCast, rep_flat]
    have s1 := s0.trans (Same.new (o := .lst ((List.replicate ns.length (0 : Int)).map V.int)) nfd)
    have hf1 : upd (upd H p0 (.lst [.int 0])) fd (.lst ((List.replicate ns.length (0 : Int)).map V.int)) fd = some (.lst ((List.replicate ns.length (0 : Int)).map V.int)) := upd_same
    have nf0 : H fd = none := by
      cases e : H fd with
      | none => rfl
      | some o => rw [s0 _ _ e] at nfd; cases nfd
    generalize upd (upd H p0 (.lst [.int 0])) fd (.lst ((List.replicate ns.length (0 : Int)).map V.int)) = H1 at *
    refine ⟨_, _, rfl, ?_⟩
    -- nothing but a zero
    refine ⟨_, rfl, (show 1 ≤ sizeLine from small (by decide)), fun p2 np2 => ?_⟩
    have s2 := Same.new (o := .lst [.str "0"]) np2
    have hp2 : upd H1 p2 (.lst [.str "0"]) p2 = some (.lst (([("0" : Str)]).map V.str)) := upd_same
    have hl2 := s2 _ _ (s1 _ _ hl)
    have hf2 := s2 _ _ hf1
    have s12 := s1.trans s2
    generalize upd H1 p2 (.lst [.str "0"]) = H2 at *
    refine ⟨.list (ws.map PyData.str), .list (([("0" : Str)]).map PyData.str), .lst (tofL hl2) (dpa_strs _), .lst (tofL hp2) (dpa_strs ["0"]), plain_strs _, plain_strs _, depth_strs _, _, rfl, ?_⟩
    rw [eqv_strs]
    by_cases w0 : ws = [("0" : Str)]
    · rw [decide_eq_true w0]
      refine iteT ⟨_, rfl, .inl ⟨fd, _, rfl, tofL hf2, fun t nt => ?_⟩⟩
      refine q1 (List.replicate ns.length 0) t _ (s12.trans (Same.new nt)) ⟨List.length_replicate, fun x hx => by rw [(List.mem_replicate.mp hx).2]; decide +kernel⟩ ?_ upd_same
      unfold sumWords
      rw [if_pos (zeros_words _ _)]
      exact w0
    rw [decide_eq_false w0]
    refine iteF ?_
    -- a term in a turn
    refine ⟨WF H a l fd ns ws, ⟨ws.length, 0, 0, List.replicate ns.length 0, none, none, rfl, s12, hf2, LI.start ns ws, rfl⟩, ?_⟩
    rintro m σ Hx ⟨k, p, fs, v5, v6, rfl, sx, hfx, li, em⟩
    have hlx := sx _ _ hl
    refine ⟨_, rfl, _, rfl, l, _, rfl, .inl (tofL hlx), _, _, rfl, rfl, _, rfl, ?_⟩
    rw [List.length_map]
    refine ite2 (fun e => ?_) (fun e => ?_)
    rotate_left
    · -- no word is left
      have kl : k = ws.length := by
        rcases Nat.lt_or_ge k ws.length with h | h
        · exact absurd (decide_eq_true (by omega)) e
        · have := li.kl; omega
      refine ⟨_, rfl, _, _, rfl, rfl, _, rfl, ?_⟩
      have i1 := li.i1
      rw [kl, List.take_length] at i1
      by_cases p0 : p = 0
      · rw [decide_eq_false (show ¬ ((p : Int) - 1 ≥ 0) by omega)]
        refine iteF (q2 Hx sx fun gs _ z => ?_)
        have k0 := li.kp.mpr p0
        rw [kl] at k0
        have := List.eq_nil_of_length_eq_zero k0
        rw [this] at z
        exact sumWords_ne _ z.symm
      · rw [decide_eq_true (show ((p : Int) - 1 ≥ 0) by omega)]
        refine iteT ⟨_, rfl, .inl ⟨fd, _, rfl, tofL hfx, fun t nt => ?_⟩⟩
        refine q1 fs t _ (sx.trans (Same.new nt)) ⟨li.fl, li.fb⟩ ?_ upd_same
        unfold sumWords
        rw [if_neg (fun z => ?_)]
        · exact i1
        · rw [z] at i1
          have k0 : k = 0 := by rw [kl, i1]; rfl
          exact p0 (li.kp.mp k0)
    have hk : k < ws.length := by have := of_decide_eq_true e; omega
    obtain ⟨z, hz⟩ : ∃ z, ws[k]? = some z := ⟨_, List.getElem?_eq_getElem hk⟩
    have at_ : ∀ {i : Nat} {y : Str}, ws[i]? = some y → atI (ws.map V.str) ((i : Nat) : Int) = some (V.str y) := fun h => atI_nat (by rw [List.getElem?_map, h]; rfl)
    -- what is written in order goes on so
    have ord : ∀ gs, Canon ns gs → ws = sumWords (ns.zip gs) → ∃ j n g, p ≤ j ∧ ns[j]? = some n ∧ g ≠ 0 ∧ g.natAbs < 10 ^ 60 ∧ nameB n = true ∧ ∃ R, ws.drop k = tmW (decide (k ≠ 0)) g n ++ R := fun gs hc' es => by
      obtain ⟨j, n, g, h1, h2, _, h4, h5, _, h7⟩ := li.front hk hc' (sum_words es w0)
      exact ⟨j, n, g, h1, h2, h4, h5, nm n (List.mem_of_getElem? h2), _, h7⟩
    refine ⟨fun σ' H' => ∃ m', m' < m ∧ WF H a l fd ns ws m' σ' H', fun _ _ h => h, ?_⟩
    -- the sign
    refine ⟨fun σ' H' => ∃ (k1 : Nat) (sn : Int), σ' = [some (.ref a), some (.ref l), some (.ref fd), some (.int ((p : Int) - 1)), some (.int (k1 : Nat)), some (.int sn), v6] ∧ Same H H' ∧ H' fd = some (.lst (fs.map V.int)) ∧ SgAt ws k k1 sn, ?_, ?_⟩
    · refine ⟨_, rfl, _, rfl, l, _, _, _, rfl, rfl, tofL hlx, at_ hz, (show 2 ≤ sizeLine from small (by decide)), fun t0 nt0 => ?_⟩
      have st := Same.new (o := .tup [.str "+", .str "-"]) nt0
      have ht : upd Hx t0 (.tup [.str "+", .str "-"]) t0 = some (.tup (([("+" : Str), "-"]).map V.str)) := upd_same
      have sy := sx.trans st
      have hly := st _ _ hlx
      have hfy := st _ _ hfx
      generalize upd Hx t0 (.tup [.str "+", .str "-"]) = Hy at *
      refine ⟨t0, _, rfl, .inr (tofT ht), rfl, flat_strs ["+", "-"], _, rfl, ?_⟩
      have eb : inV (.str z) (([("+" : Str), "-"]).map V.str) = isSg z := by
        rw [inV_strs]
        unfold isSg
        by_cases h1 : z = "+"
        · simp [h1]
        · by_cases h2 : z = "-"
          · simp [h2]
          · simp [h1, h2]
      rw [eb]
      cases es : isSg z with
      | false =>
        refine iteF ⟨_, rfl, _, _, rfl, rfl, _, rfl, ?_⟩
        by_cases k0 : k = 0
        · rw [decide_eq_false (show ¬ ((k : Nat) : Int) > 0 by omega)]
          exact iteF ⟨k, 1, rfl, sy, hfy, .inl ⟨rfl, k0, rfl, fun y hy => by rw [hz] at hy; cases hy; exact es⟩⟩
        · rw [decide_eq_true (show ((k : Nat) : Int) > 0 by omega)]
          refine iteT (q2 Hy sy fun gs hc' e' => ?_)
          obtain ⟨j, n, g, _, _, _, _, _, R, h6⟩ := ord gs hc' e'
          unfold tmW at h6
          rw [if_neg (fun y => by rw [decide_eq_true k0] at y; cases y.1)] at h6
          have := (drop_at (z := sg g) (r := numW g ++ [n] ++ R) (by rw [h6]; simp)).1
          rw [hz] at this
          rw [Option.some.inj this, sg_is] at es
          cases es
      | true =>
        refine iteT ⟨_, rfl, rfl, _, rfl, ?_⟩
        have two : z = "+" ∨ z = "-" := by
          unfold isSg at es
          rcases Bool.or_eq_true_iff.mp es with h | h
          · exact .inl (of_decide_eq_true h)
          · exact .inr (of_decide_eq_true h)
        -- behind a plus ahead of all
        by_cases bad : k = 0 ∧ z = "+"
        · rw [decide_eq_true (show V.int ((k : Nat) : Int) = V.int 0 from congrArg (fun x : Nat => V.int (x : Int)) bad.1)]
          refine iteT ⟨_, rfl, _, rfl, l, _, _, _, rfl, rfl, tofL hly, at_ hz, rfl, _, rfl, ?_⟩
          rw [strD, decide_eq_true bad.2]
          refine iteT (q2 Hy sy fun gs hc' e' => ?_)
          obtain ⟨j, n, g, _, _, g0, gb, gn, R, h6⟩ := ord gs hc' e'
          obtain ⟨w', r', eh, eh2⟩ := tail_head (f := g) (n := n) R gb gn
          have e2 : ws.drop k = (if decide (k ≠ 0) = false ∧ 0 < g then [] else [sg g]) ++ (numW g ++ (n :: R)) := by rw [h6]; unfold tmW; simp
          by_cases c : decide (k ≠ 0) = false ∧ 0 < g
          · rw [if_pos c, List.nil_append, eh] at e2
            have := (drop_at e2).1
            rw [hz] at this
            rw [← Option.some.inj this, es] at eh2
            cases eh2
          · rw [if_neg c] at e2
            have := (drop_at (r := numW g ++ (n :: R)) e2).1
            rw [hz, bad.2] at this
            have h0 : ¬ 0 < g := fun y => c ⟨by rw [bad.1]; decide, y⟩
            unfold sg at this
            rw [if_pos (by omega)] at this
            exact absurd (Option.some.inj this) (by decide +kernel)
        have go : SgAt ws k (k + 1) (if z = "+" then 1 else -1) := by
          rcases two with h | h
          · rw [if_pos h]
            exact .inr ⟨rfl, .inr ⟨rfl, fun k0 => bad ⟨k0, h⟩, by rw [hz, h]⟩⟩
          · rw [if_neg (by rw [h]; decide +kernel)]
            exact .inr ⟨rfl, .inl ⟨rfl, by rw [hz, h]⟩⟩
        refine ite2 (fun k0 => ⟨_, rfl, _, rfl, l, _, _, _, rfl, rfl, tofL hly, at_ hz, rfl, _, rfl, ite2 (fun zp => absurd ⟨by have := V.int.inj (of_decide_eq_true k0); omega, by rw [strD] at zp; exact of_decide_eq_true zp⟩ bad) fun _ => ?_⟩) fun _ => ?_
        all_goals
          refine ⟨fun x H' => x = .int (if z = "+" then 1 else -1) ∧ H' = Hy, ?_, ?_⟩
          · refine ⟨_, rfl, _, rfl, l, _, _, _, rfl, rfl, tofL hly, at_ hz, rfl, _, rfl, ?_⟩
            rw [strD]
            by_cases zp : z = "+"
            · rw [decide_eq_true zp]
              exact iteT ⟨by rw [if_pos zp], rfl⟩
            · rw [decide_eq_false zp]
              exact iteF ⟨1, rfl, by rw [if_neg zp], rfl⟩
          rintro x H' ⟨rfl, rfl⟩
          exact ⟨_, rfl, _, _, rfl, rfl, k + 1, _, rfl, sy, hfy, go⟩
    rintro σ1 H3 ⟨k1, sn, rfl, s3, hf3, sgA⟩
    have hl3 := s3 _ _ hl
    have k1l : k1 ≤ ws.length := by
      rcases sgA with ⟨h, _⟩ | ⟨h, _⟩ <;> omega
    -- the number
    refine ⟨fun σ' H' => ∃ (k2 : Nat) (v : Int), σ' = [some (.ref a), some (.ref l), some (.ref fd), some (.int ((p : Int) - 1)), some (.int (k2 : Nat)), some (.int sn), some (.int v)] ∧ Same H H' ∧ H' fd = some (.lst (fs.map V.int)) ∧ NmAt2 ws k1 k2 v ∧ k2 ≤ ws.length, ?_, ?_⟩
    · refine ⟨_, rfl, _, rfl, l, _, rfl, .inl (tofL hl3), _, _, rfl, rfl, _, rfl, ?_⟩
      rw [List.length_map]
      by_cases e1 : k1 < ws.length
      rotate_left
      · rw [decide_eq_false (show ¬ ((k1 : Nat) : Int) < ((ws.length : Nat) : Int) by omega)]
        exact iteF (iteF ⟨k1, 1, rfl, s3, hf3, .inl ⟨rfl, rfl, fun y hy => absurd (List.getElem?_eq_some_iff.mp hy).1 e1⟩, k1l⟩)
      rw [decide_eq_true (show ((k1 : Nat) : Int) < ((ws.length : Nat) : Int) by omega)]
      obtain ⟨y, hy⟩ : ∃ y, ws[k1]? = some y := ⟨_, List.getElem?_eq_getElem e1⟩
      have yl := wl y (List.mem_of_getElem? hy)
      refine iteT ⟨_, rfl, _, rfl, l, _, _, _, rfl, rfl, tofL hl3, at_ hy, 1, rfl, y, rfl, small (by rw [str_len3]; omega), DIGITS, rfl, by decide +kernel, fun pd npd => ?_⟩
      have sd := Same.new (o := .lst (digL.map V.str)) npd
      have hpd : upd H3 pd (.lst (digL.map V.str)) pd = some (.lst (digL.map V.str)) := upd_same
      refine ⟨pd, _, rfl, .inl (tofL hpd), rfl, flat_strs digL, _, rfl, ?_⟩
      rw [inV_strs]
      have sy := s3.trans sd
      have hly := sd _ _ hl3
      have hfy := sd _ _ hf3
      show if digS y = true then _ else _
      cases ed : digS y with
      | false => exact iteF ⟨k1, 1, rfl, sy, hfy, .inl ⟨rfl, rfl, fun y' hy' => by rw [hy] at hy'; cases hy'; exact ed⟩, k1l⟩
      | true =>
        refine iteT ⟨_, rfl, _, rfl, l, _, _, _, rfl, rfl, tofL hly, at_ hy, y, rfl, yl, fun H5 s5 => ?_⟩
        have sy5 := sy.trans s5
        have hf5 := s5 _ _ hfy
        -- not a number from two on
        have bad : ¬ (natB y = true ∧ 2 ≤ valN y) → ∀ gs, Canon ns gs → ws ≠ sumWords (ns.zip gs) := fun hb gs hc' e' => by
          obtain ⟨j, n, g, _, _, g0, gb, gn, R, h6⟩ := ord gs hc' e'
          have h7 := sg_behind sgA gb gn h6
          unfold numW at h7
          by_cases ag : 1 < ab g
          · rw [if_pos ag] at h7
            have := (drop_at (r := n :: R) h7).1
            rw [hy] at this
            obtain ⟨b1, b2, b3⟩ := num_nosg ag gb
            rw [← Option.some.inj this] at b1 b2
            exact hb ⟨b1, by omega⟩
          · rw [if_neg ag] at h7
            have := (drop_at (r := R) h7).1
            rw [hy] at this
            rw [Option.some.inj this, name_digS gn] at ed
            cases ed
        by_cases yb : natB y = true
        · rw [wV_nat yb]
          refine ⟨_, rfl, rfl, _, rfl, iteF ⟨_, rfl, _, _, rfl, rfl, _, rfl, ?_⟩⟩
          by_cases y2 : 2 ≤ valN y
          · rw [decide_eq_false (show ¬ valN y < 2 by omega)]
            exact iteF ⟨_, rfl, _, _, rfl, rfl, k1 + 1, valN y, rfl, sy5, hf5, .inr ⟨rfl, y, hy, yb, rfl, y2⟩, e1⟩
          · rw [decide_eq_true (show valN y < 2 by omega)]
            exact iteT (q2 H5 sy5 (bad fun z => y2 z.2))
        · have yf : natB y = false := Bool.eq_false_iff.mpr yb
          have nb := bad fun z => yb z.1
          rcases wV_not yf with e9 | ⟨v, v0, _, e9⟩
          · rw [e9]
            exact ⟨_, rfl, rfl, _, rfl, iteT (iteT (q2 H5 sy5 nb))⟩
          · rw [e9]
            refine ⟨_, rfl, rfl, _, rfl, iteF ⟨_, rfl, _, _, rfl, rfl, _, rfl, ?_⟩⟩
            rw [decide_eq_true (show v < 2 by omega)]
            exact iteT (q2 H5 sy5 nb)
    rintro σ2 H4 ⟨k2, v, rfl, s4, hf4, nmA, k2l⟩
    have hl4 := s4 _ _ hl
    have ha4 := ha _ s4
    -- the name
    have ordn : ∀ gs, Canon ns gs → ws = sumWords (ns.zip gs) → ∃ j n, p ≤ j ∧ ns[j]? = some n ∧ ws[k2]? = some n := fun gs hc' e' => by
      obtain ⟨j, n, g, h1, h2, g0, gb, gn, R, h6⟩ := ord gs hc' e'
      exact ⟨j, n, h1, h2, nm_behind nmA g0 gb gn (sg_behind sgA gb gn h6)⟩
    refine ⟨_, rfl, _, rfl, l, _, rfl, .inl (tofL hl4), rfl, _, rfl, ?_⟩
    rw [List.length_map]
    by_cases e2 : k2 = ws.length
    · refine ite2 (fun _ => iteT (q2 H4 s4 fun gs hc' e' => ?_)) (fun z => absurd (decide_eq_true (by rw [e2])) z)
      obtain ⟨j, n, _, _, h3⟩ := ordn gs hc' e'
      have := (List.getElem?_eq_some_iff.mp h3).1
      omega
    refine ite2 (fun z => absurd (V.int.inj (of_decide_eq_true z)) (by omega)) (fun _ => ?_)
    obtain ⟨n, hn⟩ : ∃ n, ws[k2]? = some n := ⟨_, List.getElem?_eq_getElem (by omega)⟩
    refine ⟨_, rfl, _, rfl, l, _, _, _, rfl, rfl, tofL hl4, at_ hn, _, rfl, a, _, rfl, .inr ha4.t, rfl, flat_strs ns, _, rfl, ?_⟩
    rw [inV_strs]
    by_cases nin : n ∈ ns
    rotate_left
    · rw [decide_eq_false nin]
      refine iteT (iteT (q2 H4 s4 fun gs hc' e' => ?_))
      obtain ⟨j, n', _, h2, h3⟩ := ordn gs hc' e'
      rw [hn] at h3
      cases h3
      exact nin (List.mem_of_getElem? h2)
    rw [decide_eq_true nin]
    obtain ⟨j, hj, hjf⟩ := first_at nin
    refine iteF ⟨_, rfl, ⟨a, _, rfl, ha4⟩, _, rfl, _, rfl, l, _, _, _, rfl, rfl, tofL hl4, at_ hn, a, ns, n, j, rfl, rfl, ha4.t, hj, hjf, _, rfl, _, _, rfl, rfl, _, rfl, ?_⟩
    by_cases jp : p ≤ j
    rotate_left
    · rw [decide_eq_true (show ((j : Nat) : Int) ≤ (p : Int) - 1 by omega)]
      refine iteT (q2 H4 s4 fun gs hc' e' => ?_)
      obtain ⟨j', n', h1, h2, h3⟩ := ordn gs hc' e'
      rw [hn] at h3
      cases h3
      have a1 := (List.getElem?_eq_some_iff.mp hj).2
      have a2 := (List.getElem?_eq_some_iff.mp h2).2
      have : j = j' := (List.getElem_inj nd').mp (a1.trans a2.symm)
      omega
    rw [decide_eq_false (show ¬ ((j : Nat) : Int) ≤ (p : Int) - 1 by omega)]
    refine iteF ?_
    obtain ⟨r1, r2, r3, r4⟩ := read_term sgA nmA hn
    have li2 := li.step nd' nm hj jp r1 r2 (k' := k2 + 1) (by omega) r3 r4
    have jl := (List.getElem?_eq_some_iff.mp hj).1
    refine ⟨_, rfl, ⟨a, _, rfl, ha4⟩, _, rfl, _, rfl, l, _, _, _, rfl, rfl, tofL hl4, at_ hn, a, ns, n, j, rfl, rfl, ha4.t, hj, hjf, ?_⟩
    have tne : 1 ≤ (tmW (decide (k ≠ 0)) (sn * v) n).length := by unfold tmW; rw [List.length_append, List.length_append]; show 1 ≤ _ + (_ + 1); omega
    have snv : sn = 1 ∨ sn = -1 := by
      rcases sgA with ⟨_, _, h, _⟩ | ⟨_, ⟨h, _⟩ | ⟨h, _⟩⟩
      · exact .inl h
      · exact .inr h
      · exact .inl h
    refine ⟨_, rfl, _, rfl, _, _, rfl, rfl, .inl (by rcases snv with rfl | rfl <;> exact ⟨by decide, by decide⟩), _, rfl, _, rfl, fd, _, _, j, rfl, rfl, hf4, ixN_of (by omega) (by rw [List.length_map, li.fl]; omega), ?_⟩
    refine ⟨_, rfl, _, _, rfl, rfl, ws.length - (k2 + 1), by have := li2.kl; have := li.kl; omega, k2 + 1, j + 1, fs.set j (sn * v), some (.int sn), some (.int v), ?_, fun b o hb => by rw [upd_ne (fun e => by rw [e, nf0] at hb; cases hb)]; exact s4 _ _ hb, ?_, li2, by have := li2.kl; omega⟩
    · rw [show (((j + 1 : Nat) : Int) - 1) = ((j : Nat) : Int) by omega]
      rfl
    · rw [upd_same, List.map_set]
end
end KW
namespace KW
open PySem PySem.Spec PyProof.Rows L2 GL RZ TL GX
/-! ### the law's own reader: a line -/
def txI (c : Int) : Str := Str.ofString (toString c)
theorem whole_ok {z : Str} (h : wholeB z = true) : okW z = true := by
  unfold wholeB at h
  by_cases hs : Txt.startswith z "-" = true
  · rw [if_pos hs, Bool.and_eq_true] at h
    obtain ⟨cs, e⟩ := starts_minus hs
    have r : restS z = cutS z (some 1) none := by unfold restS; rw [if_pos (by rw [e]; rfl)]
    have hn := h.1
    unfold natB at hn
    rw [Bool.and_eq_true, Bool.and_eq_true] at hn
    unfold okW
    rw [r, hn.1.1, hn.1.2, Bool.true_and, Bool.true_and]
    refine decide_eq_true fun q => ?_
    rcases Bool.or_eq_true_iff.mp hn.2 with e0 | e0
    · have e0 := of_decide_eq_true e0
      refine of_decide_eq_true h.2 (TL.ext_tl ?_)
      have e1 := congrArg (fun s : Str => s.cps.toList) e0
      simp only [cut1, e] at e1
      show z.cps.toList = _
      rw [e]
      have e1 : cs = ("0" : Str).cps.toList := e1
      rw [e1]; decide +kernel
    · exact of_decide_eq_true e0 q.1
  · rw [if_neg hs] at h; exact nat_okW h
theorem text_ok {c : Int} (h : c.natAbs < 10 ^ 60) : okW (txI c) = true ∧ wV (txI c) = .int c := by
  obtain ⟨w1, w2⟩ := whole_num h
  have o := whole_ok w1
  refine ⟨o, ?_⟩
  unfold wV
  have i := (whole_int w1).1
  rw [w2] at i
  rw [show txI c = Str.ofString (toString c) from rfl] at *
  rw [if_pos o, i]; rfl
theorem ok_text {z : Str} (h : okW z = true) : ∃ c : Int, wV z = .int c ∧ z = txI c ∧ c.natAbs < 10 ^ 60 := by
  rcases okW_of h with hn | ⟨w0, cs, ec, d1, d2, d3⟩
  · refine ⟨valN z, wV_nat hn, ?_, (val_lt hn).1⟩
    have b := num_back hn
    have p := (val_lt hn).2
    unfold txI
    rw [int_text, if_neg (by omega)]
    exact b
  · have r : (restS z).cps.toList = cs := by unfold restS; rw [if_pos w0, cut1, ec]; rfl
    have z0 : z ≠ "0" := fun e => by rw [e] at w0; revert w0; decide +kernel
    have c0 : cs[0]? ≠ some 48 := fun e => by
      unfold okW at h
      rw [Bool.and_eq_true, Bool.and_eq_true] at h
      exact of_decide_eq_true h.2.2 ⟨by rw [r]; exact e, z0⟩
    have db := digits_back _ cs rfl d1 d2 (.inr c0)
    have zl : z.length = z.cps.toList.length := (Array.length_toList ..).symm
    have l : z.length ≤ 61 := by rw [zl, ec, List.length_cons]; omega
    have it : PySem.intText? z = some (-((NumText.digitsVal cs : Nat) : Int)) := PySem.intText_neg ec d1 d2 (by omega)
    generalize hv : NumText.digitsVal cs = v at *
    have v0 : v ≠ 0 := fun e => by
      rw [e, numL_lt (by decide)] at db
      rw [← db] at c0
      exact c0 rfl
    have dl := digits_lt cs 0 d1
    have e10 : (10 : Nat) ^ cs.length ≤ 10 ^ 60 := Nat.pow_le_pow_right (by decide) d3
    have hv2 : cs.foldl (fun acc c => acc * 10 + (c - 48)) 0 = v := hv
    rw [hv2] at dl
    refine ⟨-((v : Nat) : Int), ?_, ?_, by omega⟩
    · unfold wV
      rw [if_pos h, it]; rfl
    · unfold txI
      rw [int_text, if_pos (by omega)]
      refine TL.ext_tl ?_
      rw [tl_append, tl_numT]
      show z.cps.toList = _
      rw [ec, show (-((v : Nat) : Int)).natAbs = v by omega, db]
      rfl
def CL (ns W : List Str) (fs : List Int) (c : Int) (mo : Option Int) : Prop := Canon ns fs ∧ c.natAbs < 10 ^ 60 ∧ (∀ m, mo = some m → 2 ≤ m ∧ m.natAbs < 10 ^ 60) ∧ W = lineWords ns fs c mo
theorem cl_read {ns : List Str} (nm : ∀ z ∈ ns, nameB z = true) (nd : ns.Nodup) {line : Str} {fs : List Int} {c : Int} {mo : Option Int} (h : CL ns (Txt.split line " ") fs c mo) : readB ns line = some (fs, c, mo.getD 0) := by
  obtain ⟨⟨h1, h2⟩, h3, h4, h5⟩ := h
  have e : line = lineW ns fs c mo := by
    rw [lineW_join, ← h5, TL.join_eq]
    exact (PySem.StrLaws.join_split line " ").symm
  rw [e]
  exact read_back nm nd h1.symm h2 h3 h4
theorem mod_facts (W : List Str) : (modOf W).2 = 0 ∨ (2 ≤ (modOf W).2 ∧ (modOf W).2.natAbs < 10 ^ 60) := by
  unfold modOf
  split
  · rename_i h
    exact .inr ⟨h.2.2.2, (val_lt h.2.2.1).1⟩
  · exact .inl rfl
theorem valW_lt2 {z : Str} (h : wholeB z = true) : (valW z).natAbs < 10 ^ 60 := by
  obtain ⟨c, h1, h2, h3⟩ := ok_text (whole_ok h)
  have i := (whole_int h).1
  unfold wV at h1
  rw [if_pos (whole_ok h), i] at h1
  have : valW z = c := V.int.inj h1
  rw [this]; exact h3
theorem terms_real {ps : List (Str × Int)} (hn : ∀ p ∈ ps, nameB p.1 = true) (hr : real ps ≠ []) : termsOf (sumWords ps) = (real ps).map fun p => termB (piece p) := by
  have hs : ∀ p ∈ ps, isSg p.1 = false := fun p hp => name_sg (hn p hp)
  obtain ⟨w1, w2⟩ := signed_words ps (fun p hp z => by have := hs p hp; rw [z] at this; revert this; decide +kernel) hr
  unfold sumWords
  rw [if_neg w1]
  unfold termsOf partsOf
  rw [w2, pieces_parts (real ps) [] fun p hp => hs p (List.mem_filter.mp hp).1, List.nil_append, List.map_map]
  rfl
theorem term_some {n : Str} {f : Int} (hn : nameB n = true) (h : termB (piece (n, f)) ≠ none) : f.natAbs < 10 ^ 60 := by
  unfold piece numW at h
  by_cases a : 1 < ab f
  · rw [if_pos a] at h
    have h : termB [sg f, Str.ofString (toString (ab f)), n] ≠ none := h
    rw [term3] at h
    by_cases b : natB (Str.ofString (toString (ab f))) = true ∧ nameB n = true
    · have := (val_lt b.1).1
      rw [numT_ab, valN_num] at this
      omega
    · rw [if_neg b] at h; exact absurd rfl h
  · have : f.natAbs ≤ 1 := by unfold ab at a; split at a <;> omega
    exact Nat.lt_of_le_of_lt this (by decide +kernel)
theorem mod_line {ns : List Str} {fs : List Int} {c : Int} {mo : Option Int} (hm : ∀ m, mo = some m → 2 ≤ m ∧ m.natAbs < 10 ^ 60) : modOf (lineWords ns fs c mo) = (sumWords (ns.zip fs) ++ [("=" : Str), txI c], mo.getD 0) := by
  unfold lineWords
  cases mo with
  | none =>
    unfold modWords
    rw [List.append_nil, modOf_app, if_neg (fun z => absurd z.1 (by decide +kernel))]
    rfl
  | some m =>
    obtain ⟨m2, mb⟩ := hm m rfl
    have h0 : ¬ m < 0 := by omega
    unfold modWords
    have et : Str.ofString (toString m) = numT m.natAbs := by rw [int_text, if_neg h0]
    rw [modOf_app, et, if_pos ⟨rfl, natB_num mb, by rw [valN_num]; omega⟩, valN_num]
    refine Prod.ext rfl ?_
    show ((m.natAbs : Nat) : Int) = m
    omega
theorem read_cl {ns : List Str} (nm : ∀ z ∈ ns, nameB z = true) {line : Str} {fs : List Int} {c m : Int} (h : readB ns line = some (fs, c, m)) : CL ns (Txt.split line " ") fs c (if m = 0 then none else some m) := by
  have h' : (if (termsOf ((modOf (Txt.split line " ")).1.take ((modOf (Txt.split line " ")).1.length - 2))).any Option.isNone = true then none else if ¬ ((modOf (Txt.split line " ")).1[(modOf (Txt.split line " ")).1.length - 2]? = some ("=" : Str) ∧ wholeB (lastS (modOf (Txt.split line " ")).1) = true) then none
    else if lineW ns (ns.map (sumFor (termsOf ((modOf (Txt.split line " ")).1.take ((modOf (Txt.split line " ")).1.length - 2))))) (valW (lastS (modOf (Txt.split line " ")).1)) (if (modOf (Txt.split line " ")).2 = 0 then none else some (modOf (Txt.split line " ")).2) = line
      then some (ns.map (sumFor (termsOf ((modOf (Txt.split line " ")).1.take ((modOf (Txt.split line " ")).1.length - 2)))), valW (lastS (modOf (Txt.split line " ")).1), (modOf (Txt.split line " ")).2) else none) = some (fs, c, m) := h
  have mf := mod_facts (Txt.split line " ")
  by_cases a1 : (termsOf ((modOf (Txt.split line " ")).1.take ((modOf (Txt.split line " ")).1.length - 2))).any Option.isNone = true
  · rw [if_pos a1] at h'; cases h'
  rw [if_neg a1] at h'
  by_cases a2 : ¬ ((modOf (Txt.split line " ")).1[(modOf (Txt.split line " ")).1.length - 2]? = some ("=" : Str) ∧ wholeB (lastS (modOf (Txt.split line " ")).1) = true)
  · rw [if_pos a2] at h'; cases h'
  rw [if_neg a2] at h'
  by_cases a3 : lineW ns (ns.map (sumFor (termsOf ((modOf (Txt.split line " ")).1.take ((modOf (Txt.split line " ")).1.length - 2))))) (valW (lastS (modOf (Txt.split line " ")).1)) (if (modOf (Txt.split line " ")).2 = 0 then none else some (modOf (Txt.split line " ")).2) = line
  rotate_left
  · rw [if_neg a3] at h'; cases h'
  rw [if_pos a3] at h'
  have e := Option.some.inj h'
  have ec := (Prod.mk.inj (Prod.mk.inj e).2).1
  have em := (Prod.mk.inj (Prod.mk.inj e).2).2
  have ef := (Prod.mk.inj e).1
  rw [ef, ec, em] at a3
  rw [em] at mf
  have hm : ∀ m', (if m = 0 then none else some m) = some m' → 2 ≤ m' ∧ m'.natAbs < 10 ^ 60 := fun m' hm' => by
    rcases mf with mf | mf
    · rw [if_pos mf] at hm'; cases hm'
    · by_cases m0 : m = 0
      · rw [if_pos m0] at hm'; cases hm'
      · rw [if_neg m0] at hm'; cases hm'; exact mf
  have a4 := Classical.byContradiction a2
  have W : Txt.split line " " = lineWords ns fs c (if m = 0 then none else some m) := by
    conv => lhs; rw [← a3]
    exact split_line nm
  have cb : c.natAbs < 10 ^ 60 := by rw [← ec]; exact valW_lt2 a4.2
  have fl : fs.length = ns.length := by rw [← ef, List.length_map]
  refine ⟨⟨fl, fun f hf => ?_⟩, cb, hm, W⟩
  rw [W, mod_line hm] at a1
  have l2 : (sumWords (ns.zip fs) ++ [("=" : Str), txI c]).length - 2 = (sumWords (ns.zip fs)).length := by rw [List.length_append]; rfl
  have a1 : ¬ (termsOf ((sumWords (ns.zip fs) ++ [("=" : Str), txI c]).take ((sumWords (ns.zip fs) ++ [("=" : Str), txI c]).length - 2))).any Option.isNone = true := a1
  rw [l2, List.take_left] at a1
  by_cases f0 : f = 0
  · rw [f0]; decide +kernel
  obtain ⟨i, hi⟩ := List.getElem?_of_mem hf
  have il := (List.getElem?_eq_some_iff.mp hi).1
  obtain ⟨n, hn⟩ : ∃ n, ns[i]? = some n := ⟨_, List.getElem?_eq_getElem (by omega)⟩
  have hz : (ns.zip fs)[i]? = some (n, f) := by rw [List.getElem?_zip_eq_some]; exact ⟨hn, hi⟩
  have pm : (n, f) ∈ real (ns.zip fs) := List.mem_filter.mpr ⟨List.mem_of_getElem? hz, decide_eq_true f0⟩
  rw [terms_real (fun p hp => nm _ (List.of_mem_zip hp).1) (fun z => by rw [z] at pm; cases pm)] at a1
  refine term_some (nm n (List.mem_of_getElem? hn)) fun z => a1 (List.any_eq_true.mpr ⟨none, List.mem_map.mpr ⟨_, pm, z⟩, rfl⟩)
def spPiece (K : PySem.W.Frag) : Sp := fun vs H Q _ => ∃ (a : Addr) (ns : List Str) (line : Str), vs = [.ref a, .str line] ∧ (∀ H', Same H H' → SqZ K H' a (ns.map V.str)) ∧ ns.length ≤ 20 ∧ ns.Nodup ∧ (∀ z ∈ ns, nameB z = true) ∧ line.length ≤ 61000 ∧
  (∀ (fs : List Int) (c : Int) (mo : Option Int) (t b : Addr) (H' : Hp), Same H H' → CL ns (Txt.split line " ") fs c mo → SqT K H' t (lineV b c mo) → H' b = some (.tup (fs.map V.int)) → Q (.ref t) H') ∧ (∀ H', Same H H' → (∀ fs c mo, ¬ CL ns (Txt.split line " ") fs c mo) → Q .non H')
def modV : Option Int → List V
  | none => []
  | some m => [.int m]
theorem atI_two (init : List Str) (a x : Str) : atI ((init ++ [a, x]).map V.str) (-2) = some (V.str a) := by
  unfold atI
  have l : ((init ++ [a, x]).map V.str).length = init.length + 2 := by rw [List.length_map, List.length_append]; rfl
  have e : ixN ((init ++ [a, x]).map V.str).length (-2) = some init.length := by
    rw [l]
    unfold ixN
    simp
    omega
  rw [e]
  show ((init ++ [a, x]).map V.str)[init.length]? = _
  rw [List.getElem?_map, List.getElem?_append_right (Nat.le_refl _), Nat.sub_self]; rfl
theorem atI_one (init : List Str) (a x : Str) : atI ((init ++ [a, x]).map V.str) (-1) = some (V.str x) := by
  rw [show (init ++ [a, x]).map V.str = (init.map V.str ++ [V.str a]) ++ [V.str x] by simp]
  exact atI_last _ _
theorem two_inj {i i' : List Str} {a a' x x' : Str} (h : i ++ [a, x] = i' ++ [a', x']) : i = i' ∧ a = a' ∧ x = x' := by
  obtain ⟨h1, h2⟩ := List.append_inj' h rfl
  have := List.cons.inj h2
  exact ⟨h1, this.1, (List.cons.inj this.2).1⟩
section
variable {P : Program} {w : World} {K : PySem.W.Frag} {mg : Str → Option Value} {base : Heap}
abbrev s_piece : Stmt := topS 37
theorem sc_piece : FnScope ["_law_called_here", "_law_part", "_law_some", "_law_by", "_law_factors"] ["_law_called_here", "_law_part"] (defScope s_piece) := ⟨rfl, rfl, rfl, by decide +kernel, rfl, by decide +kernel, by decide +kernel⟩
theorem ok_piece {f : Addr} {fd : FuncData} (F : Fun K "_law_piece" "_law_piece" s_piece f fd) (gl : mg "_law_piece" = some (.ref f)) (T : Bl mg) (D_whole : DefG P w K mg base 1 "_law_whole" ["_law_word"] spLWhole) (D_factors_of : DefG P w K mg base 2 "_law_factors_of" ["_law_called_here", "_law_some"] (spFO K)) : DefG P w K mg base 3 "_law_piece" ["_law_called_here", "_law_part"] (spPiece K) := by
  refine def_mk F gl (F.binds fun _ _ _ _ _ _ us hl => match us, hl with | [_, _], _ => rfl) (okG F sc_piece (fun vs H Q E h => ?_) fun cdv A outer s H vs Q E hr hc h => ?_)
  · obtain ⟨a, ns, line, rfl, _⟩ := h
    rfl
  · obtain ⟨a, ns, line, rfl, ha, n20, nd', nm, ll, q1, q2⟩ := h
    have nd := sc_piece.nd
    refine ⟨_, (pss_cons (ps_par (i := 2) (j := 3) rfl nd rfl rfl (by decide) rfl rfl (pa_cons (pe_bm PySem.F.plainAttrs_str PySem.F.slot_str_split PySem.F.type_str_split mt_split (pv 1) (pa_cons pe_str pa_nil)) (pa_cons (pe_tup pa_nil) pa_nil)) rfl)
      (C8.pss_cut (ps_if (PW.pt (pw_and (pt_cmpR op_gt (pe_callB call_len_seq (by rfl) T.len boot_len (pa_cons (pv 2) pa_nil)) pe_int (nomark _)) (pw_and1 (pt_cmpR op_eq (pe_ix ix_list (pv 2) (pe_un un_neg pe_int) (fun _ _ => rfl)) pe_str (nomark _)))))
        (pss_cons (ps_set (i := 3) nd rfl (by first | exact Or.inl rfl | exact Or.inr rfl) (pe_tup (pa_cons (pe_def D_whole (hr.mono (by decide)) hc (by rfl) (pa_cons (pe_ix ix_list (pv 2) (pe_un un_neg pe_int) (fun _ _ => rfl)) pa_nil)) pa_nil)))
        (pss_cons (ps_set (i := 2) nd rfl (by first | exact Or.inl rfl | exact Or.inr rfl) (pe_slice sl_list (pv 2) po_none (po_some (pe_un un_neg pe_int))))
        (pss_one (ps_if (PW.pt (pw_or (pt_cmpR op_isN (pe_ix ix_tup (pv 3) pe_int (fun _ _ => rfl)) pe_non (nomark _)) (pw_or1 (pt_cmpR op_lt (pe_ix ix_tup (pv 3) pe_int (fun _ _ => rfl)) pe_int (nomark _)))))
          (pss_one (ps_ret pe_non))
          pss_nil))))
        pss_nil)
      (pss_cons (ps_if (PW.pt (pw_or (pt_cmpR op_lt (pe_callB call_len_seq (by rfl) T.len boot_len (pa_cons (pv 2) pa_nil)) pe_int (nomark _)) (pw_or (pt_cmpR op_ne (pe_ix ix_list (pv 2) (pe_un un_neg pe_int) (fun _ _ => rfl)) pe_str (nomark _)) (pw_or1 (pt_cmpR op_isN (pe_def D_whole (hr.mono (by decide)) hc (by rfl) (pa_cons (pe_ix ix_list (pv 2) (pe_un un_neg pe_int) (fun _ _ => rfl)) pa_nil)) pe_non (nomark _))))))
        (pss_one (ps_ret pe_non))
        pss_nil)
      (pss_cons (ps_set (i := 4) nd rfl (by first | exact Or.inl rfl | exact Or.inr rfl) (pe_def D_factors_of (hr.mono (by decide)) hc (by rfl) (pa_cons (pv 0) (pa_cons (pe_slice sl_list (pv 2) po_none (po_some (pe_un un_neg pe_int))) pa_nil))))
      (pss_one (ps_ret (pe_ifExp (pt_cmpR op_isN (pv 4) pe_non (nomark _)) pe_non (pe_op (G3.op_catAK (K := K)) (pe_tup (pa_cons (pv 4) (pa_cons (pe_def D_whole (hr.mono (by decide)) hc (by rfl) (pa_cons (pe_ix ix_list (pv 2) (pe_un un_neg pe_int) (fun _ _ => rfl)) pa_nil)) pa_nil))) (pv 3))))))))), ?_⟩
    obtain ⟨u1, u2, u3⟩ := split_few line " " (by decide +kernel)
    refine ⟨_, rfl, rfl, line, " ", rfl, rfl, by decide +kernel, Nat.le_trans (Nat.add_le_add_right ll 2) (by decide), fun p1 np1 => ?_⟩
    generalize Txt.split line " " = W at *
    have s1 := Same.new (o := .lst (W.map V.str)) np1
    have hp1 : upd H p1 (.lst (W.map V.str)) p1 = some (.lst (W.map V.str)) := upd_same
    generalize upd H p1 (.lst (W.map V.str)) = H1 at *
    have wlW : ∀ z ∈ W, z.cps.toList.length ≤ 61001 := fun z hz => by rw [← str_len3]; have := u3 z hz; omega
    refine ⟨(show 0 ≤ sizeLine from small (by decide)), fun tb0 ntb0 => ?_⟩
    have s2 := Same.new (o := .tup []) ntb0
    have htb0 : upd H1 tb0 (.tup []) tb0 = some (.tup []) := upd_same
    have hp2 := s2 _ _ hp1
    have s12 := s1.trans s2
    generalize upd H1 tb0 (.tup []) = H2 at *
    refine ⟨_, _, rfl, ?_⟩
    -- the modulus
    refine ⟨fun σ' H' => ∃ (pw tb : Addr) (S : List Str) (mm : Option Int), σ' = [some (.ref a), some (.str line), some (.ref pw), some (.ref tb), none] ∧ Same H H' ∧ H' pw = some (.lst (S.map V.str)) ∧ H' tb = some (.tup (modV mm)) ∧ S.length ≤ 62000 ∧ (∀ z ∈ S, z.cps.toList.length ≤ 61001) ∧
      W = S ++ modWords mm ∧ (∀ m, mm = some m → 2 ≤ m ∧ m.natAbs < 10 ^ 60) ∧ (∀ fs c mo, CL ns W fs c mo → mo = mm), ?_, ?_⟩
    · have same : (∀ fs c mo, CL ns W fs c mo → mo = none) → ∃ (pw tb : Addr) (S : List Str) (mm : Option Int), [some (.ref a), some (.str line), some (.ref p1), some (.ref tb0), none] = [some (.ref a), some (.str line), some (.ref pw), some (.ref tb), (none : Option V)] ∧ Same H H2 ∧ H2 pw = some (.lst (S.map V.str)) ∧ H2 tb = some (.tup (modV mm)) ∧ S.length ≤ 62000 ∧ (∀ z ∈ S, z.cps.toList.length ≤ 61001) ∧
          W = S ++ modWords mm ∧ (∀ m, mm = some m → 2 ≤ m ∧ m.natAbs < 10 ^ 60) ∧ (∀ fs c mo, CL ns W fs c mo → mo = mm) :=
        fun h => ⟨p1, tb0, W, none, rfl, s12, hp2, htb0, by omega, wlW, (List.append_nil W).symm, (fun m e => nomatch e), h⟩
      refine ⟨_, rfl, p1, _, rfl, .inl (tofL hp2), _, _, rfl, rfl, _, rfl, ?_⟩
      rw [List.length_map]
      by_cases l2 : 2 < W.length
      rotate_left
      · rw [decide_eq_false (show ¬ ((W.length : Nat) : Int) > 2 by omega)]
        refine iteF (iteF (same fun fs c mo h => ?_))
        have e := congrArg List.length h.2.2.2
        unfold lineWords at e
        have sn := List.length_pos_iff.mpr (sumWords_ne (ns.zip fs))
        rw [List.length_append, List.length_append] at e
        have : ([("=" : Str), Str.ofString (toString c)] : List Str).length = 2 := rfl
        omega
      rw [decide_eq_true (show ((W.length : Nat) : Int) > 2 by omega)]
      obtain ⟨init, x0, x1, rfl⟩ := two_ends W (by omega)
      refine iteT ⟨_, rfl, 2, rfl, p1, _, -2, _, rfl, rfl, tofL hp2, atI_two _ _ _, rfl, _, rfl, ?_⟩
      rw [strD]
      by_cases em : x0 = "mod"
      rotate_left
      · rw [decide_eq_false em]
        refine iteF (same fun fs c mo h => ?_)
        cases mo with
        | none => rfl
        | some m =>
          have e := h.2.2.2
          unfold lineWords modWords at e
          exact absurd (two_inj e).2.1 em
      rw [decide_eq_true em]
      refine iteT ?_
      refine ⟨_, rfl, 1, rfl, p1, _, -1, _, rfl, rfl, tofL hp2, atI_one _ _ _, x1, rfl, wlW x1 (by simp), fun H3 s3 => ⟨(show 1 ≤ sizeLine from small (by decide)), fun tb ntb => ?_⟩⟩
      have s4 := Same.new (o := .tup [wV x1]) ntb
      have htb : upd H3 tb (.tup [wV x1]) tb = some (.tup [wV x1]) := upd_same
      have hp4 := s4 _ _ (s3 _ _ hp2)
      have s14 := s12.trans (s3.trans s4)
      generalize upd H3 tb (.tup [wV x1]) = H4 at *
      refine ⟨_, rfl, 2, rfl, -2, rfl, p1, _, rfl, tofL hp4, fun pw npw => ?_⟩
      have s5 := Same.new (o := .lst (cutV ((init ++ [x0, x1]).map V.str) none (some (-2)))) npw
      have hpw : upd H4 pw (.lst (cutV ((init ++ [x0, x1]).map V.str) none (some (-2)))) pw = some (.lst (init.map V.str)) := by
        rw [upd_same, List.map_append]
        exact congrArg (fun z => some (HO.lst z)) (cut_fore _ _ _)
      have htb5 := s5 _ _ htb
      have s15 := s14.trans s5
      generalize upd H4 pw (.lst (cutV ((init ++ [x0, x1]).map V.str) none (some (-2)))) = H5 at *
      -- what a modulus is
      have mod2 : ∀ fs c mo, CL ns (init ++ [x0, x1]) fs c mo → ∃ m, mo = some m ∧ 2 ≤ m ∧ m.natAbs < 10 ^ 60 ∧ x1 = txI m := fun fs c mo h => by
        have e := h.2.2.2
        unfold lineWords at e
        cases mo with
        | none =>
          unfold modWords at e
          rw [List.append_nil] at e
          have := (two_inj e).2.1
          rw [em] at this
          exact absurd this (by decide +kernel)
        | some m =>
          unfold modWords at e
          have hh := h.2.2.1 m rfl
          exact ⟨m, rfl, hh.1, hh.2, (two_inj e).2.2⟩
      have bad : ¬ (∃ m, wV x1 = .int m ∧ 2 ≤ m) → ∀ fs c mo, ¬ CL ns (init ++ [x0, x1]) fs c mo := fun hb fs c mo h => by
        obtain ⟨m, _, m2, mb, e⟩ := mod2 fs c mo h
        exact hb ⟨m, by rw [e]; exact (text_ok mb).2, m2⟩
      refine ⟨_, rfl, tb, _, 0, _, rfl, rfl, tofT htb5, atI_nat (j := 0) rfl, rfl, _, rfl, ?_⟩
      cases eo : okW x1 with
      | false =>
        have wn : wV x1 = .non := by unfold wV; rw [eo]; rfl
        rw [wn, decide_eq_true rfl]
        exact iteT (iteT (q2 H5 s15 (bad fun ⟨m, h, _⟩ => by rw [wn] at h; cases h)))
      | true =>
        obtain ⟨m, wm, xm, mb⟩ := ok_text eo
        rw [wm, decide_eq_false (fun z => by cases z)]
        refine iteF ⟨_, rfl, tb, _, 0, _, rfl, rfl, tofT htb5, atI_nat (j := 0) (by rw [wm]; rfl), _, _, rfl, rfl, _, rfl, ?_⟩
        by_cases m2 : 2 ≤ m
        · rw [decide_eq_false (show ¬ m < 2 by omega)]
          refine iteF ⟨pw, tb, init, some m, rfl, s15, hpw, by rw [htb5, wm]; rfl, by rw [List.length_append] at u2; omega, (fun z hz => wlW z (List.mem_append_left _ hz)), by rw [em, xm]; rfl, (fun m' e => by cases e; exact ⟨m2, mb⟩), fun fs c mo h => ?_⟩
          obtain ⟨m', e1, _, mb', e2⟩ := mod2 fs c mo h
          have : V.int m' = V.int m := by rw [← (text_ok mb').2, ← e2, wm]
          rw [e1, V.int.inj this]
        · rw [decide_eq_true (show m < 2 by omega)]
          exact iteT (q2 H5 s15 (bad fun ⟨m', h, h2⟩ => by rw [wm] at h; cases h; exact m2 h2))
    rintro σ2 H3 ⟨pw, tb, S, mm, rfl, s3, hpw, htb, S62, wlS, eW, mmB, mmU⟩
    -- what stands ahead of the modulus
    have ahead : ∀ fs c mo, CL ns W fs c mo → S = sumWords (ns.zip fs) ++ [("=" : Str), txI c] := fun fs c mo h => by
      have e1 := mmU fs c mo h
      have e2 := h.2.2.2
      rw [eW, e1] at e2
      exact List.append_cancel_right e2
    refine ⟨_, rfl, pw, _, rfl, .inl (tofL hpw), _, _, rfl, rfl, _, rfl, ?_⟩
    rw [List.length_map]
    by_cases l3 : S.length < 3
    · rw [decide_eq_true (show ((S.length : Nat) : Int) < 3 by omega)]
      refine iteT (iteT (q2 H3 s3 fun fs c mo h => ?_))
      have e := congrArg List.length (ahead fs c mo h)
      have sn := List.length_pos_iff.mpr (sumWords_ne (ns.zip fs))
      rw [List.length_append] at e
      have : ([("=" : Str), txI c] : List Str).length = 2 := rfl
      omega
    rw [decide_eq_false (show ¬ ((S.length : Nat) : Int) < 3 by omega)]
    obtain ⟨init, x0, x1, rfl⟩ := two_ends S (by omega)
    refine iteF ⟨_, rfl, 2, rfl, pw, _, -2, _, rfl, rfl, tofL hpw, atI_two _ _ _, rfl, _, rfl, ?_⟩
    rw [strD]
    by_cases ee : x0 = "="
    rotate_left
    · rw [decide_eq_false ee]
      refine iteT (iteT (q2 H3 s3 fun fs c mo h => ?_))
      exact ee (two_inj (ahead fs c mo h)).2.1
    rw [decide_eq_true ee]
    refine iteF ⟨_, rfl, 1, rfl, pw, _, -1, _, rfl, rfl, tofL hpw, atI_one _ _ _, x1, rfl, wlS x1 (by simp), fun H4 s4 => ⟨rfl, _, rfl, ?_⟩⟩
    have s14 := s3.trans s4
    cases eo : okW x1 with
    | false =>
      have wn : wV x1 = .non := by unfold wV; rw [eo]; rfl
      rw [wn, decide_eq_true rfl]
      refine iteT (q2 H4 s14 fun fs c mo h => ?_)
      have e := (two_inj (ahead fs c mo h)).2.2
      have := (text_ok h.2.1).1
      rw [← e, eo] at this
      cases this
    | true =>
    obtain ⟨c, wc, xc, cb⟩ := ok_text eo
    rw [wc, decide_eq_false (fun z => by cases z)]
    refine iteF ?_
    have hpw4 := s4 _ _ hpw
    have htb4 := s4 _ _ htb
    -- the factors
    refine ⟨_, rfl, _, rfl, 2, rfl, -2, rfl, pw, _, rfl, tofL hpw4, fun p5 np5 => ?_⟩
    have s5 := Same.new (o := .lst (cutV ((init ++ [x0, x1]).map V.str) none (some (-2)))) np5
    have hp5 : upd H4 p5 (.lst (cutV ((init ++ [x0, x1]).map V.str) none (some (-2)))) p5 = some (.lst (init.map V.str)) := by
      rw [upd_same, List.map_append]
      exact congrArg (fun z => some (HO.lst z)) (cut_fore _ _ _)
    have s15 := s14.trans s5
    have hpw5 := s5 _ _ hpw4
    have htb5 := s5 _ _ htb4
    generalize upd H4 p5 (.lst (cutV ((init ++ [x0, x1]).map V.str) none (some (-2)))) = H5 at *
    refine ⟨a, p5, ns, init, rfl, (fun H' s' => ha H' (s15.trans s')), hp5, n20, nd', nm, by rw [List.length_append] at S62; omega, (fun z hz => wlS z (List.mem_append_left _ hz)), fun fs t H6 s6 cn es ht => ?_, fun H6 s6 hno => ?_⟩
    · have s16 := s15.trans s6
      refine ⟨_, rfl, rfl, _, rfl, ?_⟩
      rw [decide_eq_false (fun z => by cases z)]
      refine iteF ⟨_, rfl, _, rfl, 1, rfl, pw, _, -1, _, rfl, rfl, tofL (s6 _ _ hpw5), atI_one _ _ _, x1, rfl, wlS x1 (by simp), fun H7 s7 => ?_⟩
      rw [wc]
      refine ⟨(show 2 ≤ sizeLine from small (by decide)), fun t8 nt8 => ?_⟩
      have s8 := Same.new (o := .tup [.ref t, .int c]) nt8
      have s78 := s7.trans s8
      refine ⟨_, rfl, ?_⟩
      have cl : CL ns W fs c mm := ⟨cn, cb, mmB, by rw [eW, es, ee, xc]; rfl⟩
      refine catA_of (tofT upd_same) (tofT (s78 _ _ (s6 _ _ htb5))) (by cases mm with | none => exact (show 2 + 0 ≤ 100000 by decide) | some m => exact (show 2 + 1 ≤ 100000 by decide)) fun ta Ha sa qa => ?_
      refine q1 fs c mm ta t Ha (s16.trans (s78.trans sa)) cl ?_ ((s78.trans sa) _ _ ht)
      cases mm with
      | none => exact qa
      | some m => exact qa
    · refine ⟨_, rfl, rfl, _, rfl, ?_⟩
      rw [decide_eq_true rfl]
      refine iteT (q2 H6 (s15.trans s6) fun fs c' mo h => ?_)
      exact hno fs h.1 (two_inj (ahead fs c' mo h)).1
end
end KW
namespace KW
open PySem PySem.Spec PyProof.Rows L2 GL RZ TL GX
/-! ### the law's own reader: a text -/
theorem cut_lo (ns : List Str) {c : Int} (h0 : 0 ≤ c) (h1 : c ≤ ns.length) : cutV (ns.map V.str) none (some c) = (ns.take c.toNat).map V.str := by
  unfold cutV
  have e : HT.sIx (ns.map V.str).length (ns.map V.str).length (some c) = c.toNat := by
    rw [List.length_map]
    show (if c < 0 then _ else min c.toNat ns.length) = _
    rw [if_neg (by omega)]
    omega
  rw [e]
  show ((ns.map V.str).drop 0).take (c.toNat - 0) = _
  rw [List.drop_zero, Nat.sub_zero, List.map_take]
theorem cut_hi0 (ns : List Str) {c : Int} (h0 : 0 ≤ c) : cutV (ns.map V.str) (some c) none = (ns.drop c.toNat).map V.str := by
  unfold cutV
  have e : HT.sIx (ns.map V.str).length 0 (some c) = min c.toNat ns.length := by
    rw [List.length_map]
    show (if c < 0 then _ else min c.toNat ns.length) = _
    rw [if_neg (by omega)]
  rw [e]
  show ((ns.map V.str).drop (min c.toNat ns.length)).take ((ns.map V.str).length - min c.toNat ns.length) = _
  rw [List.take_of_length_le (by rw [List.length_drop]; omega), List.map_drop]
  by_cases h : c.toNat ≤ ns.length
  · rw [Nat.min_eq_left h]
  · rw [Nat.min_eq_right (by omega), List.drop_of_length_le (by rw [List.length_map]; exact Nat.le_refl _), List.drop_of_length_le (by rw [List.length_map]; omega)]
def KpT (H H' : Hp) : Prop := ∀ a o, (∀ l, o ≠ HO.lst l) → H a = some o → H' a = some o
theorem KpT.sq {K : PySem.W.Frag} {H H' : Hp} (k : KpT H H') {a : Addr} {xs : List V} (h : SqT K H a xs) : SqT K H' a xs := by
  rcases h with (h | ⟨o, h⟩) | h
  · exact .inl (.inl (k _ _ (fun l e => by cases e) h))
  · exact .inl (.inr ⟨o, k _ _ (fun l e => by cases e) h⟩)
  · exact .inr h
theorem KpT.same {H H' : Hp} (s : Same H H') : KpT H H' := fun a o _ h => s a o h
theorem KpT.upd {H : Hp} {R : Addr} {xs ys : List V} (h : H R = some (.lst xs)) : KpT H (upd H R (.lst ys)) := fun a o n e => by
  rw [upd_ne (fun z => by rw [z, h] at e; cases e; exact n _ rfl)]; exact e
inductive TLn (K : PySem.W.Frag) (H : Hp) : List V → List Line → Prop
  | nil : TLn K H [] []
  | cons {p q : Addr} {fs ms : List Int} {xs : List V} {ls : List Line} : SqT K H p (.ref q :: ms.map V.int) → H q = some (.tup (fs.map V.int)) → TLn K H xs ls → TLn K H (.ref p :: xs) ((fs, ms) :: ls)
theorem TLn.len {K : PySem.W.Frag} {H : Hp} : ∀ {xs : List V} {ls : List Line}, TLn K H xs ls → xs.length = ls.length
  | _, _, .nil => rfl
  | _, _, .cons _ _ t => congrArg Nat.succ t.len
theorem TLn.to {K : PySem.W.Frag} {H H' : Hp} (k : KpT H H') : ∀ {xs : List V} {ls : List Line}, TLn K H xs ls → TLn K H' xs ls
  | _, _, .nil => .nil
  | _, _, .cons a b t => .cons (k.sq a) (k _ _ (fun l e => by cases e) b) (t.to k)
theorem TLn.snoc {K : PySem.W.Frag} {H : Hp} {p q : Addr} {fs ms : List Int} (h1 : SqT K H p (.ref q :: ms.map V.int)) (h2 : H q = some (.tup (fs.map V.int))) : ∀ {xs : List V} {ls : List Line}, TLn K H xs ls → TLn K H (xs ++ [.ref p]) (ls ++ [(fs, ms)])
  | _, _, .nil => .cons h1 h2 .nil
  | _, _, .cons a b t => .cons a b (t.snoc h1 h2)
def intsD (xs : List Int) : List PyData := xs.map PyData.int
def lnD (l : Line) : PyData := .tuple (.tuple (intsD l.1) :: intsD l.2)
theorem dpa_ints {K : PySem.W.Frag} {H : Hp} : ∀ xs : List Int, DpAll K H (xs.map V.int) (intsD xs)
  | [] => .nil
  | x :: r => .cons (.int x) (dpa_ints r)
theorem TLn.dp {K : PySem.W.Frag} {H : Hp} : ∀ {xs : List V} {ls : List Line}, TLn K H xs ls → DpAll K H xs (ls.map lnD)
  | _, _, .nil => .nil
  | _, _, .cons a b t => .cons (.tup a (.cons (.tup (tofT b) (dpa_ints _)) (dpa_ints _))) t.dp
theorem LnAt.dp {K : PySem.W.Frag} {H : Hp} : ∀ {xs : List V} {ls : List Line}, LnAt H xs ls → DpAll K H xs (ls.map lnD)
  | _, _, .nil => .nil
  | _, _, .cons a b t => .cons (.tup (tofT a) (.cons (.tup (tofT b) (dpa_ints _)) (dpa_ints _))) t.dp
theorem plain_ints : ∀ xs : List Int, PyData.plainAll (intsD xs) = true
  | [] => rfl
  | x :: r => plain_ints r
theorem plain_ln (l : Line) : PyData.plain (lnD l) = true := by
  show (PyData.plainAll (intsD l.1) && PyData.plainAll (intsD l.2)) = true
  rw [plain_ints, plain_ints]; rfl
theorem plain_lns : ∀ ls : List Line, PyData.plainAll (ls.map lnD) = true
  | [] => rfl
  | x :: r => by
    show (PyData.plain (lnD x) && PyData.plainAll (r.map lnD)) = true
    rw [plain_ln, plain_lns r]; rfl
theorem depth_ints (xs : List Int) : PyData.depthAll (intsD xs) ≤ 0 := depthAll_of _ fun d hd => by
  obtain ⟨z, _, rfl⟩ := List.mem_map.mp hd
  exact Nat.le_refl 0
theorem depth_ln (l : Line) : PyData.depth (lnD l) ≤ 2 := by
  have h1 := depth_ints l.1
  have : PyData.depthAll (.tuple (intsD l.1) :: intsD l.2) ≤ 1 := depthAll_of _ fun d hd => by
    rcases List.mem_cons.mp hd with rfl | hd
    · show PyData.depthAll (intsD l.1) + 1 ≤ 1
      omega
    · obtain ⟨z, _, rfl⟩ := List.mem_map.mp hd
      exact Nat.zero_le 1
  show PyData.depthAll (.tuple (intsD l.1) :: intsD l.2) + 1 ≤ 2
  omega
theorem depth_lns (ls : List Line) : PyData.depth (.list (ls.map lnD)) ≤ 60 := by
  have : PyData.depthAll (ls.map lnD) ≤ 2 := depthAll_of _ fun d hd => by
    obtain ⟨z, _, rfl⟩ := List.mem_map.mp hd
    exact depth_ln z
  show PyData.depthAll (ls.map lnD) + 1 ≤ 60
  omega
theorem eqv_nil (ls : List Line) : PyData.eqv (.list (ls.map lnD)) (.list []) = decide (ls = []) := by
  cases ls with
  | nil => rfl
  | cons a r => rfl
def resD : Sum Nat (List Str × List Row × List Rst) → PyData
  | .inl k => .tuple [.str "bad", .int (k : Nat)]
  | .inr p => .tuple [.str "read", .tuple (p.1.map PyData.str), .tuple ((p.2.1.map lnR).map lnD), .tuple ((p.2.2.map lnS).map lnD)]
def ResAt (K : PySem.W.Frag) (H : Hp) (t : Addr) : Sum Nat (List Str × List Row × List Rst) → Prop
  | .inl k => H t = some (.tup [.str "bad", .int (k : Nat)])
  | .inr p => ∃ a b c xs ys, H t = some (.tup [.str "read", .ref a, .ref b, .ref c]) ∧ SqT K H a (p.1.map V.str) ∧ SqT K H b xs ∧ TLn K H xs (p.2.1.map lnR) ∧ SqT K H c ys ∧ TLn K H ys (p.2.2.map lnS)
theorem ResAt.same {K : PySem.W.Frag} {H H' : Hp} {t : Addr} (s : Same H H') : ∀ {r : Sum Nat (List Str × List Row × List Rst)}, ResAt K H t r → ResAt K H' t r
  | .inl k, h => s _ _ h
  | .inr p, ⟨a, b, c, xs, ys, h1, h2, h3, h4, h5, h6⟩ => ⟨a, b, c, xs, ys, s _ _ h1, (KpT.same s).sq h2, (KpT.same s).sq h3, h4.to (KpT.same s), (KpT.same s).sq h5, h6.to (KpT.same s)⟩
theorem ResAt.dp {K : PySem.W.Frag} {H : Hp} {t : Addr} : ∀ {r : Sum Nat (List Str × List Row × List Rst)}, ResAt K H t r → Dp K H (.ref t) (resD r)
  | .inl k, h => .tup (tofT h) (.cons (.str _) (.cons (.int _) .nil))
  | .inr p, ⟨a, b, c, xs, ys, h1, h2, h3, h4, h5, h6⟩ => .tup (tofT h1) (.cons (.str _) (.cons (.tup h2 (dpa_strs _)) (.cons (.tup h3 h4.dp) (.cons (.tup h5 h6.dp) .nil))))
def spDue (K : PySem.W.Frag) : Sp := fun vs H Q _ => ∃ tx : Str, vs = [.str tx] ∧ tx.length ≤ 61000 ∧ ∀ (t : Addr) (H' : Hp), Same H H' → ResAt K H' t (rdT tx) → Q (.ref t) H'
section
variable {P : Program} {w : World} {K : PySem.W.Frag} {mg : Str → Option Value} {base : Heap}
abbrev s_due : Stmt := topS 38
theorem sc_due : FnScope ["_law_value", "_law_parts", "_law_head", "_law_called_here", "_law_name_here", "_law_lines", "_law_pieces", "_law_k", "_law_part", "_law_piece_here"] ["_law_value"] (defScope s_due) := ⟨rfl, rfl, rfl, by decide +kernel, rfl, by decide +kernel, by decide +kernel⟩
theorem ok_due {f : Addr} {fd : FuncData} (F : Fun K "_law_due" "_law_due" s_due f fd) (gl : mg "_law_due" = some (.ref f)) (T : Bl mg) (D_name : DefG P w K mg base 1 "_law_name" ["_law_word"] spLName) (D_piece : DefG P w K mg base 3 "_law_piece" ["_law_called_here", "_law_part"] (spPiece K)) : DefG P w K mg base 4 "_law_due" ["_law_value"] (spDue K) := by
  refine def_mk F gl (F.binds fun _ _ _ _ _ _ us hl => match us, hl with | [_], _ => rfl) (okG F sc_due (fun vs H Q E h => ?_) fun cdv A outer s H vs Q E hr hc h => ?_)
  · obtain ⟨tx, rfl, _⟩ := h
    rfl
  · obtain ⟨tx, rfl, tl61, q⟩ := h
    have bad : ∀ (k : Nat) (t : Addr) (H' : Hp), rdT tx = .inl k → Same H H' → H' t = some (.tup [.str "bad", .int (k : Nat)]) → Q (.ref t) H' := fun k t H' hB s ht => q t H' s (by rw [hB]; exact ht)
    have nd := sc_due.nd
    have hu64 := hr.units
    refine ⟨_, (pss_cons (ps_set (i := 1) nd rfl (by first | exact Or.inl rfl | exact Or.inr rfl) (pe_bm PySem.F.plainAttrs_str PySem.F.slot_str_split PySem.F.type_str_split mt_split (pv 0) (pa_cons pe_str pa_nil)))
      (pss_cons (ps_set (i := 2) nd rfl (by first | exact Or.inl rfl | exact Or.inr rfl) (pe_bm PySem.F.plainAttrs_str PySem.F.slot_str_split PySem.F.type_str_split mt_split (pe_ix ix_list (pv 1) pe_int (fun _ _ => rfl)) (pa_cons pe_str pa_nil)))
      (pss_cons (ps_set (i := 3) nd rfl (by first | exact Or.inl rfl | exact Or.inr rfl) (pe_tupleZ (by rfl) T.tuple (pe_slice sl_list (pv 2) (po_some pe_int) po_none)))
      (pss_cons (ps_if (PW.pt (pw_or (pt_cmpR op_ne (pe_ix ix_list (pv 2) pe_int (fun _ _ => rfl)) pe_str (nomark _)) (pw_or (pt_not (pt_chain op_lt op_lt pe_int (pe_callB call_len_seq (by rfl) T.len boot_len (pa_cons (pv 3) pa_nil)) pe_int)) (pw_or1 (pt_cmpR (op_neP (K := K) hu64) (pe_lc (own := [("_law_name_here", 4)]) (g := (gName 4)) rfl nd (pi_tup (pv 3)) (blkOk_by (own := [("_law_name_here", 4)]) (N := ["_law_value", "_law_parts", "_law_head", "_law_called_here", "_law_name_here", "_law_lines", "_law_pieces", "_law_k", "_law_part", "_law_piece_here"]) (sc := defScope s_due) (by decide +kernel)) (fun _ _ _ _ _ => (pg_name (i := 4) nd rfl (by first | exact Or.inl rfl | exact Or.inr rfl))) (fun _ _ _ _ _ => (pts_one (pt_not (pt_val (pe_def D_name (hr.mono (by decide)) hc (by rfl) (pa_cons (pv 4) pa_nil)))))) (fun _ _ _ _ _ => (pv 4))) (pe_lst pa_nil) (nomark _))))))
        (pss_one (ps_ret (pe_tup (pa_cons pe_str (pa_cons pe_int pa_nil)))))
        pss_nil)
      (pss_cons (ps_if (pt_cmpR op_ne (pe_lenSetT rfl (by rfl) T.len (by rfl) T.set (pv 3)) (pe_callB call_len_seq (by rfl) T.len boot_len (pa_cons (pv 3) pa_nil)) (nomark _))
        (pss_one (ps_ret (pe_tup (pa_cons pe_str (pa_cons pe_int pa_nil)))))
        pss_nil)
      (pss_cons (ps_par (i := 5) (j := 6) rfl nd rfl rfl (by decide) rfl rfl (pa_cons (pe_lst pa_nil) (pa_cons (pe_lst pa_nil) pa_nil)) rfl)
      (pss_cons (ps_for PassesOwn.never rfl (pi_enum (by rfl) T.enumerate (pa_cons (pe_slice sl_list (pv 1) (po_some pe_int) po_none) pa_nil)) (pg_tup rfl (pgs_cons (pg_name (i := 7) nd rfl (by first | exact Or.inl rfl | exact Or.inr rfl)) (pgs_cons (pg_name (i := 8) nd rfl (by first | exact Or.inl rfl | exact Or.inr rfl)) pgs_nil)))
        (pss_cons (ps_set (i := 9) nd rfl (by first | exact Or.inl rfl | exact Or.inr rfl) (pe_def D_piece (hr.mono (by decide)) hc (by rfl) (pa_cons (pv 3) (pa_cons (pv 8) pa_nil))))
        (pss_cons (ps_if (PW.pt (pw_or (pt_cmpR op_isN (pv 9) pe_non (nomark _)) (pw_or1 (PW.pt (pw_and (pt_cmpR op_eq (pe_callB call_len_seq (by rfl) T.len boot_len (pa_cons (pv 9) pa_nil)) pe_int (nomark _)) (pw_and1 (pt_cmpR (op_neP (K := K) hu64) (pv 6) (pe_lst pa_nil) (nomark _))))))))
          (pss_one (ps_ret (pe_tup (pa_cons pe_str (pa_cons (pe_op op_add (pv 7) pe_int) pa_nil)))))
          pss_nil)
        (pss_one (ps_if (pt_cmpR op_eq (pe_callB call_len_seq (by rfl) T.len boot_len (pa_cons (pv 9) pa_nil)) pe_int (nomark _))
          (pss_one (ps_expr (pe_bm PySem.F.plainAttrs_list PySem.F.slot_list_append PySem.F.type_list_append mt_append (pv 5) (pa_cons (pv 9) pa_nil))))
          (pss_one (ps_expr (pe_bm PySem.F.plainAttrs_list PySem.F.slot_list_append PySem.F.type_list_append mt_append (pv 6) (pa_cons (pv 9) pa_nil)))))))))
      (pss_one (ps_ret (pe_tup (pa_cons pe_str (pa_cons (pv 3) (pa_cons (pe_tupleOf (by rfl) T.tuple (pv 5)) (pa_cons (pe_tupleOf (by rfl) T.tuple (pv 6)) pa_nil)))))))))))))), ?_⟩
    obtain ⟨w1, w2, w3⟩ := split_few tx "\n" (by decide +kernel)
    have eB : rdT tx = rdH (linesOf tx).tail (wordsOf ((linesOf tx).headD "")) := rfl
    have eL : linesOf tx = Txt.split tx "\n" := rfl
    refine ⟨_, rfl, rfl, tx, "\n", rfl, rfl, by decide +kernel, Nat.le_trans (Nat.add_le_add_right tl61 2) (by decide), fun p1 np1 => ?_⟩
    rw [← eL] at w1 w2 w3 ⊢
    obtain ⟨hd, ls, els⟩ : ∃ hd ls, linesOf tx = hd :: ls := by
      cases e : linesOf tx with
      | nil => rw [e] at w1; exact absurd w1 (by decide)
      | cons a r => exact ⟨a, r, rfl⟩
    rw [els] at w1 w2 w3 eB ⊢
    have eB : rdT tx = rdH ls (wordsOf hd) := eB
    rw [List.length_cons] at w2
    clear eL els
    have s1 := Same.new (o := .lst ((hd :: ls).map V.str)) np1
    have hp1 : upd H p1 (.lst ((hd :: ls).map V.str)) p1 = some (.lst ((hd :: ls).map V.str)) := upd_same
    generalize upd H p1 (.lst ((hd :: ls).map V.str)) = H1 at *
    have hdl : hd.length ≤ tx.length := w3 hd List.mem_cons_self
    obtain ⟨u1, u2, u3⟩ := split_few hd " " (by decide +kernel)
    have ew : wordsOf hd = Txt.split hd " " := rfl
    refine ⟨_, rfl, p1, _, 0, _, rfl, rfl, tofL hp1, atI_nat (j := 0) rfl, rfl, hd, " ", rfl, rfl, by decide +kernel, Nat.le_trans (Nat.add_le_add_right (Nat.le_trans hdl tl61) 2) (by decide), fun p2 np2 => ?_⟩
    rw [← ew] at u1 u2 u3 ⊢
    obtain ⟨fi, ns, ek⟩ : ∃ fi ns, wordsOf hd = fi :: ns := by
      cases e : wordsOf hd with
      | nil => rw [e] at u1; exact absurd u1 (by decide)
      | cons a r => exact ⟨a, r, rfl⟩
    rw [ek] at u1 u2 u3 eB ⊢
    have eB : rdT tx = if fi = "names" ∧ namesB ns = true then mkS ns (rdS ns [] [] 2 ls) else .inl 1 := eB
    rw [List.length_cons] at u2
    clear ew ek
    have s2 := Same.new (o := .lst ((fi :: ns).map V.str)) np2
    have hp2 : upd H1 p2 (.lst ((fi :: ns).map V.str)) p2 = some (.lst ((fi :: ns).map V.str)) := upd_same
    have hp12 := s2 _ _ hp1
    generalize upd H1 p2 (.lst ((fi :: ns).map V.str)) = H2 at *
    refine ⟨_, rfl, 1, rfl, p2, _, rfl, tofL hp2, fun W nW => ?_⟩
    rw [cut_hi0 (fi :: ns) (c := 1) (by decide), show (fi :: ns).drop (1 : Int).toNat = ns from rfl]
    have s3 := Same.new (o := .lst (ns.map V.str)) nW
    have hW3 : upd H2 W (.lst (ns.map V.str)) W = some (.lst (ns.map V.str)) := upd_same
    have hp13 := s3 _ _ hp12
    have hp23 := s3 _ _ hp2
    generalize upd H2 W (.lst (ns.map V.str)) = H3 at *
    refine ⟨W, _, rfl, tofL hW3, fun N o nN od => ?_⟩
    have s4 := Same.new (o := .frz o (.tup (ns.map V.str))) nN
    have hN4 : SqZ K (upd H3 N (.frz o (.tup (ns.map V.str)))) N (ns.map V.str) := .inl ⟨o, upd_same, od⟩
    have hp14 := s4 _ _ hp13
    have hp24 := s4 _ _ hp23
    have s14 : Same H (upd H3 N (.frz o (.tup (ns.map V.str)))) := s1.trans (s2.trans (s3.trans s4))
    generalize upd H3 N (.frz o (.tup (ns.map V.str))) = H4 at *
    have no1 : ¬ (fi = "names" ∧ namesB ns = true) → ∀ Hz, Same H Hz → ∀ t, Hz t = none → Q (.ref t) (upd Hz t (.tup [.str "bad", .int 1])) := fun hn Hz sz t nt => by
      rw [if_neg hn] at eB
      exact bad 1 t _ eB (sz.trans (Same.new nt)) upd_same
    refine ⟨_, rfl, p2, _, 0, _, rfl, rfl, tofL hp24, atI_nat (j := 0) rfl, rfl, _, rfl, ?_⟩
    rw [strD]
    by_cases e1 : fi = "names"
    rotate_left
    · rw [decide_eq_false e1]
      refine iteT (iteT ?_)
      exact ⟨(show 2 ≤ sizeLine from small (by decide)), fun t nt => no1 (fun z => e1 z.1) H4 s14 t nt⟩
    subst e1
    rw [decide_eq_true rfl]
    refine iteF ?_
    refine ⟨_, rfl, N, _, rfl, .inr hN4.t, (0 : Int), _, rfl, rfl, _, rfl, ?_⟩
    rw [List.length_map]
    by_cases l1 : 1 ≤ ns.length
    rotate_left
    · rw [decide_eq_false (show ¬ (0 : Int) < ((ns.length : Nat) : Int) by omega)]
      refine iteF ⟨_, rfl, iteT (iteT ?_)⟩
      exact ⟨(show 2 ≤ sizeLine from small (by decide)), fun t nt => no1 (fun z => l1 (nb_facts z.2).1) H4 s14 t nt⟩
    rw [decide_eq_true (show (0 : Int) < ((ns.length : Nat) : Int) by omega)]
    refine iteT ⟨_, _, rfl, rfl, _, rfl, ?_⟩
    by_cases l6 : ns.length ≤ 6
    rotate_left
    · rw [decide_eq_false (show ¬ ((ns.length : Nat) : Int) < 7 by omega)]
      refine iteT (iteT ?_)
      exact ⟨(show 2 ≤ sizeLine from small (by decide)), fun t nt => no1 (fun z => l6 (nb_facts z.2).2.1) H4 s14 t nt⟩
    rw [decide_eq_true (show ((ns.length : Nat) : Int) < 7 by omega)]
    refine iteF ?_
    -- the names
    refine ⟨_, rfl, N, rfl, ⟨_, hN4.t⟩, fun D nD => ?_⟩
    refine lc_tup (K := K) (a := N) (xs := ns.map V.str) (fun i Hy => Same H4 Hy ∧ Hy D = some (.lst (((ns.take i).filter fun z => !nameB z).map V.str))) ⟨Same.new nD, upd_same⟩ (fun i Hy _ h => (hN4.same h.1).t) ?_ ?_
    · rintro i x Hy hi ⟨sy, hD⟩
      obtain ⟨z, rfl, hz, hil⟩ := strs_at hi
      have ft := flt_take (fun z => !nameB z) hz
      refine ⟨rfl, _, rfl, z, rfl, (by rw [← str_len3]; have := u3 z (List.mem_cons_of_mem _ (List.mem_of_getElem? hz)); omega), fun H5 s5 => ⟨_, rfl, ?_⟩⟩
      have hD5 := s5 _ _ hD
      refine ite2 (fun e => ?_) (fun e => ?_)
      · refine ⟨_, rfl, _, hD5, ?_, ?_, ?_⟩
        · rw [List.length_map]; exact smallt (Nat.lt_of_le_of_lt (List.length_filter_le _ _) (by rw [List.length_take]; omega))
        · intro b u hb
          rw [upd_ne (ne_of_none hb nD)]
          exact s5 _ _ (sy _ _ hb)
        · rw [upd_same, ft, if_pos (show (!nameB z) = true from e), List.map_append]; rfl
      · refine ⟨sy.trans s5, ?_⟩
        rw [ft, if_neg (show ¬ (!nameB z) = true from e), List.append_nil]
        exact hD5
    rintro Hy ⟨sy, hD⟩
    rw [List.length_map, List.take_length] at hD
    have s1y := s14.trans sy
    have hNy := hN4.same sy
    have hpy := sy _ _ hp14
    have efl : decide ((ns.filter fun z => !nameB z) = []) = ns.all nameB := by
      cases e : ns.all nameB with
      | true =>
        refine decide_eq_true (List.filter_eq_nil_iff.mpr fun z hz => ?_)
        have := List.all_eq_true.mp e z hz
        simpa using this
      | false =>
        refine decide_eq_false fun h => ?_
        have : ns.all nameB = true := List.all_eq_true.mpr fun z hz => by simpa using List.filter_eq_nil_iff.mp h z hz
        rw [e] at this; cases this
    refine ⟨Nat.zero_le _, fun o no' => ?_⟩
    have so := Same.new (o := .lst []) no'
    have ho : upd Hy o (.lst []) o = some (.lst (([] : List Str).map V.str)) := upd_same
    have hDo := so _ _ hD
    have hpo := so _ _ hpy
    have hNo := hNy.same so
    have s1o := s1y.trans so
    generalize upd Hy o (.lst []) = Hz at *
    refine ⟨.list ((ns.filter fun z => !nameB z).map PyData.str), .list (([] : List Str).map PyData.str), .lst (tofL hDo) (dpa_strs _), .lst (tofL ho) (dpa_strs []), plain_strs _, plain_strs _, depth_strs _, _, rfl, ?_⟩
    rw [eqv_strs, efl]
    cases ea : ns.all nameB with
    | false =>
      refine iteT ?_
      exact ⟨(show 2 ≤ sizeLine from small (by decide)), fun t nt => no1 (fun z => by
        have := List.all_eq_true.mpr (nb_facts z.2).2.2
        rw [ea] at this; cases this) Hz s1o t nt⟩
    | true =>
    refine iteF ?_
    refine ⟨_, rfl, N, ns, rfl, hNo.t, (by omega), _, rfl, N, _, rfl, .inr hNo.t, rfl, _, rfl, ?_⟩
    rw [List.length_map]
    by_cases ed : dcnt ns = ns.length
    rotate_left
    · rw [decide_eq_false (show ¬ (V.int ((dcnt ns : Nat) : Int) = V.int ((ns.length : Nat) : Int)) from fun z => ed (by have := V.int.inj z; omega))]
      refine iteT ?_
      refine ⟨(show 2 ≤ sizeLine from small (by decide)), fun t nt => no1 (fun z => ed ?_) Hz s1o t nt⟩
      have nb := z.2
      unfold namesB at nb
      rw [Bool.and_eq_true, Bool.and_eq_true] at nb
      exact of_decide_eq_true nb.2.1
    rw [decide_eq_true (show V.int ((dcnt ns : Nat) : Int) = V.int ((ns.length : Nat) : Int) by rw [ed])]
    refine iteF ?_
    have nm : ∀ z ∈ ns, nameB z = true := List.all_eq_true.mp ea
    have nd' : ns.Nodup := (dcnt_nodup ns).mp ed
    rw [if_pos ⟨rfl, namesB_of l1 l6 nd' nm⟩] at eB
    -- the lines
    refine ⟨Nat.zero_le _, fun R nR => ?_⟩
    have s5 := Same.new (o := .lst []) nR
    have hR5 : upd Hz R (.lst []) R = some (.lst []) := upd_same
    have hp5 := s5 _ _ hpo
    have hN5 := hNo.same s5
    have nR0 : H R = none := by
      cases e : H R with
      | none => rfl
      | some o => rw [s1o _ _ e] at nR; cases nR
    have s15 := s1o.trans s5
    generalize upd Hz R (.lst []) = H5 at *
    refine ⟨Nat.zero_le _, fun Z nZ => ?_⟩
    have nRZ : R ≠ Z := ne_of_none hR5 nZ
    have s6 := Same.new (o := .lst []) nZ
    have hZ6 : upd H5 Z (.lst []) Z = some (.lst []) := upd_same
    have hR6 := s6 _ _ hR5
    have hp6 := s6 _ _ hp5
    have hN6 := hN5.same s6
    have nZ0 : H Z = none := by
      cases e : H Z with
      | none => rfl
      | some o => rw [s15 _ _ e] at nZ; cases nZ
    have s16 := s15.trans s6
    generalize upd H5 Z (.lst []) = H6 at *
    refine ⟨_, _, rfl, ?_⟩
    refine ⟨_, rfl, 1, rfl, p1, _, rfl, tofL hp6, fun L nL => ?_⟩
    rw [cut_hi0 (hd :: ls) (c := 1) (by decide), show (hd :: ls).drop (1 : Int).toNat = ls from rfl]
    have s7 := Same.new (o := .lst (ls.map V.str)) nL
    have hL7 : upd H6 L (.lst (ls.map V.str)) L = some (.lst (ls.map V.str)) := upd_same
    have nLR : L ≠ R := fun z => by rw [z, hR6] at nL; cases nL
    have nLZ : L ≠ Z := fun z => by rw [z, hZ6] at nL; cases nL
    have hR7 := s7 _ _ hR6
    have hZ7 := s7 _ _ hZ6
    have hN7 := hN6.same s7
    have s17 := s16.trans s7
    generalize upd H6 L (.lst (ls.map V.str)) = H7 at *
    refine ⟨L, _, rfl, tofL hL7, ?_⟩
    refine for_it (walk_enum (K := K) (a := L) (xs := ls.map V.str))
      (fun i σ Hx => ∃ (rows : List Row) (rests : List Rst) (xs ys : List V) (v7 v8 v9 : Option V), σ = [some (.str tx), some (.ref p1), some (.ref p2), some (.ref N), none, some (.ref R), some (.ref Z), v7, v8, v9] ∧ Same H Hx ∧ Hx L = some (.lst (ls.map V.str)) ∧ SqZ K Hx N (ns.map V.str) ∧
        Hx R = some (.lst xs) ∧ Hx Z = some (.lst ys) ∧ TLn K Hx xs (rows.map lnR) ∧ TLn K Hx ys (rests.map lnS) ∧ rows.length + rests.length = i ∧ rdS ns rows rests (2 + i) (ls.drop i) = rdS ns [] [] 2 ls)
      ⟨[], [], [], [], none, none, none, rfl, s17, hL7, hN7, hR7, hZ7, .nil, .nil, rfl, rfl⟩ (fun i σ Hx _ ⟨_, _, _, _, _, _, _, _, _, h, _⟩ => tofL h) ?_ ?_
    · rintro i x σ Hx Ht hi ⟨rows, rests, xs, ys, v7, v8, v9, rfl, sx, hLx, hNx, hRx, hZx, lx, ly, li, er⟩ ⟨t, u, v, rfl, nt, rfl, g1, g2⟩
      have e1 : u = .int ((i : Nat) : Int) := (Option.some.inj g1).symm
      subst e1
      obtain ⟨z, rfl, hz, hil⟩ := strs_at g2
      have zl : z.length ≤ tx.length := w3 z (List.mem_cons_of_mem _ (List.mem_of_getElem? hz))
      rw [drop_cons hz] at er
      refine ⟨t, _, rfl, tofT upd_same, rfl, _, _, rfl, _, _, rfl, rfl, ?_⟩
      have su := Same.new (o := .tup [V.int ((i : Nat) : Int), .str z]) nt
      have hLu := su _ _ hLx
      have hRu := su _ _ hRx
      have hZu := su _ _ hZx
      have hNu := hNx.same su
      have lxu := lx.to (KpT.same su)
      have lyu := ly.to (KpT.same su)
      have sxu := sx.trans su
      generalize upd Hx t (.tup [V.int ((i : Nat) : Int), .str z]) = Hu at *
      have nok : ∀ k, rdS ns [] [] 2 ls = .inl k → k = 2 + i → ∀ Hz, Same H Hz → ∀ tt, Hz tt = none → Q (.ref tt) (upd Hz tt (.tup [.str "bad", .int (((i : Nat) : Int) + 2)])) := fun k e ek Hz sz tt nt => by
        refine bad k tt _ (by rw [eB, e]; rfl) (sz.trans (Same.new nt)) ?_
        rw [upd_same, ek, show (((2 + i : Nat) : Nat) : Int) = ((i : Nat) : Int) + 2 by omega]
      refine ⟨_, rfl, _, rfl, N, ns, z, rfl, (fun H' s' => hNu.same s'), by omega, nd', nm, by omega, fun fs c mo tp b Hv sv cl ht hb => ?_, fun Hv sv none_ => ?_⟩
      rotate_left
      · have erb : readB ns z = none := by
          cases e : readB ns z with
          | none => rfl
          | some p => exact absurd (read_cl nm (fs := p.1) (c := p.2.1) (m := p.2.2) e) (none_ _ _ _)
        rw [rs_none erb] at er
        refine ⟨_, rfl, rfl, _, rfl, ?_⟩
        rw [decide_eq_true rfl]
        refine iteT (iteT ?_)
        refine ⟨_, rfl, _, _, rfl, rfl, (show 2 ≤ sizeLine from small (by decide)), fun tt ntt => ?_⟩
        exact nok _ er.symm rfl Hv (sxu.trans sv) tt ntt
      have s10 := sxu.trans sv
      have hLv := sv _ _ hLu
      have hRv := sv _ _ hRu
      have hZv := sv _ _ hZu
      have hNv := hNu.same sv
      have lxv := lxu.to (KpT.same sv)
      have lyv := lyu.to (KpT.same sv)
      have erb := cl_read nm nd' cl
      rw [rs_some erb] at er
      refine ⟨_, rfl, rfl, _, rfl, ?_⟩
      rw [decide_eq_false (fun z => by cases z)]
      refine iteF ?_
      cases mo with
      | none =>
        rw [if_pos (show (none : Option Int).getD 0 = 0 from rfl)] at er
        refine ⟨_, rfl, tp, _, rfl, .inr ht, rfl, _, rfl, iteT ?_⟩
        refine ⟨_, rfl, Nat.zero_le _, fun o no' => ?_⟩
        have so := Same.new (o := .lst []) no'
        have ho : upd Hv o (.lst []) o = some (.lst []) := upd_same
        have hLo := so _ _ hLv
        have hRo := so _ _ hRv
        have hZo := so _ _ hZv
        have hNo := hNv.same so
        have lxo := lxv.to (KpT.same so)
        have lyo := lyv.to (KpT.same so)
        have hto := (KpT.same so).sq ht
        have hbo := so _ _ hb
        have s1o := s10.trans so
        generalize upd Hv o (.lst []) = Ho at *
        refine ⟨.list ((rests.map lnS).map lnD), .list [], .lst (tofL hZo) lyo.dp, .lst (tofL ho) .nil, plain_lns _, rfl, depth_lns _, _, rfl, ?_⟩
        rw [eqv_nil]
        cases rests with
        | cons r0 rr =>
          rw [if_neg (fun z => by cases z)] at er
          rw [decide_eq_false (fun z => by cases z)]
          refine iteT ?_
          refine ⟨_, rfl, _, _, rfl, rfl, (show 2 ≤ sizeLine from small (by decide)), fun tt ntt => ?_⟩
          exact nok _ er.symm rfl Ho s1o tt ntt
        | nil =>
        rw [if_pos rfl] at er
        rw [show decide (([] : List Rst).map lnS = []) = true from rfl]
        cases lyo
        refine iteF ?_
        refine ⟨_, rfl, tp, _, rfl, .inr hto, rfl, _, rfl, iteT ?_⟩
        refine ⟨_, rfl, ty_l (tofL hRo), _, rfl, R, _, _, rfl, rfl, hRo, by rw [lxo.len, List.length_map]; exact smallt (by have : rows.length + 0 = i := li; omega), ?_⟩
        have kp := KpT.upd (ys := xs ++ [.ref tp]) hRo
        refine ⟨rows ++ [(fs, c)], [], xs ++ [.ref tp], [], _, _, _, rfl, ?_, ?_, ?_, upd_same, ?_, ?_, .nil, by rw [List.length_append]; show rows.length + 1 + 0 = i + 1; have : rows.length + 0 = i := li; omega, er⟩
        · intro b' o hb'
          rw [upd_ne (fun e => by rw [e, nR0] at hb'; cases hb')]
          exact s1o _ _ hb'
        · rw [upd_ne nLR]; exact hLo
        · exact hNo.to fun _ e => kp _ _ (fun l q => by cases q) e
        · rw [upd_ne nRZ.symm]; exact hZo
        · rw [List.map_append]
          exact (lxo.to kp).snoc (ms := [c]) (kp.sq hto) (kp _ _ (fun l q => by cases q) hbo)
      | some m =>
        have m2 := (cl.2.2.1 m rfl).1
        rw [if_neg (show ¬ (some m).getD 0 = 0 from fun z => by have z : m = 0 := z; omega)] at er
        refine ⟨_, rfl, tp, _, rfl, .inr ht, rfl, _, rfl, iteF (iteF ?_)⟩
        refine ⟨_, rfl, tp, _, rfl, .inr ht, rfl, _, rfl, iteF ?_⟩
        refine ⟨_, rfl, ty_l (tofL hZv), _, rfl, Z, _, _, rfl, rfl, hZv, by rw [lyv.len, List.length_map]; exact smallt (by omega), ?_⟩
        have kp := KpT.upd (ys := ys ++ [.ref tp]) hZv
        refine ⟨rows, rests ++ [(fs, c, m)], xs, ys ++ [.ref tp], _, _, _, rfl, ?_, ?_, ?_, ?_, upd_same, lxv.to kp, ?_, by rw [List.length_append]; show rows.length + (rests.length + 1) = i + 1; omega, er⟩
        · intro b' o hb'
          rw [upd_ne (fun e => by rw [e, nZ0] at hb'; cases hb')]
          exact s10 _ _ hb'
        · rw [upd_ne nLZ]; exact hLv
        · exact hNv.to fun _ e => kp _ _ (fun l q => by cases q) e
        · rw [upd_ne nRZ]; exact hRv
        · rw [List.map_append]
          exact (lyv.to kp).snoc (ms := [c, m]) (kp.sq ht) (kp _ _ (fun l q => by cases q) hb)
    · rintro σ Hx ⟨rows, rests, xs, ys, v7, v8, v9, rfl, sx, hLx, hNx, hRx, hZx, lx, ly, li, er⟩
      rw [List.length_map] at er
      rw [List.drop_of_length_le (Nat.le_refl _)] at er
      have er : rdS ns [] [] 2 ls = .inr (rows, rests) := er.symm
      rw [er] at eB
      have eB : rdT tx = .inr (ns, rows, rests) := eB
      refine ⟨_, rfl, _, rfl, .inl ⟨R, _, rfl, tofL hRx, fun tr ntr => ?_⟩⟩
      have sa := Same.new (o := .tup xs) ntr
      have htr : upd Hx tr (.tup xs) tr = some (.tup xs) := upd_same
      have hZa := sa _ _ hZx
      have lxa := lx.to (KpT.same sa)
      have lya := ly.to (KpT.same sa)
      have hNa := hNx.same sa
      generalize upd Hx tr (.tup xs) = Ha at *
      refine ⟨_, rfl, .inl ⟨Z, _, rfl, tofL hZa, fun ts nts => ?_⟩⟩
      have sb := Same.new (o := .tup ys) nts
      have hts : upd Ha ts (.tup ys) ts = some (.tup ys) := upd_same
      have htrb := sb _ _ htr
      have lxb := lxa.to (KpT.same sb)
      have lyb := lya.to (KpT.same sb)
      have hNb := hNa.same sb
      generalize upd Ha ts (.tup ys) = Hb at *
      refine ⟨(show 4 ≤ sizeLine from small (by decide)), fun t nt => ?_⟩
      have sc := Same.new (o := .tup [.str "read", .ref N, .ref tr, .ref ts]) nt
      refine q t _ (sx.trans (sa.trans (sb.trans sc))) ?_
      rw [eB]
      exact ⟨N, tr, ts, xs, ys, upd_same, (hNb.same sc).t, tofT (sc _ _ htrb), lxb.to (KpT.same sc), tofT (sc _ _ hts), lyb.to (KpT.same sc)⟩
end
end KW
namespace KW
open PySem PySem.Spec PyProof.Rows L2 GL RZ TL GX
theorem LnAt.tln {K : PySem.W.Frag} {H : Hp} : ∀ {xs : List V} {ls : List Line}, LnAt H xs ls → TLn K H xs ls
  | _, _, .nil => .nil
  | _, _, .cons a b t => .cons (tofT a) b t.tln
section
variable {P : Program} {w : World} {K : PySem.W.Frag} {mg : Str → Option Value} {base : Heap}
abbrev s_told : Stmt := topS 39
theorem sc_told : FnScope ["_law_value", "_law_found", "_law_made", "e"] ["_law_value"] (defScope s_told) := ⟨rfl, rfl, rfl, by decide +kernel, rfl, by decide +kernel, by decide +kernel⟩
theorem ok_told {f C CF fR : Addr} {fd fdR : FuncData} (F : Fun K "_law_told" "_law_told" s_told f fd) (gl : mg "_law_told" = some (.ref f)) (T : Bl mg) (S : Sys K mg C)
    (ST_read : G3.StatM K C "read" fR) (FT_read : FnG P w K mg base (L2.CX P w) 5 fR fdR ["text"] (spRead K CF C)) (BT_read : Binds K fdR ["text"] [])
    (gF : mg "BadText" = some (.ref CF)) (HE : HeldE K CF) (no : PySem.W.findIn K (.ref CF) "line" = some none) (ex : PySem.W.exmOne K (.ref CF) (.ref CF) = some true) :
    DefG P w K mg base 6 "_law_told" ["_law_value"] (spDue K) := by
  refine def_mk F gl (F.binds fun _ _ _ _ _ _ us hl => match us, hl with | [_], _ => rfl) (okG F sc_told (fun vs H Q E h => ?_) fun cdv A outer s H vs Q E hr hc h => ?_)
  · obtain ⟨tx, rfl, _⟩ := h
    rfl
  · obtain ⟨tx, rfl, tl61, q⟩ := h
    have bad : ∀ (k : Nat) (t : Addr) (H' : Hp), rdT tx = .inl k → Same H H' → H' t = some (.tup [.str "bad", .int (k : Nat)]) → Q (.ref t) H' := fun k t H' hB s ht => q t H' s (by rw [hB]; exact ht)
    have nd := sc_told.nd
    refine ⟨_, (pss_cons (ps_set (i := 1) nd rfl (by first | exact Or.inl rfl | exact Or.inr rfl) (pe_tup (pa_cons pe_str pa_nil)))
      (pss_cons (ps_try_first (i := 3)
        (tb := fun W => tSeq (tAsg (tStatS (spRead K CF C) (WE W) (tCons (tVar 0) tNil)) (gName 2)) (tAsg (tTup (tCons (tC (.str "read")) (tCons (tFld K (tVar 2) "names") (tCons (tFld K (tVar 2) "rows") (tCons (tFld K (tVar 2) "rests") tNil))))) (gName 1)))
        (ts := fun a cls d => tAsg (tTup (tCons (tC (.str "bad")) (tCons (tHeld CF "line" a cls d (tVar 3)) tNil))) (gName 1))
        rfl rfl nd rfl rfl ⟨by rfl, by decide, Or.inl gF⟩
        (fun W pn xe tk _ => pss_cons (ps_set (i := 2) nd rfl (by first | exact Or.inl rfl | exact Or.inr rfl) (pe_statGS ST_read FT_read BT_read (hr.mono (by decide)) hc (fun σ => passAt tk σ) (by rfl) S.mgC (pa_cons (pv 0) pa_nil)))
          (pss_one (ps_set (i := 1) nd rfl (by first | exact Or.inl rfl | exact Or.inr rfl) (pe_tup (pa_cons pe_str (pa_cons (pe_fld (pv 2) rfl) (pa_cons (pe_fld (pv 2) rfl) (pa_cons (pe_fld (pv 2) rfl) pa_nil))))))))
        (fun a oe cls d pn hz hf => pss_one (ps_set (i := 1) nd rfl (by first | exact Or.inl rfl | exact Or.inr rfl) (by exact (pe_tup (pa_cons pe_str (pa_cons (pe_held HE no hz hf (pv 3)) pa_nil)))))))
      (pss_one (ps_ret (pv 1))))), ?_⟩
    refine ⟨(show 1 ≤ sizeLine from small (by decide)), fun t0 nt0 => ?_⟩
    have s0 := Same.new (o := .tup [.str "odd"]) nt0
    generalize upd H t0 (.tup [.str "odd"]) = H0 at *
    refine ⟨_, rfl, tx, rfl, tl61, fun k d H' hB s' hd => ?_, fun ns rows rests p H' hB s' hP => ?_⟩
    · refine ⟨ex, fun a ha => ?_⟩
      exact ⟨_, rfl, rfl, rfl, d, _, _, rfl, hd, rfl, (show 2 ≤ sizeLine from small (by decide)), fun t nt => ⟨_, rfl, bad k t _ hB (s0.trans (s'.trans (Same.new nt))) upd_same⟩⟩
    · obtain ⟨dx, tn, tr, ts, h1, pz⟩ := hP
      refine ⟨_, rfl, p, C, dx, _, _, rfl, h1, S.cl, S.nN, f_names _ _ _, ?_⟩
      refine ⟨_, rfl, p, C, dx, _, _, rfl, h1, S.cl, S.nR, f_rows _ _ _, ?_⟩
      refine ⟨_, rfl, p, C, dx, _, _, rfl, h1, S.cl, S.nS, f_rests _ _ _, ?_⟩
      refine ⟨(show 4 ≤ sizeLine from small (by decide)), fun t nt => ⟨_, rfl, ?_⟩⟩
      have st := Same.new (o := .tup [.str "read", .ref tn, .ref tr, .ref ts]) nt
      refine q t _ (s0.trans (s'.trans st)) ?_
      obtain ⟨hn, ⟨xs, h3, h4⟩, ⟨ys, h5, h6⟩⟩ := pz
      rw [hB]
      have k := KpT.same st
      exact ⟨tn, tr, ts, xs, ys, upd_same, k.sq hn.t, k.sq h3, (LnAt.tln h4).to k, k.sq h5, (LnAt.tln h6).to k⟩
end
end KW
namespace KW
open PySem PySem.Spec PyProof.Rows L2 GL RZ TL GX
/-! ### what is told of a text and what is due -/
theorem Nice.big {i : Int} (h : i.natAbs < 10 ^ 60) : Nice 62 0 (.int i) :=
  ⟨decide_eq_true (PySem.Flt.log2_lt_of (by decide) (Nat.lt_trans h (by decide +kernel))), rfl, Nat.le_refl _, by
    show (PyData.int i).shown.length ≤ _
    rw [PyData.shown_int]
    show (Str.ofString (toString i)).length ≤ _
    rw [PySem.ofString_length]
    exact Nat.le_trans (PySem.int_text_length_le10 (k := 60) (by decide) h) (by decide)⟩
structure LOk (l : Line) : Prop where
  l1 : l.1.length ≤ 6
  f : ∀ f ∈ l.1, f.natAbs < 10 ^ 60
  l2 : l.2.length ≤ 2
  m : ∀ m ∈ l.2, m.natAbs < 10 ^ 60
theorem ints_nice {xs : List Int} (h : ∀ f ∈ xs, f.natAbs < 10 ^ 60) : ∀ d ∈ intsD xs, Nice 62 0 d := fun d hd => by
  obtain ⟨z, hz, rfl⟩ := List.mem_map.mp hd
  exact Nice.big (h z hz)
theorem ln_nice {l : Line} (h : LOk l) : Nice 1170 2 (lnD l) := by
  have h1 : Nice 387 1 (.tuple (intsD l.1)) := (Nice.tup (n := 6) (ints_nice h.f) (by unfold intsD; rw [List.length_map]; exact h.l1)).mono (by decide) (by decide)
  have h2 : ∀ d ∈ PyData.tuple (intsD l.1) :: intsD l.2, Nice 387 1 d := fun d hd => by
    rcases List.mem_cons.mp hd with rfl | hd
    · exact h1
    · exact (ints_nice h.m d hd).mono (by decide) (by decide)
  exact (Nice.tup (n := 3) h2 (by unfold intsD; rw [List.length_cons, List.length_map]; have := h.l2; omega)).mono (by decide) (by decide)
theorem lns_nice {ls : List Line} (h : ∀ l ∈ ls, LOk l) (hl : ls.length ≤ 190) : Nice 222683 3 (.tuple (ls.map lnD)) :=
  (Nice.tup (n := 190) (fun d hd => by
    obtain ⟨z, hz, rfl⟩ := List.mem_map.mp hd
    exact ln_nice (h z hz)) (by rw [List.length_map]; exact hl)).mono (by decide) (by decide)
theorem read_ok {ns : List Str} (nm : ∀ z ∈ ns, nameB z = true) (n6 : ns.length ≤ 6) {z : Str} {fs : List Int} {c m : Int} (h : readB ns z = some (fs, c, m)) : LOk (fs, [c]) ∧ LOk (fs, [c, m]) := by
  have cl := read_cl nm h
  have l6 : fs.length ≤ 6 := by rw [cl.1.1]; exact n6
  have mb : m.natAbs < 10 ^ 60 := by
    by_cases m0 : m = 0
    · rw [m0]; decide +kernel
    · exact (cl.2.2.1 m (if_neg m0)).2
  refine ⟨⟨l6, cl.1.2, (show 1 ≤ 2 by decide), fun x hx => ?_⟩, ⟨l6, cl.1.2, Nat.le_refl 2, fun x hx => ?_⟩⟩
  · rw [List.mem_singleton.mp hx]; exact cl.2.1
  · rcases List.mem_cons.mp hx with rfl | hx
    · exact cl.2.1
    · rw [List.mem_singleton.mp hx]; exact mb
theorem rs_ok {ns : List Str} (nm : ∀ z ∈ ns, nameB z = true) (n6 : ns.length ≤ 6) : ∀ (ls : List Str) (rows : List Row) (rests : List Rst) (k : Nat) (rows' : List Row) (rests' : List Rst), rdS ns rows rests k ls = .inr (rows', rests') →
    (∀ r ∈ rows, LOk (lnR r)) → (∀ r ∈ rests, LOk (lnS r)) → (∀ r ∈ rows', LOk (lnR r)) ∧ (∀ r ∈ rests', LOk (lnS r)) ∧ rows'.length + rests'.length = rows.length + rests.length + ls.length
  | [], rows, rests, k, rows', rests', h, h1, h2 => by
    have e := Sum.inr.inj h
    cases e
    exact ⟨h1, h2, rfl⟩
  | z :: r, rows, rests, k, rows', rests', h, h1, h2 => by
    cases e : readB ns z with
    | none => rw [rs_none e] at h; cases h
    | some p =>
      obtain ⟨fs, c, m⟩ := p
      obtain ⟨o1, o2⟩ := read_ok nm n6 e
      rw [rs_some e] at h
      by_cases m0 : m = 0
      · rw [if_pos m0] at h
        by_cases r0 : rests = []
        · rw [if_pos r0] at h
          obtain ⟨a, b, d⟩ := rs_ok nm n6 r _ _ _ _ _ h (fun q hq => by
            rcases List.mem_append.mp hq with hq | hq
            · exact h1 q hq
            · rw [List.mem_singleton.mp hq]; exact o1) h2
          refine ⟨a, b, ?_⟩
          rw [List.length_append] at d
          rw [List.length_cons]
          have : ([(fs, c)] : List Row).length = 1 := rfl
          omega
        · rw [if_neg r0] at h; cases h
      · rw [if_neg m0] at h
        obtain ⟨a, b, d⟩ := rs_ok nm n6 r _ _ _ _ _ h h1 (fun q hq => by
          rcases List.mem_append.mp hq with hq | hq
          · exact h2 q hq
          · rw [List.mem_singleton.mp hq]; exact o2)
        refine ⟨a, b, ?_⟩
        rw [List.length_append] at d
        rw [List.length_cons]
        have : ([(fs, c, m)] : List Rst).length = 1 := rfl
        omega
theorem rs_le {ns : List Str} : ∀ (ls : List Str) (rows : List Row) (rests : List Rst) (k n : Nat), rdS ns rows rests k ls = .inl n → n ≤ k + ls.length
  | [], rows, rests, k, n, h => by cases h
  | z :: r, rows, rests, k, n, h => by
    rw [List.length_cons]
    cases e : readB ns z with
    | none =>
      rw [rs_none e] at h
      have := Sum.inl.inj h
      omega
    | some p =>
      obtain ⟨fs, c, m⟩ := p
      rw [rs_some e] at h
      by_cases m0 : m = 0
      · rw [if_pos m0] at h
        by_cases r0 : rests = []
        · rw [if_pos r0] at h
          have := rs_le r _ _ _ _ h
          omega
        · rw [if_neg r0] at h
          have := Sum.inl.inj h
          omega
      · rw [if_neg m0] at h
        have := rs_le r _ _ _ _ h
        omega
/-- a text such as the law looks at -/
structure OkTx (tx : Str) : Prop where
  len : tx.length ≤ 61000
  few : (linesOf tx).length ≤ 190
theorem names_nice {ns : List Str} (h : ∀ z ∈ ns, nameB z = true) (hl : ns.length ≤ 6) : Nice 222683 3 (.tuple (ns.map PyData.str)) := by
  have h1 : ∀ d ∈ ns.map PyData.str, Nice 82 0 d := fun d hd => by
    obtain ⟨z, hz, rfl⟩ := List.mem_map.mp hd
    refine Nice.str (n := 8) (name_len8 (h z hz)).2 fun c hc => ?_
    have hn := h z hz
    unfold nameB at hn
    rw [Bool.and_eq_true, Bool.and_eq_true] at hn
    have := of_decide_eq_true (List.all_eq_true.mp (Bool.and_eq_true_iff.mp hn.2).2 c hc)
    have a : ∀ d ∈ (LETTERS ++ DIGITS).cps.toList, d < 128 := by decide +kernel
    exact a c this
  exact (Nice.tup (n := 6) h1 (by rw [List.length_map]; exact hl)).mono (by decide) (by decide)
theorem res_nice {tx : Str} (ok : OkTx tx) : Nice 890743 4 (resD (rdT tx)) := by
  have few := ok.few
  have l1 : 1 ≤ (linesOf tx).length := PyProof.Rows.split_pos tx "\n"
  have tl : (linesOf tx).tail.length + 1 = (linesOf tx).length := by rw [List.length_tail]; omega
  have nbad : ∀ k : Nat, k ≤ 192 → Nice 890743 4 (.tuple [.str "bad", .int (k : Nat)]) := fun k hk => by
    have h : ∀ d ∈ [PyData.str "bad", .int (k : Nat)], Nice 610 1 d := fun d hd => by
      rcases List.mem_cons.mp hd with rfl | hd
      · exact (Nice.str (n := 3) (by decide +kernel) (by decide +kernel)).mono (by decide) (by decide)
      · rw [List.mem_singleton.mp hd]
        exact (Nice.int (by omega) (by omega)).mono (by decide) (by decide)
    exact (Nice.tup (n := 2) h (Nat.le_refl _)).mono (by decide) (by decide)
  unfold rdT
  generalize (linesOf tx).tail = ls at *
  cases wordsOf ((linesOf tx).headD "") with
  | nil => exact nbad 1 (by decide)
  | cons w ns =>
    show Nice 890743 4 (resD (if w = "names" ∧ namesB ns = true then mkS ns (rdS ns [] [] 2 ls) else .inl 1))
    by_cases hn : w = "names" ∧ namesB ns = true
    rotate_left
    · rw [if_neg hn]; exact nbad 1 (by decide)
    rw [if_pos hn]
    obtain ⟨n1, n6, nm⟩ := nb_facts hn.2
    cases e : rdS ns [] [] 2 ls with
    | inl k =>
      have := rs_le _ _ _ _ _ e
      exact nbad k (by omega)
    | inr p =>
      obtain ⟨rows, rests⟩ := p
      obtain ⟨a, b, d⟩ := rs_ok nm n6 _ _ _ _ _ _ e (fun _ h => nomatch h) (fun _ h => nomatch h)
      have d : rows.length + rests.length = 0 + 0 + ls.length := d
      have h : ∀ d ∈ [PyData.str "read", .tuple (ns.map PyData.str), .tuple ((rows.map lnR).map lnD), .tuple ((rests.map lnS).map lnD)], Nice 222683 3 d := fun d hd => by
        rcases List.mem_cons.mp hd with rfl | hd
        · exact (Nice.str (n := 4) (by decide +kernel) (by decide +kernel)).mono (by decide) (by decide)
        rcases List.mem_cons.mp hd with rfl | hd
        · exact names_nice nm n6
        rcases List.mem_cons.mp hd with rfl | hd
        · exact lns_nice (fun l hl => by obtain ⟨r, hr, rfl⟩ := List.mem_map.mp hl; exact a r hr) (by rw [List.length_map]; omega)
        · rw [List.mem_singleton.mp hd]
          exact lns_nice (fun l hl => by obtain ⟨r, hr, rfl⟩ := List.mem_map.mp hl; exact b r hr) (by rw [List.length_map]; omega)
      exact (Nice.tup (n := 4) h (show 4 ≤ 4 from Nat.le_refl _)).mono (by decide) (by decide)
def spRight : Sp := fun vs H Q _ => ∃ tx : Str, vs = [.str tx] ∧ OkTx tx ∧ ∀ H', Same H H' → Q (.bl true) H'
section
variable {X : Cx}
theorem call_reprB (hc : Calm X.A) (hu : X.A.units + 100 < cLine) : CallR X (.builtin "repr") (fun xs H Q => ∃ (a : Addr) (d : PyData), xs = [.ref a] ∧ Dp X.K H (.ref a) d ∧ Nice 1781493 5 d ∧ Q (.str d.shown) H) := by
  intro pins s σ H xs us Q I r h
  obtain ⟨a, d, e, hd, hn, q⟩ := h
  exact call_reprD hc hu pins s σ H xs us Q I r ⟨a, d, e, hd, hn.sh, hn.nd, Nat.le_trans hn.dp (by decide), Nat.le_trans hn.sz (by decide), q⟩
end
section
variable {P : Program} {w : World} {K : PySem.W.Frag} {mg : Str → Option Value} {base : Heap}
abbrev s_is_right : Stmt := topS 42
theorem sc_is_right : FnScope ["_law_value", "_law_due_here"] ["_law_value"] (defScope s_is_right) := ⟨rfl, rfl, rfl, by decide +kernel, rfl, by decide +kernel, by decide +kernel⟩
theorem ok_is_right {f : Addr} {fd : FuncData} (F : Fun K "_law_is_right" "_law_is_right" s_is_right f fd) (gl : mg "_law_is_right" = some (.ref f)) (T : Bl mg) (D_due : DefG P w K mg base 4 "_law_due" ["_law_value"] (spDue K)) (D_told : DefG P w K mg base 6 "_law_told" ["_law_value"] (spDue K)) : DefG P w K mg base 7 "_law_is_right" ["_law_value"] spRight := by
  refine def_mk F gl (F.binds fun _ _ _ _ _ _ us hl => match us, hl with | [_], _ => rfl) (okG F sc_is_right (fun vs H Q E h => ?_) fun cdv A outer s H vs Q E hr hc h => ?_)
  · obtain ⟨tx, rfl, _⟩ := h
    rfl
  · obtain ⟨tx, rfl, ok, q⟩ := h
    have nd := sc_is_right.nd
    have hu64 := hr.units
    have hu100 : (A.deeper (envOfC "_law_is_right" (defScope s_is_right) s.heap.objs.size f cdv)).units + 100 < cLine := by have := hr.un; omega
    refine ⟨_, (pss_cons (ps_set (i := 1) nd rfl (by first | exact Or.inl rfl | exact Or.inr rfl) (pe_def D_due (hr.mono (by decide)) hc (by rfl) (pa_cons (pv 0) pa_nil)))
      (pss_one (ps_ret (pe_cmpR op_eq (pe_callB (call_reprB hc hu100) (by rfl) T.repr boot_repr (pa_cons (pe_lst (pa_cons (pe_def D_told (hr.mono (by decide)) hc (by rfl) (pa_cons (pv 0) pa_nil)) (pa_cons (pe_def D_told (hr.mono (by decide)) hc (by rfl) (pa_cons (pv 0) pa_nil)) pa_nil))) pa_nil)) (pe_callB (call_reprB hc hu100) (by rfl) T.repr boot_repr (pa_cons (pe_lst (pa_cons (pv 1) (pa_cons (pv 1) pa_nil))) pa_nil)) (nomark _))))), ?_⟩
    have nice := res_nice ok
    have two : Nice 1781493 5 (.list [resD (rdT tx), resD (rdT tx)]) := by
      have h : ∀ d ∈ [resD (rdT tx), resD (rdT tx)], Nice 890743 4 d := fun d hd => by
        rcases List.mem_cons.mp hd with rfl | hd
        · exact nice
        · rw [List.mem_singleton.mp hd]; exact nice
      exact (Nice.lst (n := 2) h (Nat.le_refl 2)).mono (by decide) (by decide)
    refine ⟨_, rfl, tx, rfl, ok.len, fun d H1 s1 hd => ?_⟩
    refine ⟨_, rfl, tx, rfl, ok.len, fun t1 H2 s2 h1 => ?_⟩
    refine ⟨_, rfl, tx, rfl, ok.len, fun t2 H3 s3 h2 => ?_⟩
    refine ⟨(show 2 ≤ sizeLine from small (by decide)), fun l nl => ?_⟩
    have s4 := Same.new (o := .lst [.ref t1, .ref t2]) nl
    have h1' := h1.same (s3.trans s4)
    have h2' := h2.same s4
    refine ⟨l, .list [resD (rdT tx), resD (rdT tx)], rfl, .lst (tofL upd_same) (.cons h1'.dp (.cons h2'.dp .nil)), two, ?_⟩
    generalize eH4 : upd H3 l (.lst [.ref t1, .ref t2]) = H4 at *
    have hd4 := hd.same (s2.trans (s3.trans s4))
    refine ⟨_, rfl, _, rfl, (show 2 ≤ sizeLine from small (by decide)), fun l2 nl2 => ?_⟩
    have s5 := Same.new (o := .lst [.ref d, .ref d]) nl2
    have hd5 := hd4.same s5
    refine ⟨l2, .list [resD (rdT tx), resD (rdT tx)], rfl, .lst (tofL upd_same) (.cons hd5.dp (.cons hd5.dp .nil)), two, rfl, ?_⟩
    rw [strD, decide_eq_true rfl]
    exact q _ (s1.trans (s2.trans (s3.trans (s4.trans s5))))
end
end KW
namespace KW
open PySem PySem.Spec PyProof.Rows L2 GL RZ TL GX
/-! ### what bending adds, sign by sign -/
def mz (f : Nat → Nat) (z : Str) : Nat := ((tl z).map f).sum
def wt (f : Nat → Nat) (y : Str) (ws : List Str) : Nat := (ws.map fun w => mz f w + mz f y).sum
theorem mz_app (f : Nat → Nat) (a b : Str) : mz f (a ++ b) = mz f a + mz f b := by
  unfold mz
  rw [tl_append, List.map_append, List.sum_append]
theorem wt_cons (f : Nat → Nat) (y w : Str) (r : List Str) : wt f y (w :: r) = mz f w + mz f y + wt f y r := rfl
theorem wt_app (f : Nat → Nat) (y : Str) (a b : List Str) : wt f y (a ++ b) = wt f y a + wt f y b := by
  unfold wt
  rw [List.map_append, List.sum_append]
theorem mz_join (f : Nat → Nat) (y : Str) : ∀ ws : List Str, ws ≠ [] → mz f (Txt.join y ws) + mz f y = wt f y ws := fun ws h => by
  have go : ∀ ls : List Str, ls ≠ [] → ((joinL (tl y) (ls.map tl)).map f).sum + mz f y = wt f y ls := fun ls => by
    induction ls with
    | nil => intro h; exact absurd rfl h
    | cons a r ih =>
      intro _
      cases r with
      | nil => rfl
      | cons b r' =>
        have i := ih (fun z => nomatch z)
        show ((tl a ++ (tl y ++ joinL (tl y) ((b :: r').map tl))).map f).sum + mz f y = mz f a + mz f y + wt f y (b :: r')
        rw [← i, List.map_append, List.map_append, List.sum_append, List.sum_append]
        show mz f a + (mz f y + _) + mz f y = mz f a + mz f y + (_ + mz f y)
        omega
  unfold mz
  rw [TL.join_eq, tl_join]
  exact go ws h
theorem mz_join_le (f : Nat → Nat) (y : Str) (ws : List Str) : mz f (Txt.join y ws) ≤ wt f y ws := by
  cases ws with
  | nil => unfold mz; rw [TL.join_eq, tl_join]; exact Nat.zero_le _
  | cons a r => have := mz_join f y (a :: r) (fun z => nomatch z); omega
theorem wt_split (f : Nat → Nat) (z y : Str) : wt f y (Txt.split z y) = mz f z + mz f y := by
  have n : Txt.split z y ≠ [] := fun e => by have := PyProof.Rows.split_pos z y; rw [e] at this; exact absurd this (by decide)
  have := mz_join f y _ n
  rw [show Txt.join y (Txt.split z y) = z by rw [TL.join_eq]; exact PySem.StrLaws.join_split z y] at this
  exact this.symm
theorem wt_mem {f : Nat → Nat} {y w : Str} : ∀ {ws : List Str}, w ∈ ws → mz f w + mz f y ≤ wt f y ws
  | [], h => nomatch h
  | a :: r, h => by
    rw [wt_cons]
    rcases List.mem_cons.mp h with rfl | h
    · omega
    · have := wt_mem (f := f) (y := y) h; omega
theorem wt_cut (f : Nat → Nat) (y : Str) (ws : List Str) (p : Nat) : wt f y (ws.take p) + wt f y (ws.drop p) = wt f y ws := by
  rw [← wt_app, List.take_append_drop]
theorem wt_drop_le (f : Nat → Nat) (y : Str) (ws : List Str) (p : Nat) : wt f y (ws.drop (p + 1)) ≤ wt f y (ws.drop p) := by
  have := wt_cut f y (ws.drop p) 1
  rw [List.drop_drop] at this
  omega
theorem wt_set (f : Nat → Nat) (y x : Str) : ∀ (ws : List Str) (i : Nat) (v : Str), ws[i]? = some v → wt f y (ws.set i x) + (mz f v + mz f y) = wt f y ws + (mz f x + mz f y)
  | [], i, v, h => by cases h
  | a :: r, 0, v, h => by
    cases h
    show mz f x + mz f y + wt f y r + _ = mz f a + mz f y + wt f y r + _
    omega
  | a :: r, i + 1, v, h => by
    have ih := wt_set f y x r i v (by simpa using h)
    show mz f a + mz f y + wt f y (r.set i x) + _ = mz f a + mz f y + wt f y r + _
    omega
/-- a row bent once: taken from a row and from what is odd -/
def BentR (odd ws : List Str) (y : Str) (found : List Str) : Prop := ∀ f M, (∀ o ∈ odd, mz f o ≤ M) → wt f y found ≤ 2 * wt f y ws + M + mz f y
theorem bent_less {odd ws : List Str} {y : Str} (p : Nat) : BentR odd ws y (ws.take p ++ ws.drop (p + 1)) := fun f M _ => by
  rw [wt_app]
  have := wt_cut f y ws p
  have := wt_drop_le f y ws p
  omega
theorem bent_put {odd ws : List Str} {y : Str} (p : Nat) {x : Str} (hx : x ∈ ws ∨ x ∈ odd) : BentR odd ws y (ws.take p ++ [x] ++ ws.drop p) := fun f M h => by
  rw [wt_app, wt_app]
  have c := wt_cut f y ws p
  have e : wt f y [x] = mz f x + mz f y := by unfold wt; simp
  rcases hx with hx | hx
  · have := wt_mem (f := f) (y := y) hx
    omega
  · have := h x hx
    omega
theorem bent_odd {odd ws : List Str} {y : Str} {p : Nat} {x v : Str} (hv : ws[p]? = some v) (hx : x ∈ odd) : BentR odd ws y (ws.set p x) := fun f M h => by
  have := wt_set f y x ws p v hv
  have := h x hx
  omega
theorem bent_swap {odd ws : List Str} {y : Str} {p q : Nat} {u v : Str} (hu : ws[p]? = some u) (hv : ws[q]? = some v) : BentR odd ws y ((ws.set p v).set q u) := fun f M _ => by
  have e1 := wt_set f y v ws p u hu
  have h2 : (ws.set p v)[q]? = some v := by
    by_cases e : p = q
    · subst e
      have := (List.getElem?_eq_some_iff.mp hu).1
      rw [List.getElem?_set_self (by omega)]
    · rw [List.getElem?_set_ne e]; exact hv
  have e2 := wt_set f y u (ws.set p v) q v h2
  omega
theorem mz_one (z : Str) : mz (fun _ => 1) z = z.length := by
  unfold mz
  have : ∀ l : List Nat, (l.map fun _ => 1).sum = l.length := fun l => by
    induction l with
    | nil => rfl
    | cons a r ih => rw [List.map_cons, List.sum_cons, ih, List.length_cons]; omega
  rw [this, show (tl z).length = z.length from Array.length_toList ..]
theorem wt_one (y : Str) (ws : List Str) : wt (fun _ => 1) y ws = (ws.map (·.length)).sum + ws.length * y.length := by
  induction ws with
  | nil => simp [wt]
  | cons a r ih =>
    rw [wt_cons, ih, mz_one, mz_one, List.map_cons, List.sum_cons, List.length_cons, Nat.succ_mul]
    omega
def wO1 : List Str := ["0", "1", "-1", "00", "-0", "+1", "+", "-", "=", "mod", "x", "", "2", repS "9" 61, repS "9" 60]
def wO2 : List Str := ["names", "self", "A"]
def wO : List Str := wO1 ++ wO2
theorem wO_len : ∀ z ∈ wO, z.length ≤ 61 := fun z hz => by
  have h : ∀ z ∈ wO, z.length ≤ 61 := by decide +kernel
  exact h z hz
def spBentRow : Sp := fun vs H Q _ => ∃ (d g l : Addr) (ws : List Str) (y : Str), vs = [.ref d, .ref l, .str y] ∧ Deck H d g ∧ H l = some (.lst (ws.map V.str)) ∧ l ≠ g ∧ ws ≠ [] ∧ ws.length ≤ 62500 ∧ wt (fun _ => 1) y ws ≤ 62500 ∧ y.length ≤ 1 ∧
  ∀ (found : List Str) (H' : Hp), Deck H' d g → Mv d g H H' → BentR wO ws y found → Q (.str (Txt.join y found)) H'
section
variable {P : Program} {w : World} {K : PySem.W.Frag} {mg : Str → Option Value} {base : Heap}
abbrev s_bent_row : Stmt := topS 40
theorem sc_bent_row : FnScope ["_law_deck_here", "_law_some", "_law_joint", "_law_way", "_law_p", "_law_found", "_law_q", "_law_odd"] ["_law_deck_here", "_law_some", "_law_joint"] (defScope s_bent_row) := ⟨rfl, rfl, rfl, by decide +kernel, rfl, by decide +kernel, by decide +kernel⟩
theorem ok_bent_row {f : Addr} {fd : FuncData} (F : Fun K "_law_bent_row" "_law_bent_row" s_bent_row f fd) (gl : mg "_law_bent_row" = some (.ref f)) (T : Bl mg) (Tlist : mg "list" = none) (D_draw : DefG P w K mg base 1 "_law_draw" ["_law_deck_here", "_law_many"] spDraw) (D_pick : DefG P w K mg base 2 "_law_pick" ["_law_deck_here", "_law_some"] spPickL) :
    DefG P w K mg base 3 "_law_bent_row" ["_law_deck_here", "_law_some", "_law_joint"] spBentRow := by
  refine def_mk F gl (F.binds fun _ _ _ _ _ _ us hl => match us, hl with | [_, _, _], _ => rfl) (okG F sc_bent_row (fun vs H Q E h => ?_) fun cdv A outer s H vs Q E hr hc h => ?_)
  · obtain ⟨d, g, l, ws, y, rfl, _⟩ := h
    rfl
  · obtain ⟨d, g, l, ws, y, rfl, D, hl, nlg, wne, w62, wt62, y1, q⟩ := h
    have nd := sc_bent_row.nd
    have hu64 := hr.units
    refine ⟨_, (pss_cons (ps_par3 (i := 3) (j := 4) (l := 5) rfl nd rfl rfl rfl (by decide) (by decide) (by decide) rfl rfl rfl (pa_cons (pe_def D_draw (hr.mono (by decide)) hc (by rfl) (pa_cons (pv 0) (pa_cons pe_int pa_nil))) (pa_cons (pe_def D_draw (hr.mono (by decide)) hc (by rfl) (pa_cons (pv 0) (pa_cons (pe_callB call_len_seq (by rfl) T.len boot_len (pa_cons (pv 1) pa_nil)) pa_nil))) (pa_cons (pe_callTy call_list_of (by rfl) Tlist boot_list (pa_cons (pv 1) pa_nil)) pa_nil))) rfl)
      (pss_cons (ps_set (i := 6) nd rfl (by first | exact Or.inl rfl | exact Or.inr rfl) (pe_def D_draw (hr.mono (by decide)) hc (by rfl) (pa_cons (pv 0) (pa_cons (pe_callB call_len_seq (by rfl) T.len boot_len (pa_cons (pv 1) pa_nil)) pa_nil))))
      (pss_cons (ps_set (i := 7) nd rfl (by first | exact Or.inl rfl | exact Or.inr rfl) (pe_lst (pa_cons pe_str (pa_cons pe_str (pa_cons pe_str (pa_cons pe_str (pa_cons pe_str (pa_cons pe_str (pa_cons pe_str (pa_cons pe_str (pa_cons pe_str (pa_cons pe_str (pa_cons pe_str (pa_cons pe_str (pa_cons pe_str (pa_cons (pe_op op_repS pe_str pe_int) (pa_cons (pe_op op_repS pe_str pe_int) pa_nil)))))))))))))))))
      (pss_cons (ps_set (i := 7) nd rfl (by first | exact Or.inl rfl | exact Or.inr rfl) (pe_op op_cat (pv 7) (pe_lst (pa_cons pe_str (pa_cons pe_str (pa_cons pe_str pa_nil))))))
      (C8.pss_cut (ps_if (pt_cmpR op_eq (pv 3) pe_int (nomark _))
        (pss_one (ps_set (i := 5) nd rfl (by first | exact Or.inl rfl | exact Or.inr rfl) (pe_op op_cat (pe_slice sl_list (pv 5) po_none (po_some (pv 4))) (pe_slice sl_list (pv 5) (po_some (pe_op op_add (pv 4) pe_int)) po_none))))
        (pss_one (ps_if (pt_cmpR op_eq (pv 3) pe_int (nomark _))
          (pss_one (ps_set (i := 5) nd rfl (by first | exact Or.inl rfl | exact Or.inr rfl) (pe_op op_cat (pe_op op_cat (pe_slice sl_list (pv 5) po_none (po_some (pv 4))) (pe_lst (pa_cons (pe_ix ix_list (pv 5) (pv 6) (fun _ _ => rfl)) pa_nil))) (pe_slice sl_list (pv 5) (po_some (pv 4)) po_none))))
          (pss_one (ps_if (pt_cmpR op_eq (pv 3) pe_int (nomark _))
            (pss_one (ps_asg (pe_tup (pa_cons (pe_ix ix_list (pv 1) (pv 6) (fun _ _ => rfl)) (pa_cons (pe_ix ix_list (pv 1) (pv 4) (fun _ _ => rfl)) pa_nil))) (pg_tup rfl (pgs_cons (pg_sub (pv 5) (pv 4) set_list) (pgs_cons (pg_sub (pv 5) (pv 6) set_list) pgs_nil)))))
            (pss_one (ps_if (pt_cmpR op_eq (pv 3) pe_int (nomark _))
              (pss_one (ps_asg (pe_def D_pick (hr.mono (by decide)) hc (by rfl) (pa_cons (pv 0) (pa_cons (pv 7) pa_nil))) (pg_sub (pv 5) (pv 4) set_list)))
              (pss_one (ps_set (i := 5) nd rfl (by first | exact Or.inl rfl | exact Or.inr rfl) (pe_op op_cat (pe_op op_cat (pe_slice sl_list (pv 5) po_none (po_some (pv 4))) (pe_lst (pa_cons (pe_def D_pick (hr.mono (by decide)) hc (by rfl) (pa_cons (pv 0) (pa_cons (pv 7) pa_nil))) pa_nil))) (pe_slice sl_list (pv 5) (po_some (pv 4)) po_none)))))))))))
      (pss_one (ps_ret (pe_join (pv 2) (pv 5))))))))), ?_⟩
    have offl : l ≠ d ∧ l ≠ g := ⟨by obtain ⟨m, L, e1, _⟩ := D.ex; exact (ne_of e1 hl (fun z => nomatch z)).symm, nlg⟩
    have w1 : 1 ≤ ws.length := List.length_pos_iff.mpr wne
    refine ⟨_, rfl, d, g, 6, rfl, D, by decide, by decide, fun way H1 _ _ D1 M1 => ?_⟩
    refine ⟨_, rfl, _, rfl, l, _, rfl, .inl (tofL (M1.at hl offl)), d, g, _, rfl, D1, by rw [List.length_map]; omega, by rw [List.length_map]; omega, fun p H2 p0 p1 D2 M2 => ?_⟩
    have M02 := M1.trans M2
    have hl2 := M02.at hl offl
    rw [List.length_map] at p1
    obtain ⟨pn, rfl⟩ : ∃ n : Nat, p = (n : Int) := ⟨p.toNat, by omega⟩
    obtain ⟨u, hu⟩ : ∃ u, ws[pn]? = some u := ⟨_, List.getElem?_eq_getElem (by omega)⟩
    refine ⟨_, rfl, l, _, rfl, .inl (tofL hl2), fun fa nfa => ?_⟩
    have offa := D2.off nfa
    have nfH : H fa = none := M02.free D D2 nfa
    have s3 := Same.new (o := .lst (ws.map V.str)) nfa
    have hf3 : upd H2 fa (.lst (ws.map V.str)) fa = some (.lst (ws.map V.str)) := upd_same
    have D3 := D2.new (o := .lst (ws.map V.str)) nfa
    have M03 := M02.trans (Mv.of s3)
    have hl3 := s3 _ _ hl2
    generalize upd H2 fa (.lst (ws.map V.str)) = H3 at *
    refine ⟨_, _, _, rfl, ?_⟩
    refine ⟨_, rfl, _, rfl, l, _, rfl, .inl (tofL hl3), d, g, _, rfl, D3, by rw [List.length_map]; omega, by rw [List.length_map]; omega, fun qq H3b q0 q1 D3b M3b => ?_⟩
    have M03b := M03.trans M3b
    have hl3b := M03b.at hl offl
    have hf3b := M3b.at hf3 offa
    rw [List.length_map] at q1
    obtain ⟨qn, rfl⟩ : ∃ n : Nat, qq = (n : Int) := ⟨qq.toNat, by omega⟩
    obtain ⟨v, hv⟩ : ∃ v, ws[qn]? = some v := ⟨_, List.getElem?_eq_getElem (by omega)⟩
    refine ⟨_, _, rfl, rfl, by decide, by decide, by decide +kernel, _, _, rfl, rfl, by decide, by decide, by decide +kernel, (show 15 ≤ sizeLine from small (by decide)), fun o1 no1 => ?_⟩
    have sO := Same.new (o := .lst (wO1.map V.str)) no1
    have hO : upd H3b o1 (.lst (wO1.map V.str)) o1 = some (.lst (wO1.map V.str)) := upd_same
    have eO : (HO.lst (wO1.map V.str)) = .lst [.str "0", .str "1", .str "-1", .str "00", .str "-0", .str "+1", .str "+", .str "-", .str "=", .str "mod", .str "x", .str "", .str "2", .str (repS "9" 61), .str (repS "9" 60)] := rfl
    have hlO := sO _ _ hl3b
    have hfO := sO _ _ hf3b
    have DO := D3b.same sO
    have MO := M03b.trans (Mv.of sO)
    rw [eO] at hO hlO hfO DO MO sO
    generalize upd H3b o1 (.lst [.str "0", .str "1", .str "-1", .str "00", .str "-0", .str "+1", .str "+", .str "-", .str "=", .str "mod", .str "x", .str "", .str "2", .str (repS "9" 61), .str (repS "9" 60)]) = HO1 at *
    rw [← eO] at hO
    refine ⟨_, rfl, (show 3 ≤ sizeLine from small (by decide)), fun o2 no2 => ?_⟩
    have sP := Same.new (o := .lst (wO2.map V.str)) no2
    have hP : upd HO1 o2 (.lst (wO2.map V.str)) o2 = some (.lst (wO2.map V.str)) := upd_same
    have hOP := sP _ _ hO
    have hlP := sP _ _ hlO
    have hfP := sP _ _ hfO
    have DP := DO.same sP
    have MP := MO.trans (Mv.of sP)
    have eP : (HO.lst (wO2.map V.str)) = .lst [.str "names", .str "self", .str "A"] := rfl
    rw [eP] at hP hOP hlP hfP DP MP sP
    generalize upd HO1 o2 (.lst [.str "names", .str "self", .str "A"]) = HP at *
    rw [← eP] at hP
    refine ⟨o1, o2, _, _, rfl, rfl, hOP, hP, small (by decide), fun o no => ?_⟩
    rw [← List.map_append, show wO1 ++ wO2 = wO from rfl]
    have s4 := Same.new (o := .lst (wO.map V.str)) no
    have ho4 : upd HP o (.lst (wO.map V.str)) o = some (.lst (wO.map V.str)) := upd_same
    have nog := (DP.off no).2
    have D4 := DP.same s4
    have M04 := MP.trans (Mv.of s4)
    have hl4 := s4 _ _ hlP
    have hf4 := s4 _ _ hfP
    generalize upd HP o (.lst (wO.map V.str)) = H4 at *
    have one : wO ≠ [] := by decide
    have o1000 : wO.length ≤ 1000 := by decide
    refine ⟨fun σ' H' => ∃ (fb : Addr) (found : List Str), σ' = [some (.ref d), some (.ref l), some (.str y), some (.int way), some (.int (pn : Nat)), some (.ref fb), some (.int (qn : Nat)), some (.ref o)] ∧ Deck H' d g ∧ Mv d g H H' ∧ H' fb = some (.lst (found.map V.str)) ∧ BentR wO ws y found, ?_, ?_⟩
    · have cut : ∀ (n : Nat), cutV (ws.map V.str) none (some (n : Int)) = (ws.take n).map V.str ∨ ¬ n ≤ ws.length := fun n => by
        by_cases h : n ≤ ws.length
        · exact .inl (by rw [cut_lo ws (by omega) (by omega), Int.toNat_natCast])
        · exact .inr h
      have cutP : cutV (ws.map V.str) none (some ((pn : Nat) : Int)) = (ws.take pn).map V.str := (cut pn).resolve_right (fun h => h (by omega))
      have atP : atI (ws.map V.str) ((pn : Nat) : Int) = some (V.str u) := atI_nat (by rw [List.getElem?_map, hu]; rfl)
      have atQ : atI (ws.map V.str) ((qn : Nat) : Int) = some (V.str v) := atI_nat (by rw [List.getElem?_map, hv]; rfl)
      refine ⟨_, rfl, rfl, _, rfl, ite2 (fun _ => ?_) (fun _ => ?_)⟩
      · -- one left out
        refine ⟨_, rfl, _, rfl, _, rfl, fa, _, rfl, tofL hf4, fun a na => ?_⟩
        rw [cutP]
        have sa := Same.new (o := .lst ((ws.take pn).map V.str)) na
        have ha : upd H4 a (.lst ((ws.take pn).map V.str)) a = some (.lst ((ws.take pn).map V.str)) := upd_same
        have hfa := sa _ _ hf4
        have Da := D4.same sa
        have Ma := M04.trans (Mv.of sa)
        generalize upd H4 a (.lst ((ws.take pn).map V.str)) = Ha at *
        refine ⟨_, rfl, _, rfl, _, _, rfl, rfl, _, rfl, fa, _, rfl, tofL hfa, fun b nb => ?_⟩
        rw [cut_hi0 ws (by omega), show (((pn : Nat) : Int) + 1).toNat = pn + 1 by omega]
        have sb := Same.new (o := .lst ((ws.drop (pn + 1)).map V.str)) nb
        have hb : upd Ha b (.lst ((ws.drop (pn + 1)).map V.str)) b = some (.lst ((ws.drop (pn + 1)).map V.str)) := upd_same
        have hab := sb _ _ ha
        have Db := Da.same sb
        have Mb := Ma.trans (Mv.of sb)
        generalize upd Ha b (.lst ((ws.drop (pn + 1)).map V.str)) = Hb at *
        refine ⟨a, b, _, _, rfl, rfl, hab, hb, small (by rw [List.length_map, List.length_map, List.length_take, List.length_drop]; omega), fun c nc => ⟨c, _, rfl, Db.new nc, Mb.trans (Mv.of (Same.new nc)), ?_, bent_less pn⟩⟩
        rw [upd_same, List.map_append]
      refine ⟨_, rfl, rfl, _, rfl, ite2 (fun _ => ?_) (fun _ => ?_)⟩
      · -- one twice
        refine ⟨_, rfl, _, rfl, _, rfl, fa, _, rfl, tofL hf4, fun a na => ?_⟩
        rw [cutP]
        have sa := Same.new (o := .lst ((ws.take pn).map V.str)) na
        have ha : upd H4 a (.lst ((ws.take pn).map V.str)) a = some (.lst ((ws.take pn).map V.str)) := upd_same
        have hfa := sa _ _ hf4
        have Da := D4.same sa
        have Ma := M04.trans (Mv.of sa)
        generalize upd H4 a (.lst ((ws.take pn).map V.str)) = Ha at *
        refine ⟨_, rfl, _, rfl, fa, _, _, _, rfl, rfl, tofL hfa, atQ, (show 1 ≤ sizeLine from small (by decide)), fun b nb => ?_⟩
        have sb := Same.new (o := .lst [.str v]) nb
        have hb : upd Ha b (.lst [.str v]) b = some (.lst (([v] : List Str).map V.str)) := upd_same
        have hab := sb _ _ ha
        have hfb := sb _ _ hfa
        have Db := Da.same sb
        have Mb := Ma.trans (Mv.of sb)
        generalize upd Ha b (.lst [.str v]) = Hb at *
        refine ⟨a, b, _, _, rfl, rfl, hab, hb, small (by rw [List.length_map, List.length_map, List.length_take]; show _ + 1 ≤ _; omega), fun c nc => ?_⟩
        rw [← List.map_append]
        have sc := Same.new (o := .lst ((ws.take pn ++ [v]).map V.str)) nc
        have hcc : upd Hb c (.lst ((ws.take pn ++ [v]).map V.str)) c = some (.lst ((ws.take pn ++ [v]).map V.str)) := upd_same
        have hfc := sc _ _ hfb
        have Dc := Db.same sc
        have Mc := Mb.trans (Mv.of sc)
        generalize upd Hb c (.lst ((ws.take pn ++ [v]).map V.str)) = Hc at *
        refine ⟨_, rfl, _, rfl, _, rfl, fa, _, rfl, tofL hfc, fun e ne => ?_⟩
        rw [cut_hi0 ws (by omega), Int.toNat_natCast]
        have se := Same.new (o := .lst ((ws.drop pn).map V.str)) ne
        have he : upd Hc e (.lst ((ws.drop pn).map V.str)) e = some (.lst ((ws.drop pn).map V.str)) := upd_same
        have hce := se _ _ hcc
        have De := Dc.same se
        have Me := Mc.trans (Mv.of se)
        generalize upd Hc e (.lst ((ws.drop pn).map V.str)) = He at *
        refine ⟨c, e, _, _, rfl, rfl, hce, he, small (by rw [List.length_map, List.length_map, List.length_append, List.length_take, List.length_drop]; show _ + 1 + _ ≤ _; omega), fun i ni => ⟨i, _, rfl, De.new ni, Me.trans (Mv.of (Same.new ni)), ?_, bent_put pn (.inl (List.mem_of_getElem? hv))⟩⟩
        rw [upd_same, ← List.map_append]
      refine ⟨_, rfl, rfl, _, rfl, ite2 (fun _ => ?_) (fun _ => ?_)⟩
      · -- two exchanged
        refine ⟨_, rfl, _, rfl, l, _, _, _, rfl, rfl, tofL hl4, atQ, _, rfl, _, rfl, l, _, _, _, rfl, rfl, tofL hl4, atP, (show 2 ≤ sizeLine from small (by decide)), fun t nt => ?_⟩
        have st := Same.new (o := .tup [.str v, .str u]) nt
        have htt : upd H4 t (.tup [.str v, .str u]) t = some (.tup [.str v, .str u]) := upd_same
        have hft := st _ _ hf4
        have Dt := D4.same st
        have Mt := M04.trans (Mv.of st)
        generalize upd H4 t (.tup [.str v, .str u]) = Ht at *
        refine ⟨t, _, rfl, tofT htt, rfl, _, _, rfl, _, rfl, _, rfl, fa, _, _, pn, rfl, rfl, hft, ixN_of (by omega) (by rw [List.length_map]; omega), ?_⟩
        rw [show (ws.map V.str).set pn (V.str v) = (ws.set pn v).map V.str from List.map_set.symm]
        refine ⟨_, _, rfl, _, rfl, _, rfl, fa, _, _, qn, rfl, rfl, upd_same, ixN_of (by omega) (by rw [List.length_map, List.length_set]; omega), rfl, fa, (ws.set pn v).set qn u, rfl, (Dt.mut offa).mut offa, (Mt.mut nfH).mut nfH, ?_, bent_swap hu hv⟩
        rw [upd_same]
        congr 2
        simp only [List.map_set]
      refine ⟨_, rfl, rfl, _, rfl, ite2 (fun _ => ?_) (fun _ => ?_)⟩
      · -- an odd one for one
        refine ⟨_, rfl, _, rfl, d, g, o, _, rfl, D4, ho4, nog, (by simpa using one), by rw [List.length_map]; exact o1000, fun x H5 hx D5 M5 => ?_⟩
        obtain ⟨z, hz, rfl⟩ := List.mem_map.mp hx
        have offf : fa ≠ d ∧ fa ≠ g := offa
        have hf5 := M5.at hf4 offf
        refine ⟨_, rfl, _, rfl, fa, _, _, pn, rfl, rfl, hf5, ixN_of (by omega) (by rw [List.length_map]; omega), fa, ws.set pn z, rfl, D5.mut offa, (M04.trans M5).mut nfH, ?_, bent_odd hu hz⟩
        rw [upd_same, List.map_set]
      · -- an odd one between
        refine ⟨_, rfl, _, rfl, _, rfl, fa, _, rfl, tofL hf4, fun a na => ?_⟩
        rw [cutP]
        have sa := Same.new (o := .lst ((ws.take pn).map V.str)) na
        have ha : upd H4 a (.lst ((ws.take pn).map V.str)) a = some (.lst ((ws.take pn).map V.str)) := upd_same
        have hfa := sa _ _ hf4
        have hoa := sa _ _ ho4
        have offa' := D4.off na
        have Da := D4.same sa
        have Ma := M04.trans (Mv.of sa)
        generalize upd H4 a (.lst ((ws.take pn).map V.str)) = Ha at *
        refine ⟨_, rfl, _, rfl, d, g, o, _, rfl, Da, hoa, nog, (by simpa using one), by rw [List.length_map]; exact o1000, fun x H5 hx D5 M5 => ?_⟩
        obtain ⟨z, hz, rfl⟩ := List.mem_map.mp hx
        have ha5 := M5.at ha offa'
        have hf5 := M5.at hfa offa
        have M05 := Ma.trans M5
        refine ⟨(show 1 ≤ sizeLine from small (by decide)), fun b nb => ?_⟩
        have sb := Same.new (o := .lst [.str z]) nb
        have hb : upd H5 b (.lst [.str z]) b = some (.lst (([z] : List Str).map V.str)) := upd_same
        have hab := sb _ _ ha5
        have hfb := sb _ _ hf5
        have Db := D5.same sb
        have Mb := M05.trans (Mv.of sb)
        generalize upd H5 b (.lst [.str z]) = Hb at *
        refine ⟨a, b, _, _, rfl, rfl, hab, hb, small (by rw [List.length_map, List.length_map, List.length_take]; show _ + 1 ≤ _; omega), fun c nc => ?_⟩
        rw [← List.map_append]
        have sc := Same.new (o := .lst ((ws.take pn ++ [z]).map V.str)) nc
        have hcc : upd Hb c (.lst ((ws.take pn ++ [z]).map V.str)) c = some (.lst ((ws.take pn ++ [z]).map V.str)) := upd_same
        have hfc := sc _ _ hfb
        have Dc := Db.same sc
        have Mc := Mb.trans (Mv.of sc)
        generalize upd Hb c (.lst ((ws.take pn ++ [z]).map V.str)) = Hc at *
        refine ⟨_, rfl, _, rfl, _, rfl, fa, _, rfl, tofL hfc, fun e ne => ?_⟩
        rw [cut_hi0 ws (by omega), Int.toNat_natCast]
        have se := Same.new (o := .lst ((ws.drop pn).map V.str)) ne
        have he : upd Hc e (.lst ((ws.drop pn).map V.str)) e = some (.lst ((ws.drop pn).map V.str)) := upd_same
        have hce := se _ _ hcc
        have De := Dc.same se
        have Me := Mc.trans (Mv.of se)
        generalize upd Hc e (.lst ((ws.drop pn).map V.str)) = He at *
        refine ⟨c, e, _, _, rfl, rfl, hce, he, small (by rw [List.length_map, List.length_map, List.length_append, List.length_take, List.length_drop]; show _ + 1 + _ ≤ _; omega), fun i ni => ⟨i, _, rfl, De.new ni, Me.trans (Mv.of (Same.new ni)), ?_, bent_put pn (.inr hz)⟩⟩
        rw [upd_same, ← List.map_append]
    rintro σ' H' ⟨fb, found, rfl, D', M', hf', bf⟩
    have lb := bf (fun _ => 1) 61 (fun z hz => by rw [mz_one]; exact wO_len z hz)
    rw [wt_one, mz_one] at lb
    refine ⟨_, rfl, ⟨_, rfl⟩, _, rfl, y, fb, found, rfl, rfl, .inl (tofL hf'), by omega, q found H' D' M' bf⟩
end
end KW
namespace KW
open PySem PySem.Spec PyProof.Rows L2 GL RZ TL GX
/-! ### a text bent -/
def cO : List Str := ["0", "1", "-", "+", " ", "\n", "=", "m", "x", "_", "A", "  "]
def lO : List Str := ["0 = 0", "0 = 1 mod 1"]
def BentOf (z z' : Str) : Prop := ∀ f M, (∀ o ∈ cO ++ (lO ++ wO), mz f o ≤ M) → mz f z' ≤ 2 * mz f z + (5 * M + 7 * mz f "\n" + 3 * mz f " ")
theorem cutS_lo (z : Str) (n : Nat) : (cutS z none (some (n : Int))).cps.toList = z.cps.toList.take n := by
  have zl : z.length = z.cps.toList.length := (Array.length_toList ..).symm
  unfold cutS
  show ((z.cps.toList.drop _).take _).toArray.toList = _
  rw [List.toList_toArray, show HT.sIx z.length 0 none = 0 from rfl, show HT.sIx z.length z.length (some (n : Int)) = min n z.length from HT.sIx_nat _ _ n, List.drop_zero, Nat.sub_zero, zl]
  by_cases h : n ≤ z.cps.toList.length
  · rw [Nat.min_eq_left h]
  · rw [Nat.min_eq_right (by omega), List.take_of_length_le (Nat.le_refl _), List.take_of_length_le (by omega)]
theorem cutS_hi (z : Str) (n : Nat) : (cutS z (some (n : Int)) none).cps.toList = z.cps.toList.drop n := by
  have zl : z.length = z.cps.toList.length := (Array.length_toList ..).symm
  unfold cutS
  show ((z.cps.toList.drop _).take _).toArray.toList = _
  rw [List.toList_toArray, show HT.sIx z.length 0 (some (n : Int)) = min n z.length from HT.sIx_nat _ _ n, HT.sIx_none, zl]
  rw [List.take_of_length_le (by rw [List.length_drop]; omega)]
  by_cases h : n ≤ z.cps.toList.length
  · rw [Nat.min_eq_left h]
  · rw [Nat.min_eq_right (by omega), List.drop_of_length_le (Nat.le_refl _), List.drop_of_length_le (by omega)]
theorem sum_cut (f : Nat → Nat) (l : List Nat) {n m : Nat} (h : n ≤ m) : ((l.take n).map f).sum + ((l.drop m).map f).sum ≤ (l.map f).sum := by
  have e1 : (l.map f).sum = ((l.take n).map f).sum + ((l.drop n).map f).sum := by rw [← List.sum_append, ← List.map_append, List.take_append_drop]
  have e2 : ((l.drop n).map f).sum = (((l.drop n).take (m - n)).map f).sum + (((l.drop n).drop (m - n)).map f).sum := by rw [← List.sum_append, ← List.map_append, List.take_append_drop]
  rw [List.drop_drop, show n + (m - n) = m by omega] at e2
  omega
theorem mz_cut (f : Nat → Nat) (z : Str) {n m : Nat} (h : n ≤ m) : mz f (cutS z none (some (n : Int))) + mz f (cutS z (some (m : Int)) none) ≤ mz f z := by
  unfold mz
  rw [show tl (cutS z none (some (n : Int))) = (tl z).take n from cutS_lo z n, show tl (cutS z (some (m : Int)) none) = (tl z).drop m from cutS_hi z m]
  exact sum_cut f _ h
theorem mz_rep (f : Nat → Nat) (z : Str) {r : Int} (h0 : 0 ≤ r) (h1 : r < 2) : mz f (repS z r) ≤ mz f z := by
  unfold mz
  rw [show tl (repS z r) = (List.replicate r.toNat (tl z)).flatten from repS_list z r]
  rcases (show r = 0 ∨ r = 1 by omega) with rfl | rfl
  · exact Nat.zero_le _
  · show ((tl z ++ []).map f).sum ≤ _
    rw [List.append_nil]
    exact Nat.le_refl _
theorem odd_len : ∀ o ∈ cO ++ (lO ++ wO), o.length ≤ 61 := fun o ho => by
  have h : ∀ o ∈ cO ++ (lO ++ wO), o.length ≤ 61 := by decide +kernel
  exact h o ho
theorem wt_lO {f : Nat → Nat} {M : Nat} (h : ∀ o ∈ cO ++ (lO ++ wO), mz f o ≤ M) (n : Nat) : wt f "\n" (lO.take n) ≤ 2 * (M + mz f "\n") := by
  have a := h "0 = 0" (List.mem_append_right _ (List.mem_append_left _ List.mem_cons_self))
  have b := h "0 = 1 mod 1" (List.mem_append_right _ (List.mem_append_left _ (List.mem_cons_of_mem _ List.mem_cons_self)))
  have c := wt_cut f "\n" lO n
  have e : wt f "\n" lO = mz f "0 = 0" + mz f "\n" + (mz f "0 = 1 mod 1" + mz f "\n" + 0) := rfl
  omega
def spBent : Sp := fun vs H Q _ => ∃ (d g : Addr) (z : Str), vs = [.ref d, .str z] ∧ Deck H d g ∧ z.length ≤ 31000 ∧ ∀ (z' : Str) (H' : Hp), Deck H' d g → Mv d g H H' → BentOf z z' → Q (.str z') H'
section
variable {P : Program} {w : World} {K : PySem.W.Frag} {mg : Str → Option Value} {base : Heap}
abbrev s_bent : Stmt := topS 41
theorem sc_bent : FnScope ["_law_deck_here", "_law_value", "_law_way", "_law_at", "_law_parts", "_law_more", "_law_spot"] ["_law_deck_here", "_law_value"] (defScope s_bent) := ⟨rfl, rfl, rfl, by decide +kernel, rfl, by decide +kernel, by decide +kernel⟩
theorem ok_bent {f : Addr} {fd : FuncData} (F : Fun K "_law_bent" "_law_bent" s_bent f fd) (gl : mg "_law_bent" = some (.ref f)) (T : Bl mg) (D_draw : DefG P w K mg base 1 "_law_draw" ["_law_deck_here", "_law_many"] spDraw) (D_pick : DefG P w K mg base 2 "_law_pick" ["_law_deck_here", "_law_some"] spPickL)
    (D_bent_row : DefG P w K mg base 3 "_law_bent_row" ["_law_deck_here", "_law_some", "_law_joint"] spBentRow) : DefG P w K mg base 4 "_law_bent" ["_law_deck_here", "_law_value"] spBent := by
  refine def_mk F gl (F.binds fun _ _ _ _ _ _ us hl => match us, hl with | [_, _], _ => rfl) (okG F sc_bent (fun vs H Q E h => ?_) fun cdv A outer s H vs Q E hr hc h => ?_)
  · obtain ⟨d, g, z, rfl, _⟩ := h
    rfl
  · obtain ⟨d, g, z, rfl, D, zl, q⟩ := h
    have nd := sc_bent.nd
    refine ⟨_, (pss_cons (ps_par (i := 2) (j := 3) rfl nd rfl rfl (by decide) rfl rfl (pa_cons (pe_def D_draw (hr.mono (by decide)) hc (by rfl) (pa_cons (pv 0) (pa_cons pe_int pa_nil))) (pa_cons (pe_def D_draw (hr.mono (by decide)) hc (by rfl) (pa_cons (pv 0) (pa_cons (pe_op op_add (pe_callB call_len_str (by rfl) T.len boot_len (pa_cons (pv 1) pa_nil)) pe_int) pa_nil))) pa_nil)) rfl)
      (pss_cons (ps_set (i := 4) nd rfl (by first | exact Or.inl rfl | exact Or.inr rfl) (pe_bm PySem.F.plainAttrs_str PySem.F.slot_str_split PySem.F.type_str_split mt_split (pv 1) (pa_cons pe_str pa_nil)))
      (pss_cons (ps_if (pt_cmpR op_eq (pv 2) pe_int (nomark _))
        (pss_cons (ps_set (i := 5) nd rfl (by first | exact Or.inl rfl | exact Or.inr rfl) (pe_def D_pick (hr.mono (by decide)) hc (by rfl) (pa_cons (pv 0) (pa_cons (pe_lst (pa_cons pe_str (pa_cons pe_str (pa_cons pe_str (pa_cons pe_str (pa_cons pe_str (pa_cons pe_str (pa_cons pe_str (pa_cons pe_str (pa_cons pe_str (pa_cons pe_str (pa_cons pe_str (pa_cons pe_str pa_nil))))))))))))) pa_nil))))
        (pss_one (ps_ret (pe_op op_add_str (pe_op op_add_str (pe_slice sl_str (pv 1) po_none (po_some (pv 3))) (pe_op op_repS (pv 5) (pe_def D_draw (hr.mono (by decide)) hc (by rfl) (pa_cons (pv 0) (pa_cons pe_int pa_nil))))) (pe_slice sl_str (pv 1) (po_some (pe_op op_add (pv 3) (pe_def D_draw (hr.mono (by decide)) hc (by rfl) (pa_cons (pv 0) (pa_cons pe_int pa_nil))))) po_none)))))
        pss_nil)
      (pss_cons (ps_if (pt_cmpR op_eq (pv 2) pe_int (nomark _))
        (pss_one (ps_ret (pe_def D_bent_row (hr.mono (by decide)) hc (by rfl) (pa_cons (pv 0) (pa_cons (pe_op op_cat (pv 4) (pe_slice sl_list (pe_lst (pa_cons pe_str (pa_cons pe_str pa_nil))) po_none (po_some (pe_def D_draw (hr.mono (by decide)) hc (by rfl) (pa_cons (pv 0) (pa_cons pe_int pa_nil)))))) (pa_cons pe_str pa_nil))))))
        pss_nil)
      (pss_cons (ps_set (i := 6) nd rfl (by first | exact Or.inl rfl | exact Or.inr rfl) (pe_def D_draw (hr.mono (by decide)) hc (by rfl) (pa_cons (pv 0) (pa_cons (pe_callB call_len_seq (by rfl) T.len boot_len (pa_cons (pv 4) pa_nil)) pa_nil))))
      (pss_cons (ps_asg (pe_def D_bent_row (hr.mono (by decide)) hc (by rfl) (pa_cons (pv 0) (pa_cons (pe_bm PySem.F.plainAttrs_str PySem.F.slot_str_split PySem.F.type_str_split mt_split (pe_ix ix_list (pv 4) (pv 6) (fun _ _ => rfl)) (pa_cons pe_str pa_nil)) (pa_cons pe_str pa_nil)))) (pg_sub (pv 4) (pv 6) set_list))
      (pss_one (ps_ret (pe_join pe_str (pv 4)))))))))), ?_⟩
    have zs : z.length ≤ sizeLine := small (by omega)
    have big : ∀ {n : Nat}, n ≤ 16777216 → n ≤ sizeLine := fun {n} h => by rw [sizeLine_eq]; exact h
    refine ⟨_, rfl, d, g, 4, rfl, D, by decide, by decide, fun way H1 _ _ D1 M1 => ?_⟩
    refine ⟨_, rfl, _, rfl, z, rfl, zs, _, _, rfl, rfl, d, g, _, rfl, D1, by omega, by omega, fun at_ H2 a0 a1 D2 M2 => ?_⟩
    have M02 := M1.trans M2
    obtain ⟨an, rfl⟩ : ∃ n : Nat, at_ = (n : Int) := ⟨at_.toNat, by omega⟩
    refine ⟨_, _, rfl, ?_⟩
    refine ⟨_, rfl, rfl, z, "\n", rfl, rfl, by decide +kernel, Nat.le_trans (Nat.add_le_add_right zl 2) (by decide), fun L nL => ?_⟩
    obtain ⟨u1, u2, u3⟩ := split_few z "\n" (by decide +kernel)
    have wl : ∀ f, wt f "\n" (Txt.split z "\n") = mz f z + mz f "\n" := fun f => wt_split f z "\n"
    generalize Txt.split z "\n" = ls at *
    have offL := D2.off nL
    have nLH : H L = none := M02.free D D2 nL
    have sL := Same.new (o := .lst (ls.map V.str)) nL
    have hL : upd H2 L (.lst (ls.map V.str)) L = some (.lst (ls.map V.str)) := upd_same
    have D3 := D2.same sL
    have M03 := M02.trans (Mv.of sL)
    generalize upd H2 L (.lst (ls.map V.str)) = H3 at *
    have lne : ls ≠ [] := fun e => by rw [e] at u1; exact absurd u1 (by decide)
    have one : mz (fun _ => 1) ("\n" : Str) = 1 := by decide +kernel
    have ones : mz (fun _ => 1) (" " : Str) = 1 := by decide +kernel
    have l1 : ("\n" : Str).length ≤ 1 := by decide +kernel
    have l1s : (" " : Str).length ≤ 1 := by decide +kernel
    refine ⟨_, rfl, rfl, _, rfl, ite2 (fun _ => ?_) (fun _ => ?_)⟩
    · -- signs put in, one left out
      refine ⟨_, rfl, (show 12 ≤ sizeLine from small (by decide)), fun a na => ?_⟩
      refine ⟨d, g, a, cO.map V.str, rfl, D3.new na, upd_same, (D3.off na).2, by decide, by decide, fun x H5 hx D5 M5 => ?_⟩
      obtain ⟨m, hm, rfl⟩ := List.mem_map.mp hx
      have M05 := M03.trans ((Mv.of (Same.new na)).trans M5)
      have ml : m.length ≤ 61 := odd_len m (List.mem_append_left _ hm)
      refine ⟨_, rfl, _, rfl, _, rfl, z, rfl, zs, _, rfl, _, rfl, d, g, 2, rfl, D5, by decide, by decide, fun r H6 r0 r1 D6 M6 => ?_⟩
      refine ⟨m, r, rfl, rfl, r0, by omega, by omega, ?_⟩
      have k1 : (cutS z none (some ((an : Nat) : Int))).length ≤ z.length := by rw [str_len3, str_len3]; exact cut_len z _ _
      have k2 : (repS m r).length ≤ 100 := by
        have := mz_rep (fun _ => 1) m r0 r1
        rw [mz_one, mz_one] at this
        omega
      refine ⟨_, _, rfl, rfl, small (by omega), ?_⟩
      refine ⟨_, rfl, _, rfl, _, rfl, d, g, 2, rfl, D6, by decide, by decide, fun r2 H7 s0 s1 D7 M7 => ?_⟩
      refine ⟨_, _, rfl, rfl, _, rfl, z, rfl, zs, ?_⟩
      obtain ⟨rn, rfl⟩ : ∃ n : Nat, r2 = (n : Int) := ⟨r2.toNat, by omega⟩
      rw [show ((an : Nat) : Int) + ((rn : Nat) : Int) = ((an + rn : Nat) : Int) by omega]
      have k3 : (cutS z (some ((an + rn : Nat) : Int)) none).length ≤ z.length := by rw [str_len3, str_len3]; exact cut_len z _ _
      have k4 : (cutS z none (some ((an : Nat) : Int)) ++ repS m r).length ≤ 32000 := by
        have := mz_app (fun _ => 1) (cutS z none (some ((an : Nat) : Int))) (repS m r)
        rw [mz_one, mz_one, mz_one] at this
        omega
      refine ⟨_, _, rfl, rfl, small (by omega), ?_⟩
      refine q _ H7 D7 (M05.trans (M6.trans M7)) fun f M h => ?_
      rw [mz_app, mz_app]
      have c1 := mz_cut f z (n := an) (m := an + rn) (by omega)
      have c2 := mz_rep f m r0 r1
      have c3 := h m (List.mem_append_left _ hm)
      omega
    refine ⟨_, rfl, rfl, _, rfl, ite2 (fun _ => ?_) (fun _ => ?_)⟩
    · -- lines
      refine ⟨_, rfl, _, rfl, (show 2 ≤ sizeLine from small (by decide)), fun a na => ?_⟩
      have sa := Same.new (o := .lst (lO.map V.str)) na
      have ha : upd H3 a (.lst (lO.map V.str)) a = some (.lst (lO.map V.str)) := upd_same
      have hLa := sa _ _ hL
      have offa := D3.off na
      have Da := D3.same sa
      have Ma := M03.trans (Mv.of sa)
      have eO : (HO.lst (lO.map V.str)) = .lst [.str "0 = 0", .str "0 = 1 mod 1"] := rfl
      rw [eO] at ha hLa Da Ma sa
      generalize upd H3 a (.lst [.str "0 = 0", .str "0 = 1 mod 1"]) = Ha at *
      rw [← eO] at ha
      refine ⟨_, rfl, d, g, 3, rfl, Da, by decide, by decide, fun r H5 r0 r1 D5 M5 => ?_⟩
      have ha5 := M5.at ha offa
      have hL5 := M5.at hLa offL
      have M05 := Ma.trans M5
      refine ⟨_, rfl, a, _, rfl, tofL ha5, fun b nb => ?_⟩
      rw [cut_lo lO r0 (by have : lO.length = 2 := rfl; omega)]
      generalize r.toNat = rn
      have sb := Same.new (o := .lst ((lO.take rn).map V.str)) nb
      have hb : upd H5 b (.lst ((lO.take rn).map V.str)) b = some (.lst ((lO.take rn).map V.str)) := upd_same
      have hLb := sb _ _ hL5
      have Db := D5.same sb
      have Mb := M05.trans (Mv.of sb)
      generalize upd H5 b (.lst ((lO.take rn).map V.str)) = Hb at *
      have t2 : (lO.take rn).length ≤ 2 := by rw [List.length_take]; exact Nat.min_le_right _ _
      refine ⟨L, b, _, _, rfl, rfl, hLb, hb, small (by rw [List.length_map, List.length_map]; omega), fun c nc => ?_⟩
      rw [← List.map_append]
      have sc := Same.new (o := .lst ((ls ++ lO.take rn).map V.str)) nc
      have wt1 := wt_lO (f := fun _ => 1) (M := 61) (fun o ho => by rw [mz_one]; exact odd_len o ho) rn
      refine ⟨d, g, c, ls ++ lO.take rn, "\n", rfl, Db.same sc, upd_same, (Db.off nc).2, (fun z => lne (List.append_eq_nil_iff.mp z).1), by rw [List.length_append]; omega, by rw [wt_app, wl, mz_one]; rw [one] at wt1 ⊢; omega, l1, fun found H' D' M' bf => ?_⟩
      refine q _ H' D' (Mb.trans ((Mv.of sc).trans M')) fun f M h => ?_
      have b1 := bf f M fun o ho => h o (List.mem_append_right _ (List.mem_append_right _ ho))
      have b2 := mz_join_le f "\n" found
      have b3 := wt_lO h rn
      rw [wt_app, wl] at b1
      omega
    -- words of a line
    refine ⟨_, rfl, _, rfl, L, _, rfl, .inl (tofL hL), d, g, _, rfl, D3, by rw [List.length_map]; omega, by rw [List.length_map]; omega, fun sp H4 s0 s1 D4 M4 => ?_⟩
    rw [List.length_map] at s1
    obtain ⟨sn, rfl⟩ : ∃ n : Nat, sp = (n : Int) := ⟨sp.toNat, by omega⟩
    obtain ⟨ln, hln⟩ : ∃ u, ls[sn]? = some u := ⟨_, List.getElem?_eq_getElem (by omega)⟩
    have hL4 := M4.at hL offL
    have M04 := M03.trans M4
    have ats : atI (ls.map V.str) ((sn : Nat) : Int) = some (V.str ln) := atI_nat (by rw [List.getElem?_map, hln]; rfl)
    have lnl : ln.length ≤ z.length := u3 ln (List.mem_of_getElem? hln)
    refine ⟨_, rfl, _, rfl, _, rfl, L, _, _, _, rfl, rfl, tofL hL4, ats, rfl, ln, " ", rfl, rfl, by decide +kernel, Nat.le_trans (Nat.add_le_add_right (Nat.le_trans lnl zl) 2) (by decide), fun W nW => ?_⟩
    obtain ⟨v1, v2, v3⟩ := split_few ln " " (by decide +kernel)
    have wl2 : ∀ f, wt f " " (Txt.split ln " ") = mz f ln + mz f " " := fun f => wt_split f ln " "
    generalize Txt.split ln " " = ws at *
    have offW := D4.off nW
    have sW := Same.new (o := .lst (ws.map V.str)) nW
    have hW : upd H4 W (.lst (ws.map V.str)) W = some (.lst (ws.map V.str)) := upd_same
    have hLW := sW _ _ hL4
    have DW := D4.same sW
    have MW := M04.trans (Mv.of sW)
    generalize upd H4 W (.lst (ws.map V.str)) = HW at *
    have wne : ws ≠ [] := fun e => by rw [e] at v1; exact absurd v1 (by decide)
    refine ⟨d, g, W, ws, " ", rfl, DW, hW, offW.2, wne, by omega, by rw [wl2, mz_one, ones]; omega, l1s, fun found H5 D5 M5 bf => ?_⟩
    have hL5 := M5.at hLW offL
    have M05 := MW.trans M5
    refine ⟨_, rfl, _, rfl, L, _, _, sn, rfl, rfl, hL5, ixN_of (by omega) (by rw [List.length_map]; omega), ?_⟩
    have fin : ∀ f M, (∀ o ∈ cO ++ (lO ++ wO), mz f o ≤ M) → wt f "\n" (ls.set sn (Txt.join " " found)) ≤ 2 * mz f z + (M + mz f "\n" + mz f "\n" + 3 * mz f " ") := fun f M h => by
      have b1 := bf f M fun o ho => h o (List.mem_append_right _ (List.mem_append_right _ ho))
      have b2 := mz_join_le f " " found
      have b3 := wt_set f "\n" (Txt.join " " found) ls sn ln hln
      have b4 := wt_mem (f := f) (y := "\n") (List.mem_of_getElem? hln)
      rw [wl2] at b1
      rw [wl] at b3 b4
      omega
    have lb := fin (fun _ => 1) 61 (fun o ho => by rw [mz_one]; exact odd_len o ho)
    rw [wt_one, mz_one, one, ones] at lb
    have e5 : (ls.map V.str).set sn (V.str (Txt.join " " found)) = (ls.set sn (Txt.join " " found)).map V.str := List.map_set.symm
    refine ⟨⟨_, rfl⟩, _, rfl, "\n", L, ls.set sn (Txt.join " " found), rfl, rfl, .inl (tofL (by rw [upd_same]; exact congrArg (fun x => some (HO.lst x)) e5)), by omega, ?_⟩
    refine q _ _ (D5.mut offL) (M05.mut nLH) fun f M h => ?_
    have b1 := fin f M h
    have b2 := mz_join_le f "\n" (ls.set sn (Txt.join " " found))
    omega
end
end KW
namespace KW
open PySem PySem.Spec PyProof.Rows L2 GL RZ TL GX
/-! ### texts that the law looks at -/
def nlF (c : Nat) : Nat := if c = 10 then 1 else 0
theorem mz_zero {f : Nat → Nat} {z : Str} (h : ∀ c ∈ tl z, f c = 0) : mz f z = 0 := by
  unfold mz
  have : ∀ l : List Nat, (∀ c ∈ l, f c = 0) → (l.map f).sum = 0 := fun l => by
    induction l with
    | nil => intro _; rfl
    | cons a r ih =>
      intro h
      rw [List.map_cons, List.sum_cons, h a List.mem_cons_self, ih fun c hc => h c (List.mem_cons_of_mem _ hc)]
  exact this _ h
theorem zero_of {f : Nat → Nat} {z : Str} (h : mz f z = 0) : ∀ c ∈ tl z, f c = 0 := by
  unfold mz at h
  have : ∀ l : List Nat, (l.map f).sum = 0 → ∀ c ∈ l, f c = 0 := fun l => by
    induction l with
    | nil => intro _ c hc; cases hc
    | cons a r ih =>
      intro h c hc
      rw [List.map_cons, List.sum_cons] at h
      rcases List.mem_cons.mp hc with rfl | hc
      · omega
      · exact ih (by omega) c hc
  exact this _ h
theorem wt_few {f : Nat → Nat} {y : Str} (hy : 1 ≤ mz f y) : ∀ ws : List Str, ws.length ≤ wt f y ws
  | [] => Nat.le_refl _
  | a :: r => by
    have := wt_few hy r
    rw [wt_cons, List.length_cons]; omega
theorem ok_tx {tx : Str} (h1 : tx.length ≤ 61000) (h2 : mz nlF tx ≤ 189) : OkTx tx where
  len := h1
  few := by
    have e1 : mz nlF ("\n" : Str) = 1 := by decide +kernel
    have := wt_few (f := nlF) (y := "\n") (by rw [e1]; exact Nat.le_refl _) (linesOf tx)
    have e := wt_split nlF tx "\n"
    have : (linesOf tx).length ≤ mz nlF tx + mz nlF "\n" := by rw [← e]; exact this
    omega
/-- the measures of a text and what bending does to them -/
def Me (a b : Nat) (tx : Str) : Prop := tx.length ≤ a ∧ mz nlF tx ≤ b
theorem Me.ok {a b : Nat} {tx : Str} (h : Me a b tx) (ha : a ≤ 61000) (hb : b ≤ 189) : OkTx tx := ok_tx (Nat.le_trans h.1 ha) (Nat.le_trans h.2 hb)
theorem odd_nl : ∀ o ∈ cO ++ (lO ++ wO), mz nlF o ≤ 1 := by decide +kernel
theorem Me.bent {a b : Nat} {z z' : Str} (h : Me a b z) (bo : BentOf z z') : Me (2 * a + 315) (2 * b + 12) z' := by
  have b1 := bo (fun _ => 1) 61 (fun o ho => by rw [mz_one]; exact odd_len o ho)
  have b2 := bo nlF 1 odd_nl
  rw [mz_one, mz_one] at b1
  have e1 : mz (fun _ => 1) ("\n" : Str) = 1 := by decide +kernel
  have e2 : mz (fun _ => 1) (" " : Str) = 1 := by decide +kernel
  have e3 : mz nlF ("\n" : Str) = 1 := by decide +kernel
  have e4 : mz nlF (" " : Str) = 0 := by decide +kernel
  obtain ⟨h1, h2⟩ := h
  exact ⟨by omega, by omega⟩
theorem nl_zero {z : Str} (h : NoNl z) : mz nlF z = 0 := mz_zero fun c hc => by
  unfold nlF
  rw [if_neg]
  rintro rfl
  exact h hc
theorem int_le61 {i : Int} (h : i.natAbs < 10 ^ 60) : (Str.ofString (toString i)).length ≤ 61 := by
  rw [PySem.ofString_length]; exact PySem.int_text_length_le10 (k := 60) (by decide) h
def wo (ws : List Str) : Nat := wt (fun _ => 1) " " ws
theorem wo_app (a b : List Str) : wo (a ++ b) = wo a + wo b := wt_app _ _ a b
theorem wo_cons (a : Str) (r : List Str) : wo (a :: r) = a.length + 1 + wo r := by
  unfold wo
  rw [wt_cons, mz_one, mz_one]
  rfl
theorem wo_one (a : Str) : wo [a] = a.length + 1 := wo_cons a []
theorem step_wo {acc : List Str} {n : Str} {f : Int} (hn : n.length ≤ 8) (hf : f.natAbs < 10 ^ 60) : wo (stepW acc (n, f)) ≤ wo acc + 73 := by
  have h1 : ∀ a, wo (w1 a f) ≤ wo a + 2 := fun a => by
    unfold w1
    split
    · rw [wo_app, wo_one]; exact Nat.le_refl _
    · split
      · rw [wo_app, wo_one]; exact Nat.le_refl _
      · omega
  have h2 : ∀ a, wo (w2 a f) ≤ wo a + 62 := fun a => by
    unfold w2
    split
    · rw [wo_app, wo_one]
      have := int_le61 (i := ab f) (by rw [abs_ab]; exact hf)
      omega
    · omega
  have h3 : ∀ a, wo (w3 a n f) ≤ wo a + 9 := fun a => by
    unfold w3
    split
    · rw [wo_app, wo_one]; omega
    · omega
  have a1 := h1 acc
  have a2 := h2 (w1 acc f)
  have a3 := h3 (w2 (w1 acc f) f)
  show wo (w3 (w2 (w1 acc f) f) n f) ≤ _
  omega
theorem fold_wo : ∀ (ps : List (Str × Int)) (acc : List Str), (∀ p ∈ ps, p.1.length ≤ 8 ∧ p.2.natAbs < 10 ^ 60) → wo (ps.foldl stepW acc) ≤ wo acc + ps.length * 73
  | [], acc, _ => by show wo acc ≤ _; omega
  | (n, f) :: r, acc, h => by
    have i1 := fold_wo r (stepW acc (n, f)) fun p hp => h p (List.mem_cons_of_mem _ hp)
    have i2 := step_wo (acc := acc) (n := n) (f := f) (h _ List.mem_cons_self).1 (h _ List.mem_cons_self).2
    rw [List.foldl_cons, List.length_cons]
    omega
theorem line_wo {ns : List Str} {fs : List Int} {c : Int} {mo : Option Int} (n6 : ns.length ≤ 6) (nm : ∀ z ∈ ns, nameB z = true) (hf : ∀ f ∈ fs, f.natAbs < 10 ^ 60) (hc : c.natAbs < 10 ^ 60) (hm : ∀ m, mo = some m → m.natAbs < 10 ^ 60) : wo (lineWords ns fs c mo) ≤ 568 := by
  have hs : wo (sumWords (ns.zip fs)) ≤ 438 := by
    unfold sumWords
    split
    · rw [wo_one]; exact (show 2 ≤ 438 by decide)
    · have := fold_wo (ns.zip fs) [] fun p hp => ⟨by rw [str_len3]; exact (name_len8 (nm _ (List.of_mem_zip hp).1)).2, hf _ (List.of_mem_zip hp).2⟩
      have l : (ns.zip fs).length ≤ 6 := by rw [List.length_zip]; omega
      have e : wo ([] : List Str) = 0 := rfl
      unfold wordsW
      omega
  have h2 : wo [("=" : Str), Str.ofString (toString c)] ≤ 64 := by
    rw [wo_cons, wo_one]
    have := int_le61 hc
    have e : ("=" : Str).length = 1 := by decide +kernel
    omega
  have h3 : wo (modWords mo) ≤ 66 := by
    cases mo with
    | none => exact Nat.zero_le _
    | some m =>
      show wo [("mod" : Str), Str.ofString (toString m)] ≤ 66
      rw [wo_cons, wo_one]
      have := int_le61 (hm m rfl)
      have e : ("mod" : Str).length = 3 := by decide +kernel
      omega
  unfold lineWords
  rw [wo_app, wo_app]
  omega
theorem line_l {ns : List Str} {fs : List Int} {c : Int} {mo : Option Int} (h : wo (lineWords ns fs c mo) ≤ 568) : (lineW ns fs c mo).length + 1 ≤ 568 := by
  rw [lineW_join]
  have n : lineWords ns fs c mo ≠ [] := fun e => by
    have := congrArg List.length e
    unfold lineWords at this
    rw [List.length_append, List.length_append] at this
    have : (sumWords (ns.zip fs)).length + 2 + (modWords mo).length = 0 := this
    omega
  have := mz_join (fun _ => 1) " " _ n
  rw [mz_one, mz_one] at this
  have e : (" " : Str).length = 1 := by decide +kernel
  have k : wo (lineWords ns fs c mo) = wt (fun _ => 1) " " (lineWords ns fs c mo) := rfl
  omega
theorem lines_ok {ns : List Str} {rows : List Row} {rests : List Rst} (g : Good ns rows rests) : ∀ z ∈ linesW ns rows rests, z.length + 1 ≤ 568 ∧ NoNl z := fun z hz => by
  have hl : ∀ fs c mo, NoNl (lineW ns fs c mo) := fun fs c mo => by
    rw [lineW_join]
    exact nl_join (all_line wds_nl fun z hz => name_nl (g.nm z hz))
  unfold linesW at hz
  rcases List.mem_append.mp hz with hz | hz
  · obtain ⟨r, hr, rfl⟩ := List.mem_map.mp hz
    obtain ⟨_, h2, h3⟩ := g.rs r hr
    exact ⟨line_l (line_wo g.n6 g.nm h2 h3 (fun m e => nomatch e)), hl _ _ _⟩
  · obtain ⟨r, hr, rfl⟩ := List.mem_map.mp hz
    obtain ⟨_, h2, h3, _, h5⟩ := g.ss r hr
    exact ⟨line_l (line_wo g.n6 g.nm h2 h3 (fun m e => by cases e; exact h5)), hl _ _ _⟩
theorem text_me {ns : List Str} {rows : List Row} {rests : List Rst} (g : Good ns rows rests) : Me 13692 24 (textW ns rows rests) := by
  have lk := lines_ok g
  have l24 : (linesW ns rows rests).length ≤ 24 := by
    unfold linesW
    rw [List.length_append, List.length_map, List.length_map]
    have := g.r12
    have := g.s12
    omega
  have e1 : mz nlF ("\n" : Str) = 1 := by decide +kernel
  have e2 : ("\n" : Str).length = 1 := by decide +kernel
  have e3 : (" " : Str).length = 1 := by decide +kernel
  have e4 : ("names" : Str).length = 5 := by decide +kernel
  have w : ∀ ws : List Str, (∀ z ∈ ws, z.length + 1 ≤ 568 ∧ NoNl z) → wt nlF "\n" ws = ws.length ∧ wt (fun _ => 1) "\n" ws ≤ ws.length * 568 := fun ws => by
    induction ws with
    | nil => intro _; exact ⟨rfl, Nat.le_refl _⟩
    | cons a r ih =>
      intro h
      obtain ⟨i1, i2⟩ := ih fun z hz => h z (List.mem_cons_of_mem _ hz)
      obtain ⟨a1, a2⟩ := h a List.mem_cons_self
      rw [wt_cons, wt_cons, i1, nl_zero a2, e1, List.length_cons, mz_one, mz_one, e2]
      omega
  obtain ⟨v1, v2⟩ := w _ lk
  have hn : ∀ l : List Str, (∀ z ∈ l, nameB z = true) → wt (fun _ => 1) " " l ≤ l.length * 9 := fun l => by
    induction l with
    | nil => intro _; exact Nat.le_refl _
    | cons a r ih =>
      intro h
      have i1 := ih fun z hz => h z (List.mem_cons_of_mem _ hz)
      have a1 := (name_len8 (h a List.mem_cons_self)).2
      rw [← str_len3] at a1
      rw [wt_cons, List.length_cons, mz_one, mz_one, e3]
      omega
  have hm := hn ns g.nm
  have n6 := g.n6
  have jj := mz_join (fun _ => 1) " " (("names" : Str) :: ns) (fun z => nomatch z)
  rw [wt_cons, mz_one, mz_one, mz_one, e3, e4] at jj
  have nz := nl_zero (nl_join (nl_names g.nm))
  have j1 := mz_join (fun _ => 1) "\n" (Txt.join " " (("names" : Str) :: ns) :: linesW ns rows rests) (fun z => nomatch z)
  have j2 := mz_join nlF "\n" (Txt.join " " (("names" : Str) :: ns) :: linesW ns rows rests) (fun z => nomatch z)
  rw [wt_cons, mz_one, mz_one, mz_one, e2] at j1
  rw [wt_cons, nz, v1, e1] at j2
  have et : textW ns rows rests = Txt.join "\n" (Txt.join " " (("names" : Str) :: ns) :: linesW ns rows rests) := rfl
  rw [et]
  have : (linesW ns rows rests).length * 568 ≤ 24 * 568 := Nat.mul_le_mul_right _ l24
  exact ⟨by omega, by omega⟩
theorem mz_rep_eq (f : Nat → Nat) (z : Str) (n : Int) : mz f (repS z n) = n.toNat * mz f z := by
  unfold mz
  rw [show tl (repS z n) = (List.replicate n.toNat (tl z)).flatten from repS_list z n]
  induction n.toNat with
  | zero => simp
  | succ k ih =>
    rw [List.replicate_succ, List.flatten_cons, List.map_append, List.sum_append, ih, Nat.succ_mul]
    omega
theorem me_app {a b c e : Nat} {x y : Str} (h : Me a b x) (k : Me c e y) : Me (a + c) (b + e) (x ++ y) := by
  have l := mz_app (fun _ => 1) x y
  rw [mz_one, mz_one, mz_one] at l
  obtain ⟨h1, h2⟩ := h
  obtain ⟨k1, k2⟩ := k
  exact ⟨by omega, by rw [mz_app]; omega⟩
theorem me_rep {a b : Nat} {x : Str} (h : Me a b x) (n : Nat) : Me (n * a) (n * b) (repS x (n : Int)) := by
  obtain ⟨h1, h2⟩ := h
  refine ⟨by rw [repS_len]; exact Nat.mul_le_mul_left _ h1, by rw [mz_rep_eq]; exact Nat.mul_le_mul_left _ h2⟩
theorem Me.mono {a b c e : Nat} {x : Str} (h : Me a b x) (l : a ≤ c) (m : b ≤ e) : Me c e x := ⟨Nat.le_trans h.1 l, Nat.le_trans h.2 m⟩
instance {a b : Nat} {x : Str} : Decidable (Me a b x) := by unfold Me; infer_instance
def e1L : List Str := ["", "names", "names ", "names x x", "names a b c d e f g", "names self", "names x\n"]
def e3L : List Str := [("names x\nx = " : Str) ++ repS "7" 60, ("names x\nx = " : Str) ++ repS "7" 5000, ("names x\n" : Str) ++ repS "8" 5000 ++ " x = 0"]
def e4L : List Str := ["names x\nx = 1 mod 1", "names x\nx = 1 mod 2", "names x y\ny + x = 0", "names x\n1 x = 0"]
def e5L : List Str := ["names x\n0 x = 0", "names x\nx + x = 0", "names x\n-x = 0", "names x\n- x = 0", "names x\n+ x = 0"]
def e6L : List Str := ["names abcdefgh", "names abcdefghi", "names x9", "names 9x", "names x\n\nx = 0", "names x\nx  = 0"]
theorem e1_ok : ∀ z ∈ e1L, Me 100 9 z := by decide +kernel
theorem e4_ok : ∀ z ∈ e4L, Me 100 9 z := by decide +kernel
theorem e5_ok : ∀ z ∈ e5L, Me 100 9 z := by decide +kernel
theorem e6_ok : ∀ z ∈ e6L, Me 100 9 z := by decide +kernel
theorem e3_ok : ∀ z ∈ e3L, Me 6000 9 z := fun z hz => by
  have a : Me 20 1 ("names x\nx = " : Str) := by decide +kernel
  have b : Me 20 1 (" x = 0" : Str) := by decide +kernel
  have c : Me 20 1 ("names x\n" : Str) := by decide +kernel
  have s : Me 1 0 ("7" : Str) := by decide +kernel
  have t : Me 1 0 ("8" : Str) := by decide +kernel
  rcases List.mem_cons.mp hz with rfl | hz
  · exact (me_app a (me_rep s 60)).mono (by decide) (by decide)
  rcases List.mem_cons.mp hz with rfl | hz
  · exact (me_app a (me_rep s 5000)).mono (by decide) (by decide)
  · rw [List.mem_singleton.mp hz]
    exact (me_app (me_app c (me_rep t 5000)) b).mono (by decide) (by decide)
theorem taken_me : ∀ w ∈ TAKEN, Me 20 1 w := by decide +kernel
theorem e9_ok {w : Str} (h : w ∈ TAKEN) : Me 100 9 (("names " : Str) ++ w) := by
  have a : Me 20 1 ("names " : Str) := by decide +kernel
  exact (me_app a (taken_me w h)).mono (by decide) (by decide)
theorem e11_ok : Me 1000 30 (("names x\n" : Str) ++ repS "0 = 0\n" 20 ++ "0 = 0 mod 2") := by
  have a : Me 20 1 ("names x\n" : Str) := by decide +kernel
  have b : Me 20 1 ("0 = 0 mod 2" : Str) := by decide +kernel
  have s : Me 20 1 ("0 = 0\n" : Str) := by decide +kernel
  exact (me_app (me_app a (me_rep s 20)) b).mono (by decide) (by decide)
theorem e2_ok : Me 100 9 ("names x\n0 = 0 mod 2\n0 = 0" : Str) := by decide +kernel
end KW
namespace KW
open PySem PySem.Spec PyProof.Rows L2 GL RZ TL GX
def spLaw (K : PySem.W.Frag) : Sp := fun vs H Q _ => ∃ (a : Addr) (ns : List Int), vs = [.ref a] ∧ SqL K H a (ns.map V.int) ∧ ns.length ≤ 63 ∧ ∀ H', Q (.bl true) H'
/-- the texts at the end, as far as they are gathered -/
def LM (a d : Addr) (n : Nat) (σ : L2.St) (Hx : Hp) : Prop := ∃ (p : Addr) (L : List Str) (v2 v3 v4 v5 v6 v7 v8 v9 v11 : Option V), σ = [some (.ref a), some (.ref d), v2, v3, v4, v5, v6, v7, v8, v9, some (.ref p), v11, none] ∧ Hx p = some (.lst (L.map V.str)) ∧ (∀ z ∈ L, OkTx z) ∧ L.length ≤ n
def LK (a d : Addr) (n : Nat) (σ : L2.St) (Hx : Hp) : Prop := ∃ (p kp : Addr) (L : List Str) (v2 v3 v4 v5 v6 v7 v8 v9 : Option V), σ = [some (.ref a), some (.ref d), v2, v3, v4, v5, v6, v7, v8, v9, some (.ref p), some (.ref kp), none] ∧ Hx p = some (.lst (L.map V.str)) ∧ (∀ z ∈ L, OkTx z) ∧ L.length ≤ n ∧ Hx kp = some (.lst (TAKEN.map V.str)) ∧ p ≠ kp
theorem ok_app {L M : List Str} (h : ∀ z ∈ L, OkTx z) (k : ∀ z ∈ M, OkTx z) : ∀ z ∈ L ++ M, OkTx z := fun z hz => (List.mem_append.mp hz).elim (h z) (k z)
section
variable {P : Program} {w : World} {K : PySem.W.Frag} {mg : Str → Option Value} {base : Heap}
abbrev s_law : Stmt := topS 43
theorem sc_law : FnScope ["_law_script", "_law_deck_here", "_law_lap", "_law_called_here", "_law_lines", "_law_pieces", "_law_is_small", "_law_value", "_law_k", "_law_bent_here", "_law_some", "_law_kept", "_law_word"] ["_law_script"] (defScope s_law) := ⟨rfl, rfl, rfl, by decide +kernel, rfl, by decide +kernel, by decide +kernel⟩
theorem ok_law {f : Addr} {fd : FuncData} (F : Fun K "law" "law" s_law f fd) (T : Bl mg) (D_deck : DefG P w K mg base 1 "_law_deck" ["_law_script"] (spDeck K))
    (D_draw : DefG P w K mg base 1 "_law_draw" ["_law_deck_here", "_law_many"] spDraw) (D_drawn : DefG P w K mg base 4 "_law_drawn" ["_law_deck_here"] (spDrawn K)) (D_written : DefG P w K mg base 2 "_law_written" ["_law_called_here", "_law_lines", "_law_pieces"] (spWritten K))
    (D_bent : DefG P w K mg base 4 "_law_bent" ["_law_deck_here", "_law_value"] spBent) (D_is_right : DefG P w K mg base 7 "_law_is_right" ["_law_value"] spRight) :
    FnG P w K mg base CX0 8 f fd ["_law_script"] (spLaw K) := by
  refine okG F sc_law (fun vs H Q E h => ?_) fun cdv A outer s H vs Q E hr hc h => ?_
  · obtain ⟨a, ns, rfl, _⟩ := h
    rfl
  · obtain ⟨a, ks, rfl, hS, hl, q⟩ := h
    have nd := sc_law.nd
    have hu64 := hr.units
    refine ⟨_, (pss_cons (ps_set (i := 1) nd rfl (by first | exact Or.inl rfl | exact Or.inr rfl) (pe_def D_deck (hr.mono (by decide)) hc (by rfl) (pa_cons (pv 0) pa_nil)))
      (pss_cons (ps_for PassesOwn.never rfl (pi_range1 (by rfl) T.range (pa_cons pe_int pa_nil)) (pg_name (i := 2) nd rfl (by first | exact Or.inl rfl | exact Or.inr rfl))
        (pss_cons (ps_asg (pe_def D_drawn (hr.mono (by decide)) hc (by rfl) (pa_cons (pv 1) pa_nil)) (pg_tup rfl (pgs_cons (pg_name (i := 3) nd rfl (by first | exact Or.inl rfl | exact Or.inr rfl)) (pgs_cons (pg_name (i := 4) nd rfl (by first | exact Or.inl rfl | exact Or.inr rfl)) (pgs_cons (pg_name (i := 5) nd rfl (by first | exact Or.inl rfl | exact Or.inr rfl)) (pgs_cons (pg_name (i := 6) nd rfl (by first | exact Or.inl rfl | exact Or.inr rfl)) pgs_nil))))))
        (pss_cons (ps_set (i := 7) nd rfl (by first | exact Or.inl rfl | exact Or.inr rfl) (pe_def D_written (hr.mono (by decide)) hc (by rfl) (pa_cons (pv 3) (pa_cons (pv 4) (pa_cons (pv 5) pa_nil)))))
        (pss_one (ps_for PassesOwn.never rfl (pi_range1 (by rfl) T.range (pa_cons pe_int pa_nil)) (pg_name (i := 8) nd rfl (by first | exact Or.inl rfl | exact Or.inr rfl))
          (pss_cons (ps_set (i := 9) nd rfl (by first | exact Or.inl rfl | exact Or.inr rfl) (pe_def D_bent (hr.mono (by decide)) hc (by rfl) (pa_cons (pv 1) (pa_cons (pv 7) pa_nil))))
          (C8.pss_cut (ps_if (pt_cmpR op_eq (pe_def D_draw (hr.mono (by decide)) hc (by rfl) (pa_cons (pv 1) (pa_cons pe_int pa_nil))) pe_int (nomark _))
            (pss_one (ps_set (i := 9) nd rfl (by first | exact Or.inl rfl | exact Or.inr rfl) (pe_def D_bent (hr.mono (by decide)) hc (by rfl) (pa_cons (pv 1) (pa_cons (pv 9) pa_nil)))))
            pss_nil)
          (pss_one (ps_if (PW.pt (pw_or (pt_not (pt_val (pe_def D_is_right (hr.mono (by decide)) hc (by rfl) (pa_cons (pv 9) pa_nil)))) (pw_or1 (pt_not (pt_val (pe_def D_is_right (hr.mono (by decide)) hc (by rfl) (pa_cons (pv 7) pa_nil)))))))
            (pss_one (ps_ret pe_bl))
            pss_nil)))))))))
      (C8.pss_cut (ps_set (i := 10) nd rfl (by first | exact Or.inl rfl | exact Or.inr rfl) (pe_lst (pa_cons pe_str (pa_cons pe_str (pa_cons pe_str (pa_cons pe_str (pa_cons pe_str (pa_cons pe_str (pa_cons pe_str pa_nil)))))))))
      (C8.pss_cut (ps_expr (pe_bm PySem.F.plainAttrs_list PySem.F.slot_list_append PySem.F.type_list_append mt_append (pv 10) (pa_cons pe_str pa_nil)))
      (C8.pss_cut (ps_set (i := 11) nd rfl (by first | exact Or.inl rfl | exact Or.inr rfl) (pe_lst (pa_cons pe_str (pa_cons pe_str (pa_cons pe_str (pa_cons pe_str (pa_cons pe_str (pa_cons pe_str (pa_cons pe_str (pa_cons pe_str (pa_cons pe_str pa_nil)))))))))))
      (C8.pss_cut (ps_set (i := 10) nd rfl (by first | exact Or.inl rfl | exact Or.inr rfl) (pe_op op_cat (pe_op op_cat (pv 10) (pe_lc (own := [("_law_word", 12)]) (g := (gName 12)) (tt := tYes) rfl nd (pi_list (pv 11)) (blkOk_by (own := [("_law_word", 12)]) (N := ["_law_script", "_law_deck_here", "_law_lap", "_law_called_here", "_law_lines", "_law_pieces", "_law_is_small", "_law_value", "_law_k", "_law_bent_here", "_law_some", "_law_kept", "_law_word"]) (sc := defScope s_law) (by decide +kernel)) (fun _ _ _ _ _ => (pg_name (i := 12) nd rfl (by first | exact Or.inl rfl | exact Or.inr rfl))) (fun _ _ _ _ _ => pts_nil) (fun _ _ _ _ _ => (pe_op op_add_str pe_str (pv 12))))) (pe_lst (pa_cons (pe_op op_add_str (pe_op op_add_str pe_str (pe_op op_repS pe_str pe_int)) pe_str) pa_nil))))
      (C8.pss_cut (ps_expr (pe_bm PySem.F.plainAttrs_list PySem.F.slot_list_extend PySem.F.type_list_extend mt_extend (pv 10) (pa_cons (pe_lst (pa_cons (pe_op op_add_str pe_str (pe_op op_repS pe_str pe_int)) (pa_cons (pe_op op_add_str pe_str (pe_op op_repS pe_str pe_int)) (pa_cons (pe_op op_add_str (pe_op op_add_str pe_str (pe_op op_repS pe_str pe_int)) pe_str) pa_nil)))) pa_nil)))
      (C8.pss_cut (ps_expr (pe_bm PySem.F.plainAttrs_list PySem.F.slot_list_extend PySem.F.type_list_extend mt_extend (pv 10) (pa_cons (pe_lst (pa_cons pe_str (pa_cons pe_str (pa_cons pe_str (pa_cons pe_str pa_nil))))) pa_nil)))
      (C8.pss_cut (ps_expr (pe_bm PySem.F.plainAttrs_list PySem.F.slot_list_extend PySem.F.type_list_extend mt_extend (pv 10) (pa_cons (pe_lst (pa_cons pe_str (pa_cons pe_str (pa_cons pe_str (pa_cons pe_str (pa_cons pe_str pa_nil)))))) pa_nil)))
      (C8.pss_cut (ps_expr (pe_bm PySem.F.plainAttrs_list PySem.F.slot_list_extend PySem.F.type_list_extend mt_extend (pv 10) (pa_cons (pe_lst (pa_cons pe_str (pa_cons pe_str (pa_cons pe_str (pa_cons pe_str (pa_cons pe_str (pa_cons pe_str pa_nil))))))) pa_nil)))
      (pss_one (ps_ret (pe_cmpR (op_eqP (K := K) hu64) (pe_lc (own := [("_law_value", 7)]) (g := (gName 7)) rfl nd (pi_list (pv 10)) (blkOk_by (own := [("_law_value", 7)]) (N := ["_law_script", "_law_deck_here", "_law_lap", "_law_called_here", "_law_lines", "_law_pieces", "_law_is_small", "_law_value", "_law_k", "_law_bent_here", "_law_some", "_law_kept", "_law_word"]) (sc := defScope s_law) (by decide +kernel)) (fun _ _ _ _ _ => (pg_name (i := 7) nd rfl (by first | exact Or.inl rfl | exact Or.inr rfl))) (fun _ _ _ _ _ => (pts_one (pt_not (pt_val (pe_def D_is_right (hr.mono (by decide)) hc (by rfl) (pa_cons (pv 7) pa_nil)))))) (fun _ _ _ _ _ => (pv 7))) (pe_lst pa_nil) (nomark _)))))))))))))), ?_⟩
    have nines : ∀ {n : Nat}, n ≤ 1000 → n ≤ sizeLine := fun h => small (by omega)
    refine ⟨_, rfl, a, ks, rfl, hS, hl, fun d g H1 s1 _ _ D1 => ?_⟩
    refine ⟨3, rfl, by decide, by decide, for_range (fun i σ Hx => Deck Hx d g ∧ ∃ (v2 v3 v4 v5 v6 v7 v8 v9 : Option V), σ = [some (.ref a), some (.ref d), v2, v3, v4, v5, v6, v7, v8, v9, none, none, none]) ⟨D1, _, _, _, _, _, _, _, _, rfl⟩ ?_ ?_⟩
    · rintro i σ Hx hi ⟨Dx, v2, v3, v4, v5, v6, v7, v8, v9, rfl⟩
      refine ⟨_, rfl, d, g, rfl, Dx, fun t tn tr ts ns xs ys rows rests bo H2 D2 M2 ht hN hr2 hX hs2 hY gd => ?_⟩
      refine ⟨t, _, rfl, tofT ht, rfl, _, _, rfl, _, _, rfl, _, _, rfl, _, _, rfl, rfl, ?_⟩
      refine ⟨_, rfl, _, rfl, _, rfl, tn, tr, ts, ns, xs, ys, rows, rests, rfl, hN.t, tofT hr2, hX, tofT hs2, hY, gd, fun H3 s3 => ?_⟩
      have D3 := D2.same s3
      have me := text_me gd
      generalize textW ns rows rests = tx at *
      have okT : OkTx tx := me.ok (by decide) (by decide)
      -- bent eight times
      refine ⟨8, rfl, by decide, by decide, for_range (fun j σ Hy => Deck Hy d g ∧ ∃ (v2 v3 v4 v5 v6 v8 v9 : Option V), σ = [some (.ref a), some (.ref d), v2, v3, v4, v5, v6, some (.str tx), v8, v9, none, none, none]) ⟨D3, _, _, _, _, _, _, _, rfl⟩ ?_ ?_⟩
      · rintro j σ Hy hj ⟨Dy, w2, w3, w4, w5, w6, w8, w9, rfl⟩
        refine ⟨_, rfl, _, rfl, d, g, tx, rfl, Dy, Nat.le_trans me.1 (by decide), fun z1 Ha Da Ma b1 => ?_⟩
        have m1 := me.bent b1
        refine ⟨fun σ' H' => ∃ z, σ' = [some (.ref a), some (.ref d), w2, w3, w4, w5, w6, some (.str tx), some (.int (0 + (j : Nat))), some (.str z), none, none, none] ∧ Deck H' d g ∧ Me 55713 132 z, ?_, ?_⟩
        · refine ⟨_, rfl, d, g, 3, rfl, Da, by decide, by decide, fun r Hb r0 r1 Db Mb => ⟨rfl, _, rfl, ite2 (fun _ => ?_) (fun _ => ?_)⟩⟩
          · refine ⟨_, rfl, _, rfl, d, g, z1, rfl, Db, Nat.le_trans m1.1 (by decide), fun z2 Hc Dc Mc b2 => ⟨z2, rfl, Dc, (m1.bent b2).mono (by decide) (by decide)⟩⟩
          · exact ⟨z1, rfl, Db, m1.mono (by decide) (by decide)⟩
        rintro σ' H' ⟨z, rfl, D', mz'⟩
        refine ⟨_, rfl, z, rfl, mz'.ok (by decide) (by decide), fun Hp1 sp1 => ⟨_, rfl, iteF ?_⟩⟩
        refine ⟨_, rfl, tx, rfl, okT, fun Hp2 sp2 => ⟨_, rfl, iteF ?_⟩⟩
        exact ⟨D'.same (sp1.trans sp2), _, _, _, _, _, _, _, rfl⟩
      · rintro σ Hy ⟨Dy, w2, w3, w4, w5, w6, w8, w9, rfl⟩
        exact ⟨Dy, _, _, _, _, _, _, _, _, rfl⟩
    rintro σ Hx ⟨_, v2, v3, v4, v5, v6, v7, v8, v9, rfl⟩
    -- the texts at the end
    refine ⟨LM a d 7, ?_, ?_⟩
    · exact ⟨nines (by decide), fun p np => ⟨p, e1L, _, _, _, _, _, _, _, _, _, rfl, upd_same, (fun z hz => (e1_ok z hz).ok (by decide) (by decide)), Nat.le_refl _⟩⟩
    rintro σ1 H1 ⟨p, L, v2, v3, v4, v5, v6, v7, v8, v9, v11, rfl, hp, okL, lL⟩
    refine ⟨LM a d 8, ?_, ?_⟩
    · refine ⟨_, rfl, ty_l (tofL hp), p, _, _, rfl, rfl, hp, by rw [List.length_map]; exact smallt (by omega), p, L ++ [("names x\n0 = 0 mod 2\n0 = 0" : Str)], _, _, _, _, _, _, _, _, _, rfl, ?_, ok_app okL fun z hz => by rw [List.mem_singleton.mp hz]; exact e2_ok.ok (by decide) (by decide), by rw [List.length_append]; show _ + 1 ≤ 8; omega⟩
      rw [upd_same, List.map_append]; rfl
    clear hp okL lL
    rintro σ2 H2 ⟨p, L, v2, v3, v4, v5, v6, v7, v8, v9, v11, rfl, hp, okL, lL⟩
    refine ⟨LK a d 8, ?_, ?_⟩
    · exact ⟨nines (by decide), fun kp nkp => ⟨p, kp, L, _, _, _, _, _, _, _, _, rfl, Same.new nkp _ _ hp, okL, lL, upd_same, ne_of_none hp nkp⟩⟩
    clear hp okL lL
    have tl20 : ∀ wd ∈ TAKEN, wd.length ≤ 20 := fun wd h => (taken_me wd h).1
    rintro σ9 H9 ⟨p, kp, L, v2, v3, v4, v5, v6, v7, v8, v9, rfl, hp, okL, lL, hk, npk⟩
    refine ⟨LM a d 18, ?_, ?_⟩
    · refine ⟨_, rfl, _, rfl, kp, rfl, ⟨_, tofL hk⟩, fun D nD => ?_⟩
      refine lc_list (K := K) (a := kp) (xs := TAKEN.map V.str) (fun i Hy => Same H9 Hy ∧ Hy D = some (.lst (((TAKEN.take i).map fun wd => ("names " : Str) ++ wd).map V.str))) ⟨Same.new nD, upd_same⟩ (fun i Hy _ h => tofL (h.1 _ _ hk)) ?_ ?_
      · rintro i x Hy hi ⟨sy, hD⟩
        obtain ⟨wd, rfl, hz, hil⟩ := strs_at hi
        have wm := tl20 wd (List.mem_of_getElem? hz)
        have il : i < 9 := hil
        have e5 : ("names " : Str).length = 6 := by decide +kernel
        refine ⟨rfl, _, rfl, _, _, rfl, rfl, nines (by rw [e5]; omega), _, hD, ?_, ?_, ?_⟩
        · rw [List.length_map, List.length_map, List.length_take]; exact smallt (by omega)
        · intro b o hb
          rw [upd_ne (ne_of_none hb nD)]
          exact sy _ _ hb
        · rw [upd_same, List.take_add_one, hz, List.map_append, List.map_append]; rfl
      rintro Hy ⟨sy, hD⟩
      rw [List.length_map, List.take_length] at hD
      refine ⟨p, D, _, _, rfl, rfl, sy _ _ hp, hD, nines (by rw [List.length_map, List.length_map, List.length_map]; show _ + 9 ≤ 1000; omega), fun r nr => ?_⟩
      have sr := Same.new (o := .lst (L.map V.str ++ ((TAKEN.map fun wd => ("names " : Str) ++ wd).map V.str))) nr
      have hr' : upd Hy r (.lst (L.map V.str ++ ((TAKEN.map fun wd => ("names " : Str) ++ wd).map V.str))) r = some (.lst ((L ++ TAKEN.map fun wd => ("names " : Str) ++ wd).map V.str)) := by rw [upd_same, List.map_append]
      generalize upd Hy r (.lst (L.map V.str ++ ((TAKEN.map fun wd => ("names " : Str) ++ wd).map V.str))) = Hr at *
      have e11 := e11_ok
      have l := mz_app (fun _ => 1) (("names x\n" : Str) ++ repS "0 = 0\n" 20) "0 = 0 mod 2"
      rw [mz_one, mz_one, mz_one] at l
      refine ⟨_, _, rfl, rfl, by decide, by decide, by decide +kernel, _, _, rfl, rfl, nines (by rw [repS_len]; decide +kernel), _, _, rfl, rfl, nines (by have := e11.1; omega), nines (by decide), fun o no => ?_⟩
      refine ⟨r, o, _, _, rfl, rfl, Same.new no _ _ hr', upd_same, nines (by rw [List.length_map, List.length_append, List.length_map]; show _ + 9 + 1 ≤ 1000; omega), fun e ne => ⟨e, (L ++ TAKEN.map fun wd => ("names " : Str) ++ wd) ++ [("names x\n" : Str) ++ repS "0 = 0\n" 20 ++ "0 = 0 mod 2"], _, _, _, _, _, _, _, _, _, rfl, ?_, ok_app (ok_app okL fun z hz => ?_) fun z hz => ?_, by rw [List.length_append, List.length_append, List.length_map]; show _ + 9 + 1 ≤ 18; omega⟩⟩
      · rw [upd_same, List.map_append, List.map_append, List.map_append]; rfl
      · obtain ⟨wd, hw, rfl⟩ := List.mem_map.mp hz
        exact (e9_ok hw).ok (by decide) (by decide)
      · rw [List.mem_singleton.mp hz]
        exact e11.ok (by decide) (by decide)
    clear hp okL lL hk npk
    rintro σ3 H3 ⟨p, L, v2, v3, v4, v5, v6, v7, v8, v9, v11, rfl, hp, okL, lL⟩
    refine ⟨LM a d 21, ?_, ?_⟩
    · refine ⟨_, rfl, ty_l (tofL hp), _, _, rfl, rfl, by decide, by decide, by decide +kernel, _, _, rfl, rfl, nines (by rw [repS_len]; decide +kernel), _, _, rfl, rfl, by decide, by decide, by decide +kernel, _, _, rfl, rfl, small (by rw [repS_len]; decide +kernel), _, _, rfl, rfl, by decide, by decide, by decide +kernel, _, _, rfl, rfl, small (by rw [repS_len]; decide +kernel), _, _, rfl, rfl, ?_, nines (by decide), fun q1 nq => ?_⟩
      · have e3 := (e3_ok (("names x\n" : Str) ++ repS "8" 5000 ++ " x = 0") (by unfold e3L; simp)).1
        have l := mz_app (fun _ => 1) (("names x\n" : Str) ++ repS "8" 5000) " x = 0"
        rw [mz_one, mz_one, mz_one] at l
        exact small (by omega)
      refine ⟨p, q1, _, _, rfl, rfl, Same.new nq _ _ hp, upd_same, nines (by rw [List.length_map]; show _ + 3 ≤ 1000; omega), p, L ++ e3L, _, _, _, _, _, _, _, _, _, rfl, ?_, ok_app okL fun z hz => (e3_ok z hz).ok (by decide) (by decide), by rw [List.length_append]; show _ + 3 ≤ 21; omega⟩
      rw [upd_same, List.map_append]; rfl
    clear hp okL lL
    rintro σ4 H4 ⟨p, L, v2, v3, v4, v5, v6, v7, v8, v9, v11, rfl, hp, okL, lL⟩
    refine ⟨LM a d 25, ?_, ?_⟩
    · refine ⟨_, rfl, ty_l (tofL hp), nines (by decide), fun q1 nq => ?_⟩
      refine ⟨p, q1, _, _, rfl, rfl, Same.new nq _ _ hp, upd_same, nines (by rw [List.length_map]; show _ + 4 ≤ 1000; omega), p, L ++ e4L, _, _, _, _, _, _, _, _, _, rfl, ?_, ok_app okL fun z hz => (e4_ok z hz).ok (by decide) (by decide), by rw [List.length_append]; show _ + 4 ≤ 25; omega⟩
      rw [upd_same, List.map_append]; rfl
    clear hp okL lL
    rintro σ5 H5 ⟨p, L, v2, v3, v4, v5, v6, v7, v8, v9, v11, rfl, hp, okL, lL⟩
    refine ⟨LM a d 30, ?_, ?_⟩
    · refine ⟨_, rfl, ty_l (tofL hp), nines (by decide), fun q1 nq => ?_⟩
      refine ⟨p, q1, _, _, rfl, rfl, Same.new nq _ _ hp, upd_same, nines (by rw [List.length_map]; show _ + 5 ≤ 1000; omega), p, L ++ e5L, _, _, _, _, _, _, _, _, _, rfl, ?_, ok_app okL fun z hz => (e5_ok z hz).ok (by decide) (by decide), by rw [List.length_append]; show _ + 5 ≤ 30; omega⟩
      rw [upd_same, List.map_append]; rfl
    clear hp okL lL
    rintro σ6 H6 ⟨p, L, v2, v3, v4, v5, v6, v7, v8, v9, v11, rfl, hp, okL, lL⟩
    refine ⟨LM a d 36, ?_, ?_⟩
    · refine ⟨_, rfl, ty_l (tofL hp), nines (by decide), fun q1 nq => ?_⟩
      refine ⟨p, q1, _, _, rfl, rfl, Same.new nq _ _ hp, upd_same, nines (by rw [List.length_map]; show _ + 6 ≤ 1000; omega), p, L ++ e6L, _, _, _, _, _, _, _, _, _, rfl, ?_, ok_app okL fun z hz => (e6_ok z hz).ok (by decide) (by decide), by rw [List.length_append]; show _ + 6 ≤ 36; omega⟩
      rw [upd_same, List.map_append]; rfl
    clear hp okL lL
    rintro σ13 H13 ⟨p, L, v2, v3, v4, v5, v6, v7, v8, v9, v11, rfl, hp, okL, lL⟩
    refine ⟨_, rfl, p, rfl, ⟨_, tofL hp⟩, fun D nD => ?_⟩
    refine lc_list (K := K) (a := p) (xs := L.map V.str) (fun i Hy => Same H13 Hy ∧ Hy D = some (.lst (([] : List Str).map V.str))) ⟨Same.new nD, upd_same⟩ (fun i Hy _ h => tofL (h.1 _ _ hp)) ?_ ?_
    · rintro i x Hy hi ⟨sy, hD⟩
      obtain ⟨z, rfl, hz, hil⟩ := strs_at hi
      exact ⟨rfl, _, rfl, z, rfl, okL z (List.mem_of_getElem? hz), fun H' s' => ⟨_, rfl, iteF ⟨sy.trans s', s' _ _ hD⟩⟩⟩
    rintro Hy ⟨sy, hD⟩
    refine ⟨Nat.zero_le _, fun o no => ?_⟩
    have so := Same.new (o := .lst []) no
    refine ⟨.list (([] : List Str).map PyData.str), .list (([] : List Str).map PyData.str), .lst (tofL (so _ _ hD)) (dpa_strs []), .lst (tofL (show upd Hy o (.lst []) o = some (.lst (([] : List Str).map V.str)) from upd_same)) (dpa_strs []), plain_strs _, plain_strs _, depth_strs _, ?_⟩
    rw [eqv_strs, decide_eq_true rfl]
    exact q _
end
theorem walk {l : PySem.W.OpenLaw} {q : Program} {loose : List Str} {XP : (Str → Option Value) → Heap → Prop} {YP : World → Heap → Prop} {d : DefRec} {K : Params → PySem.W.Frag} (hn : l.most = some 63) (hdf : d.params.defaults = [])
    (hY : ∀ (w : World) (h : Heap), YP w h → (K w.params).In h)
    (F : ∀ (w : World) (mg : Str → Option Value) (fa : Addr) (h : Heap), (K w.params).In h → h.Ns mainGlobals mg → mg d.name = some (.ref fa) →
      ∃ fd : FuncData, (∀ (s : Shared) (u : Value), BindsTo s fd ⟨[u], []⟩ [("_law_script", u)]) ∧ ∀ base : Heap, (K w.params).In base → base.Ns mainGlobals mg → FnG l.prog w (K w.params) mg base CX0 8 fa fd ["_law_script"] (spLaw (K w.params))) :
    PySem.W.WalkO q loose XP YP l.row.toRowW d [] (fun f vs => PySem.call f vs) :=
  walkG (n := 63) (k := 8) (x := "_law_script") (sp := spLaw) hn (by decide) hdf ⟨rfl, by decide, by decide⟩ hY F (fun _ _ a ns hl _ hS => ⟨a, ns, rfl, hS, hl, fun _ => rfl⟩)
end KW
namespace KW
open PySem PySem.Spec PyProof.Rows L2 GL G3
theorem exm_two {K : PySem.W.Frag} {S B : Addr} (h1 : PySem.W.subIn K (.ref B) (.type "BaseException") = some true) (h2 : PySem.W.isClsIn K B = true) (h3 : PySem.W.typeIn K (.ref B) = some (.type "type")) (h4 : PySem.W.subIn K (.ref S) (.ref B) = some true) :
    PySem.W.exmOne K (.ref S) (.ref B) = some true := by
  have z : (PySem.W.clsIn K B).isSome = true := h2
  unfold PySem.W.exmOne
  rw [if_pos (by rw [h1]; rfl)]
  show (if ((PySem.W.clsIn K B).isSome && PySem.W.typeIn K (.ref B) == some (.type "type")) = true then PySem.W.subIn K (.ref S) (.ref B) else none) = some true
  rw [if_pos (by rw [z, h3]; rfl)]
  exact h4
theorem all_mk {l : PySem.W.OpenLaw} {w : World} {K : PySem.W.Frag} {h : Heap} {mg : Str → Option Value} {fa f_nat f_whole f_isn f_aren f_wm f_rs f_ws f_rt f_wl f_rl f_deck f_draw f_pick f_called f_st f_wr f_int f_drawn f_lname f_lwhole f_lfo f_piece f_due f_told f_brow f_bent f_right f_law : Addr} (X : K.In h) (G : h.Ns mainGlobals mg) (hfa : mg "law" = some (.ref fa))
    {od_nat an_nat : Option Addr} {sl_nat : Array (Option Value)} {oc_nat kV_nat dc_nat pm_nat cd_nat ct_nat : Value}
    {od_whole an_whole : Option Addr} {sl_whole : Array (Option Value)} {oc_whole kV_whole dc_whole pm_whole cd_whole ct_whole : Value}
    {od_isn an_isn : Option Addr} {sl_isn : Array (Option Value)} {oc_isn kV_isn dc_isn pm_isn cd_isn ct_isn : Value}
    {od_aren an_aren : Option Addr} {sl_aren : Array (Option Value)} {oc_aren kV_aren dc_aren pm_aren cd_aren ct_aren : Value}
    {od_wm an_wm : Option Addr} {sl_wm : Array (Option Value)} {oc_wm kV_wm dc_wm pm_wm cd_wm ct_wm : Value}
    {od_rs an_rs : Option Addr} {sl_rs : Array (Option Value)} {oc_rs kV_rs dc_rs pm_rs cd_rs ct_rs : Value}
    {od_ws an_ws : Option Addr} {sl_ws : Array (Option Value)} {oc_ws kV_ws dc_ws pm_ws cd_ws ct_ws : Value}
    {od_rt an_rt : Option Addr} {sl_rt : Array (Option Value)} {oc_rt kV_rt dc_rt pm_rt cd_rt ct_rt : Value}
    {od_wl an_wl : Option Addr} {sl_wl : Array (Option Value)} {oc_wl kV_wl dc_wl pm_wl cd_wl ct_wl : Value}
    {od_rl an_rl : Option Addr} {sl_rl : Array (Option Value)} {oc_rl kV_rl dc_rl pm_rl cd_rl ct_rl : Value}
    {od_deck an_deck : Option Addr} {sl_deck : Array (Option Value)} {oc_deck kV_deck dc_deck pm_deck cd_deck ct_deck : Value}
    {od_draw an_draw : Option Addr} {sl_draw : Array (Option Value)} {oc_draw kV_draw dc_draw pm_draw cd_draw ct_draw : Value}
    {od_pick an_pick : Option Addr} {sl_pick : Array (Option Value)} {oc_pick kV_pick dc_pick pm_pick cd_pick ct_pick : Value}
    {od_called an_called : Option Addr} {sl_called : Array (Option Value)} {oc_called kV_called dc_called pm_called cd_called ct_called : Value}
    {od_st an_st : Option Addr} {sl_st : Array (Option Value)} {oc_st kV_st dc_st pm_st cd_st ct_st : Value}
    {od_wr an_wr : Option Addr} {sl_wr : Array (Option Value)} {oc_wr kV_wr dc_wr pm_wr cd_wr ct_wr : Value}
    {od_int an_int : Option Addr} {sl_int : Array (Option Value)} {oc_int kV_int dc_int pm_int cd_int ct_int : Value}
    {od_drawn an_drawn : Option Addr} {sl_drawn : Array (Option Value)} {oc_drawn kV_drawn dc_drawn pm_drawn cd_drawn ct_drawn : Value}
    {od_lname an_lname : Option Addr} {sl_lname : Array (Option Value)} {oc_lname kV_lname dc_lname pm_lname cd_lname ct_lname : Value}
    {od_lwhole an_lwhole : Option Addr} {sl_lwhole : Array (Option Value)} {oc_lwhole kV_lwhole dc_lwhole pm_lwhole cd_lwhole ct_lwhole : Value}
    {od_lfo an_lfo : Option Addr} {sl_lfo : Array (Option Value)} {oc_lfo kV_lfo dc_lfo pm_lfo cd_lfo ct_lfo : Value}
    {od_piece an_piece : Option Addr} {sl_piece : Array (Option Value)} {oc_piece kV_piece dc_piece pm_piece cd_piece ct_piece : Value}
    {od_due an_due : Option Addr} {sl_due : Array (Option Value)} {oc_due kV_due dc_due pm_due cd_due ct_due : Value}
    {od_told an_told : Option Addr} {sl_told : Array (Option Value)} {oc_told kV_told dc_told pm_told cd_told ct_told : Value}
    {od_brow an_brow : Option Addr} {sl_brow : Array (Option Value)} {oc_brow kV_brow dc_brow pm_brow cd_brow ct_brow : Value}
    {od_bent an_bent : Option Addr} {sl_bent : Array (Option Value)} {oc_bent kV_bent dc_bent pm_bent cd_bent ct_bent : Value}
    {od_right an_right : Option Addr} {sl_right : Array (Option Value)} {oc_right kV_right dc_right pm_right cd_right ct_right : Value}
    {od_law an_law : Option Addr} {sl_law : Array (Option Value)} {oc_law kV_law dc_law pm_law cd_law ct_law : Value}
    {C fI fR pR T0 E0 TW CE BE fB : Addr} {restR : List Value} {odI anI : Option Addr} {slI : Array (Option Value)} {ocI kVI dcI pmI cdI ctI : Value} {odR anR : Option Addr} {slR : Array (Option Value)} {ocR kVR dcR pmR cdR ctR : Value} {odB anB : Option Addr} {slB : Array (Option Value)} {ocB kVB dcB pmB cdB ctB : Value} {dT dE dW : Option Addr} {slT slE slW : Array (Option Value)} {nT nE nW : Nat} {tD tS tN tL tG w0 w1 w2 w3 w4 w5 w6 w7 w8 : Tok} {nmE qE : Str} {NE : Addr} {bsE : List Value} {snE : List Str} {subE : List Value} {abE : Bool} {colE : Option Bool} {ddE : Option Addr} {e0 e1 e2 e3 e5 : Option Value}
    (a_nat : PySem.W.nsIn K mainGlobals "is_natural" = some (some (.ref f_nat)))
    (l_nat : K.lookup f_nat = some ⟨oc_nat, od_nat, .func (PySem.W.fnOf "is_natural" "is_natural" (defArgs s_is_natural) (defBody s_is_natural) (defScope s_is_natural) .none kV_nat dc_nat pm_nat an_nat cd_nat ct_nat), sl_nat⟩)
    (c_nat : PySem.W.codeIn K cd_nat "is_natural" = true) (k_nat : PySem.W.keepIn K (.ref f_nat) = true)
    (a_whole : PySem.W.nsIn K mainGlobals "is_whole" = some (some (.ref f_whole)))
    (l_whole : K.lookup f_whole = some ⟨oc_whole, od_whole, .func (PySem.W.fnOf "is_whole" "is_whole" (defArgs s_is_whole) (defBody s_is_whole) (defScope s_is_whole) .none kV_whole dc_whole pm_whole an_whole cd_whole ct_whole), sl_whole⟩)
    (c_whole : PySem.W.codeIn K cd_whole "is_whole" = true) (k_whole : PySem.W.keepIn K (.ref f_whole) = true)
    (a_isn : PySem.W.nsIn K mainGlobals "is_name" = some (some (.ref f_isn)))
    (l_isn : K.lookup f_isn = some ⟨oc_isn, od_isn, .func (PySem.W.fnOf "is_name" "is_name" (defArgs s_is_name) (defBody s_is_name) (defScope s_is_name) .none kV_isn dc_isn pm_isn an_isn cd_isn ct_isn), sl_isn⟩)
    (c_isn : PySem.W.codeIn K cd_isn "is_name" = true) (k_isn : PySem.W.keepIn K (.ref f_isn) = true)
    (a_aren : PySem.W.nsIn K mainGlobals "are_names" = some (some (.ref f_aren)))
    (l_aren : K.lookup f_aren = some ⟨oc_aren, od_aren, .func (PySem.W.fnOf "are_names" "are_names" (defArgs s_are_names) (defBody s_are_names) (defScope s_are_names) .none kV_aren dc_aren pm_aren an_aren cd_aren ct_aren), sl_aren⟩)
    (c_aren : PySem.W.codeIn K cd_aren "are_names" = true) (k_aren : PySem.W.keepIn K (.ref f_aren) = true)
    (a_wm : PySem.W.nsIn K mainGlobals "without_modulus" = some (some (.ref f_wm)))
    (l_wm : K.lookup f_wm = some ⟨oc_wm, od_wm, .func (PySem.W.fnOf "without_modulus" "without_modulus" (defArgs s_without_modulus) (defBody s_without_modulus) (defScope s_without_modulus) .none kV_wm dc_wm pm_wm an_wm cd_wm ct_wm), sl_wm⟩)
    (c_wm : PySem.W.codeIn K cd_wm "without_modulus" = true) (k_wm : PySem.W.keepIn K (.ref f_wm) = true)
    (a_rs : PySem.W.nsIn K mainGlobals "read_sum" = some (some (.ref f_rs)))
    (l_rs : K.lookup f_rs = some ⟨oc_rs, od_rs, .func (PySem.W.fnOf "read_sum" "read_sum" (defArgs s_read_sum) (defBody s_read_sum) (defScope s_read_sum) .none kV_rs dc_rs pm_rs an_rs cd_rs ct_rs), sl_rs⟩)
    (c_rs : PySem.W.codeIn K cd_rs "read_sum" = true) (k_rs : PySem.W.keepIn K (.ref f_rs) = true)
    (a_ws : PySem.W.nsIn K mainGlobals "write_sum" = some (some (.ref f_ws)))
    (l_ws : K.lookup f_ws = some ⟨oc_ws, od_ws, .func (PySem.W.fnOf "write_sum" "write_sum" (defArgs s_write_sum) (defBody s_write_sum) (defScope s_write_sum) .none kV_ws dc_ws pm_ws an_ws cd_ws ct_ws), sl_ws⟩)
    (c_ws : PySem.W.codeIn K cd_ws "write_sum" = true) (k_ws : PySem.W.keepIn K (.ref f_ws) = true)
    (a_rt : PySem.W.nsIn K mainGlobals "_read_term" = some (some (.ref f_rt)))
    (l_rt : K.lookup f_rt = some ⟨oc_rt, od_rt, .func (PySem.W.fnOf "_read_term" "_read_term" (defArgs s_read_term) (defBody s_read_term) (defScope s_read_term) .none kV_rt dc_rt pm_rt an_rt cd_rt ct_rt), sl_rt⟩)
    (c_rt : PySem.W.codeIn K cd_rt "_read_term" = true) (k_rt : PySem.W.keepIn K (.ref f_rt) = true)
    (a_wl : PySem.W.nsIn K mainGlobals "_write_line" = some (some (.ref f_wl)))
    (l_wl : K.lookup f_wl = some ⟨oc_wl, od_wl, .func (PySem.W.fnOf "_write_line" "_write_line" (defArgs s_write_line) (defBody s_write_line) (defScope s_write_line) .none kV_wl dc_wl pm_wl an_wl cd_wl ct_wl), sl_wl⟩)
    (c_wl : PySem.W.codeIn K cd_wl "_write_line" = true) (k_wl : PySem.W.keepIn K (.ref f_wl) = true)
    (a_rl : PySem.W.nsIn K mainGlobals "_read_line" = some (some (.ref f_rl)))
    (l_rl : K.lookup f_rl = some ⟨oc_rl, od_rl, .func (PySem.W.fnOf "_read_line" "_read_line" (defArgs s_read_line) (defBody s_read_line) (defScope s_read_line) .none kV_rl dc_rl pm_rl an_rl cd_rl ct_rl), sl_rl⟩)
    (c_rl : PySem.W.codeIn K cd_rl "_read_line" = true) (k_rl : PySem.W.keepIn K (.ref f_rl) = true)
    (a_deck : PySem.W.nsIn K mainGlobals "_law_deck" = some (some (.ref f_deck)))
    (l_deck : K.lookup f_deck = some ⟨oc_deck, od_deck, .func (PySem.W.fnOf "_law_deck" "_law_deck" (defArgs s_deck) (defBody s_deck) (defScope s_deck) .none kV_deck dc_deck pm_deck an_deck cd_deck ct_deck), sl_deck⟩)
    (c_deck : PySem.W.codeIn K cd_deck "_law_deck" = true) (k_deck : PySem.W.keepIn K (.ref f_deck) = true)
    (a_draw : PySem.W.nsIn K mainGlobals "_law_draw" = some (some (.ref f_draw)))
    (l_draw : K.lookup f_draw = some ⟨oc_draw, od_draw, .func (PySem.W.fnOf "_law_draw" "_law_draw" (defArgs s_draw) (defBody s_draw) (defScope s_draw) .none kV_draw dc_draw pm_draw an_draw cd_draw ct_draw), sl_draw⟩)
    (c_draw : PySem.W.codeIn K cd_draw "_law_draw" = true) (k_draw : PySem.W.keepIn K (.ref f_draw) = true)
    (a_pick : PySem.W.nsIn K mainGlobals "_law_pick" = some (some (.ref f_pick)))
    (l_pick : K.lookup f_pick = some ⟨oc_pick, od_pick, .func (PySem.W.fnOf "_law_pick" "_law_pick" (defArgs s_pick) (defBody s_pick) (defScope s_pick) .none kV_pick dc_pick pm_pick an_pick cd_pick ct_pick), sl_pick⟩)
    (c_pick : PySem.W.codeIn K cd_pick "_law_pick" = true) (k_pick : PySem.W.keepIn K (.ref f_pick) = true)
    (a_called : PySem.W.nsIn K mainGlobals "_law_called" = some (some (.ref f_called)))
    (l_called : K.lookup f_called = some ⟨oc_called, od_called, .func (PySem.W.fnOf "_law_called" "_law_called" (defArgs s_called) (defBody s_called) (defScope s_called) .none kV_called dc_called pm_called an_called cd_called ct_called), sl_called⟩)
    (c_called : PySem.W.codeIn K cd_called "_law_called" = true) (k_called : PySem.W.keepIn K (.ref f_called) = true)
    (a_st : PySem.W.nsIn K mainGlobals "_law_sum_text" = some (some (.ref f_st)))
    (l_st : K.lookup f_st = some ⟨oc_st, od_st, .func (PySem.W.fnOf "_law_sum_text" "_law_sum_text" (defArgs s_sum_text) (defBody s_sum_text) (defScope s_sum_text) .none kV_st dc_st pm_st an_st cd_st ct_st), sl_st⟩)
    (c_st : PySem.W.codeIn K cd_st "_law_sum_text" = true) (k_st : PySem.W.keepIn K (.ref f_st) = true)
    (a_wr : PySem.W.nsIn K mainGlobals "_law_written" = some (some (.ref f_wr)))
    (l_wr : K.lookup f_wr = some ⟨oc_wr, od_wr, .func (PySem.W.fnOf "_law_written" "_law_written" (defArgs s_written) (defBody s_written) (defScope s_written) .none kV_wr dc_wr pm_wr an_wr cd_wr ct_wr), sl_wr⟩)
    (c_wr : PySem.W.codeIn K cd_wr "_law_written" = true) (k_wr : PySem.W.keepIn K (.ref f_wr) = true)
    (a_int : PySem.W.nsIn K mainGlobals "_law_integer" = some (some (.ref f_int)))
    (l_int : K.lookup f_int = some ⟨oc_int, od_int, .func (PySem.W.fnOf "_law_integer" "_law_integer" (defArgs s_integer) (defBody s_integer) (defScope s_integer) .none kV_int dc_int pm_int an_int cd_int ct_int), sl_int⟩)
    (c_int : PySem.W.codeIn K cd_int "_law_integer" = true) (k_int : PySem.W.keepIn K (.ref f_int) = true)
    (a_drawn : PySem.W.nsIn K mainGlobals "_law_drawn" = some (some (.ref f_drawn)))
    (l_drawn : K.lookup f_drawn = some ⟨oc_drawn, od_drawn, .func (PySem.W.fnOf "_law_drawn" "_law_drawn" (defArgs s_drawn) (defBody s_drawn) (defScope s_drawn) .none kV_drawn dc_drawn pm_drawn an_drawn cd_drawn ct_drawn), sl_drawn⟩)
    (c_drawn : PySem.W.codeIn K cd_drawn "_law_drawn" = true) (k_drawn : PySem.W.keepIn K (.ref f_drawn) = true)
    (a_lname : PySem.W.nsIn K mainGlobals "_law_name" = some (some (.ref f_lname)))
    (l_lname : K.lookup f_lname = some ⟨oc_lname, od_lname, .func (PySem.W.fnOf "_law_name" "_law_name" (defArgs s_name) (defBody s_name) (defScope s_name) .none kV_lname dc_lname pm_lname an_lname cd_lname ct_lname), sl_lname⟩)
    (c_lname : PySem.W.codeIn K cd_lname "_law_name" = true) (k_lname : PySem.W.keepIn K (.ref f_lname) = true)
    (a_lwhole : PySem.W.nsIn K mainGlobals "_law_whole" = some (some (.ref f_lwhole)))
    (l_lwhole : K.lookup f_lwhole = some ⟨oc_lwhole, od_lwhole, .func (PySem.W.fnOf "_law_whole" "_law_whole" (defArgs s_whole) (defBody s_whole) (defScope s_whole) .none kV_lwhole dc_lwhole pm_lwhole an_lwhole cd_lwhole ct_lwhole), sl_lwhole⟩)
    (c_lwhole : PySem.W.codeIn K cd_lwhole "_law_whole" = true) (k_lwhole : PySem.W.keepIn K (.ref f_lwhole) = true)
    (a_lfo : PySem.W.nsIn K mainGlobals "_law_factors_of" = some (some (.ref f_lfo)))
    (l_lfo : K.lookup f_lfo = some ⟨oc_lfo, od_lfo, .func (PySem.W.fnOf "_law_factors_of" "_law_factors_of" (defArgs s_factors_of) (defBody s_factors_of) (defScope s_factors_of) .none kV_lfo dc_lfo pm_lfo an_lfo cd_lfo ct_lfo), sl_lfo⟩)
    (c_lfo : PySem.W.codeIn K cd_lfo "_law_factors_of" = true) (k_lfo : PySem.W.keepIn K (.ref f_lfo) = true)
    (a_piece : PySem.W.nsIn K mainGlobals "_law_piece" = some (some (.ref f_piece)))
    (l_piece : K.lookup f_piece = some ⟨oc_piece, od_piece, .func (PySem.W.fnOf "_law_piece" "_law_piece" (defArgs s_piece) (defBody s_piece) (defScope s_piece) .none kV_piece dc_piece pm_piece an_piece cd_piece ct_piece), sl_piece⟩)
    (c_piece : PySem.W.codeIn K cd_piece "_law_piece" = true) (k_piece : PySem.W.keepIn K (.ref f_piece) = true)
    (a_due : PySem.W.nsIn K mainGlobals "_law_due" = some (some (.ref f_due)))
    (l_due : K.lookup f_due = some ⟨oc_due, od_due, .func (PySem.W.fnOf "_law_due" "_law_due" (defArgs s_due) (defBody s_due) (defScope s_due) .none kV_due dc_due pm_due an_due cd_due ct_due), sl_due⟩)
    (c_due : PySem.W.codeIn K cd_due "_law_due" = true) (k_due : PySem.W.keepIn K (.ref f_due) = true)
    (a_told : PySem.W.nsIn K mainGlobals "_law_told" = some (some (.ref f_told)))
    (l_told : K.lookup f_told = some ⟨oc_told, od_told, .func (PySem.W.fnOf "_law_told" "_law_told" (defArgs s_told) (defBody s_told) (defScope s_told) .none kV_told dc_told pm_told an_told cd_told ct_told), sl_told⟩)
    (c_told : PySem.W.codeIn K cd_told "_law_told" = true) (k_told : PySem.W.keepIn K (.ref f_told) = true)
    (a_brow : PySem.W.nsIn K mainGlobals "_law_bent_row" = some (some (.ref f_brow)))
    (l_brow : K.lookup f_brow = some ⟨oc_brow, od_brow, .func (PySem.W.fnOf "_law_bent_row" "_law_bent_row" (defArgs s_bent_row) (defBody s_bent_row) (defScope s_bent_row) .none kV_brow dc_brow pm_brow an_brow cd_brow ct_brow), sl_brow⟩)
    (c_brow : PySem.W.codeIn K cd_brow "_law_bent_row" = true) (k_brow : PySem.W.keepIn K (.ref f_brow) = true)
    (a_bent : PySem.W.nsIn K mainGlobals "_law_bent" = some (some (.ref f_bent)))
    (l_bent : K.lookup f_bent = some ⟨oc_bent, od_bent, .func (PySem.W.fnOf "_law_bent" "_law_bent" (defArgs s_bent) (defBody s_bent) (defScope s_bent) .none kV_bent dc_bent pm_bent an_bent cd_bent ct_bent), sl_bent⟩)
    (c_bent : PySem.W.codeIn K cd_bent "_law_bent" = true) (k_bent : PySem.W.keepIn K (.ref f_bent) = true)
    (a_right : PySem.W.nsIn K mainGlobals "_law_is_right" = some (some (.ref f_right)))
    (l_right : K.lookup f_right = some ⟨oc_right, od_right, .func (PySem.W.fnOf "_law_is_right" "_law_is_right" (defArgs s_is_right) (defBody s_is_right) (defScope s_is_right) .none kV_right dc_right pm_right an_right cd_right ct_right), sl_right⟩)
    (c_right : PySem.W.codeIn K cd_right "_law_is_right" = true) (k_right : PySem.W.keepIn K (.ref f_right) = true)
    (a_law : PySem.W.nsIn K mainGlobals "law" = some (some (.ref f_law)))
    (l_law : K.lookup f_law = some ⟨oc_law, od_law, .func (PySem.W.fnOf "law" "law" (defArgs s_law) (defBody s_law) (defScope s_law) .none kV_law dc_law pm_law an_law cd_law ct_law), sl_law⟩)
    (c_law : PySem.W.codeIn K cd_law "law" = true) (k_law : PySem.W.keepIn K (.ref f_law) = true)
    (aC : PySem.W.nsIn K mainGlobals "System" = some (some (.ref C)))
    (aI : PySem.W.findIn K (.ref C) "__init__" = some (some (.ref fI))) (iI : PySem.W.isFn K (.ref fI) = true) (lI : K.lookup fI = some ⟨ocI, odI, .func (PySem.W.fnOf "__init__" "System.__init__" (defArgs s_System_init) (defBody s_System_init) (defScope s_System_init) (.ref T0) kVI dcI pmI anI cdI ctI), slI⟩) (cI : PySem.W.codeIn K cdI "System.__init__" = true) (kI : PySem.W.keepIn K (.ref fI) = true)
    (eR : PySem.W.findCls K (.ref C) (.type "type") "read" = some (.get (.builtin "staticmethod.__get__") (.ref pR) .none (.ref C))) (rR : PySem.W.recIn K pR "staticmethod" = some (.ref fR :: restR)) (lR : K.lookup fR = some ⟨ocR, odR, .func (PySem.W.fnOf "read" "System.read" (defArgs s_System_read) (defBody s_System_read) (defScope s_System_read) .none kVR dcR pmR anR cdR ctR), slR⟩) (cR : PySem.W.codeIn K cdR "System.read" = true) (kR : PySem.W.keepIn K (.ref fR) = true)
    (ga : PySem.W.specialIn K (.ref C) "__getattribute__" = some (some (.builtin "type.__getattribute__"))) (rd : PySem.W.readsIn K C (.type "type") = true)
    (pg : PySem.W.plainGet K C Str.empty = true) (hd : PySem.W.hasDictIn K C = true) (po : PySem.W.plainOver K C = true) (sa : PySem.W.findIn K (.ref C) "__setattr__" = some (some (.builtin "object.__setattr__"))) (mk : PySem.W.makesIn K C = true) (kc : PySem.W.keepIn K (.ref C) = true)
    (nN : PySem.W.findIn K (.ref C) "names" = some none) (nR : PySem.W.findIn K (.ref C) "rows" = some none) (nS : PySem.W.findIn K (.ref C) "rests" = some none)
    (lT : K.lookup T0 = some ⟨.type "tuple", dT, .seq #[.ref E0] nT, slT⟩) (lE : K.lookup E0 = some ⟨.type "tuple", dE, .seq #[] nE, slE⟩)
    (aD : PySem.W.nsIn K mainGlobals "MOST_DIGITS" = some (some (.int 60 tD))) (aG : PySem.W.nsIn K mainGlobals "MOST_SIGNS" = some (some (.int 8 tS))) (aN : PySem.W.nsIn K mainGlobals "MOST_NAMES" = some (some (.int 6 tN)))
    (aL : PySem.W.nsIn K mainGlobals "LETTERS" = some (some (.str LETTERS tL))) (aQ : PySem.W.nsIn K mainGlobals "DIGITS" = some (some (.str DIGITS tG)))
    (aW : PySem.W.nsIn K mainGlobals "TAKEN_WORDS" = some (some (.ref TW))) (lW : K.lookup TW = some ⟨.type "tuple", dW, .seq #[.str (Str.ofString "check") w0, .str (Str.ofString "input") w1, .str (Str.ofString "keep") w2, .str (Str.ofString "let") w3, .str (Str.ofString "mod") w4, .str (Str.ofString "names") w5, .str (Str.ofString "open") w6, .str (Str.ofString "self") w7, .str (Str.ofString "take") w8] nW, slW⟩)
    (zlist : PySem.W.nsIn K mainGlobals "list" = some none)
    (aE : PySem.W.nsIn K mainGlobals "BadText" = some (some (.ref CE)))
    (xE : K.lookup CE = some (excClassObj nmE qE CE NE bsE [.ref BE, .type "Exception", .type "BaseException", .type "object"] true snE subE abE colE ddE e0 e1 e2 e3 e5 "Exception.__new__"))
    (saE : PySem.W.findIn K (.ref CE) "__setattr__" = some (some (.builtin "object.__setattr__"))) (bE : PySem.W.subIn K (.ref CE) (.type "BaseException") = some true) (tyE : PySem.W.typeIn K (.ref CE) = some (.type "type")) (kE : PySem.W.keepIn K (.ref CE) = true)
    (icE : PySem.W.isClsIn K CE = true) (gaE : PySem.W.findIn K (.ref CE) "__getattribute__" = some (some (.builtin "BaseException.__getattribute__"))) (ggE : PySem.W.findIn K (.ref CE) "__getattr__" = some none) (hdE : PySem.W.hasDictIn K CE = true)
    (clE : PySem.W.findIn K (.ref CE) "__class__" = some (some (.builtin "object.__class__"))) (gtE : PySem.W.specialIn K (.builtin "object.__class__") "__get__" = some (some (.builtin "getset_descriptor.__get__"))) (tkE : PySem.W.takesIn K (.builtin "object.__class__") = some true) (obE : PySem.W.mroIn K CE (.type "object") = some true)
    (noE : PySem.W.findIn K (.ref CE) "line" = some none) (aB : PySem.W.findIn K (.ref CE) "__init__" = some (some (.ref fB))) (tB : PySem.W.typeIn K (.ref fB) = some (.type "function")) (lB : K.lookup fB = some ⟨ocB, odB, .func (PySem.W.fnOf "__init__" "BadText.__init__" (defArgs s_BadText_init) (defBody s_BadText_init) (defScope s_BadText_init) .none kVB dcB pmB anB cdB ctB), slB⟩) (cB : PySem.W.codeIn K cdB "BadText.__init__" = true) (kB : PySem.W.keepIn K (.ref fB) = true)
    (aP : PySem.W.nsIn K mainGlobals "BoxError" = some (some (.ref BE))) (gaQ : PySem.W.specialIn K (.ref BE) "__getattribute__" = some (some (.builtin "type.__getattribute__"))) (rdQ : PySem.W.readsIn K BE (.type "type") = true) (fiQ : PySem.W.findCls K (.ref BE) (.type "type") "__init__" = some (.val (.builtin "Exception.__init__")))
    (suE : PySem.W.subIn K (.ref CE) (.ref CE) = some true) 
    (z_int : PySem.W.nsIn K mainGlobals "int" = some none)
    (z_len : PySem.W.nsIn K mainGlobals "len" = some none)
    (z_range : PySem.W.nsIn K mainGlobals "range" = some none)
    (z_tuple : PySem.W.nsIn K mainGlobals "tuple" = some none)
    (z_str : PySem.W.nsIn K mainGlobals "str" = some none)
    (z_abs : PySem.W.nsIn K mainGlobals "abs" = some none)
    (z_any : PySem.W.nsIn K mainGlobals "any" = some none)
    (z_all : PySem.W.nsIn K mainGlobals "all" = some none)
    (z_sum : PySem.W.nsIn K mainGlobals "sum" = some none)
    (z_zip : PySem.W.nsIn K mainGlobals "zip" = some none)
    (z_enumerate : PySem.W.nsIn K mainGlobals "enumerate" = some none)
    (z_repr : PySem.W.nsIn K mainGlobals "repr" = some none)
    (z_set : PySem.W.nsIn K mainGlobals "set" = some none) :
    ∃ fd : FuncData, (∀ (s : Shared) (v : Value), BindsTo s fd ⟨[v], []⟩ [("_law_script", v)]) ∧ ∀ base : Heap, K.In base → base.Ns mainGlobals mg → FnG l.prog w K mg base CX0 8 fa fd ["_law_script"] (spLaw K) := by
  have e := hfa.symm.trans (PySem.W.mg_of X G a_law)
  cases e
  have F_nat := fun_mk (st := s_is_natural) l_nat c_nat k_nat
  have g_nat := PySem.W.mg_of X G a_nat
  have F_whole := fun_mk (st := s_is_whole) l_whole c_whole k_whole
  have g_whole := PySem.W.mg_of X G a_whole
  have F_isn := fun_mk (st := s_is_name) l_isn c_isn k_isn
  have g_isn := PySem.W.mg_of X G a_isn
  have F_aren := fun_mk (st := s_are_names) l_aren c_aren k_aren
  have g_aren := PySem.W.mg_of X G a_aren
  have F_wm := fun_mk (st := s_without_modulus) l_wm c_wm k_wm
  have g_wm := PySem.W.mg_of X G a_wm
  have F_rs := fun_mk (st := s_read_sum) l_rs c_rs k_rs
  have g_rs := PySem.W.mg_of X G a_rs
  have F_ws := fun_mk (st := s_write_sum) l_ws c_ws k_ws
  have g_ws := PySem.W.mg_of X G a_ws
  have F_rt := fun_mk (st := s_read_term) l_rt c_rt k_rt
  have g_rt := PySem.W.mg_of X G a_rt
  have F_wl := fun_mk (st := s_write_line) l_wl c_wl k_wl
  have g_wl := PySem.W.mg_of X G a_wl
  have F_rl := fun_mk (st := s_read_line) l_rl c_rl k_rl
  have g_rl := PySem.W.mg_of X G a_rl
  have F_deck := fun_mk (st := s_deck) l_deck c_deck k_deck
  have g_deck := PySem.W.mg_of X G a_deck
  have F_draw := fun_mk (st := s_draw) l_draw c_draw k_draw
  have g_draw := PySem.W.mg_of X G a_draw
  have F_pick := fun_mk (st := s_pick) l_pick c_pick k_pick
  have g_pick := PySem.W.mg_of X G a_pick
  have F_called := fun_mk (st := s_called) l_called c_called k_called
  have g_called := PySem.W.mg_of X G a_called
  have F_st := fun_mk (st := s_sum_text) l_st c_st k_st
  have g_st := PySem.W.mg_of X G a_st
  have F_wr := fun_mk (st := s_written) l_wr c_wr k_wr
  have g_wr := PySem.W.mg_of X G a_wr
  have F_int := fun_mk (st := s_integer) l_int c_int k_int
  have g_int := PySem.W.mg_of X G a_int
  have F_drawn := fun_mk (st := s_drawn) l_drawn c_drawn k_drawn
  have g_drawn := PySem.W.mg_of X G a_drawn
  have F_lname := fun_mk (st := s_name) l_lname c_lname k_lname
  have g_lname := PySem.W.mg_of X G a_lname
  have F_lwhole := fun_mk (st := s_whole) l_lwhole c_lwhole k_lwhole
  have g_lwhole := PySem.W.mg_of X G a_lwhole
  have F_lfo := fun_mk (st := s_factors_of) l_lfo c_lfo k_lfo
  have g_lfo := PySem.W.mg_of X G a_lfo
  have F_piece := fun_mk (st := s_piece) l_piece c_piece k_piece
  have g_piece := PySem.W.mg_of X G a_piece
  have F_due := fun_mk (st := s_due) l_due c_due k_due
  have g_due := PySem.W.mg_of X G a_due
  have F_told := fun_mk (st := s_told) l_told c_told k_told
  have g_told := PySem.W.mg_of X G a_told
  have F_brow := fun_mk (st := s_bent_row) l_brow c_brow k_brow
  have g_brow := PySem.W.mg_of X G a_brow
  have F_bent := fun_mk (st := s_bent) l_bent c_bent k_bent
  have g_bent := PySem.W.mg_of X G a_bent
  have F_right := fun_mk (st := s_is_right) l_right c_right k_right
  have g_right := PySem.W.mg_of X G a_right
  have F_law := fun_mk (st := s_law) l_law c_law k_law
  have T : Bl mg := ⟨PySem.W.mg_none_of X G z_int, PySem.W.mg_none_of X G z_len, PySem.W.mg_none_of X G z_range, PySem.W.mg_none_of X G z_tuple, PySem.W.mg_none_of X G z_str, PySem.W.mg_none_of X G z_abs, PySem.W.mg_none_of X G z_any, PySem.W.mg_none_of X G z_all, PySem.W.mg_none_of X G z_sum, PySem.W.mg_none_of X G z_zip, PySem.W.mg_none_of X G z_enumerate, PySem.W.mg_none_of X G z_repr, PySem.W.mg_none_of X G z_set, ⟨_, PySem.W.mg_of X G aD, ⟨_, rfl⟩⟩, ⟨_, PySem.W.mg_of X G aG, ⟨_, rfl⟩⟩, ⟨_, PySem.W.mg_of X G aN, ⟨_, rfl⟩⟩, ⟨_, PySem.W.mg_of X G aL, ⟨_, rfl⟩⟩, ⟨_, PySem.W.mg_of X G aQ, ⟨_, rfl⟩⟩⟩
  refine ⟨PySem.W.fnOf "law" "law" (defArgs s_law) (defBody s_law) (defScope s_law) .none kV_law dc_law pm_law an_law cd_law ct_law, fun s v => .of_eq rfl, fun base _ _ => ?_⟩
  have S : Sys K mg C := ⟨⟨pg, hd, po, sa⟩, nN, nR, nS, PySem.W.mg_of X G aC⟩
  have Tlist := PySem.W.mg_none_of X G zlist
  have gE := PySem.W.mg_of X G aE
  have gQ := PySem.W.mg_of X G aP
  have TE : GX.OexE K CE BE := ⟨⟨nmE, qE, NE, bsE, snE, subE, abE, colE, ddE, e0, e1, e2, e3, e5, xE⟩, saE, bE, tyE, kE⟩
  have HE : GX.HeldE K CE := ⟨icE, gaE, ggE, bE, hdE, clE, gtE, tkE, obE⟩
  have ex := exm_two bE icE tyE suE
  have FI0 : FunD K "__init__" "System.__init__" (defArgs s_System_init) (defBody s_System_init) (defScope s_System_init) [.ref E0] [] fI _ := ⟨⟨ocI, odI, _, kVI, dcI, pmI, anI, cdI, ctI, slI, rfl, lI, cI, .inr ⟨(fun z => nomatch z), T0, _, [.ref E0], nT, rfl, lT, rfl, .cons rfl .nil⟩, .inl rfl⟩, kI⟩
  have FR0 := fun_mk (st := s_System_read) lR cR kR
  have MK : Mk K C fI := ⟨mk, aI, iI, kc⟩
  have FI := ok_init (P := l.prog) (w := w) (base := base) FI0 S
  have FB0 := fun_mk (st := s_BadText_init) lB cB kB
  obtain ⟨ds4, rd4, B4⟩ := FI0.binds1 (ps := ["self", "names", "rows", "rests"]) 4 1 (fun z => nomatch z) rfl (fun _ _ _ _ _ _ _ us its h1 h2 => match us, its, h1, h2 with | [_, _, _, _], [_], _, _ => ⟨_, rfl, rfl⟩)
  have BI := (show ds4 = [] from by cases rd4; rfl) ▸ B4
  have lTW : ∀ H : Hp, SqT K H TW (TAKEN.map V.str) := fun H => .inr ⟨_, _, nW, lW, rfl, rfl, (show 9 ≤ sizeLine from small (by decide)), (.cons ⟨w0, rfl⟩ (.cons ⟨w1, rfl⟩ (.cons ⟨w2, rfl⟩ (.cons ⟨w3, rfl⟩ (.cons ⟨w4, rfl⟩ (.cons ⟨w5, rfl⟩ (.cons ⟨w6, rfl⟩ (.cons ⟨w7, rfl⟩ (.cons ⟨w8, rfl⟩ .nil)))))))))⟩
  have FB := ok_bad (P := l.prog) (w := w) (base := base) FB0 TE noE gQ gaQ rdQ fiQ
  have BB := FB0.binds (ps := ["self", "line"]) fun _ _ _ _ _ _ us hl => match us, hl with | [_, _], _ => rfl
  have D_nat := ok_is_natural (P := l.prog) (w := w) (base := base) F_nat g_nat T
  have D_whole := ok_is_whole F_whole g_whole T D_nat
  have D_isn := ok_is_name (P := l.prog) (w := w) (base := base) F_isn g_isn T (PySem.W.mg_of X G aW) lTW
  have D_aren := ok_are_names F_aren g_aren T D_isn
  have D_rt := ok_read_term F_rt g_rt T D_isn D_nat
  have D_wm := ok_without_modulus F_wm g_wm T D_nat
  have D_rs := ok_read_sum F_rs g_rs T D_rt
  have D_ws := ok_write_sum (P := l.prog) (w := w) (base := base) F_ws g_ws T
  have D_wl := ok_write_line F_wl g_wl T D_ws
  have D_rl := ok_read_line F_rl g_rl T D_wm D_rs D_whole D_wl
  have FR := ok_read FR0 S T TE gE aB tB FB BB D_aren D_rl MK FI BI
  have D_draw := ok_draw (P := l.prog) (w := w) (base := base) F_draw g_draw T
  have D_deck := ok_deck (P := l.prog) (w := w) (base := base) F_deck g_deck T
  have D_pickL := ok_pickL F_pick g_pick T D_draw
  have D_pickS := ok_pickS F_pick g_pick T D_draw
  have D_called := ok_called F_called g_called T D_draw D_pickS
  have D_int := ok_integer F_int g_int T D_draw
  have D_drawn := ok_drawn F_drawn g_drawn T D_draw D_pickL D_called D_int
  have D_st := ok_sum_text (P := l.prog) (w := w) (base := base) F_st g_st T
  have D_wr := ok_written F_wr g_wr T D_st
  have D_lname := ok_name (P := l.prog) (w := w) (base := base) F_lname g_lname T
  have D_lwhole := ok_whole (P := l.prog) (w := w) (base := base) F_lwhole g_lwhole T
  have D_lfo := ok_factors_of F_lfo g_lfo T Tlist D_lwhole
  have D_piece := ok_piece F_piece g_piece T D_lwhole D_lfo
  have D_due := ok_due F_due g_due T D_lname D_piece
  have D_told := ok_told F_told g_told T S ⟨ga, rd, ⟨_, _, eR, rR⟩, kR⟩ FR (FR0.binds fun _ _ _ _ _ _ us hl => match us, hl with | [_], _ => rfl) gE HE noE ex
  have D_brow := ok_bent_row F_brow g_brow T Tlist D_draw D_pickL
  have D_bent := ok_bent F_bent g_bent T D_draw D_pickL D_brow
  have D_right := ok_is_right F_right g_right T D_due D_told
  exact ok_law F_law T D_deck D_draw D_drawn D_wr D_bent D_right
end KW
open PySem PySem.W PyProof.Rows
set_option maxRecDepth 100000 in
set_option maxHeartbeats 0 in
theorem PySem.Challenge.cw_whateverboxes_k12_texts_of_systems_bent_holds : PySem.Challenge.rw_whateverboxes_k12_texts_of_systems_bent.Holds := by
  w_on; o_law; k_head; (case hw => w_witness2)
  k_fill
  refine KW.walk (l := PySem.Challenge.rw_whateverboxes_k12_texts_of_systems_bent) rfl rfl (fun w h Y => PySem.W.kIn_of Y) ?F
  case F =>
    intro w mg fa h KX G hmg
    refine' KW.all_mk KX G hmg ?a_nat ?l_nat ?c_nat ?k_nat ?a_whole ?l_whole ?c_whole ?k_whole ?a_isn ?l_isn ?c_isn ?k_isn ?a_aren ?l_aren ?c_aren ?k_aren ?a_wm ?l_wm ?c_wm ?k_wm ?a_rs ?l_rs ?c_rs ?k_rs ?a_ws ?l_ws ?c_ws ?k_ws ?a_rt ?l_rt ?c_rt ?k_rt ?a_wl ?l_wl ?c_wl ?k_wl ?a_rl ?l_rl ?c_rl ?k_rl ?a_deck ?l_deck ?c_deck ?k_deck ?a_draw ?l_draw ?c_draw ?k_draw ?a_pick ?l_pick ?c_pick ?k_pick ?a_called ?l_called ?c_called ?k_called ?a_st ?l_st ?c_st ?k_st ?a_wr ?l_wr ?c_wr ?k_wr ?a_int ?l_int ?c_int ?k_int ?a_drawn ?l_drawn ?c_drawn ?k_drawn ?a_lname ?l_lname ?c_lname ?k_lname ?a_lwhole ?l_lwhole ?c_lwhole ?k_lwhole ?a_lfo ?l_lfo ?c_lfo ?k_lfo ?a_piece ?l_piece ?c_piece ?k_piece ?a_due ?l_due ?c_due ?k_due ?a_told ?l_told ?c_told ?k_told ?a_brow ?l_brow ?c_brow ?k_brow ?a_bent ?l_bent ?c_bent ?k_bent ?a_right ?l_right ?c_right ?k_right ?a_law ?l_law ?c_law ?k_law ?aC ?aI ?iI ?lI ?cI ?kI ?eR ?rR ?lR ?cR ?kR ?ga ?rd ?pg ?hd ?po ?sa ?mk ?kc ?nN ?nR ?nS ?lT ?lE ?aD ?aG ?aN ?aL ?aQ ?aW ?lW ?zlist ?aE ?xE ?saE ?bE ?tyE ?kE ?icE ?gaE ?ggE ?hdE ?clE ?gtE ?tkE ?obE ?noE ?aB ?tB ?lB ?cB ?kB ?aP ?gaQ ?rdQ ?fiQ ?suE ?z_int ?z_len ?z_range ?z_tuple ?z_str ?z_abs ?z_any ?z_all ?z_sum ?z_zip ?z_enumerate ?z_repr ?z_set
    (case a_nat => k_is)
    (case l_nat => k_is)
    (case c_nat => k_is)
    (case k_nat => k_is)
    (case a_whole => k_is)
    (case l_whole => k_is)
    (case c_whole => k_is)
    (case k_whole => k_is)
    (case a_isn => k_is)
    (case l_isn => k_is)
    (case c_isn => k_is)
    (case k_isn => k_is)
    (case a_aren => k_is)
    (case l_aren => k_is)
    (case c_aren => k_is)
    (case k_aren => k_is)
    (case a_wm => k_is)
    (case l_wm => k_is)
    (case c_wm => k_is)
    (case k_wm => k_is)
    (case a_rs => k_is)
    (case l_rs => k_is)
    (case c_rs => k_is)
    (case k_rs => k_is)
    (case a_ws => k_is)
    (case l_ws => k_is)
    (case c_ws => k_is)
    (case k_ws => k_is)
    (case a_rt => k_is)
    (case l_rt => k_is)
    (case c_rt => k_is)
    (case k_rt => k_is)
    (case a_wl => k_is)
    (case l_wl => k_is)
    (case c_wl => k_is)
    (case k_wl => k_is)
    (case a_rl => k_is)
    (case l_rl => k_is)
    (case c_rl => k_is)
    (case k_rl => k_is)
    (case a_deck => k_is)
    (case l_deck => k_is)
    (case c_deck => k_is)
    (case k_deck => k_is)
    (case a_draw => k_is)
    (case l_draw => k_is)
    (case c_draw => k_is)
    (case k_draw => k_is)
    (case a_pick => k_is)
    (case l_pick => k_is)
    (case c_pick => k_is)
    (case k_pick => k_is)
    (case a_called => k_is)
    (case l_called => k_is)
    (case c_called => k_is)
    (case k_called => k_is)
    (case a_st => k_is)
    (case l_st => k_is)
    (case c_st => k_is)
    (case k_st => k_is)
    (case a_wr => k_is)
    (case l_wr => k_is)
    (case c_wr => k_is)
    (case k_wr => k_is)
    (case a_int => k_is)
    (case l_int => k_is)
    (case c_int => k_is)
    (case k_int => k_is)
    (case a_drawn => k_is)
    (case l_drawn => k_is)
    (case c_drawn => k_is)
    (case k_drawn => k_is)
    (case a_lname => k_is)
    (case l_lname => k_is)
    (case c_lname => k_is)
    (case k_lname => k_is)
    (case a_lwhole => k_is)
    (case l_lwhole => k_is)
    (case c_lwhole => k_is)
    (case k_lwhole => k_is)
    (case a_lfo => k_is)
    (case l_lfo => k_is)
    (case c_lfo => k_is)
    (case k_lfo => k_is)
    (case a_piece => k_is)
    (case l_piece => k_is)
    (case c_piece => k_is)
    (case k_piece => k_is)
    (case a_due => k_is)
    (case l_due => k_is)
    (case c_due => k_is)
    (case k_due => k_is)
    (case a_told => k_is)
    (case l_told => k_is)
    (case c_told => k_is)
    (case k_told => k_is)
    (case a_brow => k_is)
    (case l_brow => k_is)
    (case c_brow => k_is)
    (case k_brow => k_is)
    (case a_bent => k_is)
    (case l_bent => k_is)
    (case c_bent => k_is)
    (case k_bent => k_is)
    (case a_right => k_is)
    (case l_right => k_is)
    (case c_right => k_is)
    (case k_right => k_is)
    (case a_law => k_is)
    (case l_law => k_is)
    (case c_law => k_is)
    (case k_law => k_is)
    (case aC => k_is)
    (case aI => k_is)
    (case iI => k_is)
    (case lI => k_is)
    (case cI => k_is)
    (case kI => k_is)
    (case eR => k_is)
    (case rR => k_is)
    (case lR => k_is)
    (case cR => k_is)
    (case kR => k_is)
    (case ga => k_is)
    (case rd => k_is)
    (case pg => k_is)
    (case hd => k_is)
    (case po => k_is)
    (case sa => k_is)
    (case mk => k_is)
    (case kc => k_is)
    (case nN => k_is)
    (case nR => k_is)
    (case nS => k_is)
    (case lT => k_is)
    (case lE => k_is)
    (case aD => k_is)
    (case aG => k_is)
    (case aN => k_is)
    (case aL => k_is)
    (case aQ => k_is)
    (case aW => k_is)
    (case lW => k_is)
    (case zlist => k_is)
    (case aE => k_is)
    (case xE => k_is)
    (case saE => k_is)
    (case bE => k_is)
    (case tyE => k_is)
    (case kE => k_is)
    (case icE => k_is)
    (case gaE => k_is)
    (case ggE => k_is)
    (case hdE => k_is)
    (case clE => k_is)
    (case gtE => k_is)
    (case tkE => k_is)
    (case obE => k_is)
    (case noE => k_is)
    (case aB => k_is)
    (case tB => k_is)
    (case lB => k_is)
    (case cB => k_is)
    (case kB => k_is)
    (case aP => k_is)
    (case gaQ => k_is)
    (case rdQ => k_is)
    (case fiQ => k_is)
    (case suE => k_is)
    (case z_int => k_is)
    (case z_len => k_is)
    (case z_range => k_is)
    (case z_tuple => k_is)
    (case z_str => k_is)
    (case z_abs => k_is)
    (case z_any => k_is)
    (case z_all => k_is)
    (case z_sum => k_is)
    (case z_zip => k_is)
    (case z_enumerate => k_is)
    (case z_repr => k_is)
    (case z_set => k_is)
