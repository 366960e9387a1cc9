import PyProof.Rows.All
import Wide.All
import OpenK.AllK
import Wide.FinOn
import HandS.ForMost
import HandS.Wide
import HandS.Style
import HandS.Zip
import HandS.MakeKwOnly
import HandS.MakeKw
import HandS.Walk
import HandS.TupAny
import HandS.Star
import HandS.Conv
import HandS.TupMul
import KE.KRevSl
import HandS.Strs
import HandS.Codes
import HandS.SetFor
import HandS.Text
import HandS.WordsList
import KE.KUnpackStar
import PyProof.Draws
import HandS.Iter
import KE.GoesEnumKw
import PyProof.CallStr
import PyProof.CallFns
import HandS.List
import HandS.Exc
import HandS.ExcOwn
import HandS.ExcInit
import HandS.ExcSuper
import HandS.WordsExc
import KE.KExcIs
import KE.KIsAll
import PyProof.StrOps2
import HandS.Steps
import HandS.FStr
import KE.DataEq
import HandS.Defaults
import HandS.RaiseMore
import PySem.Challenge.RW_whateverboxes_k15_texts_of_programs_bent
set_option Elab.async false
set_option linter.all false
set_option maxRecDepth 100000
set_option maxHeartbeats 4000000
namespace GL
open PySem PySem.Spec PyProof.Rows L2

/-- nothing that guards itself against its own turn is under way -/
def Calm (A : Around) : Prop := A.guards = some []
theorem Calm.deeper {A : Around} (g : Calm A) (env : Env) : Calm (A.deeper env) := g
theorem Calm.make {A : Around} (g : Calm A) (C : Addr) (us : List Value) (kw : List (Str × Value)) : Calm (A.under (.builtin "type.__call__" ⟨.ref C :: us, kw⟩)) := by
  unfold Calm at *
  simp only [Around.under, Code.guards, Code.isGuard, guardIds]
  first | exact g | (rw [g]; rfl) | (simp [g])

/-- a def keeps its promise wherever no guard is under way -/
structure FnG (P : Program) (w : World) (K : PySem.W.Frag) (mg : Str → Option Value) (base : Heap) (CX : CXT) (k : Nat) (f : Addr) (fd : FuncData) (ps : List Str) (sp : Sp) : Prop where
  len : ∀ vs H Q E, sp vs H Q E → vs.length = ps.length
  run : ∀ (A : Around) (outer : List Env) (s : Shared) (H : Hp) (args : Args) (us : List Value) (vs : List V) (Q : VK) (E : XK),
    Room k A → Calm A → Env0 P w K mg base A outer s H → BindsTo s fd args (ps.zip us) → Vals vs us → sp vs H Q E →
    codeAny (model P w) A (.call (.ref f) args) (CR CX outer P w H s Q E) s
section
variable {P : Program} {w : World} {K : PySem.W.Frag} {mg : Str → Option Value} {base : Heap} {CX : CXT} {j k : Nat} {f : Addr} {fd : FuncData} {ps : List Str} {sp sp' : Sp}
theorem FnG.up (F : FnG P w K mg base CX j f fd ps sp) (h : j ≤ k) : FnG P w K mg base CX k f fd ps sp where
  len := F.len
  run := fun A outer s H args us vs Q E r g => F.run A outer s H args us vs Q E (r.mono h) g
theorem FnG.of (F : FnOk P w K mg base CX k f fd ps sp) : FnG P w K mg base CX k f fd ps sp where
  len := F.len
  run := fun A outer s H args us vs Q E r _ => F.run A outer s H args us vs Q E r
end

/-! what is known of a def of the text by its callers -/
structure DefG (P : Program) (w : World) (K : PySem.W.Frag) (mg : Str → Option Value) (base : Heap) (k : Nat) (x : Str) (ps : List Str) (sp : Sp) : Prop where
  ex : ∃ (f : Addr) (fd : FuncData), FnG P w K mg base CX0 k f fd ps sp ∧ mg x = some (.ref f) ∧ PySem.W.keepIn K (.ref f) = true ∧ Binds K fd ps []

section
variable {X : Cx} {CX : CXT} {k n : Nat} {f C : Addr} {fd : FuncData} {ps ks : List Str} {sp : Sp} {dvs : List V} {ds : List Value} {E : XK} {x m : Str} {p pos apos : Pos} {e o : Expr} {es : List Expr} {ta : TE} {t tk : TA} {kws : List Keyword}
variable {g : List Value → List Value → List Value} {gV : List V → List V → List V}

theorem out_of {pins : List (Addr × Obj)} {σ : L2.St} {H : Hp} {s : Shared} {Q : VK} (hx : Passes CX X E) (I : Inv X pins σ H s) :
    ∀ (r : Result) (s' : Shared), CR CX X.stack X.prog X.w H s Q E r s' → (match r with | .ok (.ret u) => EP X pins σ Q u s' | .ok _ => False | .error e => X.xe e s')
  | .error e, s', q => hx pins σ H s e s' I q
  | .ok (.ret _), _, q => I.after q
  | .ok .next, _, q => q
  | .ok .brk, _, q => q
  | .ok .cont, _, q => q

theorem runG {pins : List (Addr × Obj)} {σ : L2.St} {H : Hp} {s : Shared} {Q : VK} {us : List Value} {vs : List V} (F : FnG X.prog X.w X.K X.mg X.base CX k f fd ps sp) (hr : Room k X.A) (hc : Calm X.A)
    (hb : Binds X.K fd ps ds) (hd : Vals dvs ds) (hx : Passes CX X E) (I : Inv X pins σ H s) (r : Vals vs us) (h : sp (vs ++ dvs) H Q E) :
    wpAny (model X.prog X.w) X.A (call (.ref f) us) (EP X pins σ Q) X.xe s := by
  have both : Vals (vs ++ dvs) (us ++ ds) := Vals.append r hd
  have long : (us ++ ds).length = ps.length := both.length.symm.trans (F.len _ _ _ _ h)
  have go := F.run X.A X.stack s H ⟨us, []⟩ (us ++ ds) (vs ++ dvs) Q E hr hc I.env0 (hb s us I.kIn long) both h
  refine wpAny_call (codeAny_mono go fun r' s' q => ?_)
  have z := out_of hx I r' s' q
  match r', z with
  | .error _, z => exact z
  | .ok (.ret _), z => exact z

theorem pe_def (D : DefG X.prog X.w X.K X.mg X.base k x ps sp) (hr : Room k X.A) (hc : Calm X.A) (hg : Gl X x) (ha : PA X (e :: es) t) (hdb : (x == ("__debug__" : Str)) = false := by decide)
    (he : starEach (e :: es) X.env = (false, eval e X.env) :: starEach es X.env := by rfl) (hpl : (backTo pos (starEach es X.env)).any (·.1) = false := by rfl) :
    PE X (.Call (.Name x p) (e :: es) [] pos) (tCall sp [] E0 t) := by
  obtain ⟨f, fd, F, hm, hk, hb⟩ := D.ex
  exact ⟨fun pins s σ H Q I h => wpAny_Call_Name_kw (ld_glob I hg hm (PySem.W.callWith_K (h₀ := X.base) I.ok.mod.kin hk
    (thn (ha.run pos pins s σ H _ I h) fun us s1 ⟨vs, H1, I1, r, q⟩ => ⟨I1.kIn, runG F hr hc hb .nil pass0 I1 r q⟩) he hpl) hdb)⟩

/-- a method with positional arguments -/
theorem pe_methG {pl : Sem Bool} (he : PE X o ta) (c : Cls X.K C) (hm : Meth X.K C m f) (F : FnG X.prog X.w X.K X.mg X.base CX k f fd ps sp) (hr : Room k X.A) (hc : Calm X.A) (hb : Binds X.K fd ps ds) (hd : Vals dvs ds) (hx : Passes CX X E)
    (ha : PA X (e :: es) t) (hst : starEach (e :: es) X.env = (false, eval e X.env) :: starEach es X.env := by rfl) (hpl : (backTo pos (starEach es X.env)).any (·.1) = false := by rfl)
    (ht : eval (.Call (.Attribute o m apos) (e :: es) [] pos) X.env = (eval o X.env >>= fun ov => standAt apos.atName >>= fun _ => holding [ov] (getMethod ov m pl) >>= fun fx =>
      callWith pos fx.1 fx.2 (backTo pos (starEach (e :: es) X.env)) (backToKw pos (keywordEach [] X.env))) := by rfl) :
    PE X (.Call (.Attribute o m apos) (e :: es) [] pos) (tMeth C m sp dvs E ta t) := by
  constructor
  intro pins s σ H Q I h
  refine PySem.W.methodCall_KW (pl := pl) (thn (he.run pins s σ H _ I h) ?_) ht
  rintro u s1 ⟨_, H1, I1, rx, a, dx, fs, rfl, ea, l, q⟩
  obtain rfl : u = .ref a := rx
  refine getmeth_ok I1 ea c hm l (PySem.W.callWith_K (first := [.ref a]) (h₀ := X.base) I.ok.mod.kin hm.kp (thn (ha.run pos pins s1 σ H1 _ I1 q) ?_) hst hpl)
  rintro us s2 ⟨vs, H2, I2, r, q2⟩
  exact ⟨I2.kIn, runG (us := .ref a :: us) (vs := .ref a :: vs) F hr hc hb hd hx I2 (.cons rfl r) q2⟩

/-- how keywords alone bind behind a receiver -/
def tMethK (C : Addr) (m : Str) (sp : Sp) (n : Nat) (gV : List V → List V → List V) (E : XK) (ta : TE) (tk : TA) : TE := fun σ H Q => ta σ H fun x H1 => ∃ a dx fs, x = .ref a ∧ H1 a = some (.ins C dx fs) ∧ fs.lookup m = none ∧
  tk σ H1 fun zs H2 => zs.length = n ∧ sp (gV [x] zs) H2 Q E
theorem runKG {pins : List (Addr × Obj)} {σ : L2.St} {H : Hp} {s : Shared} {Q : VK} {us ws : List Value} {vs zs : List V} (F : FnG X.prog X.w X.K X.mg X.base CX k f fd ps sp) (hr : Room k X.A) (hc : Calm X.A) (hb : KBn X.K fd ps n ks g gV) (hx : Passes CX X E)
    (I : Inv X pins σ H s) (r : Vals vs us) (rz : Vals zs ws) (l1 : vs.length = n) (l2 : zs.length = ks.length) (h : sp (gV vs zs) H Q E) :
    wpAny (model X.prog X.w) X.A (call (.ref f) us (ks.zip ws)) (EP X pins σ Q) X.xe s := by
  have go := F.run X.A X.stack s H ⟨us, ks.zip ws⟩ (g us ws) (gV vs zs) Q E hr hc I.env0 (hb.to s us ws I.kIn (r.length.symm.trans l1) (rz.length.symm.trans l2)) (hb.rel r rz) h
  refine wpAny_call (codeAny_mono go fun r' s' q => ?_)
  have z := out_of hx I r' s' q
  match r', z with
  | .error _, z => exact z
  | .ok (.ret _), z => exact z
theorem pe_methKG {pl : Sem Bool} (he : PE X o ta) (c : Cls X.K C) (hm : Meth X.K C m f) (F : FnG X.prog X.w X.K X.mg X.base CX k f fd ps sp) (hr : Room k X.A) (hc : Calm X.A) (hb : KBn X.K fd ps 1 ks g gV) (hx : Passes CX X E)
    (hkw : PK X kws tk) (hall : (backToKw pos (keywordEach kws X.env)).all (·.1.isSome) = true := by rfl) (hks : (backToKw pos (keywordEach kws X.env)).filterMap (·.1) = ks := by rfl)
    (hpl : ((backTo pos (starEach [] X.env)).any (·.1) || (backToKw pos (keywordEach kws X.env)).any (·.1.isNone)) = false := by rfl)
    (ht : eval (.Call (.Attribute o m apos) [] kws pos) X.env = (eval o X.env >>= fun ov => standAt apos.atName >>= fun _ => holding [ov] (getMethod ov m pl) >>= fun fx =>
      callWith pos fx.1 fx.2 (backTo pos (starEach [] X.env)) (backToKw pos (keywordEach kws X.env))) := by rfl) :
    PE X (.Call (.Attribute o m apos) [] kws pos) (tMethK C m sp ks.length gV E ta tk) := by
  constructor
  intro pins s σ H Q I h
  refine PySem.W.methodCall_KW (pl := pl) (thn (he.run pins s σ H _ I h) ?_) ht
  rintro u s1 ⟨_, H1, I1, rx, a, dx, fs, rfl, ea, l, q⟩
  obtain rfl : u = .ref a := rx
  refine getmeth_ok I1 ea c hm l (PySem.W.callWith_KW0 (first := [.ref a]) (h₀ := X.base) I.ok.mod.kin hm.kp hall (thn (hkw.run pos pins s1 σ H1 _ I1 q) ?_) hpl)
  rintro ws s2 ⟨zs, H2, I2, rz, l2, q2⟩
  refine ⟨I2.kIn, ?_⟩
  rw [hks]
  exact runKG (us := [.ref a]) (vs := [.ref a]) F hr hc hb hx I2 (.cons rfl .nil) rz rfl l2 q2

/-- a new instance, then its __init__ with what binds -/
theorem makeG {pins : List (Addr × Obj)} {σ : L2.St} {H : Hp} {s : Shared} {Q : VK} {us : List Value} {kw : List (Str × Value)} {all : List Value} {av : Addr → List V} (M : Mk X.K C f) (F : FnG X.prog X.w X.K X.mg X.base CX k f fd ps sp) (hr : Room (k + 1) X.A) (hc : Calm X.A)
    (hx : Passes CX X E) (I : Inv X pins σ H s)
    (hb : ∀ s' : Shared, X.K.In s'.heap → BindsTo s' fd ⟨.ref (s.heap.objs.size + 1) :: us, kw⟩ (ps.zip all)) (r : Vals (av (s.heap.objs.size + 1)) all)
    (h : ∀ x dx, H x = none → H dx = none → dx ≠ x → sp (av x) (upd (upd H dx (.own x)) x (.ins C dx [])) (fun v H2 => v = .non ∧ Q (.ref x) H2) E) :
    wpAny (model X.prog X.w) X.A (call (.ref C) us kw) (EP X pins σ Q) X.xe s := by
  have q0 := h (s.heap.objs.size + 1) s.heap.objs.size (I.hok.fresh (Nat.le_succ _)) (I.hok.fresh (Nat.le_refl _)) (Nat.ne_of_lt (Nat.lt_succ_self _))
  have J := Inv.made (C := C) I
  have go := F.run _ X.stack _ _ ⟨Value.ref (s.heap.objs.size + 1) :: us, kw⟩ all _ _ E (hr.make C us kw) (hc.make C us kw) (J.env0.make C us kw) (hb _ J.kIn) r q0
  refine wpAny_call (make_map (f := f) I.kIn M.makes M.init (beq_iff_eq.mp M.fn) (codeAny_mono go fun r' s' q => ?_))
  match r', q with
  | .error e, q => exact hx pins σ _ _ e s' J q
  | .ok (.ret u), q =>
    obtain ⟨v, H', I3, rv, ev, q3⟩ := J.after q
    cases ev
    exact ⟨rv, ⟨V.ref (s.heap.objs.size + 1), H', I3, rfl, q3⟩⟩
theorem pe_makeG (M : Mk X.K C f) (F : FnG X.prog X.w X.K X.mg X.base CX k f fd ps sp) (hr : Room (k + 1) X.A) (hc : Calm X.A) (hg : Gl X x) (hm : X.mg x = some (.ref C)) (hb : Binds X.K fd ps ds) (hd : Vals dvs ds) (hx : Passes CX X E)
    (ha : PA X (e :: es) t) (hdb : (x == ("__debug__" : Str)) = false := by decide) (he : starEach (e :: es) X.env = (false, eval e X.env) :: starEach es X.env := by rfl) (hpl : (backTo pos (starEach es X.env)).any (·.1) = false := by rfl) :
    PE X (.Call (.Name x p) (e :: es) [] pos) (tMake C sp dvs E t) := by
  constructor
  intro pins s σ H Q I h
  refine wpAny_Call_Name_kw (ld_glob I hg hm (PySem.W.callWith_K (h₀ := X.base) I.ok.mod.kin M.kp (thn (ha.run pos pins s σ H _ I h) ?_) he hpl) hdb)
  rintro us s1 ⟨vs, H1, I1, r, q⟩
  have r2 : Vals (V.ref (s1.heap.objs.size + 1) :: (vs ++ dvs)) (Value.ref (s1.heap.objs.size + 1) :: (us ++ ds)) := .cons rfl (Vals.append r hd)
  have q0 := q (s1.heap.objs.size + 1) s1.heap.objs.size (I1.hok.fresh (Nat.le_succ _)) (I1.hok.fresh (Nat.le_refl _)) (Nat.ne_of_lt (Nat.lt_succ_self _))
  exact ⟨I1.kIn, makeG (av := fun x => .ref x :: (vs ++ dvs)) M F hr hc hx I1 (fun s' X' => hb s' (Value.ref (s1.heap.objs.size + 1) :: us) X' (r2.length.symm.trans (F.len _ _ _ _ q0))) r2 q⟩
theorem pe_makeKG0 (M : Mk X.K C f) (F : FnG X.prog X.w X.K X.mg X.base CX k f fd ps sp) (hr : Room (k + 1) X.A) (hc : Calm X.A) (hg : Gl X x) (hm : X.mg x = some (.ref C)) (hb : KBn X.K fd ps 1 ks g gV) (hx : Passes CX X E) (hkw : PK X kws tk)
    (hall : (backToKw pos (keywordEach kws X.env)).all (·.1.isSome) = true := by rfl) (hks : (backToKw pos (keywordEach kws X.env)).filterMap (·.1) = ks := by rfl) (hdb : (x == ("__debug__" : Str)) = false := by decide)
    (hpl : ((backTo pos (starEach [] X.env)).any (·.1) || (backToKw pos (keywordEach kws X.env)).any (·.1.isNone)) = false := by rfl) :
    PE X (.Call (.Name x p) [] kws pos) (tMakeK C 0 ks.length sp gV E tNil tk) := by
  constructor
  intro pins s σ H Q I h
  refine wpAny_Call_Name_kw (ld_glob I hg hm (PySem.W.callWith_KW0 (h₀ := X.base) I.ok.mod.kin M.kp hall (thn (hkw.run pos pins s σ H _ I h) ?_) hpl) hdb)
  rintro ws s2 ⟨zs, H2, I2, rz, _, l2, q2⟩
  refine ⟨I2.kIn, ?_⟩
  rw [hks]
  exact makeG (av := fun x => gV [.ref x] zs) M F hr hc hx I2 (fun s' X' => hb.to s' [Value.ref (s2.heap.objs.size + 1)] ws X' rfl (rz.length.symm.trans l2)) (hb.rel (.cons rfl .nil) rz) q2

/-- repr of what reads as data -/
theorem call_reprD (hc : Calm X.A) (hu : X.A.units + 100 < cLine) : CallR X (.builtin "repr") (fun xs H Q => ∃ (a : Addr) (d : PyData), xs = [.ref a] ∧ Dp X.K H (.ref a) d ∧ d.showable = true ∧ d.hasDict = false ∧ d.depth ≤ 64 ∧ d.shown.length ≤ sizeLine ∧ Q (.str d.shown) H) := by
  intro pins s σ H xs us Q I r h
  obtain ⟨a, d, rfl, hd, hs, hn, hdp, hz, q⟩ := h
  obtain ⟨as, rd⟩ := Dp.reads I d (.ref a) (.ref a) hd rfl
  rw [Vals.ref1 r]
  exact repr_of_reads' rd hs (PyData.noDict_hsm hn) hc (by omega) (fun _ _ e => e) (fun h' u tk hk => ⟨.str _, H, I.kept hk, ⟨_, rfl⟩, q⟩) hz
end

section
variable {P : Program} {w : World} {K : PySem.W.Frag} {mg : Str → Option Value} {base : Heap}
/-- a def's promise, by its body: whatever its defaults -/
theorem okR {x qual : Str} {params : Arguments} {body : List Stmt} {scope : Scope} {dV kV doc pm cdv ct oc : Value} {an od : Option Addr} {osl : Array (Option Value)} {f : Addr} {N ps : List Str} {k : Nat} {sp : Sp}
    (lk : K.lookup f = some ⟨oc, od, .func (PySem.W.fnOf x qual params body scope dV kV doc pm an cdv ct), osl⟩) (code : PySem.W.codeIn K cdv qual = true) (S : FnScope N ps scope) (len : ∀ vs H Q E, sp vs H Q E → vs.length = ps.length)
    (walk : ∀ (cdv : Value) (A : Around) (outer : List Env) (s : Shared) (H : Hp) (vs : List V) (Q : VK) (E : XK), Room k (A.deeper (envOfC qual scope s.heap.objs.size f cdv)) → Calm (A.deeper (envOfC qual scope s.heap.objs.size f cdv)) → sp vs H Q E →
      ∃ t, PSs (cxOf CX0 P w K mg base N qual scope f cdv A outer s H E).nox body t ∧ t { nx := fun _ H' => Q .non H', rt := Q } (start N vs) H) : FnG P w K mg base CX0 (k + 1) f (PySem.W.fnOf x qual params body scope dV kV doc pm an cdv ct) ps sp := by
  refine ⟨len, ?_⟩
  intro A outer s H args us vs Q E room calm e0 bnd rel want
  have long := len _ _ _ _ want
  have up : ∀ b o, base.get? b = some o → s.heap.get? b = some o := fun b o e => (e0.bs b o e).1
  have kin : K.In s.heap := e0.mod.kin.keeps up
  have lim : s.heap.NoLimit := e0.mod.nolimit.keeps up
  have kinds : ∀ y ∈ ps.zip us, scope.names.lookup y.1 = some .local ∨ (scope.names.lookup y.1 = some .cell ∧ ((cellsFrom (s.heap.objs.size + 1) scope.names []).lookup y.1).isSome = true) := by
    rintro ⟨n, v⟩ hy
    exact (S.par n (List.of_mem_zip hy).1).imp id fun q => ⟨q, PySem.W.cellsFrom_some _ _ _ (.inl q)⟩
  refine codeAny_call_function room.depth (kin _ _ lk) rfl S.co S.gen rfl (PySem.W.codeRec_of kin code) (bnd _ _ _ _ (wpAny_newFunctionEnv_cells S.kind kinds ?_))
  rintro env rfl s1 x
  obtain ⟨t, deriv, reads⟩ := walk cdv A outer s H vs Q E (room.deeper _) (calm.deeper _) want
  have I : Inv (cxOf CX0 P w K mg base N qual scope f cdv A outer s H E) [] (start N vs) H s1 := inv_start S room.hd e0 long rel x
  refine ⟨lim.keeps x.toInCall.keep, codeAny_func (wpAny_mono (deriv.nox.run [] s1 (start N vs) H _ I reads) ?_ fun _ _ z => z)⟩
  intro fl s' hs
  match fl, hs with
  | .ret u, ⟨v, _, H', J, rv, q⟩ => exact ⟨v, H', J.os, J.bare, J.base, J.hok, rv, q⟩
  | .next, ⟨_, H', J, q⟩ => exact ⟨V.non, H', J.os, J.bare, J.base, J.hok, rfl, q⟩
  | .brk, ⟨_, _, _, q⟩ => exact q.elim
  | .cont, ⟨_, _, _, q⟩ => exact q.elim

theorem okG {x qual : Str} {st : Stmt} {f : Addr} {fd : FuncData} {N ps : List Str} {k : Nat} {sp : Sp} (F : Fun K x qual st f fd) (S : FnScope N ps (defScope st)) (len : ∀ vs H Q E, sp vs H Q E → vs.length = ps.length)
    (walk : ∀ (cdv : Value) (A : Around) (outer : List Env) (s : Shared) (H : Hp) (vs : List V) (Q : VK) (E : XK), Room k (A.deeper (envOfC qual (defScope st) s.heap.objs.size f cdv)) → Calm (A.deeper (envOfC qual (defScope st) s.heap.objs.size f cdv)) → sp vs H Q E →
      ∃ t, PSs (cxOf CX0 P w K mg base N qual (defScope st) f cdv A outer s H E).nox (defBody st) t ∧ t { nx := fun _ H' => Q .non H', rt := Q } (start N vs) H) : FnG P w K mg base CX0 (k + 1) f fd ps sp := by
  obtain ⟨oc, od, kV, doc, pm, an, cdv, ct, osl, rfl, lk, code⟩ := F.ex
  exact okR lk code S len walk
theorem okD {x qual : Str} {st : Stmt} {dvs : List V} {kws : List (Str × V)} {f : Addr} {fd : FuncData} {N ps : List Str} {k : Nat} {sp : Sp} (F : FunD K x qual (defArgs st) (defBody st) (defScope st) dvs kws f fd) (S : FnScope N ps (defScope st)) (len : ∀ vs H Q E, sp vs H Q E → vs.length = ps.length)
    (walk : ∀ (cdv : Value) (A : Around) (outer : List Env) (s : Shared) (H : Hp) (vs : List V) (Q : VK) (E : XK), Room k (A.deeper (envOfC qual (defScope st) s.heap.objs.size f cdv)) → Calm (A.deeper (envOfC qual (defScope st) s.heap.objs.size f cdv)) → sp vs H Q E →
      ∃ t, PSs (cxOf CX0 P w K mg base N qual (defScope st) f cdv A outer s H E).nox (defBody st) t ∧ t { nx := fun _ H' => Q .non H', rt := Q } (start N vs) H) : FnG P w K mg base CX0 (k + 1) f fd ps sp := by
  obtain ⟨oc, od, dV, kV, doc, pm, an, cdv, ct, osl, rfl, lk, code, _, _⟩ := F.ex
  exact okR lk code S len walk

/-- the law's call, where the caller guards nothing -/
theorem lawG {mb : Str → Option Value} {k : Nat} {fa a : Addr} {fd : FuncData} {x : Str} {sp : Sp} {s₁ : Shared} {vs : List Value} {ns : List Int}
    (KX : K.In s₁.heap) (hns : s₁.heap.Ns mainGlobals mg) (hb : s₁.heap.Ns builtinsNs mb) (hbb : ∀ x : Str, x ≠ "__name__" → mb x = bootBuiltins x) (hlim : s₁.heap.NoLimit) (hg : s₁.gens = #[])
    (ha : s₁.heap.get? a = some { cls := .type "list", data := .seq vs.toArray }) (hi : IntsAre vs ns) (hl : ns.length ≤ sizeLine) (hr : Room k callerA)
    (F : ∀ base : Heap, K.In base → base.Ns mainGlobals mg → FnG P w K mg base CX0 k fa fd [x] sp) (hbind : ∀ (s : Shared) (u : Value), BindsTo s fd ⟨[u], []⟩ [(x, u)])
    (hsp : ∀ H : Hp, Only H → SqL K H a (ns.map V.int) → sp [.ref a] H (fun v _ => v = .bl true) fun _ _ _ => False) :
    codeAny (model P w) callerA (.call (.ref fa) ⟨[.ref a], []⟩) (fun r s' => r = .ok (.ret (.bool true)) ∧ OldK s₁.heap s'.heap ∧ s'.os = s₁.os ∧ AllBare s'.gens) s₁ := by
  have rel := vals_ints hi
  have core : ∀ H : Hp, Only H → SqL K H a (ns.map V.int) → HOk P w H s₁.heap → (∀ b, H b ≠ none → b = a) → (H a ≠ none → K.lookup a = none) →
      codeAny (model P w) callerA (.call (.ref fa) ⟨[.ref a], []⟩) (fun r s' => r = .ok (.ret (.bool true)) ∧ OldK s₁.heap s'.heap ∧ s'.os = s₁.os ∧ AllBare s'.gens) s₁ := by
    intro H only sq hok alone free
    have off : ∀ {b : Addr}, b ≠ a → H b = none := fun {b} ne => Classical.byContradiction fun z => ne (alone b z)
    have dictOff : ∀ {b : Addr} {o : Obj} {es : Array DictEntry} {ep : Nat}, s₁.heap.get? b = some o → o.data = .dict es ep → H b = none := by
      intro b o es ep e d
      refine off fun eq => ?_
      rw [eq, ha] at e
      cases e
      exact Data.noConfusion d
    have nsK : ∀ {b : Addr} {m : Str → Option Value}, s₁.heap.Ns b m → (hidT s₁.heap H).Ns b m := by
      rintro b m ⟨o, es, ep, e, d, r⟩
      exact ⟨o, es, ep, hidT_get e (dictOff e d), d, r⟩
    have kb : K.In (hidT s₁.heap H) := by
      intro b o e
      refine hidT_get (KX b o e) (Classical.byContradiction fun z => ?_)
      have eq := alone b z
      rw [eq] at z e
      rw [free z] at e
      cases e
    have md : Mod K mg (hidT s₁.heap H) := ⟨kb, nsK hns, ⟨mb, nsK hb, hbb⟩, let ⟨mc, h1, h2⟩ := hlim; ⟨mc, nsK h1, h2⟩⟩
    have e0 : Env0 P w K mg (hidT s₁.heap H) callerA [] s₁ H := ⟨rfl, md, fun b o e => of_hidT e, Nat.le_of_eq (hidT_size _ _), trivial, (fun b z => nomatch z), hok, .of_eq hg⟩
    have go := (F _ kb (nsK hns)).run callerA [] s₁ H ⟨[.ref a], []⟩ [.ref a] [.ref a] _ _ hr rfl e0 (hbind s₁ (.ref a)) (.cons rfl .nil) (hsp H only sq)
    refine codeAny_mono go fun r s' h => ?_
    match r, h with
    | .ok (.ret u), ⟨v, H', os, bare, un, hok', r', q⟩ =>
      have q' : v = .bl true := q
      subst q'
      obtain rfl : u = Value.bool true := r'
      refine ⟨rfl, OldK.of_keep fun b o e => ?_, os, bare⟩
      rcases only b with z | ⟨ob, xs, z⟩
      · exact un.keep b o e z (fun y => nomatch y) (fun y => nomatch y)
      · obtain ⟨e1, _⟩ := hok b _ z
        obtain ⟨e2, _⟩ := hok' b _ (un.frzs b ob _ z)
        exact e.symm.trans e1 ▸ e2
  have lenV := hi.length
  cases hk : K.lookup a with
  | some o =>
    have e := ha.symm.trans (KX a o hk)
    cases e
    exact core (fun _ => none) (fun _ => .inl rfl) (.inr ⟨_, vs.toArray, _, hk, rfl, rfl, rfl, by rw [List.size_toArray, lenV]; exact hl, by simpa using rel⟩) (fun b u z => nomatch z) (fun b z => absurd rfl z) fun z => absurd rfl z
  | none =>
    have at_ : ∀ b, (if b = a then some (HO.frz { cls := .type "list", data := .seq vs.toArray } (.lst (ns.map V.int))) else none) ≠ none → b = a := fun b z => Classical.byContradiction fun y => z (if_neg y)
    refine core (fun b => if b = a then some (.frz { cls := .type "list", data := .seq vs.toArray } (.lst (ns.map V.int))) else none) (fun b => ?_) (.inl (.inr ⟨{ cls := .type "list", data := .seq vs.toArray }, if_pos rfl⟩)) (fun b u z => ?_) at_ fun _ => hk
    · by_cases hb : b = a
      · exact .inr ⟨_, _, if_pos hb⟩
      · exact .inl (if_neg hb)
    · have eb : b = a := at_ b (fun y => nomatch (y.symm.trans z))
      subst eb
      have z' := (if_pos rfl).symm.trans z
      cases z'
      exact ⟨ha, by rw [List.length_map]; exact hl, vs, _, rel, ha⟩
end
theorem walkG {l : PySem.W.OpenLaw} {n k : Nat} {q : Program} {loose : List Str} {XP : (Str → Option Value) → Heap → Prop} {YP : World → Heap → Prop} {d : DefRec} {K : Params → PySem.W.Frag} {sp : PySem.W.Frag → Sp} {x : Str}
    (hn : l.most = some n) (hn2 : n ≤ sizeLine) (hdf : d.params.defaults = []) (hr : Room k callerA)
    (hY : ∀ (w : World) (h : Heap), YP w h → (K w.params).In h)
    (F : ∀ (w : World) (mg : Str → Option Value) (fa : Addr) (h : Heap), (K w.params).In h → h.Ns mainGlobals mg → mg d.name = some (.ref fa) →
      ∃ fd : FuncData, (∀ (s : Shared) (u : Value), BindsTo s fd ⟨[u], []⟩ [(x, u)]) ∧
        ∀ base : Heap, (K w.params).In base → base.Ns mainGlobals mg → FnG l.prog w (K w.params) mg base CX0 k fa fd [x] (sp (K w.params)))
    (hsp : ∀ (K : PySem.W.Frag) (H : Hp) (a : Addr) (ns : List Int), ns.length ≤ n → Only H → SqL K H a (ns.map V.int) → sp K [.ref a] H (fun v _ => v = .bl true) fun _ _ _ => False) :
    PySem.W.WalkO q loose XP YP l.row.toRowW d [] (fun f vs => PySem.call f vs) := by
  refine Att.attach_call hn hdf ?_
  intro w s₀ s₁ mg mb fa o pm cd doc a vs ns G Y ho hd hcd hmg hobj hints hlen hg
  obtain ⟨fd, hb, hF⟩ := F w mg fa _ (hY w _ Y) G.T.g hmg
  exact lawG (hY w _ Y) G.T.g G.T.b G.T.builtins G.T.nolimit hg hobj hints (Nat.le_trans hlen hn2) hr hF hb fun H o s => hsp _ H a ns hlen o s
end GL
namespace GL
open PySem PySem.Spec PyProof.Rows L2
section
variable {K : PySem.W.Frag} {H H' : Hp}
theorem dpa_ints : ∀ ns : List Int, DpAll K H (ns.map V.int) (ns.map PyData.int)
  | [] => .nil
  | n :: r => .cons (.int n) (dpa_ints r)
theorem dpa_strs : ∀ ns : List Str, DpAll K H (ns.map V.str) (ns.map PyData.str)
  | [] => .nil
  | n :: r => .cons (.str n) (dpa_strs r)
theorem dpa_bls : ∀ ns : List Bool, DpAll K H (ns.map V.bl) (ns.map PyData.bool)
  | [] => .nil
  | n :: r => .cons (.bl n) (dpa_bls r)
theorem lay_ints : ∀ ns : List Int, PyData.canLayAll0 (ns.map PyData.int) = true
  | [] => rfl
  | n :: r => by
    show (PyData.canLay0 (.int n) && PyData.canLayAll0 (r.map PyData.int)) = true
    rw [lay_ints r]; rfl
theorem depth_ints : ∀ ns : List Int, PyData.depthAll (ns.map PyData.int) = 0
  | [] => rfl
  | n :: r => by
    show max (PyData.depth (.int n)) (PyData.depthAll (r.map PyData.int)) = 0
    rw [depth_ints r]; rfl
theorem depth_strs : ∀ ns : List Str, PyData.depthAll (ns.map PyData.str) = 0
  | [] => rfl
  | n :: r => by
    show max (PyData.depth (.str n)) (PyData.depthAll (r.map PyData.str)) = 0
    rw [depth_strs r]; rfl
theorem shaped_ints (ns : List Int) : SeqAt.shaped (.list (ns.map PyData.int)) = true := by
  unfold SeqAt.shaped
  rw [show PyData.canLay0 (.list (ns.map PyData.int)) = PyData.canLayAll0 (ns.map PyData.int) from rfl, lay_ints ns]
  rw [show PyData.depth (.list (ns.map PyData.int)) = PyData.depthAll (ns.map PyData.int) + 1 from rfl, depth_ints ns]
  rfl
theorem eqv_ints_nil : ∀ ns : List Int, PyData.eqv (.list (ns.map PyData.int)) (.list []) = decide (ns = [])
  | [] => rfl
  | n :: r => by
    rw [decide_eq_false (show ¬ (n :: r = []) from List.cons_ne_nil n r)]
    rfl

/-! ### what stays -/
theorem Same.new {p : Addr} {o : HO} (h : H p = none) : Same H (upd H p o) := fun b u e => by
  rw [upd_ne (ne_of_none e h)]; exact e
theorem Same.tup {a : Addr} {xs : List V} (e : Same H H') (h : SqT K H a xs) : SqT K H' a xs := by
  rcases h with (h | ⟨o, h⟩) | h
  · exact .inl (.inl (e _ _ h))
  · exact .inl (.inr ⟨o, e _ _ h⟩)
  · exact .inr h
theorem tofT {a : Addr} {xs : List V} (h : H a = some (.tup xs)) : SqT K H a xs := .inl (.inl h)
theorem tofL {a : Addr} {xs : List V} (h : H a = some (.lst xs)) : SqL K H a xs := .inl (.inl h)
theorem small {n : Nat} (h : n ≤ 100000) : n ≤ sizeLine := Nat.le_trans h (by decide)
theorem smallt {n : Nat} (h : n < 100000) : n < sizeLine := Nat.lt_of_lt_of_le h (by decide)

/-! ### the deck of the laws: a dict of a list of ints and an int -/
def deckD (g : Addr) (m : Int) : List (Key × V) := [(Sum.inr "great", .ref g), (Sum.inr "mixed", .int m)]
theorem gm0 : ¬ (("great" : Str) = "mixed") := by decide +kernel
theorem gm : ¬ ((Sum.inr ("great" : Str) : Key) = (Sum.inr ("mixed" : Str) : Key)) := by
  intro e
  injection e with e1
  exact gm0 e1
theorem deck_great (g : Addr) (m : Int) : valV (deckD g m) (Sum.inr "great" : Key) = some (.ref g) := valV_pos rfl
theorem deck_mixed (g : Addr) (m : Int) : valV (deckD g m) (Sum.inr "mixed" : Key) = some (.int m) := by
  unfold deckD
  rw [valV_neg gm, valV_pos rfl]
theorem deck_put (g : Addr) (m m' : Int) : putK (deckD g m) (Sum.inr "mixed" : Key) (.int m') = deckD g m' := by
  unfold putK deckD
  simp only [List.any_cons, List.any_nil, List.map_cons, List.map_nil, decide_eq_false gm, decide_true, Bool.or_true, Bool.false_or, Bool.or_false, if_true]
  rw [if_neg gm]
/-- all but the deck stays -/
structure Mv (d g : Addr) (H H' : Hp) : Prop where
  keep : ∀ b o, H b = some o → b ≠ d → b ≠ g → H' b = some o
structure Deck (H : Hp) (d g : Addr) : Prop where
  ex : ∃ (m : Int) (L : List Int), H d = some (.dK (deckD g m)) ∧ H g = some (.lst (L.map V.int)) ∧ L.length ≤ 63 ∧ 0 ≤ m ∧ m < 2147483587
theorem Deck.ne {d g : Addr} (D : Deck H d g) : d ≠ g := by
  obtain ⟨m, L, h1, h2, _⟩ := D.ex
  exact ne_of h1 h2 (fun z => nomatch z)
theorem Deck.same {d g : Addr} (D : Deck H d g) (s : Same H H') : Deck H' d g := by
  obtain ⟨m, L, h1, h2, r⟩ := D.ex
  exact ⟨⟨m, L, s _ _ h1, s _ _ h2, r⟩⟩
theorem Mv.refl {d g : Addr} : Mv d g H H := ⟨fun _ _ h _ _ => h⟩
theorem Mv.trans {d g : Addr} {H1 H2 H3 : Hp} (a : Mv d g H1 H2) (b : Mv d g H2 H3) : Mv d g H1 H3 := ⟨fun p o h n1 n2 => b.keep p o (a.keep p o h n1 n2) n1 n2⟩
theorem Mv.of {d g : Addr} (s : Same H H') : Mv d g H H' := ⟨fun p o h _ _ => s p o h⟩
theorem Mv.at {d g a : Addr} {o : HO} (m : Mv d g H H') (h : H a = some o) (n : a ≠ d ∧ a ≠ g) : H' a = some o := m.keep _ _ h n.1 n.2
/-- what is new stands apart from the deck -/
theorem Deck.off {d g p : Addr} (D : Deck H d g) (h : H p = none) : p ≠ d ∧ p ≠ g := by
  obtain ⟨m, L, h1, h2, r⟩ := D.ex
  exact ⟨(ne_of_none h1 h).symm, (ne_of_none h2 h).symm⟩
theorem Deck.new {d g p : Addr} {o : HO} (D : Deck H d g) (h : H p = none) : Deck (upd H p o) d g := D.same (Same.new h)
/-- what was new before is new or ours -/
theorem Mv.free {d g p : Addr} (D : Deck H d g) (m : Mv d g H H') (D' : Deck H' d g) (h : H' p = none) : H p = none := by
  have n := D'.off h
  cases e : H p with
  | none => rfl
  | some o => rw [m.keep p o e n.1 n.2] at h; cases h
/-- a change of what was not there -/
theorem Mv.mut {d g p : Addr} {o : HO} (m : Mv d g H H') (h : H p = none) : Mv d g H (upd H' p o) := ⟨fun b u hb n1 n2 => by
  rw [upd_ne (ne_of_none hb h)]
  exact m.keep b u hb n1 n2⟩
theorem Deck.mut {d g p : Addr} {o : HO} (D : Deck H d g) (n : p ≠ d ∧ p ≠ g) : Deck (upd H p o) d g := by
  obtain ⟨m, L, h1, h2, r⟩ := D.ex
  exact ⟨⟨m, L, by rw [upd_ne n.1.symm]; exact h1, by rw [upd_ne n.2.symm]; exact h2, r⟩⟩
def spDraw : Sp := fun vs H Q _ => ∃ (d g : Addr) (n : Int), vs = [.ref d, .int n] ∧ Deck H d g ∧ 0 < n ∧ n < 2 ^ 250 ∧
  ∀ (r : Int) (H' : Hp), 0 ≤ r → r < n → Deck H' d g → Mv d g H H' → Q (.int r) H'
end
def spPickL : Sp := fun vs H Q _ => ∃ (d g a : Addr) (xs : List V), vs = [.ref d, .ref a] ∧ Deck H d g ∧ H a = some (.lst xs) ∧ a ≠ g ∧ xs ≠ [] ∧ xs.length ≤ 1000 ∧
  ∀ (x : V) (H' : Hp), x ∈ xs → Deck H' d g → Mv d g H H' → Q x H'
def spPickS : Sp := fun vs H Q _ => ∃ (d g : Addr) (z : Str), vs = [.ref d, .str z] ∧ Deck H d g ∧ z.cps.toList ≠ [] ∧ z.length ≤ 1000 ∧
  ∀ (c : Nat) (H' : Hp), c ∈ z.cps.toList → Deck H' d g → Mv d g H H' → Q (.str ⟨#[c]⟩) H'
theorem at_in {α : Type} {xs : List α} {r : Int} (h0 : 0 ≤ r) (h1 : r < xs.length) : ∃ x, x ∈ xs ∧ atI xs r = some x := by
  obtain ⟨j, rfl⟩ : ∃ j : Nat, r = (j : Int) := ⟨r.toNat, by omega⟩
  have hj : j < xs.length := by omega
  exact ⟨xs[j], List.getElem_mem hj, atI_nat (List.getElem?_eq_getElem hj)⟩
theorem str_len (z : Str) : z.length = z.cps.toList.length := by
  rw [Array.length_toList]; rfl
theorem pop_at (L : List Int) (c : Int) : ((L ++ [c]).map V.int)[((L ++ [c]).map V.int).length - 1]? = some (.int c) := by
  rw [List.map_append, List.map_singleton, List.length_append, List.length_singleton, Nat.add_sub_cancel, List.getElem?_append_right (Nat.le_refl _), Nat.sub_self]
  rfl
theorem pop_left (L : List Int) (c : Int) : ((L ++ [c]).map V.int).dropLast = L.map V.int := by
  rw [List.map_append, List.map_singleton, List.dropLast_concat]
theorem snoc_of {L : List Int} (h : L ≠ []) : ∃ L0 c, L = L0 ++ [c] := ⟨L.dropLast, L.getLast h, (List.dropLast_concat_getLast h).symm⟩
theorem mul_small {i j : Int} (h0 : 0 ≤ i) (h1 : i < 2 ^ 64) : CMul i j := .inl ⟨by omega, h1⟩
theorem mul_smallR {i j : Int} (h0 : 0 ≤ j) (h1 : j < 2 ^ 64) : CMul i j := .inr ⟨by omega, h1⟩
theorem ty_l {K : PySem.W.Frag} {H : Hp} {a : Addr} {xs : List V} (h : SqL K H a xs) : tyV K "list" (.ref a) H := Or.inl ⟨rfl, xs, h⟩
theorem lt_c {a b : Int} (h : a < b) : a < b := h
theorem def_mk {P : Program} {w : World} {K : PySem.W.Frag} {mg : Str → Option Value} {base : Heap} {k : Nat} {x : Str} {st : Stmt} {f : Addr} {fd : FuncData} {ps : List Str} {sp : Sp} (F : Fun K x x st f fd) (gl : mg x = some (.ref f)) (b : Binds K fd ps []) (h : FnG P w K mg base CX0 k f fd ps sp) : DefG P w K mg base k x ps sp :=
  ⟨⟨f, fd, h, gl, F.kp, b⟩⟩
end GL
namespace GL
open PySem PySem.Spec PyProof.Rows L2 RZ
theorem truth_intsG {prog : Program} {w : World} {A : Around} {ns : List Int} {its : List Value} (r : Vals (ns.map V.int) its) :
    TruthOf prog w A (fun i v => its.toArray[i]? = some v) (fun i => (ns.map fun n => n != 0).getD i false) := by
  intro i v s Q E hv hq
  have hv' : its[i]? = some v := by simpa using hv
  have li : i < ns.length := by
    have := (List.getElem?_eq_some_iff.mp hv').1
    have e := r.length
    rw [List.length_map] at e
    omega
  have e1 : (ns.map V.int)[i]? = some (.int ns[i]) := by rw [List.getElem?_map, List.getElem?_eq_getElem li]; rfl
  obtain ⟨u, hu, ru⟩ := r.get e1
  rw [hv'] at hu
  cases hu
  obtain ⟨t, rfl⟩ := ru
  have hg : (ns.map fun n => n != 0).getD i false = (ns[i] != 0) := by
    rw [List.getD_eq_getElem?_getD, List.getElem?_map, List.getElem?_eq_getElem li]; rfl
  have hq' : Q ((ns.map fun n => n != 0).getD i false) s := hq
  rw [hg] at hq'
  exact PySem.P.truthy_int hq'
section
variable {X : Cx}
theorem walk_zipT {K : PySem.W.Frag} {a b : Addr} {xs ys : List V} {n : Nat} (hn : n = min xs.length ys.length) : Walk (ItzT K a b) n (fun H => SqT K H a xs ∧ SqT K H b ys) (YPair (fun i => xs[i]?) (fun i => ys[i]?)) where
  goes := fun i H hi h => ⟨xs, ys, xs[i]'(by omega), ys[i]'(by omega), h.1, h.2, List.getElem?_eq_getElem _, List.getElem?_eq_getElem _⟩
  stops := fun H h => ⟨xs, ys, h.1, h.2, by omega⟩
  yields := fun i H x H' _ h y => by
    obtain ⟨T, u, v, e1, e2, e3, f1, f2⟩ := y
    exact ⟨T, u, v, e1, e2, e3, f1 _ h.1, f2 _ h.2⟩
theorem op_inK {K : PySem.W.Frag} (h : X.K = K := by rfl) : OpR X (compareOp .In) (rIn K false) := h ▸ op_in_seq
theorem op_notInK {K : PySem.W.Frag} (h : X.K = K := by rfl) : OpR X (compareOp .NotIn) (rIn K true) := h ▸ op_notIn_seq
/-- any of a list of ints -/
def rAnyI (K : PySem.W.Frag) : List V → Hp → VK → Prop := fun vs H Q => ∃ (a : Addr) (ns : List Int), vs = [V.ref a] ∧ SqL K H a (ns.map V.int) ∧ Q (.bl (ns.any fun n => n != 0)) H
theorem cr_anyI (calm : X.calm = true) : CallR X (.builtin "any") (rAnyI X.K) := by
  intro pins s σ H vs us Q I r h
  obtain ⟨a, ns, rfl, hs, q⟩ := h
  obtain ⟨its, rv, hl, _⟩ := I.list hs
  have en : its.length = ns.length := by rw [← rv.length, List.length_map]
  rw [Vals.ref1 r]
  refine call_any_walk (iter_any hl.isList ?_)
  rintro s₂ rfl st hne
  refine ⟨_, _, _, _, _, _, _, rfl, Walks.list (A := X.A.in1) (I.ok.hd calm) _ a hne its.toArray, st, truth_intsG rv, ?_⟩
  intro h' tk hk
  refine ⟨.bl _, H, I.kept (fun b o eo => hk b o (fun hm => ?_) (Heap.get?_push_of_some _ eo)), ?_, q⟩
  · rcases List.mem_cons.mp hm with e1 | hm
    · exact absurd (e1 ▸ Heap.lt_size eo) (Nat.lt_irrefl _)
    · cases hm
  · have ea := any_range (ns.map fun n => n != 0)
    rw [List.length_map] at ea
    show Value.bool _ = Value.bool _
    rw [List.size_toArray, en, ea, List.any_map]
    rfl
end

/-! ### data that may be shown: at most B signs, at most k deep -/
structure Nice (B k : Nat) (d : PyData) : Prop where
  sh : d.showable = true
  nd : d.hasDict = false
  dp : d.depth ≤ k
  sz : d.shown.length ≤ B
theorem Nice.mono {B B' k k' : Nat} {d : PyData} (h : Nice B k d) (hb : B ≤ B') (hk : k ≤ k') : Nice B' k' d := ⟨h.sh, h.nd, Nat.le_trans h.dp hk, Nat.le_trans h.sz hb⟩
theorem shownAll_len : ∀ ds : List PyData, (PyData.shownAll ds).length = ds.length
  | [] => rfl
  | d :: r => by
    show (PyData.shownAll r).length + 1 = r.length + 1
    rw [shownAll_len r]
theorem shownAll_sum {B : Nat} : ∀ ds : List PyData, (∀ d ∈ ds, d.shown.length ≤ B) → ((PyData.shownAll ds).map (·.length)).sum ≤ ds.length * B
  | [], _ => by simp [PyData.shownAll]
  | d :: r, h => by
    have ih := shownAll_sum (B := B) r fun x hx => h x (List.mem_cons_of_mem _ hx)
    have h1 := h d List.mem_cons_self
    show ((d.shown :: PyData.shownAll r).map (·.length)).sum ≤ (r.length + 1) * B
    rw [List.map_cons, List.sum_cons, Nat.succ_mul]
    omega
theorem showableAll_of : ∀ ds : List PyData, (∀ d ∈ ds, d.showable = true) → PyData.showableAll ds = true
  | [], _ => rfl
  | d :: r, h => by
    show (d.showable && PyData.showableAll r) = true
    rw [h d List.mem_cons_self, showableAll_of r fun x hx => h x (List.mem_cons_of_mem _ hx)]; rfl
theorem hasDictAll_of : ∀ ds : List PyData, (∀ d ∈ ds, d.hasDict = false) → PyData.hasDictAll ds = false
  | [], _ => rfl
  | d :: r, h => by
    show (d.hasDict || PyData.hasDictAll r) = false
    rw [h d List.mem_cons_self, hasDictAll_of r fun x hx => h x (List.mem_cons_of_mem _ hx)]; rfl
theorem depthAll_of {k : Nat} : ∀ ds : List PyData, (∀ d ∈ ds, d.depth ≤ k) → PyData.depthAll ds ≤ k
  | [], _ => Nat.zero_le _
  | d :: r, h => by
    show max d.depth (PyData.depthAll r) ≤ k
    have h1 := h d List.mem_cons_self
    have h2 := depthAll_of (k := k) r fun x hx => h x (List.mem_cons_of_mem _ hx)
    omega
theorem Nice.tup {B k n : Nat} {ds : List PyData} (h : ∀ d ∈ ds, Nice B k d) (hn : ds.length ≤ n) : Nice (n * (B + 2) + 3) (k + 1) (.tuple ds) where
  sh := showableAll_of ds fun d hd => (h d hd).sh
  nd := hasDictAll_of ds fun d hd => (h d hd).nd
  dp := by
    show PyData.depthAll ds + 1 ≤ k + 1
    have := depthAll_of ds fun d hd => (h d hd).dp
    omega
  sz := by
    show (tupleText (PyData.shownAll ds)).length ≤ _
    have h1 := tupleText_len_le (PyData.shownAll ds)
    have h2 := shownAll_sum ds fun d hd => (h d hd).sz
    rw [shownAll_len] at h1
    have h3 : ds.length * B + 2 * ds.length ≤ n * (B + 2) := by
      have : ds.length * (B + 2) ≤ n * (B + 2) := Nat.mul_le_mul_right _ hn
      rw [Nat.mul_add] at this
      omega
    omega
theorem Nice.lst {B k n : Nat} {ds : List PyData} (h : ∀ d ∈ ds, Nice B k d) (hn : ds.length ≤ n) : Nice (n * (B + 2) + 3) (k + 1) (.list ds) where
  sh := showableAll_of ds fun d hd => (h d hd).sh
  nd := hasDictAll_of ds fun d hd => (h d hd).nd
  dp := by
    show PyData.depthAll ds + 1 ≤ k + 1
    have := depthAll_of ds fun d hd => (h d hd).dp
    omega
  sz := by
    show (listText (PyData.shownAll ds)).length ≤ _
    have h1 := listText_len_le (PyData.shownAll ds)
    have h2 := shownAll_sum ds fun d hd => (h d hd).sz
    rw [shownAll_len] at h1
    have h3 : ds.length * B + 2 * ds.length ≤ n * (B + 2) := by
      have : ds.length * (B + 2) ≤ n * (B + 2) := Nat.mul_le_mul_right _ hn
      rw [Nat.mul_add] at this
      omega
    omega
theorem Nice.bl (b : Bool) : Nice 5 0 (.bool b) := by
  cases b
  · exact ⟨rfl, rfl, Nat.le_refl _, by decide +kernel⟩
  · exact ⟨rfl, rfl, Nat.le_refl _, by decide +kernel⟩
theorem small_ints : ∀ i : Fin 401, (Str.ofString (toString ((i.val : Int) - 200))).length ≤ 5 ∧ ((i.val : Int) - 200).natAbs.log2 < 1920 := by decide +kernel
theorem Nice.int {i : Int} (h0 : -200 ≤ i) (h1 : i ≤ 200) : Nice 5 0 (.int i) := by
  have h := small_ints ⟨(i + 200).toNat, by omega⟩
  have e : (((i + 200).toNat : Nat) : Int) - 200 = i := by omega
  simp only [e] at h
  exact ⟨decide_eq_true h.2, rfl, Nat.le_refl _, h.1⟩
theorem Nice.str {z : Str} {n : Nat} (hl : z.cps.toList.length ≤ n) (hc : ∀ c ∈ z.cps.toList, c < 128) : Nice (10 * n + 2) 0 (.str z) := by
  refine ⟨rfl, rfl, Nat.le_refl _, ?_⟩
  have h := StrLaws.reprText_len z fun c hm => Nat.lt_trans (hc c hm) (by decide)
  rw [str_len z] at h
  show (reprText z).length ≤ _
  omega
section
variable {X : Cx}
theorem call_reprN (hc : Calm X.A) (hu : X.A.units + 100 < cLine) : CallR X (.builtin "repr") (fun xs H Q => ∃ (a : Addr) (d : PyData) (B k : Nat), xs = [.ref a] ∧ Dp X.K H (.ref a) d ∧ Nice B k d ∧ B ≤ 100000 ∧ k ≤ 60 ∧ Q (.str d.shown) H) := by
  intro pins s σ H xs us Q I r h
  obtain ⟨a, d, B, k, e, hd, hn, hb, hk, q⟩ := h
  exact call_reprD hc hu pins s σ H xs us Q I r ⟨a, d, e, hd, hn.sh, hn.nd, Nat.le_trans hn.dp (by omega), small (Nat.le_trans hn.sz hb), q⟩
end
theorem sq_mv {K : PySem.W.Frag} {H H' : Hp} {d g a : Addr} {xs : List V} (D : Deck H d g) (m : Mv d g H H') (h : SqT K H a xs) : SqT K H' a xs := by
  obtain ⟨k, L, h1, h2, _⟩ := D.ex
  rcases h with (h | ⟨o, h⟩) | h
  · exact .inl (.inl (m.keep _ _ h (ne_of h h1 (fun z => nomatch z)) (ne_of h h2 (fun z => nomatch z))))
  · exact .inl (.inr ⟨o, m.keep _ _ h (ne_of h h1 (fun z => nomatch z)) (ne_of h h2 (fun z => nomatch z))⟩)
  · exact .inr h
/-- t + u, whatever they are -/
theorem catA_of {K : PySem.W.Frag} {H : Hp} {a b : Addr} {xs ys : List V} {Q : VK} (ha : SqT K H a xs) (hb : SqT K H b ys) (hl : xs.length + ys.length ≤ 100000) (q : ∀ p H', Same H H' → SqT K H' p (xs ++ ys) → Q (.ref p) H') : rCatA K (.ref a) (.ref b) H Q := by
  refine ⟨a, b, xs, ys, rfl, rfl, ha, hb, small hl, fun e => ?_, fun _ e => ?_, fun _ _ p np => ?_⟩
  · refine q b H (Same.refl H) ?_
    rw [e, List.nil_append]; exact hb
  · refine q a H (Same.refl H) ?_
    rw [e, List.append_nil]; exact ha
  · exact q p _ (Same.new np) (tofT upd_same)
theorem slA_of {K : PySem.W.Frag} {H : Hp} {a : Addr} {xs : List V} {lo hi : Option Int} {Q : VK} (ha : SqT K H a xs) (q : ∀ p H', Same H H' → SqT K H' p (cutV xs lo hi) → Q (.ref p) H') : rSlA K (.ref a) lo hi H Q := by
  refine ⟨a, xs, rfl, ha, fun e => ?_, fun _ p np => ?_⟩
  · refine q a H (Same.refl H) ?_
    unfold cutV
    rw [e.1, e.2, Nat.sub_zero, List.drop_zero, List.take_length]; exact ha
  · exact q p _ (Same.new np) (tofT upd_same)
end GL
namespace GL
open PySem PySem.Spec PyProof.Rows L2 PySem.W PySem.Calls

/-! ### a target list with a star: (a, .., *b, .., c) -/
section
variable {prog : Program} {w : World} {A : Around} {E : Value → Shared → Prop} {s : Shared}
/-- a tuple told out to n targets, the one at i starred: the middle becomes a new list behind all there is -/
theorem star_items {a : Addr} {xs : Array Value} {n i : Nat} {Q : List Value → Shared → Prop} (ht : IsTup s.heap a xs) (hh : A.handled = none) (hi : i < n) (hn : n ≤ xs.size + 1) (hz : xs.size ≤ 16384)
    (h : ∀ (h' : Heap) (tk : Nat), (∀ b o, s.heap.get? b = some o → h'.get? b = some o) →
      Q (xs.toList.take i ++ [.ref h'.objs.size] ++ (xs.toList.drop i).drop (xs.size + 1 - n)) { s with heap := h'.push { cls := .type "list", data := .seq ((xs.toList.drop i).take (xs.size + 1 - n)).toArray }, toks := tk }) :
    wpAny (model prog w) A (unpackItems (.ref a) n (some i)) Q E s := by
  have la : a < s.heap.objs.size := by obtain ⟨o, ho, _⟩ := ht; exact Heap.lt_size ho
  have na : a ≠ s.heap.objs.size := Nat.ne_of_lt la
  unfold unpackItems notIterableAtAll
  refine wpAny_bind (wpAny_bind (wpAny_specialOf ht.typeIs slot_tuple_iter.lookup (wpAny_pure ?_)))
  simp only [Bool.false_eq_true, if_false]
  refine wpAny_bind (wpAny_holding (iter_tuple ht (wpAny_bind (wpAny_holding (draw_tuple na i 0 _ _ ⟨_, Heap.get?_push_size _ rfl, rfl, rfl⟩ (ht.push _) (by omega) fun h1 it1 sb1 => ?_)))))
  rw [Nat.zero_add] at it1
  have t1 : IsTup h1 a xs := (ht.push _).extBut sb1.extBut na
  have lI : s.heap.objs.size < h1.objs.size := by obtain ⟨o, ho, _⟩ := it1; exact Heap.lt_size ho
  have la1 : a < h1.objs.size := by obtain ⟨o, ho, _⟩ := t1; exact Heap.lt_size ho
  rw [List.drop_zero]
  have l1 : (xs.toList.take i).length = i := by rw [List.length_take, Array.length_toList]; omega
  rw [if_neg (by omega : ¬ (xs.toList.take i).length < i)]
  refine wpAny_bind (wpAny_holding (kun_collect (s := { s with heap := h1 }) (T := "tuple_iterator") (.inr (.inr (.inr rfl))) (Walks.tuple (A := A.in1) hh s.heap.objs.size a na xs) (fun j u st => st.1.typeIs) (k := i) (by omega) ⟨it1, t1⟩ lI la1 (fun h2 tk k2 => ?_) (by rw [sizeLine_eq]; omega)))
  have l2 : (xs.toList.drop i).length = xs.size - i := by rw [List.length_drop, Array.length_toList]
  have l3 : (xs.toList.drop i).length - (n - 1 - i) = xs.size + 1 - n := by omega
  show wpAny _ _ (if (xs.toList.drop i).length < n - 1 - i then _ else _) _ _ _
  rw [if_neg (by omega)]
  show wpAny _ _ (newList ((xs.toList.drop i).take ((xs.toList.drop i).length - (n - 1 - i))) >>= fun d => pure (xs.toList.take i ++ [d] ++ (xs.toList.drop i).drop ((xs.toList.drop i).length - (n - 1 - i)))) _ _ _
  rw [l3]
  have kp : ∀ b o, s.heap.get? b = some o → h2.get? b = some o := fun b o e => k2 b o (Nat.ne_of_lt (Heap.lt_size e)) (sb1.extBut b o (Nat.ne_of_lt (Heap.lt_size e)) (Heap.get?_push_of_some _ e))
  exact wpAny_bind (wpAny_newList (s := { s with heap := h2, toks := tk }) (wpAny_pure (h h2 tk kp)) (by rw [List.length_take, l2, sizeLine_eq]; omega))
end
section
variable {X : Cx} {es : List Expr} {t : TGs} {m n i k : Nat} {pos : Pos}
/-- (a, .., *b, .., c) = a tuple -/
def gStar (K : PySem.W.Frag) (n i : Nat) (t : TGs) : TG := fun v σ H Q => ∃ a xs, v = .ref a ∧ SqT K H a xs ∧ n ≤ xs.length + 1 ∧ xs.length ≤ 1000 ∧
  ∀ D, H D = none → t (xs.take i ++ [.ref D] ++ (xs.drop i).drop (xs.length + 1 - n)) σ (upd H D (.lst ((xs.drop i).take (xs.length + 1 - n)))) Q
theorem pg_star (hc : X.calm = true) (h : PGs X es t) (hn : (assignEach es X.env).length = n := by rfl) (hst : (assignEach es X.env).findIdx? (·.1) = some i := by rfl) (hi : i < n := by decide) : PG X (.Tuple es k pos) (gStar X.K n i t) := by
  constructor
  intro pins s σ H v u Q I r hw
  obtain ⟨a, xs, rfl, hq, h1, h2, hw⟩ := hw
  cases r
  obtain ⟨its, rv, ht, hz⟩ := I.tuple hq
  have el : its.length = xs.length := rv.length.symm
  rw [assign_Tuple]
  refine wpAny_bind (wpAny_standAt ?_)
  unfold unpack
  rw [hn, hst]
  refine wpAny_bind (wpAny_holding (star_items ht (I.ok.hd hc) hi (by rw [List.size_toArray, el]; exact h1) (by rw [List.size_toArray, el]; omega) fun h' tk kp => ?_))
  have I1 : Inv X pins σ H { s with heap := h', toks := tk } := I.kept kp
  have e3 : its.toArray.toList = its := by simp
  have e4 : its.toArray.size = xs.length := by rw [List.size_toArray, el]
  rw [e3, e4]
  have rd : ∀ j, Vals (xs.drop j) (its.drop j) := fun j => rv.drop j
  have rt : Vals ((xs.drop i).take (xs.length + 1 - n)) ((its.drop i).take (xs.length + 1 - n)) := (rd i).take _
  have I2 : Inv X pins σ (upd H h'.objs.size (.lst ((xs.drop i).take (xs.length + 1 - n)))) ({ s with heap := h'.push { cls := .type "list", data := .seq ((its.drop i).take (xs.length + 1 - n)).toArray }, toks := tk } : Shared) :=
    I1.laid (t' := tk) (fun b o e => Heap.get?_push_of_some _ e) (Nat.le_refl _) ⟨by rw [List.length_take, List.length_drop, sizeLine_eq]; omega, _, 0, rt, Heap.get?_push_size _ rfl⟩
  have r1 : Vals [V.ref h'.objs.size] [Value.ref h'.objs.size] := .cons rfl .nil
  exact h.run pins _ σ _ _ _ Q I2 (((rv.take i).append r1).append ((rd i).drop _)) (hw h'.objs.size (I1.hok.fresh (Nat.le_refl _)))
end

section
variable {X : Cx} {t : TG} {u : TGs} {e : Expr} {es : List Expr} {p : Pos}
theorem pgs_consS (h1 : PG X e t) (h2 : PGs X es u) (hs : (assignEach (.Starred e p :: es) X.env).map (·.2) = assign e X.env :: (assignEach es X.env).map (·.2) := by rfl) : PGs X (.Starred e p :: es) (gCons t u) := by
  constructor
  intro pins s σ H vs us Q I r h
  obtain ⟨v, vr, rfl, h⟩ := h
  cases r with
  | cons r rr =>
    rw [hs]
    exact assignInOrder_cons (thn (h1.run pins s σ H _ _ _ I r h) fun _ s1 ⟨σ1, H1, I1, q1⟩ => h2.run pins s1 σ1 H1 _ _ Q I1 rr q1)
end
/-! ### an own operator: x & y by the class's def -/
section
variable {X : Cx} {CX : CXT} {k : Nat} {f C : Addr} {fd : FuncData} {ps : List Str} {sp : Sp} {E : XK} {op : Operator}
/-- what the class must say of an operator's def -/
structure OpK (K : PySem.W.Frag) (C f : Addr) (d : Str) : Prop where
  sf : PySem.W.selfFirst K C = true
  at_ : PySem.W.findIn K (.ref C) d = some (some (.ref f))
  fn : PySem.W.isFn K (.ref f) = true
/-- both sides instances of the class at C; the answer is an object -/
def rOwn (C : Addr) (sp : Sp) (E : XK) : R2 := fun x y H Q => ∃ a dx fs b dy gs, x = .ref a ∧ y = .ref b ∧ H a = some (.ins C dx fs) ∧ H b = some (.ins C dy gs) ∧ sp [.ref a, .ref b] H (fun v H2 => (∃ r, v = .ref r) ∧ Q v H2) E
theorem op_own {d : Str} (o : OpK X.K C f d) (hd : (PySem.dunder op.info.2 : Str) = d) (F : FnG X.prog X.w X.K X.mg X.base CX k f fd ps sp) (hr : Room k X.A) (hc : Calm X.A) (hb : Binds X.K fd ps []) (hx : Passes CX X E) : OpR X (binaryOp op) (rOwn C sp E) := by
  intro pins s σ H x y v u Q I rx ry h
  obtain ⟨a, dx, fs, b, dy, gs, rfl, rfl, ha, hbb, q⟩ := h
  obtain rfl : v = .ref a := rx
  obtain rfl : u = .ref b := ry
  obtain ⟨mA, OA, _⟩ := ins_get I.hok ha
  obtain ⟨mB, OB, _⟩ := ins_get I.hok hbb
  obtain ⟨odA, IA, _⟩ := OA.look
  obtain ⟨odB, IB, _⟩ := OB.look
  obtain ⟨m, fr⟩ := I.fr
  refine PySem.W.binop_K fr I.ok.mod.kin IA (IB.type) o.sf (hd ▸ o.at_) o.fn ?_
  refine wpAny_mono (runG (us := [.ref a, .ref b]) (vs := [.ref a, .ref b]) F hr hc hb .nil hx I (.cons rfl (.cons rfl .nil)) q) (fun u s1 hu => ?_) fun _ _ z => z
  obtain ⟨v, H1, I1, rv, ⟨r, rfl⟩, q1⟩ := hu
  obtain rfl : u = .ref r := rv
  exact ⟨V.ref r, H1, I1, rfl, q1⟩
end

/-! ### defs with *names, where no guard is under way -/
def FnRG (P : Program) (w : World) (K : PySem.W.Frag) (mg : Str → Option Value) (base : Heap) (CX : CXT) (k : Nat) (f : Addr) (sp : Sp) : Prop :=
  ∀ (A : Around) (outer : List Env) (s : Shared) (H : Hp) (us : List Value) (vs : List V) (Q : VK) (E : XK), Room k A → Calm A → Env0 P w K mg base A outer s H → Vals vs us → sp vs H Q E →
    codeAny (model P w) A (.call (.ref f) ⟨us, []⟩) (CR CX outer P w H s Q E) s
section
variable {P : Program} {w : World} {K : PySem.W.Frag} {mg : Str → Option Value} {base : Heap} {k : Nat} {f : Addr} {name qual pv : Str} {params : Arguments} {body : List Stmt} {scope : Scope} {dV kV doc pm cdv ct oc : Value} {an od : Option Addr}
  {osl : Array (Option Value)} {N ps : List Str} {sp : Sp}
/-- def f(a, .., *v) -/
theorem fn_starG (lk : K.lookup f = some ⟨oc, od, .func (PySem.W.fnOf name qual params body scope dV kV doc pm an cdv ct), osl⟩) (hcd : PySem.W.codeIn K cdv qual = true) (S : FnScope N (ps ++ [pv]) scope)
    (hb : ∀ us rest : List Value, us.length = ps.length → bindArgs (PySem.W.fnOf name qual params body scope dV kV doc pm an cdv ct) ⟨us ++ rest, []⟩ = (newTuple rest >>= fun t => pure (ps.zip us ++ [(pv, t)])))
    (walk : ∀ (cdv : Value) (A : Around) (outer : List Env) (s : Shared) (H : Hp) (vs : List V) (Q : VK) (E : XK), Room k (A.deeper (envOfC qual scope s.heap.objs.size f cdv)) → Calm (A.deeper (envOfC qual scope s.heap.objs.size f cdv)) → sp vs H Q E →
      ∃ t, PSs (cxOf CX0 P w K mg base N qual scope f cdv A outer s H E).nox body t ∧ t { nx := fun _ H' => Q .non H', rt := Q } (start N vs) H) :
    FnRG P w K mg base CX0 (k + 1) f (fun vs H Q E => ∃ ws rest, vs = ws ++ rest ∧ ws.length = ps.length ∧ rest.length ≤ sizeLine ∧ ∀ p, H p = Option.none → sp (ws ++ [V.ref p]) (upd H p (.tup rest)) Q E) := by
  intro A outer s H us vs Q E hr hc e0 r hsp
  obtain ⟨ws, rest, rfl, hl, hz, hq⟩ := hsp
  obtain ⟨u1, u2, rfl, r1, r2⟩ := StX.vals_split r
  have free : H s.heap.objs.size = Option.none := e0.hok.fresh (Nat.le_refl _)
  have m1 : u1.length = ps.length := r1.length.symm.trans hl
  have m2 : u2.length ≤ sizeLine := r2.length ▸ hz
  refine StX.run_bnd lk hcd S hr e0 (G := fun xs H2 => ∃ p, H p = Option.none ∧ xs = ws ++ [V.ref p] ∧ H2 = upd H p (.tup rest)) (fun A' Ex Q' h => ?_) fun s2 H2 xs g hr' => ?_
  · rw [hb u1 u2 m1]
    refine wpAny_bind (wpAny_newTuple (wpAny_pure ?_) m2)
    have new : ObjOk P w (upd H s.heap.objs.size (.tup rest)) (s.heap.push ({ cls := .type "tuple", data := .seq u2.toArray } : Obj)) s.heap.objs.size (.tup rest) := ⟨hz, u2, r2, ⟨_, Heap.get?_push_size _ rfl, rfl, _, rfl⟩⟩
    have rr : Vals (ws ++ [V.ref s.heap.objs.size]) (u1 ++ [Value.ref s.heap.objs.size]) := r1.append (.cons rfl .nil)
    have z := h _ _ _ _ (StX.env0_laid e0 new) (StX.un_laid free) rfl (fun e s' f => f) rr (by rw [List.length_append, List.length_append, hl] <;> rfl) ⟨_, free, rfl, rfl⟩
    rw [List.zip_append m1.symm] at z
    exact z
  · obtain ⟨p, hp, rfl, rfl⟩ := g
    obtain ⟨t, d, q⟩ := walk cdv A outer s2 _ _ Q E hr' (hc.deeper _) (hq p hp)
    exact ⟨t, d.nox, q⟩
end
section
variable {X : Cx} {CX : CXT} {k : Nat} {f C : Addr} {sp : Sp} {E : XK} {m : Str} {pos apos : Pos} {e o : Expr} {es : List Expr} {ta : TE} {t : TA}
theorem FnRG.up {P : Program} {w : World} {K : PySem.W.Frag} {mg : Str → Option Value} {base : Heap} {j : Nat} (F : FnRG P w K mg base CX j f sp) (h : j ≤ k) : FnRG P w K mg base CX k f sp := fun A outer s H us vs Q E r => F A outer s H us vs Q E (r.mono h)
theorem runRG {pins : List (Addr × Obj)} {σ : L2.St} {H : Hp} {s : Shared} {Q : VK} {us : List Value} {vs : List V} (F : FnRG X.prog X.w X.K X.mg X.base CX k f sp) (hr : Room k X.A) (hc : Calm X.A) (hx : Passes CX X E) (I : Inv X pins σ H s) (r : Vals vs us) (h : sp vs H Q E) :
    wpAny (model X.prog X.w) X.A (call (.ref f) us) (EP X pins σ Q) X.xe s := by
  refine wpAny_call (codeAny_mono (F X.A X.stack s H us vs Q E hr hc I.env0 r h) fun r' s' q => ?_)
  have z := out_of hx I r' s' q
  match r', z with
  | .error _, z => exact z
  | .ok (.ret _), z => exact z
/-- o.m(e, ..), m with *names -/
theorem pe_methRG {pl : Sem Bool} (he : PE X o ta) (c : Cls X.K C) (hm : Meth X.K C m f) (F : FnRG X.prog X.w X.K X.mg X.base CX k f sp) (hr : Room k X.A) (hc : Calm X.A) (hx : Passes CX X E)
    (ha : PA X (e :: es) t) (hst : starEach (e :: es) X.env = (false, eval e X.env) :: starEach es X.env := by rfl) (hpl : (backTo pos (starEach es X.env)).any (·.1) = false := by rfl)
    (ht : eval (.Call (.Attribute o m apos) (e :: es) [] pos) X.env = (eval o X.env >>= fun ov => standAt apos.atName >>= fun _ => holding [ov] (getMethod ov m pl) >>= fun fx =>
      callWith pos fx.1 fx.2 (backTo pos (starEach (e :: es) X.env)) (backToKw pos (keywordEach [] X.env))) := by rfl) :
    PE X (.Call (.Attribute o m apos) (e :: es) [] pos) (tMeth C m sp [] E ta t) := by
  constructor
  intro pins s σ H Q I h
  refine PySem.W.methodCall_KW (pl := pl) (thn (he.run pins s σ H _ I h) ?_) ht
  rintro u s1 ⟨_, H1, I1, rx, a, dx, fs, rfl, ea, l, q⟩
  obtain rfl : u = .ref a := rx
  refine getmeth_ok I1 ea c hm l (PySem.W.callWith_K (first := [.ref a]) (h₀ := X.base) I.ok.mod.kin hm.kp (thn (ha.run pos pins s1 σ H1 _ I1 q) ?_) hst hpl)
  rintro us s2 ⟨vs, H2, I2, r, q2⟩
  rw [List.append_nil] at q2
  exact ⟨I2.kIn, runRG (us := .ref a :: us) (vs := .ref a :: vs) F hr hc hx I2 (.cons rfl r) q2⟩
/-- o.m() -/
theorem pe_methRG0 {pl : Sem Bool} (he : PE X o ta) (c : Cls X.K C) (hm : Meth X.K C m f) (F : FnRG X.prog X.w X.K X.mg X.base CX k f sp) (hr : Room k X.A) (hc : Calm X.A) (hx : Passes CX X E)
    (ht : eval (.Call (.Attribute o m apos) [] [] pos) X.env = (eval o X.env >>= fun ov => standAt apos.atName >>= fun _ => holding [ov] (getMethod ov m pl) >>= fun fx =>
      callWith pos fx.1 fx.2 (backTo pos (starEach [] X.env)) (backToKw pos (keywordEach [] X.env))) := by rfl) :
    PE X (.Call (.Attribute o m apos) [] [] pos) (tMeth C m sp [] E ta tNil) := by
  constructor
  intro pins s σ H Q I h
  refine PySem.W.methodCall_KW (pl := pl) (thn (he.run pins s σ H _ I h) ?_) ht
  rintro u s1 ⟨_, H1, I1, rx, a, dx, fs, rfl, ea, l, q⟩
  obtain rfl : u = .ref a := rx
  exact getmeth_ok I1 ea c hm l (PySem.W.callWith_K0 (first := [.ref a]) I1.kIn hm.kp (runRG (us := [.ref a]) (vs := [.ref a]) F hr hc hx I1 (.cons rfl .nil) q))
end
end GL
namespace GL
open PySem PySem.Spec PyProof.Rows L2 PySem.W PySem.Calls

section
variable {prog : Program} {w : World} {A : Around} {E : Value → Shared → Prop}
/-- a name laid into a dict that has no such name -/
theorem ns_add {s : Shared} {d : Addr} {es : List DictEntry} {n : Nat} {k : Str} {v : Value} {Q : Unit → Shared → Prop} (hd : s.heap.get? d = some (dictOf es n)) (hs : ∀ e ∈ es, e.key.isStr k = false ∧ e.refKey = false)
    (h : ∀ h', (∀ b o, b ≠ d → s.heap.get? b = some o → h'.get? b = some o) → h'.get? d = some (dictOf (es ++ [⟨PyData.keyHash w.params k, .str k s.toks, v⟩]) (n + 1)) → Q () { s with heap := h', toks := s.toks + 1 }) :
    wpAny (model prog w) A (nsSet d k v) Q E s := by
  have a1 : es.any (·.key.isStr k) = false := List.any_eq_false.mpr fun e he => by rw [(hs e he).1]; decide
  have a2 : es.any (·.refKey) = false := List.any_eq_false.mpr fun e he => by rw [(hs e he).2]; decide
  have put : Obj.putName k (PyData.keyHash w.params k) (.str k s.toks) v (dictOf es n) = dictOf (es ++ [⟨PyData.keyHash w.params k, .str k s.toks, v⟩]) (n + 1) := by
    rw [putName_dict, putL_new fun e he => (hs e he).1]
    show dictOf _ (if es.any (·.key.isStr k) then n else n + 1) = _
    rw [a1, if_neg Bool.false_ne_true]
  have may : aRefKeyMayBeTheName k es.toArray = false := by
    rw [aRefKeyMayBeTheName_at, ← Array.any_toList, ← Array.any_toList]
    show (!es.any (·.key.isStr k) && es.any (·.refKey)) = false
    rw [a2, Bool.and_false]
  unfold nsSet
  refine wpAny_bind (wpAny_bind (wpAny_askSetting (wpAny_pure (wpAny_bind (wpAny_mkText (wpAny_bind (wpAny_loadPart hd ?_)))))))
  dsimp only
  rw [may]
  refine wpAny_updatePart hd (h _ (fun b o hb e => ?_) ?_)
  · exact (Heap.get?_update_other _ _ (Ne.symm hb)).trans e
  · refine (Heap.get?_update_self _ hd ?_).trans (congrArg some put)
    show (Obj.putName k (PyData.keyHash w.params k) (.str k s.toks) v (dictOf es n)).isFreed = false
    rw [put]
    rfl
theorem ns_fill {d : Addr} {Q : PUnit → Shared → Prop} : ∀ (ex : List (Str × Value)) (s : Shared) (es : List DictEntry) (n : Nat), s.heap.get? d = some (dictOf es n) → (∀ e ∈ es, (∀ x ∈ ex, e.key.isStr x.1 = false) ∧ e.refKey = false) → (ex.map (·.1)).Nodup →
    (∀ h', (∀ b o, b ≠ d → s.heap.get? b = some o → h'.get? b = some o) → h'.get? d = some (dictOf (es ++ kwEs w.params s.toks ex) (n + ex.length)) → Q ⟨⟩ { s with heap := h', toks := s.toks + ex.length }) →
    wpAny (model prog w) A (forIn ex PUnit.unit fun x _ => (nsSet d x.1 x.2 >>= fun _ => pure (ForInStep.yield PUnit.unit))) Q E s
  | [], s, es, n, hd, _, _, h => by
    rw [List.forIn_nil]
    exact wpAny_pure (h s.heap (fun _ _ _ e => e) (by rw [show kwEs w.params s.toks [] = [] from rfl, List.append_nil]; exact hd))
  | x :: r, s, es, n, hd, hs, hn, h => by
    obtain ⟨n1, n2⟩ := List.nodup_cons.mp (show (x.1 :: r.map (·.1)).Nodup from hn)
    rw [List.forIn_cons]
    refine wpAny_bind (wpAny_bind (ns_add hd (fun e he => ⟨(hs e he).1 x (.head _), (hs e he).2⟩) fun h1 k1 g1 => wpAny_pure ?_))
    refine ns_fill r { s with heap := h1, toks := s.toks + 1 } _ _ g1 (fun e he => ?_) n2 fun h2 k2 g2 => ?_
    · rcases List.mem_append.mp he with he | he
      · exact ⟨fun y hy => (hs e he).1 y (.tail _ hy), (hs e he).2⟩
      · obtain rfl := List.mem_singleton.mp he
        exact ⟨fun y hy => (beq_eq_false_iff_ne.mpr fun q => n1 (q ▸ List.mem_map_of_mem hy) : (x.1 == y.1) = false), rfl⟩
    · have t1 : s.toks + 1 + r.length = s.toks + (r.length + 1) := by omega
      have t2 : n + 1 + r.length = n + (r.length + 1) := by omega
      show Q ⟨⟩ { s with heap := h2, toks := s.toks + 1 + r.length }
      rw [t1]
      refine h h2 (fun b o hb e => k2 b o hb (k1 b o hb e)) ?_
      rw [t2, List.append_assoc] at g2
      exact g2
end
/-- keywords as a dict's content -/
def kwK (ks : List Str) (zs : List V) : List (Key × V) := (ks.zip zs).map fun q => (.inr q.1, q.2)
def kwV (ks : List Str) (ws : List Value) : List (Key × Value) := (ks.zip ws).map fun q => (.inr q.1, q.2)
theorem kw_rel : ∀ (ks : List Str) {zs : List V} {ws : List Value}, Vals zs ws → KV (kwK ks zs) (kwV ks ws)
  | [], _, _, _ => .nil
  | k :: ks, _, _, .nil => .nil
  | k :: ks, _, _, .cons a r => .cons ⟨rfl, a⟩ (kw_rel ks r)
theorem kw_pairs {prog : Program} {w : World} : ∀ (ex : List (Str × Value)) (t : Tok), Pairs (mixKind prog w) (kwEs w.params t ex) (ex.map fun q => (.inr q.1, q.2))
  | [], _ => Pairs.nil
  | x :: r, t => Pairs.cons (show keyIs (.inr x.1) (.str x.1 t) = true from by simp [keyIs, Value.isStrOf]) rfl (kw_pairs r (t + 1))
theorem kw_obj {P : Program} {w : World} {H : Hp} {h : Heap} {d : Addr} {ks : List Str} {zs : List V} {ws : List Value} {t : Tok} {n : Nat} (hd : h.get? d = some (dictOf (kwEs w.params t (ks.zip ws)) n)) (hs : (d == sysModules) = false) (hn : ks.Nodup) (hl : ks.length ≤ 1000) (r : Vals zs ws) (l : ws.length = ks.length) :
    ObjOk P w H h d (.dK (kwK ks zs)) := by
  refine ⟨?_, hs, kwV ks ws, kw_rel ks r, _, _, _, hd, ⟨rfl, rfl, rfl⟩, rfl, fun e he => ?_, kw_pairs _ _, ?_⟩
  · unfold kwK
    rw [List.length_map, List.length_zip, sizeLine_eq]
    omega
  · obtain ⟨k, u, hk, hh⟩ := kwEs_key _ _ e (List.mem_toArray.mp he)
    exact ⟨.inr k, by rw [hk]; simp [mixKind, keyIs, Value.isStrOf], hh.trans rfl⟩
  · have e : ((ks.zip ws).map fun q => (((.inr q.1 : Key), q.2) : Key × Value)).map (·.1) = ks.map Sum.inr := by
      rw [List.map_map, show ((fun x : Key × Value => x.1) ∘ fun q : Str × Value => ((.inr q.1 : Key), q.2)) = (Sum.inr ∘ Prod.fst) from rfl, ← List.map_map, List.map_fst_zip (by omega)]
    show (((ks.zip ws).map fun q => (((.inr q.1 : Key), q.2) : Key × Value)).map (·.1)).Nodup
    rw [e]
    exact List.Pairwise.map _ (fun _ _ q z => q (Sum.inr.inj z)) hn

/-- a new object laid and tracked ahead of a def's body, by whatever steps -/
theorem env0_new {P : Program} {w : World} {K : PySem.W.Frag} {mg : Str → Option Value} {base : Heap} {A : Around} {outer : List Env} {s : Shared} {H : Hp} {h' : Heap} {tk : Nat} {u : HO} (e0 : Env0 P w K mg base A outer s H)
    (kp : ∀ b o, s.heap.get? b = some o → h'.get? b = some o) (sz : s.heap.objs.size ≤ h'.objs.size) (new : ObjOk P w (upd H s.heap.objs.size u) h' s.heap.objs.size u) :
    Env0 P w K mg base A outer { s with heap := h', toks := tk } (upd H s.heap.objs.size u) where
  frames := e0.frames
  mod := e0.mod
  bs := fun b x e => ⟨kp b x (e0.bs b x e).1, by rw [upd_ne (Nat.ne_of_lt (Heap.lt_size (e0.bs b x e).1))]; exact (e0.bs b x e).2⟩
  bsz := Nat.le_trans e0.bsz sz
  funs := Heap.FunFrames.of_keeps (fun b x e _ => ⟨x, kp b x e, rfl⟩) e0.funs
  frf := fun b hb => by
    obtain ⟨_, x, hx, _⟩ := e0.funs.mem hb
    rw [upd_ne (Nat.ne_of_lt (Heap.lt_size hx))]
    exact e0.frf b hb
  hok := e0.hok.laid kp (Nat.le_refl _) new
  bare := e0.bare

/-! ### a def with **names, called with keywords -/
def FnKG (P : Program) (w : World) (K : PySem.W.Frag) (mg : Str → Option Value) (base : Heap) (CX : CXT) (k : Nat) (f : Addr) (n : Nat) (ks : List Str) (sp : Sp) : Prop :=
  ∀ (A : Around) (outer : List Env) (s : Shared) (H : Hp) (us ws : List Value) (vs zs : List V) (Q : VK) (E : XK), Room k A → Calm A → Env0 P w K mg base A outer s H → Vals vs us → Vals zs ws → vs.length = n → zs.length = ks.length →
    (∀ p, H p = Option.none → sp (vs ++ [V.ref p]) (upd H p (.dK (kwK ks zs))) Q E) → codeAny (model P w) A (.call (.ref f) ⟨us, ks.zip ws⟩) (CR CX outer P w H s Q E) s
section
variable {P : Program} {w : World} {K : PySem.W.Frag} {mg : Str → Option Value} {base : Heap} {k : Nat} {f : Addr} {name qual pd : Str} {params : Arguments} {body : List Stmt} {scope : Scope} {dV kV doc pm cdv ct oc : Value} {an od : Option Addr}
  {osl : Array (Option Value)} {N ps ks : List Str} {sp : Sp}
theorem fn_kwG (lk : K.lookup f = some ⟨oc, od, .func (PySem.W.fnOf name qual params body scope dV kV doc pm an cdv ct), osl⟩) (hcd : PySem.W.codeIn K cdv qual = true) (S : FnScope N (ps ++ [pd]) scope) (hn : ks.Nodup) (hkl : ks.length ≤ 1000)
    (hb : ∀ us ws : List Value, us.length = ps.length → ws.length = ks.length → bindArgs (PySem.W.fnOf name qual params body scope dV kV doc pm an cdv ct) ⟨us, ks.zip ws⟩ =
      ((alloc ({ cls := .type "dict", data := .dict #[] } : Obj) : Sem Addr) >>= fun d => (forIn (ks.zip ws) PUnit.unit fun x _ => (nsSet d x.1 x.2 >>= fun _ => pure (ForInStep.yield PUnit.unit))) >>= fun _ => pure (ps.zip us ++ [(pd, Value.ref d)])))
    (walk : ∀ (cdv : Value) (A : Around) (outer : List Env) (s : Shared) (H : Hp) (vs : List V) (Q : VK) (E : XK), Room k (A.deeper (envOfC qual scope s.heap.objs.size f cdv)) → Calm (A.deeper (envOfC qual scope s.heap.objs.size f cdv)) → sp vs H Q E →
      ∃ t, PSs (cxOf CX0 P w K mg base N qual scope f cdv A outer s H E).nox body t ∧ t { nx := fun _ H' => Q .non H', rt := Q } (start N vs) H) :
    FnKG P w K mg base CX0 (k + 1) f ps.length ks sp := by
  intro A outer s H us ws vs zs Q E hr hc e0 r rz l1 l2 hq
  have free : H s.heap.objs.size = Option.none := e0.hok.fresh (Nat.le_refl _)
  have m1 : us.length = ps.length := r.length.symm.trans l1
  have m2 : ws.length = ks.length := rz.length.symm.trans l2
  refine StX.run_bnd lk hcd S hr e0 (G := fun xs H2 => ∃ p, H p = Option.none ∧ xs = vs ++ [V.ref p] ∧ H2 = upd H p (.dK (kwK ks zs))) (fun A' Ex Q' h => ?_) fun s2 H2 xs g hr' => ?_
  · rw [hb us ws m1 m2]
    have hd : (s.heap.push ({ cls := .type "dict", data := .dict #[] } : Obj)).get? s.heap.objs.size = some (dictOf [] 0) := Heap.get?_push_size _ rfl
    have nx : (((ks.zip ws).map (·.1)).Nodup) := by rw [List.map_fst_zip (by omega)]; exact hn
    refine wpAny_bind (wpAny_alloc (wpAny_bind (ns_fill (ks.zip ws) { s with heap := s.heap.push ({ cls := .type "dict", data := .dict #[] } : Obj) } [] 0 hd (fun e he => nomatch he) nx fun h' kp hg => wpAny_pure ?_)))
    have kp' : ∀ b o, s.heap.get? b = some o → h'.get? b = some o := fun b o e => kp b o (Nat.ne_of_lt (Heap.lt_size e)) (Heap.get?_push_of_some _ e)
    have new : ∀ H', ObjOk P w H' h' s.heap.objs.size (.dK (kwK ks zs)) := fun H' => kw_obj hg (beq_eq_false_iff_ne.mpr (Ne.symm (Nat.ne_of_lt (StX.env0_big e0)))) hn hkl rz m2
    have sz : s.heap.objs.size ≤ h'.objs.size := Nat.le_of_lt (Heap.lt_size hg)
    have rr : Vals (vs ++ [V.ref s.heap.objs.size]) (us ++ [Value.ref s.heap.objs.size]) := r.append (.cons rfl .nil)
    have z := h { s with heap := h', toks := s.toks + (ks.zip ws).length } _ _ _ (env0_new e0 kp' sz (new _)) (Un.laid kp' (Nat.le_refl _) free) rfl (fun e s' f => f) rr (by rw [List.length_append, List.length_append, l1] <;> rfl) ⟨_, free, rfl, rfl⟩
    rw [List.zip_append m1.symm] at z
    exact z
  · obtain ⟨p, hp, rfl, rfl⟩ := g
    obtain ⟨t, d, q⟩ := walk cdv A outer s2 _ _ Q E hr' (hc.deeper _) (hq p hp)
    exact ⟨t, d.nox, q⟩
end
section
variable {X : Cx} {CX : CXT} {k n : Nat} {f C : Addr} {ks : List Str} {sp : Sp} {E : XK} {m : Str} {pos apos : Pos} {o : Expr} {ta : TE} {tk : TA} {kws : List Keyword}
theorem FnKG.up {P : Program} {w : World} {K : PySem.W.Frag} {mg : Str → Option Value} {base : Heap} {j : Nat} (F : FnKG P w K mg base CX j f n ks sp) (h : j ≤ k) : FnKG P w K mg base CX k f n ks sp := fun A outer s H us ws vs zs Q E r => F A outer s H us ws vs zs Q E (r.mono h)
/-- without keywords -/
theorem FnKG.none {P : Program} {w : World} {K : PySem.W.Frag} {mg : Str → Option Value} {base : Heap} (F : FnKG P w K mg base CX k f n [] sp) : FnRG P w K mg base CX k f (fun vs H Q E => vs.length = n ∧ ∀ p, H p = Option.none → sp (vs ++ [V.ref p]) (upd H p (.dK [])) Q E) :=
  fun A outer s H us vs Q E r c e v q => F A outer s H us [] vs [] Q E r c e v .nil q.1 rfl q.2
def tMethKw (C : Addr) (m : Str) (ks : List Str) (sp : Sp) (E : XK) (ta : TE) (tk : TA) : TE := fun σ H Q => ta σ H fun x H1 => ∃ a dx fs, x = .ref a ∧ H1 a = some (.ins C dx fs) ∧ fs.lookup m = Option.none ∧
  tk σ H1 fun zs H2 => zs.length = ks.length ∧ ∀ p, H2 p = Option.none → sp [x, .ref p] (upd H2 p (.dK (kwK ks zs))) Q E
/-- o.m(k=e, ..), m with **names -/
theorem pe_methKwG {pl : Sem Bool} (he : PE X o ta) (c : Cls X.K C) (hm : Meth X.K C m f) (F : FnKG X.prog X.w X.K X.mg X.base CX k f 1 ks sp) (hr : Room k X.A) (hc : Calm X.A) (hx : Passes CX X E)
    (hkw : PK X kws tk) (hall : (backToKw pos (keywordEach kws X.env)).all (·.1.isSome) = true := by rfl) (hks : (backToKw pos (keywordEach kws X.env)).filterMap (·.1) = ks := by rfl)
    (hpl : ((backTo pos (starEach [] X.env)).any (·.1) || (backToKw pos (keywordEach kws X.env)).any (·.1.isNone)) = false := by rfl)
    (ht : eval (.Call (.Attribute o m apos) [] kws pos) X.env = (eval o X.env >>= fun ov => standAt apos.atName >>= fun _ => holding [ov] (getMethod ov m pl) >>= fun fx =>
      callWith pos fx.1 fx.2 (backTo pos (starEach [] X.env)) (backToKw pos (keywordEach kws X.env))) := by rfl) :
    PE X (.Call (.Attribute o m apos) [] kws pos) (tMethKw C m ks sp E ta tk) := by
  constructor
  intro pins s σ H Q I h
  refine PySem.W.methodCall_KW (pl := pl) (thn (he.run pins s σ H _ I h) ?_) ht
  rintro u s1 ⟨_, H1, I1, rx, a, dx, fs, rfl, ea, l, q⟩
  obtain rfl : u = .ref a := rx
  refine getmeth_ok I1 ea c hm l (PySem.W.callWith_KW0 (first := [.ref a]) (h₀ := X.base) I.ok.mod.kin hm.kp hall (thn (hkw.run pos pins s1 σ H1 _ I1 q) ?_) hpl)
  rintro ws s2 ⟨zs, H2, I2, rz, l2, q2⟩
  refine ⟨I2.kIn, ?_⟩
  rw [hks]
  refine wpAny_call (codeAny_mono (F X.A X.stack s2 H2 [.ref a] ws [.ref a] zs Q E hr hc I2.env0 (.cons rfl .nil) rz rfl l2 q2) fun r' s' z => ?_)
  have y := out_of hx I2 r' s' z
  match r', y with
  | .error _, y => exact y
  | .ok (.ret _), y => exact y
end
end GL
namespace GL
open PySem PySem.Spec PyProof.Rows L2 PySem.W PySem.Calls
/-! ### tuples whose own methods are called: it is known that they have no dict -/
def SqZ (K : PySem.W.Frag) (H : Hp) (a : Addr) (xs : List V) : Prop :=
  (∃ o : Obj, H a = some (.frz o (.tup xs)) ∧ o.dict = none) ∨
    ∃ (o : Obj) (its : Array Value) (n : Nat), K.lookup a = some o ∧ o.cls = .type "tuple" ∧ o.dict = none ∧ o.data = .seq its n ∧ its.size ≤ sizeLine ∧ Vals xs its.toList
theorem SqZ.t {K : PySem.W.Frag} {H : Hp} {a : Addr} {xs : List V} (h : SqZ K H a xs) : SqT K H a xs := by
  rcases h with ⟨o, h, _⟩ | ⟨o, its, n, h1, h2, _, h3, h4, h5⟩
  · exact .inl (.inr ⟨o, h⟩)
  · exact .inr ⟨o, its, n, h1, h2, h3, h4, h5⟩
theorem SqZ.to {K : PySem.W.Frag} {H H' : Hp} {a : Addr} {xs : List V} (k : ∀ o, H a = some (.frz o (.tup xs)) → H' a = some (.frz o (.tup xs))) (h : SqZ K H a xs) : SqZ K H' a xs :=
  h.imp (fun ⟨o, h, d⟩ => ⟨o, k o h, d⟩) id
theorem SqZ.same {K : PySem.W.Frag} {H H' : Hp} {a : Addr} {xs : List V} (s : Same H H') (h : SqZ K H a xs) : SqZ K H' a xs := h.to fun _ e => s _ _ e
/-- what is said of a new tuple -/
def NewZ (H : Hp) (xs : List V) (Q : VK) : Prop := ∀ (p : Addr) (o : Obj), H p = none → o.dict = none → Q (.ref p) (upd H p (.frz o (.tup xs)))
section
variable {X : Cx} {pins : List (Addr × Obj)} {σ : L2.St} {H : Hp} {s : Shared}
theorem newZ {xs : List V} {its : List Value} {Q : VK} (I : Inv X pins σ H s) (r : Vals xs its) (hz : xs.length ≤ sizeLine) (q : NewZ H xs Q) : EP X pins σ Q (.ref s.heap.objs.size) { s with heap := s.heap.push { cls := .type "tuple", data := .seq its.toArray } } :=
  ⟨.ref s.heap.objs.size, upd H s.heap.objs.size (.frz ({ cls := .type "tuple", data := .seq its.toArray } : Obj) (.tup xs)),
    I.laid (t' := s.toks) (fun b ob e => Heap.get?_push_of_some _ e) (Nat.le_refl _) (show ObjOk X.prog X.w _ _ _ (.frz _ (.tup xs)) from ⟨Heap.get?_push_size _ rfl, hz, its, r, IsTup.new _ _⟩), rfl, q _ _ (I.hok.fresh (Nat.le_refl _)) rfl⟩
/-- tuple(a list) -/
def kTupZ (K : PySem.W.Frag) : V → Hp → VK → Prop := fun x H Q => ∃ p xs, x = .ref p ∧ SqL K H p xs ∧ NewZ H xs Q
theorem pe_tupleZ {a : Expr} {ta : TE} {p pos : Pos} (hg : Gl X "tuple") (hm : X.mg "tuple" = none) (ha : PE X a ta) (na : starEach [a] X.env = (false, eval a X.env) :: starEach [] X.env := by rfl) :
    PE X (.Call (.Name "tuple" p) [a] [] pos) (tThen ta (kTupZ X.K)) := by
  constructor
  intro pins s σ H Q I h
  refine Call_ (ld_blt I hg hm boot_tuple (PyProof.Rows.callWith_type1 (one_arg ha I h (fun v s2 x H2 I2 r q => ?_) na) na))
  obtain ⟨p, xs, rfl, hs, q⟩ := q
  obtain rfl : v = .ref p := r
  obtain ⟨its, rv, pl, hz⟩ := I2.list hs
  refine call_tuple_list pl.isList (fun h' hk => ?_) (by rw [List.size_toArray, ← rv.length]; exact hz)
  exact newZ (s := { s2 with heap := h' }) (I2.kept (t' := s2.toks) hk) rv hz q
/-- t + u -/
def rCatZ (K : PySem.W.Frag) : R2 := fun x y H Q => ∃ a b xs ys, x = .ref a ∧ y = .ref b ∧ SqT K H a xs ∧ SqT K H b ys ∧ xs.length + ys.length ≤ sizeLine ∧ (xs = [] → Q (.ref b) H) ∧ (xs ≠ [] → ys = [] → Q (.ref a) H) ∧ (xs ≠ [] → ys ≠ [] → NewZ H (xs ++ ys) Q)
theorem op_catZ : OpR X (binaryOp .Add) (rCatZ X.K) := by
  intro pins s σ H x y v u Q I rx ry h
  obtain ⟨a, b, xs, ys, rfl, rfl, ha, hb, hz, q0, q1, q2⟩ := h
  obtain rfl : v = .ref a := rx
  obtain rfl : u = .ref b := ry
  obtain ⟨its, r1, p1, _⟩ := I.tuple ha
  obtain ⟨its2, r2, p2, _⟩ := I.tuple hb
  by_cases hx : xs = []
  · subst hx
    cases r1
    exact cat_tup0 p1 p2 ⟨.ref b, H, I, rfl, q0 rfl⟩
  · refine HT.cat_tup p1 p2 (fun z => hx (r1.nil_iff.mp z)) (fun z => ⟨.ref a, H, I, rfl, q1 hx (r2.nil_iff.mp z)⟩) (fun z => ?_) (by rw [← r1.length, ← r2.length]; exact hz)
    exact newZ I (r1.append r2) (by rw [List.length_append]; exact hz) (q2 hx fun w => z (r2.nil_iff.mpr w))
/-- t[lo:hi] -/
def rSlZ (K : PySem.W.Frag) : V → Option Int → Option Int → Hp → VK → Prop := fun x lo hi H Q => ∃ a xs, x = .ref a ∧ SqT K H a xs ∧
  (HT.sIx xs.length 0 lo = 0 ∧ HT.sIx xs.length xs.length hi = xs.length → Q (.ref a) H) ∧ (¬ (HT.sIx xs.length 0 lo = 0 ∧ HT.sIx xs.length xs.length hi = xs.length) → NewZ H (cutV xs lo hi) Q)
theorem sl_tupZ : SlR X (rSlZ X.K) := by
  intro pins s σ H x v vl vu lo hi sl Q I rx hs pl pu h
  obtain ⟨a, xs, rfl, hx, q1, q2⟩ := h
  obtain rfl : v = .ref a := rx
  obtain ⟨its, r, ht, hz⟩ := I.tuple hx
  have hlen : its.toArray.size = xs.length := by rw [List.size_toArray]; exact r.length.symm
  refine ⟨"tuple", _, PyProof.Rows.slot_tuple_getitem.lookup, ht.typeIs, ?_⟩
  by_cases hw : HT.sIx xs.length 0 lo = 0 ∧ HT.sIx xs.length xs.length hi = xs.length
  · exact getItem_tuple_whole ht hs pl pu (by rw [hlen]; exact hw) ⟨.ref a, H, I, rfl, q1 hw⟩
  · refine HT.getItem_tuple_cut ht hs pl pu (by rw [hlen]; exact hw) ?_ (by rw [hlen]; exact hz)
    rw [hlen]
    exact newZ I ((r.drop (HT.sIx xs.length 0 lo)).take (HT.sIx xs.length xs.length hi - HT.sIx xs.length 0 lo)) (Nat.le_trans (cutV_length xs lo hi) hz) (q2 hw)
variable {o e : Expr} {es : List Expr} {to : TE} {t : TA} {name : Str} {apos cpos : Pos} {id : String} {r : V → List V → Hp → VK → Prop}
/-- t.m(e, ..), m a method of tuples -/
def tBMZ (K : PySem.W.Frag) (r : V → List V → Hp → VK → Prop) (to : TE) (t : TA) : TE := fun σ H Q => to σ H fun x H1 => (∃ a xs, x = .ref a ∧ SqZ K H1 a xs) ∧ t σ H1 fun xs H2 => r x xs H2 Q
theorem pe_bmZ (slot : Slot "tuple" name id) (hty : typeOf (.builtin id) = pure (.type "method_descriptor")) (hm : MtR X id r) (ho : PE X o to) (ha : PA X (e :: es) t)
    (hbase : attributeBase o name X.env (eval o X.env) = eval o X.env := by rfl)
    (hfew : ((backTo cpos (starEach (e :: es) X.env)).all (fun x => !x.1) && (backToKw cpos (keywordEach [] X.env)).all (fun x => x.1.isSome)
      && decide ((e :: es).length + ([] : List Keyword).length + (if ([] : List Keyword).isEmpty then 0 else 1) < 30)) = true := by rfl)
    (hline : (apos.endLine == cpos.line) = true := by rfl) (hs : starEach (e :: es) X.env = (false, eval e X.env) :: starEach es X.env := by rfl) (hplain : (backTo cpos (starEach es X.env)).any (·.1) = false := by rfl) :
    PE X (.Call (.Attribute o name apos) (e :: es) [] cpos) (tBMZ X.K r to t) := by
  constructor
  intro pins s σ H Q I h
  refine wpAny_Call_method_late hbase hfew hline rfl (thn (ho.run pins s σ H _ I h) fun v s1 ⟨x, H1, I1, r1, ty, q1⟩ => ?_)
  obtain ⟨a, xs, rfl, hz⟩ := ty
  obtain rfl : v = .ref a := r1
  have tp : s1.TypeIs (.ref a) "tuple" ∧ ∃ ob, s1.heap.get? a = some ob ∧ ob.dict = none := by
    obtain ⟨its, _, ht, _⟩ := I1.tuple hz.t
    refine ⟨ht.typeIs, ?_⟩
    rcases hz with ⟨ob, e, d⟩ | ⟨ob, _, _, e, _, d, _⟩
    · exact ⟨ob, ((show ObjOk X.prog X.w H1 s1.heap a (.frz ob (.tup xs)) from I1.hok a _ e)).1, d⟩
    · exact ⟨ob, I1.kIn a ob e, d⟩
  refine ⟨"tuple", id, PySem.F.plainAttrs_tuple, slot, hty, tp.1, fun b e => ?_, ?_⟩
  · cases e
    exact tp.2
  have hA := ha.run cpos pins s1 σ H1 _ I1 q1
  rw [hs] at hA ⊢
  refine Calls.callWith_builtin (by show (false || (backTo cpos (starEach es X.env)).any (·.1)) = false; rw [hplain] <;> rfl) (Calls.evalArgs_plain ?_)
  exact thn hA fun us s2 ⟨vs, H2, I2, r2, q2⟩ => hm pins s2 σ H2 (V.ref a) vs _ us Q I2 rfl r2 q2
end

/-! ### t[::-1] -/
section
variable {prog : Program} {w : World} {A : Around} {E : Value → Shared → Prop} {s : Shared}
theorem fm_congr {α β : Type} {f g : α → Option β} : ∀ l : List α, (∀ k ∈ l, f k = g k) → l.filterMap f = l.filterMap g
  | [], _ => rfl
  | a :: r, h => by
    rw [List.filterMap_cons, List.filterMap_cons, h a List.mem_cons_self, fm_congr r fun k hk => h k (List.mem_cons_of_mem _ hk)]
theorem back_list (xs : Array Value) : ((List.range xs.size).filterMap fun (k : Nat) => xs[((xs.size : Int) - 1 + (k : Int) * (-1)).toNat]?).toArray = xs.toList.reverse.toArray := by
  congr 1
  have e : (List.range xs.size).filterMap (fun (k : Nat) => xs[((xs.size : Int) - 1 + (k : Int) * (-1)).toNat]?) = ((List.range xs.size).map fun k => xs.size - 1 - k).filterMap (xs[·]?) := by
    rw [List.filterMap_map]
    refine fm_congr _ fun k hk => ?_
    have := List.mem_range.mp hk
    show xs[((xs.size : Int) - 1 + (k : Int) * (-1)).toNat]? = xs[xs.size - 1 - k]?
    rw [show ((xs.size : Int) - 1 + (k : Int) * (-1)).toNat = xs.size - 1 - k by omega]
  rw [e, krv_range, List.filterMap_reverse, krv_all]
theorem getItem_tuple_back {t sl : Addr} {items : Array Value} {vs : Value} {Q : Value → Shared → Prop} (ht : IsTup s.heap t items) (hs : s.heap.IsSliceOf sl .none .none vs) (ps : IsPart vs (some (-1)))
    (h : Q (.ref s.heap.objs.size) { s with heap := s.heap.push { cls := .type "tuple", data := .seq items.toList.reverse.toArray } })
    (hsz : items.size ≤ sizeLine) : wpAny (model prog w) A (getItem (.ref t) (.ref sl)) Q E s := by
  have fit : sizeOk (.seq items.toList.reverse.toArray) := by
    show items.toList.reverse.toArray.size ≤ sizeLine
    rw [List.size_toArray, List.length_reverse, Array.length_toList]
    exact hsz
  obtain ⟨os, hos, hcs, hds⟩ := id hs
  have hTs : s.TypeIs (.ref sl) "slice" := ⟨os, hos, hcs⟩
  unfold getItem
  try with_reducible refine wpAny_holding ?_
  first | refine wpAny_bind (wpAny_pure ?_) | skip
  refine wpAny_bind (wpAny_sequenceKey ht.typeIs (by decide) ?_)
  refine wpAny_bind (wpAny_callSpecial?_slot (name := Str.ofString "__getitem__") ht.typeIs PyProof.Rows.slot_tuple_getitem
    (wpAny_call_entry PyProof.Rows.slot_tuple_getitem ht.typeIs entry_tuple_getitem ?_ (args_tuple_getitem _ _)))
  show wpAny _ _ (Builtin.Tuple.tupleItemsOf (.ref t) >>= _) _ _ s
  refine wpAny_bind (tupleItemsOf_ ht (wpAny_bind (wpAny_typeOf hTs ?_)))
  rw [if_pos (by decide)]
  have places : Builtin.Slice.slicePlaces ((items.size : Int) - 1) (-1) (-1) = items.size := by
    unfold Builtin.Slice.slicePlaces
    rw [if_neg (by decide)]
    by_cases z : items.size = 0
    · rw [z]; decide
    · rw [if_pos (by omega), show (-(-1 : Int)) = 1 by decide, Int.ediv_one]
      omega
  have app : wpAny (model prog w) A.in1 (Builtin.Slice.sliceApplied (.ref sl) (pure (items.size : Int))) (fun r s' => r = (((items.size : Int) - 1), -1, items.size) ∧ s' = s) (fun _ _ => False) s := by
    unfold Builtin.Slice.sliceApplied Builtin.Slice.sliceFields
    refine wpAny_bind (wpAny_bind (wpAny_field hos hds (x := .none) rfl (wpAny_bind (wpAny_field hos hds (x := .none) rfl (wpAny_bind (wpAny_field hos hds (x := vs) rfl (wpAny_pure ?_)))))))
    refine wpAny_bind (HT.slicePart_ ps ?_)
    show wpAny _ _ (if ((-1 : Int) == 0) = true then _ else _) _ _ s
    rw [if_neg (by decide)]
    refine wpAny_bind (slicePart_none (wpAny_bind (slicePart_none (wpAny_bind (wpAny_pure ?_)))))
    show wpAny _ _ (pure (((items.size : Int) - 1), (-1 : Int), Builtin.Slice.slicePlaces ((items.size : Int) - 1) (-1) (-1))) _ _ s
    rw [places]
    exact wpAny_pure ⟨rfl, rfl⟩
  refine wpAny_bind (wpAny_mono app (fun r s' hr => ?_) fun _ _ z => z.elim)
  obtain ⟨rfl, rfl⟩ := hr
  have no : ¬ ((((items.size : Int) - 1) == 0 && (-1 : Int) == 1 && items.size == items.size) = true) := by
    intro q
    rw [Bool.and_eq_true, Bool.and_eq_true] at q
    exact absurd q.1.2 (by decide)
  show wpAny _ _ (if (((items.size : Int) - 1) == 0 && (-1 : Int) == 1 && items.size == items.size) = true then _ else _) _ _ s'
  rw [if_neg no, back_list]
  first
    | exact wpAny_bind (m := Builtin.Tuple.tupleExact _) (wpAny_newObj_type (wpAny_pure ⟨_, rfl, wpAny_pure h⟩) fit)
    | exact wpAny_bind (m := Builtin.Tuple.tupleExact _) (wpAny_newObj_type (wpAny_bind (wpAny_pure (wpAny_pure ⟨_, rfl, wpAny_pure h⟩))) fit)
    | exact wpAny_bind (wpAny_bind (m := Builtin.Tuple.tupleExact _) (wpAny_newObj_type (wpAny_pure (wpAny_pure ⟨_, rfl, wpAny_pure h⟩)) fit))
    | exact wpAny_bind (wpAny_bind (m := Builtin.Tuple.tupleExact _) (wpAny_newObj_type (wpAny_pure ⟨_, rfl, wpAny_pure h⟩) fit))
end
section
variable {X : Cx}
def tRevZ (K : PySem.W.Frag) (te : TE) : TE := fun σ H Q => te σ H fun x H1 => ∃ a xs, x = .ref a ∧ SqT K H1 a xs ∧ NewZ H1 xs.reverse Q
theorem pe_revZ {e : Expr} {te : TE} {k : Nat} {p1 p2 p3 pos : Pos} (he : PE X e te) : PE X (.Subscript e (.Slice none none (some (.UnaryOp .USub (.Constant (.int 1) k p1) p2)) p3) pos) (tRevZ X.K te) := by
  constructor
  intro pins s σ H Q I h
  refine Subscript_ (thn (he.run pins s σ H _ I h) fun v s1 hv => ?_)
  obtain ⟨x, H1, I1, r1, a, xs, rfl, hx, q⟩ := hv
  obtain rfl : v = .ref a := r1
  have part : PO X (some (.UnaryOp .USub (.Constant (.int 1) k p1) p2)) (tPart (tUn (rU fun i => .int (-i)) (tC (.int 1)))) := po_some (pe_un un_neg pe_int)
  refine wpAny_Slice (thn (po_none.run pins s1 σ H1 (fun o H2 => o = none ∧ H2 = H1) I1 ⟨rfl, rfl⟩) fun vl s2 hl => ?_)
  obtain ⟨l, H2, I2, pl, rfl, rfl⟩ := hl
  refine thn (po_none.run pins s2 σ H2 (fun o H3 => o = none ∧ H3 = H2) I2 ⟨rfl, rfl⟩) fun vu s3 hu => ?_
  obtain ⟨u, H3, I3, pu, rfl, rfl⟩ := hu
  refine thn (part.run pins s3 σ H3 (fun o H4 => o = some (-1) ∧ H4 = H3) I3 ⟨1, rfl, -1, rfl, rfl, rfl⟩) fun vs s4 hp => ?_
  obtain ⟨o, H4, I4, ps, rfl, rfl⟩ := hp
  cases pl
  cases pu
  have I5 : Inv X pins σ H4 { s4 with heap := s4.heap.push { cls := .type "slice", data := .fields #[.none, .none, vs] } } := I4.kept (t' := s4.toks) fun b ob q => Heap.get?_push_of_some _ q
  obtain ⟨its, r, ht, hz⟩ := I5.tuple hx
  show wpAny (model X.prog X.w) X.A (subscriptTail e (.Slice none none (some (.UnaryOp .USub (.Constant (.int 1) k p1) p2)) p3) (.ref a) (.ref s4.heap.objs.size)) (EP X pins σ Q) X.xe { s4 with heap := s4.heap.push { cls := .type "slice", data := .fields #[.none, .none, vs] } }
  refine tail_any (ops := [.ref a, .ref s4.heap.objs.size]) ht.typeIs (PyProof.Rows.slot_tuple_getitem.lookup) ?_ (by with_unfolding_all rfl)
  refine getItem_tuple_back ht (Heap.IsSliceOf.new _ .none .none vs) ps ?_ (by rw [List.size_toArray, ← r.length]; exact hz)
  have e1 : its.toArray.toList.reverse.toArray = its.reverse.toArray := by simp
  rw [e1]
  exact newZ I5 r.reverse (by rw [List.length_reverse]; exact hz) q
end
/-! ### t * 0, t * 1 -/
section
theorem tuple_mul1 (l : Addr) (items : Array Value) (n : Nat) (dd : Option Addr) (sl : Array (Option Value)) (u : Tok) :
    Meets (Builtin.«tuple.__mul__» ⟨[.ref l, .int 1 u], []⟩) (fun _ R s => s.heap.get? l = some { cls := .type "tuple", dict := dd, data := .seq items n, slots := sl } ∧ R (.ok (.ret (Value.ref l))) s) :=
  .of_wp fun prog w A R s h => by
    obtain ⟨hp, g, d, tk, os⟩ := s
    obtain ⟨hl, h⟩ := h
    have f1 := AutoSeq1.idx_int
    have c1 : (items.isEmpty || (1 : Int) == 1) = true := by rw [Bool.or_eq_true]; exact Or.inr (by decide)
    wp_walk using wpAny_loadPart' hl
    repeat (first
      | (refine wpAny_ite_true (decide_eq_true c1) ?_; wp_walk using wpAny_loadPart' hl)
      | (refine wpAny_ite_false (by decide) ?_; wp_walk using wpAny_loadPart' hl))
    exact ⟨_, rfl, h⟩
theorem tuple_mul0 (l : Addr) (items : Array Value) (n : Nat) (dd : Option Addr) (sl : Array (Option Value)) (u : Tok) (ne : items.isEmpty = false) :
    Meets (Builtin.«tuple.__mul__» ⟨[.ref l, .int 0 u], []⟩) (fun _ R s => s.heap.get? l = some { cls := .type "tuple", dict := dd, data := .seq items n, slots := sl } ∧
      R (.ok (.ret (Value.ref s.heap.objs.size))) { s with heap := s.heap.push { cls := Value.type "tuple", data := Data.seq #[] }, toks := s.toks }) :=
  .of_wp fun prog w A R s h => by
    obtain ⟨hp, g, d, tk, os⟩ := s
    obtain ⟨hl, h⟩ := h
    have f1 := AutoSeq1.idx_int
    have c1 : (items.isEmpty || (0 : Int) == 1) = false := by rw [ne, Bool.false_or]; decide
    have c2 : (decide ((0 : Int) ≤ 0) || items.isEmpty) = true := by rw [Bool.or_eq_true]; exact Or.inl (by decide)
    wp_walk using wpAny_loadPart' hl
    repeat (first
      | (refine wpAny_ite_false (decide_eq_false (by rw [c1]; exact Bool.false_ne_true)) ?_; wp_walk using wpAny_loadPart' hl)
      | (refine wpAny_ite_true (decide_eq_true c2) ?_; wp_walk using wpAny_loadPart' hl)
      | (refine wpAny_ite_false (by decide) ?_; wp_walk using wpAny_loadPart' hl))
    exact ⟨_, rfl, h⟩
end
section
variable {X : Cx}
def rRep01 (K : PySem.W.Frag) : R2 := fun x y H Q => ∃ l k xs, x = .ref l ∧ y = .int k ∧ SqT K H l xs ∧ xs ≠ [] ∧ (k = 0 ∨ k = 1) ∧ (k = 0 → NewZ H [] Q) ∧ (k = 1 → Q (.ref l) H)
theorem op_rep01 : OpR X (binaryOp .Mult) (rRep01 X.K) := by
  intro pins s σ H x y v u Q I rx ry h
  obtain ⟨l, k, xs, rfl, rfl, hT, ne, hk, q0, q1⟩ := h
  obtain rfl : v = .ref l := rx
  obtain ⟨t, rfl⟩ := ry
  obtain ⟨its, r, ⟨⟨cls, dd, data, sl⟩, ho, hc, n, hd⟩, hs⟩ := I.tuple hT
  simp only at hc hd
  subst hc hd
  have em : its.toArray.isEmpty = false := by
    cases its with
    | nil => cases r; exact absurd rfl ne
    | cons a b => rfl
  refine wpAny_binaryOp_repeat_ref (T := "tuple") (U := "int") (by decide) ⟨_, ho, rfl⟩ (fun s' => typeIs_int s' k t) noFill_tuple_mul F.fills_int_mul F.slot_int_rmul repeat_tuple F.slot_int_index.lookup
    (call_meets F.slot_int_rmul (typeIs_int s k t) F.entry_int_rmul (F.args_int_rmul_2 _ _) (int_rmul_tuple k t l its.toArray n dd sl) ⟨ho, rfl, ⟨_, ho, rfl⟩, ?_⟩)
  rcases hk with rfl | rfl
  · exact call_meets F.slot_tuple_mul ⟨_, ho, rfl⟩ F.entry_tuple_mul (F.args_tuple_mul_2 _ _) (tuple_mul0 l its.toArray n dd sl t em) ⟨ho, newZ I (its := []) .nil (Nat.zero_le _) (q0 rfl)⟩
  · exact call_meets F.slot_tuple_mul ⟨_, ho, rfl⟩ F.entry_tuple_mul (F.args_tuple_mul_2 _ _) (tuple_mul1 l its.toArray n dd sl t) ⟨ho, ⟨.ref l, H, I, rfl, q1 rfl⟩⟩
end
end GL
namespace GL
open PySem PySem.Spec PyProof.Rows L2
/-! ### rules told with the written part itself: a comprehension's element may then use them -/
section
variable {X : Cx} {K : PySem.W.Frag} {a e o : Expr} {es : List Expr} {ta to : TE} {t : TA} {p pos apos cpos : Pos} {f name : Str} {id : String} {r : V → List V → Hp → VK → Prop}
theorem pe_tupleOfK (hg : Gl X "tuple") (hm : X.mg "tuple" = none) (ha : PE X a ta) (h : X.K = K := by rfl) (na : starEach [a] X.env = (false, eval a X.env) :: starEach [] X.env := by rfl) :
    PE X (.Call (.Name "tuple" p) [a] [] pos) (tThen ta (kTup K)) := h ▸ pe_tupleOf hg hm ha na
theorem pe_tupleZK (hg : Gl X "tuple") (hm : X.mg "tuple" = none) (ha : PE X a ta) (h : X.K = K := by rfl) (na : starEach [a] X.env = (false, eval a X.env) :: starEach [] X.env := by rfl) :
    PE X (.Call (.Name "tuple" p) [a] [] pos) (tThen ta (kTupZ K)) := h ▸ pe_tupleZ hg hm ha na
theorem pe_fldK (he : PE X e ta) (hb : attributeBase e f X.env (eval e X.env) = eval e X.env) (h : X.K = K := by rfl) : PE X (.Attribute e f pos) (tFld K ta f) := h ▸ pe_fld he hb
theorem pa_starK (he : PE X e to) (hr : PA X es t) (h : X.K = K := by rfl) (hs : starEach (.Starred e p :: es) X.env = (true, eval e X.env) :: starEach es X.env := by rfl) : PA X (.Starred e p :: es) (StX.tStar K to t) := h ▸ StX.pa_star he hr hs
theorem pi_tupK {tg : Expr} (he : PE X e ta) (h : X.K = K := by rfl) : PI X tg e (iTup K ta) := h ▸ pi_tup he
theorem ix_tupK (h : X.K = K := by rfl) : IxR X (rIxT K) := h ▸ ix_tup
theorem mt_tup_indexK (h : X.K = K := by rfl) : MtR X "tuple.index" (fun x xs H Q => ∃ p, ∃ ys : List Str, ∃ z j, x = .ref p ∧ xs = [.str z] ∧ SqT K H p (ys.map V.str) ∧ ys[j]? = some z ∧ (∀ m, m < j → ys[m]? ≠ some z) ∧ Q (.int (j : Nat)) H) := h ▸ mt_tup_index
theorem pe_bmZK (slot : Slot "tuple" name id) (hty : typeOf (.builtin id) = pure (.type "method_descriptor")) (hm : MtR X id r) (ho : PE X o to) (ha : PA X (e :: es) t) (h : X.K = K := by rfl)
    (hbase : attributeBase o name X.env (eval o X.env) = eval o X.env := by rfl)
    (hfew : ((backTo cpos (starEach (e :: es) X.env)).all (fun x => !x.1) && (backToKw cpos (keywordEach [] X.env)).all (fun x => x.1.isSome)
      && decide ((e :: es).length + ([] : List Keyword).length + (if ([] : List Keyword).isEmpty then 0 else 1) < 30)) = true := by rfl)
    (hline : (apos.endLine == cpos.line) = true := by rfl) (hs : starEach (e :: es) X.env = (false, eval e X.env) :: starEach es X.env := by rfl) (hplain : (backTo cpos (starEach es X.env)).any (·.1) = false := by rfl) :
    PE X (.Call (.Attribute o name apos) (e :: es) [] cpos) (tBMZ K r to t) := h ▸ pe_bmZ slot hty hm ho ha hbase hfew hline hs hplain
end
end GL
/-! set(xs) of a list of ints, any of them twice -/
namespace L2
open PySem PySem.Spec PyProof.Rows
/-- the set that has just been made -/
abbrev bare (w : World) : Obj := { cls := .type "set", dict := none, data := .set #[] 0 (.fresh 0 0 (!w.params.followText "set-order")) }
section
variable {P : Program} {w : World} {A : Around} {E : Value → Shared → Prop} {s : Shared}
set_option maxHeartbeats 3200000 in
theorem set_of_list {l : Addr} {vs : Array Value} (ns : List Int) {Q : Value → Shared → Prop} (nh : A.handled = none)
    (isL : s.heap.IsList l vs) (are : IntsAre vs.toList ns) (few : ns.length + 1 < scanBound)
    (q : ∀ (h' : Heap) (tk c : Nat), SetR w h' s.heap.objs.size (fun j => decide (j ∈ ns)) c → c ≤ ns.length →
      (∀ b o, s.heap.get? b = some o → h'.get? b = some o) → Q (.ref s.heap.objs.size) { s with heap := h', toks := tk }) :
    wpAny (model P w) A (call (.type "set") [.ref l]) Q E s := by
  have same : vs.size = ns.length := by
    have z := IntsAre.length are
    rw [Array.length_toList] at z
    exact z
  obtain ⟨c, tl, m0⟩ := PySem.F.called_set.mro
  have m1 := PySem.F.called_set.made
  have m2 := PySem.F.called_set.sub
  refine wpAny_call (codeAny_of_tree ?_)
  show wpAny _ _ (callAny (.type "set") _) _ _ _
  refine wpAny_pure ⟨Code.quiet_builtin _ (by decide +kernel),
    codeAny_builtin PySem.F.entry_type_call ?_⟩
  rw [Around.under_plain (weight_type_call_type "set" [.ref l] [])
    rfl]
  have m3 := PySem.F.called_set.notType
  have m4 := PySem.F.called_set.canCreate
  have m5 := PySem.F.typeCall_set_1 (.ref l)
  repeat (any_goals (first | assumption | wp_step))
  refine codeAny_mono (code_set_led1 (.ref l) (E := E)
    (Q₁ := fun ob t => ob = .ref s.heap.objs.size ∧ t = { s with heap := s.heap.push (bare w) }) ⟨rfl, rfl⟩) fun r t hr => ?_
  cases r with
  | error e => exact hr
  | ok fl =>
    cases fl with
    | ret ob =>
      obtain ⟨rfl, rfl⟩ := hr
      have atS : (s.heap.push (bare w)).get? s.heap.objs.size = some (bare w) := Heap.get?_push_size _ rfl
      have tyS : Shared.TypeIs { s with heap := s.heap.push (bare w) } (.ref s.heap.objs.size) "set" := ⟨_, atS, rfl⟩
      have i1 := PySem.F.called_set.init.lookup
      have i2 := PySem.F.called_set.init.bind (.ref s.heap.objs.size)
      repeat (any_goals (first | assumption | wp_step))
      refine codeAny_mono (codeAny_call_builtin (R := wants (fun r t => r = .none ∧ ∃ h' tk c, t = { s with heap := h', toks := tk } ∧
          SetR w h' s.heap.objs.size (fun j => decide (j ∈ ns)) c ∧ c ≤ ns.length ∧ (∀ b o, s.heap.get? b = some o → h'.get? b = some o)) E)
        PySem.F.called_set.init.plain PySem.F.entry_set_init (check_set_init_1 tyS ?_)) fun r2 t2 hr2 => ?_
      · obtain ⟨ol, e0, e1, nl, e2⟩ := isL
        obtain ⟨oc, od, dat, osl⟩ := ol
        simp only at e1 e2
        subst e1
        subst e2
        have e3 : (s.heap.push (bare w)).get? l = some { cls := .type "list", dict := od, data := .seq vs nl, slots := osl } := Heap.get?_push_of_some _ e0
        have b1 := PySem.F.sub_list_set
        have b2 := PySem.F.sub_list_frozenset
        have b3 : (Value.type "list" == Value.type "dict") = false := by decide
        have isL1 : (s.heap.push (bare w)).IsList l vs := ⟨_, e3, rfl, nl, rfl⟩
        unfold Builtin.«set.__init__» noKeywords
        unfold Builtin.Frozenset.updateFrom
        generalize hI : pyIter = PI
        wp_walk
        subst hI
        refine wpAny_pyIter_list isL1 ?_
        refine wpAny_bind (wpAny_runValue ?_)
        have ltS : l < s.heap.objs.size := Heap.lt_size e0
        have nh3 : A.in1.in1.in1.handled = none := by
          simp [nh]
        have nI : l ≠ (s.heap.push (bare w)).objs.size := by
          rw [Heap.size_push]
          exact Nat.ne_of_lt (Nat.lt_succ_of_lt ltS)
        have offS : s.heap.objs.size ∉ [(s.heap.push (bare w)).objs.size, l] := by
          rw [Heap.size_push]
          intro z
          rcases List.mem_cons.mp z with z | z
          · exact absurd z (Nat.ne_of_lt (Nat.lt_succ_self _))
          · exact absurd (List.mem_singleton.mp z) (Nat.ne_of_gt ltS)
        have val : ∀ (i : Nat) (v : Value), vs[i]? = some v → ∃ k t, ns[i]? = some k ∧ v = .int k t := fun i v hv => by
          have hi : i < ns.length := by
            rw [← same]
            exact (Array.getElem?_eq_some_iff.mp hv).1
          obtain ⟨t, e⟩ := PyProof.Rows.IntsAre.int_at are i v (by rw [Array.getElem?_toList]; exact hv)
          refine ⟨ns[i], t, List.getElem?_eq_getElem hi, ?_⟩
          rw [e, List.getD_eq_getElem?_getD, List.getElem?_eq_getElem hi] <;> rfl
        refine set_update_ints ((Walks.list nh3 _ l nI vs).toS) s.heap.objs.size offS ns same few val (vs.size - 0) 0 _ (by omega) (Nat.zero_le _)
          ⟨⟨_, Heap.get?_push_size _ rfl, rfl, rfl⟩, (isL1.push _)⟩ ?g0 ?gR
        case g0 =>
          exact ⟨0, Nat.le_refl 0, setR_new_at (Heap.get?_push_of_some _ atS)⟩
        case gR =>
          intro t' c' mv hc' hS'
          obtain ⟨h', g2, d', tk', os'⟩ := t'
          have z1 : g2 = s.gens := mv.gens
          have z2 : d' = s.drawn := mv.drawn
          have z3 : os' = s.os := mv.os
          subst z1
          subst z2
          subst z3
          show wpAny _ _ _ _ _ _
          refine wpAny_pure ?_
          show wpAny _ _ (ret Value.none) _ _ _
          rw [same] at hc'
          refine wpAny_pure ⟨rfl, h', tk', c', rfl, hS', hc', fun b o e => ?_⟩
          have lb : b < s.heap.objs.size := Heap.lt_size e
          have n2 : b ≠ (s.heap.push (bare w)).objs.size := by
            rw [Heap.size_push]
            exact Nat.ne_of_lt (Nat.lt_succ_of_lt lb)
          refine mv.heap b o (fun z => ?_) (Heap.get?_push_of_some _ (Heap.get?_push_of_some _ e))
          rcases List.mem_cons.mp z with z | z
          · exact absurd z (Nat.ne_of_lt lb)
          · exact absurd (List.mem_singleton.mp z) n2
      · cases r2 with
        | error e => exact hr2
        | ok fl2 =>
          cases fl2 with
          | ret r =>
            obtain ⟨rfl, h', tk, c', rfl, hS', hc', hk'⟩ := hr2
            repeat (any_goals (first | assumption | wp_step))
            exact q _ _ _ hS' hc' hk'
          | _ => exact hr2.elim
    | _ => exact hr.elim
end
section
variable {X : Cx}
def rSetI (K : PySem.W.Frag) (w : World) : List V → Hp → VK → Prop := fun xs H Q => ∃ (l : Addr) (ns : List Int), xs = [.ref l] ∧ SqL K H l (ns.map V.int) ∧ ns.length ≤ 1000 ∧
  ∀ (p : Addr) (c : Nat), H p = none → c ≤ ns.length → Q (.ref p) (upd H p (SetO w p (fun j => decide (j ∈ ns)) c))
theorem cr_setI (hc : X.calm = true) : CallR X (.type "set") (rSetI X.K X.w) := by
  intro pins s σ H xs us Q I r h
  obtain ⟨l, ns, rfl, hs, hl, q⟩ := h
  obtain ⟨its, rv, pl, _⟩ := I.list hs
  rw [Vals.ref1 r]
  refine set_of_list ns (I.ok.hd hc) pl.isList (show IntsAre its.toArray.toList ns from ints_of_vals rv) (by unfold scanBound; omega) fun h' tk c hS hcn hk => ?_
  exact ⟨.ref _, upd H s.heap.objs.size (SetO X.w s.heap.objs.size (fun j => decide (j ∈ ns)) c), I.laid (t' := tk) (fun b u e => hk b u e) (Nat.le_refl _) (setO_new hS), rfl, q _ c (I.hok.fresh (Nat.le_refl _)) hcn⟩
end
end L2
namespace GL
open PySem PySem.Spec PyProof.Rows L2
section
variable {X : Cx} {K : PySem.W.Frag} {o e : Expr} {es : List Expr} {to ta : TE} {t : TA} {name : Str} {apos cpos : Pos} {Ty id : String} {r : V → List V → Hp → VK → Prop}
theorem pe_bmK (pa : PlainAttrs Ty) (slot : Slot Ty name id) (hty : typeOf (.builtin id) = pure (.type "method_descriptor")) (hm : MtR X id r) (ho : PE X o to) (ha : PA X (e :: es) t) (h : X.K = K := by rfl)
    (hbase : attributeBase o name X.env (eval o X.env) = eval o X.env := by rfl)
    (hfew : ((backTo cpos (starEach (e :: es) X.env)).all (fun x => !x.1) && (backToKw cpos (keywordEach [] X.env)).all (fun x => x.1.isSome)
      && decide ((e :: es).length + ([] : List Keyword).length + (if ([] : List Keyword).isEmpty then 0 else 1) < 30)) = true := by rfl)
    (hline : (apos.endLine == cpos.line) = true := by rfl) (hs : starEach (e :: es) X.env = (false, eval e X.env) :: starEach es X.env := by rfl) (hplain : (backTo cpos (starEach es X.env)).any (·.1) = false := by rfl) :
    PE X (.Call (.Attribute o name apos) (e :: es) [] cpos) (tBM K Ty r to t) := h ▸ pe_bm pa slot hty hm ho ha hbase hfew hline hs hplain
theorem mt_indexK (h : X.K = K := by rfl) : MtR X "list.index" (rIndex K) := h ▸ mt_index
theorem pi_listK {tg : Expr} (he : PE X e ta) (h : X.K = K := by rfl) : PI X tg e (iList K ta) := h ▸ pi_list he
end
end GL
/-! len(set(xs)) of a list of texts, any of them twice -/
namespace L2
open PySem PySem.Spec PyProof.Rows
/-- how many unlike ones (the later ones first) -/
def dcR : List Str → Nat
  | [] => 0
  | x :: r => if x ∈ r then dcR r else dcR r + 1
def dcnt (xs : List Str) : Nat := dcR xs.reverse
theorem dcR_cons (x : Str) (r : List Str) : dcR (x :: r) = if x ∈ r then dcR r else dcR r + 1 := rfl
theorem dcR_le : ∀ xs : List Str, dcR xs ≤ xs.length
  | [] => Nat.le_refl _
  | x :: r => by
    have ih := dcR_le r
    unfold dcR
    split <;> simp only [List.length_cons] <;> omega
theorem dcR_nodup : ∀ xs : List Str, dcR xs = xs.length ↔ xs.Nodup
  | [] => ⟨fun _ => .nil, fun _ => rfl⟩
  | x :: r => by
    have ih := dcR_nodup r
    have le := dcR_le r
    unfold dcR
    rw [List.nodup_cons]
    by_cases m : x ∈ r
    · rw [if_pos m, List.length_cons]
      exact ⟨fun e => by omega, fun h => absurd m h.1⟩
    · rw [if_neg m, List.length_cons]
      exact ⟨fun e => ⟨m, ih.mp (by omega)⟩, fun h => by rw [ih.mpr h.2]⟩
theorem dcnt_le (xs : List Str) : dcnt xs ≤ xs.length := by
  have := dcR_le xs.reverse
  rw [List.length_reverse] at this
  exact this
theorem dcnt_nodup (xs : List Str) : dcnt xs = xs.length ↔ xs.Nodup := by
  have h := dcR_nodup xs.reverse
  rw [List.length_reverse] at h
  rw [show dcnt xs = dcR xs.reverse from rfl, h]
  exact List.pairwise_reverse.trans ⟨fun z => z.imp fun e y => e y.symm, fun z => z.imp fun e y => e y.symm⟩
theorem dcnt_step {xs : List Str} {i : Nat} {x : Str} (h : xs[i]? = some x) : dcnt (xs.take (i + 1)) = if (decide (x ∈ xs.take i)) = true then dcnt (xs.take i) else dcnt (xs.take i) + 1 := by
  unfold dcnt
  rw [List.take_add_one, h, Option.toList_some, List.reverse_append, List.reverse_singleton]
  show dcR (x :: (xs.take i).reverse) = _
  rw [dcR_cons]
  by_cases m : x ∈ xs.take i
  · rw [if_pos (List.mem_reverse.mpr m), if_pos (decide_eq_true m)]
  · rw [if_neg (fun z => m (List.mem_reverse.mp z)), if_neg (fun z => m (of_decide_eq_true z))]
/-- the set of texts at a -/
abbrev SetX (P : Program) (w : World) (h : Heap) (a : Addr) (xs : List Str) : Prop := h.SetOf (PySem.strKind P w) a (fun k => decide (k ∈ xs)) (dcnt xs)
theorem SetX.keep {P : Program} {w : World} {h h' : Heap} {a : Addr} {xs : List Str} (F : SetX P w h a xs) (k : ∀ o, h.get? a = some o → h'.get? a = some o) : SetX P w h' a xs := by
  obtain ⟨o, es, ep, t, ho, r⟩ := F
  exact ⟨o, es, ep, t, k o ho, r⟩
section
variable {P : Program} {w : World} {A : Around} {E : Value → Shared → Prop} {s : Shared}
theorem fill_texts {I : Addr} {fp wr : List Addr} {G : Array GenState → Array GenState → Prop} {n : Nat} {Pv : Nat → Value → Prop} {St : Nat → Shared → Prop} {R : Result → Shared → Prop}
    (Wk : WalksS P w A.in1 I fp wr G n Pv St) (S : Addr) (off : S ∉ fp) (xs : List Str) (len : n = xs.length) (few : xs.length + 1 < scanBound) (val : ∀ i v, Pv i v → ∃ k t, xs[i]? = some k ∧ v = .str k t)
    (m i : Nat) (s : Shared) (em : n - i = m) (le : i ≤ n) (at0 : St i s) (F : SetX P w s.heap S (xs.take i))
    (q : ∀ s', Moved (S :: wr) G s s' → SetX P w s'.heap S xs → R (.ok (.ret .none)) s') :
    codeAny (model P w) A (.builtin "set.update.loop" ⟨[.ref S, .ref I], []⟩) R s := by
  have offW : S ∉ wr := fun z => off (Wk.sub _ z)
  have wide : ∀ b ∈ wr, b ∈ S :: wr := fun b z => List.mem_cons_of_mem _ z
  induction m generalizing i s with
  | zero =>
    obtain rfl : i = n := by omega
    refine codeAny_builtin PyProof.Rows.F.entry_set_update_loop ?_
    rw [Around.under_plainId PyProof.Rows.F.plain_set_update_loop _]
    refine wpAny_bind (Wk.done s _ _ at0 fun s' mv => ?_)
    rw [List.take_of_length_le (by omega)] at F
    exact wpAny_pure (q s' (mv.mono wide) (F.keep fun o e => mv.heap S o offW e))
  | succ m ih =>
    have lt : i < n := by omega
    refine codeAny_builtin PyProof.Rows.F.entry_set_update_loop ?_
    rw [Around.under_plainId PyProof.Rows.F.plain_set_update_loop _]
    refine wpAny_bind (Wk.item i s _ _ lt at0 fun v s' pv at1 mv => ?_)
    obtain ⟨z, t, hz, rfl⟩ := val i v pv
    have F1 : SetX P w s'.heap S (xs.take i) := F.keep fun o e => mv.heap S o offW e
    refine wpAny_bind (wpAny_holding ?_)
    unfold setAdd
    refine wpAny_holding (wpAny_bind ((PySem.strKind P w).pyHash (k := z) (strKind_is _ _ _ _) ?_))
    have lq := dcnt_le (xs.take i)
    rw [List.length_take] at lq
    refine wpAny_setAddHashed_of (knd := PySem.strKind P w) (s := { s' with toks := s'.toks + 1 }) (strKind_is _ _ _ _) rfl F1 (by omega) fun h' sb F2 => ?_
    have F3 : SetX P w h' S (xs.take (i + 1)) := by
      refine PyProof.Rows.SetOf_congr F2 (fun k => ?_) (dcnt_step hz).symm
      rw [List.take_add_one, hz]
      simp [List.mem_append]
    have keep : ∀ b, b ≠ S → ∀ o, s'.heap.get? b = some o → h'.get? b = some o := fun b nb o e => by
      rw [sb.2 b nb]; exact e
    refine wpAny_pure ⟨plainId_quiet PyProof.Rows.F.plain_set_update_loop _, ih (i + 1) _ (by omega) lt (Wk.frame _ s' _ _ at1 (Nat.le_succ _) fun b hb o e => keep b (fun z => off (z ▸ hb)) o e) F3 fun s'' mv2 F4 => ?_⟩
    exact q s'' (Moved.trans Wk.gtrans ((mv.mono wide).then_heap (Nat.le_succ _) fun b o hb e => keep b (fun z => hb (z ▸ List.mem_cons_self)) o e) mv2) F4
set_option maxHeartbeats 3200000 in
theorem set_of_texts {l : Addr} {vs : Array Value} (ns : List Str) {Q : Value → Shared → Prop} (nh : A.handled = none)
    (isL : s.heap.IsList l vs) (are : PyProof.Rows.StrsAre vs.toList ns) (few : ns.length + 1 < scanBound)
    (q : ∀ (h' : Heap) (tk : Nat), SetX P w h' s.heap.objs.size ns →
      (∀ b o, s.heap.get? b = some o → h'.get? b = some o) → Q (.ref s.heap.objs.size) { s with heap := h', toks := tk }) :
    wpAny (model P w) A (call (.type "set") [.ref l]) Q E s := by
  have same : vs.size = ns.length := by
    have z := PyProof.Rows.StrsAre.len_eq are
    rw [Array.length_toList] at z
    exact z
  obtain ⟨c, tl, m0⟩ := PySem.F.called_set.mro
  have m1 := PySem.F.called_set.made
  have m2 := PySem.F.called_set.sub
  refine wpAny_call (codeAny_of_tree ?_)
  show wpAny _ _ (callAny (.type "set") _) _ _ _
  refine wpAny_pure ⟨Code.quiet_builtin _ (by decide +kernel),
    codeAny_builtin PySem.F.entry_type_call ?_⟩
  rw [Around.under_plain (weight_type_call_type "set" [.ref l] [])
    rfl]
  have m3 := PySem.F.called_set.notType
  have m4 := PySem.F.called_set.canCreate
  have m5 := PySem.F.typeCall_set_1 (.ref l)
  repeat (any_goals (first | assumption | wp_step))
  refine codeAny_mono (code_set_led1 (.ref l) (E := E)
    (Q₁ := fun ob t => ob = .ref s.heap.objs.size ∧ t = { s with heap := s.heap.push (bare w) }) ⟨rfl, rfl⟩) fun r t hr => ?_
  cases r with
  | error e => exact hr
  | ok fl =>
    cases fl with
    | ret ob =>
      obtain ⟨rfl, rfl⟩ := hr
      have atS : (s.heap.push (bare w)).get? s.heap.objs.size = some (bare w) := Heap.get?_push_size _ rfl
      have tyS : Shared.TypeIs { s with heap := s.heap.push (bare w) } (.ref s.heap.objs.size) "set" := ⟨_, atS, rfl⟩
      have i1 := PySem.F.called_set.init.lookup
      have i2 := PySem.F.called_set.init.bind (.ref s.heap.objs.size)
      repeat (any_goals (first | assumption | wp_step))
      refine codeAny_mono (codeAny_call_builtin (R := wants (fun r t => r = .none ∧ ∃ h' tk, t = { s with heap := h', toks := tk } ∧
          SetX P w h' s.heap.objs.size ns ∧ (∀ b o, s.heap.get? b = some o → h'.get? b = some o)) E)
        PySem.F.called_set.init.plain PySem.F.entry_set_init (check_set_init_1 tyS ?_)) fun r2 t2 hr2 => ?_
      · obtain ⟨ol, e0, e1, nl, e2⟩ := isL
        obtain ⟨oc, od, dat, osl⟩ := ol
        simp only at e1 e2
        subst e1
        subst e2
        have e3 : (s.heap.push (bare w)).get? l = some { cls := .type "list", dict := od, data := .seq vs nl, slots := osl } := Heap.get?_push_of_some _ e0
        have b1 := PySem.F.sub_list_set
        have b2 := PySem.F.sub_list_frozenset
        have b3 : (Value.type "list" == Value.type "dict") = false := by decide
        have isL1 : (s.heap.push (bare w)).IsList l vs := ⟨_, e3, rfl, nl, rfl⟩
        unfold Builtin.«set.__init__» noKeywords
        unfold Builtin.Frozenset.updateFrom
        generalize hI : pyIter = PI
        wp_walk
        subst hI
        refine wpAny_pyIter_list isL1 ?_
        refine wpAny_bind (wpAny_runValue ?_)
        have ltS : l < s.heap.objs.size := Heap.lt_size e0
        have nh3 : A.in1.in1.in1.handled = none := by
          simp [nh]
        have nI : l ≠ (s.heap.push (bare w)).objs.size := by
          rw [Heap.size_push]
          exact Nat.ne_of_lt (Nat.lt_succ_of_lt ltS)
        have offS : s.heap.objs.size ∉ [(s.heap.push (bare w)).objs.size, l] := by
          rw [Heap.size_push]
          intro z
          rcases List.mem_cons.mp z with z | z
          · exact absurd z (Nat.ne_of_lt (Nat.lt_succ_self _))
          · exact absurd (List.mem_singleton.mp z) (Nat.ne_of_gt ltS)
        have val : ∀ (i : Nat) (v : Value), vs[i]? = some v → ∃ k t, ns[i]? = some k ∧ v = .str k t := fun i v hv => by
          have hi : i < ns.length := by
            rw [← same]
            exact (Array.getElem?_eq_some_iff.mp hv).1
          obtain ⟨t, e⟩ := SS.strs_at are i v (by rw [Array.getElem?_toList]; exact hv)
          refine ⟨ns[i], t, List.getElem?_eq_getElem hi, ?_⟩
          rw [e, List.getD_eq_getElem?_getD, List.getElem?_eq_getElem hi] <;> rfl
        refine fill_texts ((Walks.list nh3 _ l nI vs).toS) s.heap.objs.size offS ns same few val (vs.size - 0) 0 _ (by omega) (Nat.zero_le _)
          ⟨⟨_, Heap.get?_push_size _ rfl, rfl, rfl⟩, (isL1.push _)⟩ ?g0 ?gR
        case g0 =>
          exact PyProof.Rows.SetOf_congr ((PyProof.Rows.setObjOf_fresh (knd := PySem.strKind P w) _).setOf (Heap.get?_push_of_some _ atS) (by unfold scanBound; omega)) (fun k => by simp) rfl
        case gR =>
          intro t' mv hS'
          obtain ⟨h', g2, d', tk', os'⟩ := t'
          have z1 : g2 = s.gens := mv.gens
          have z2 : d' = s.drawn := mv.drawn
          have z3 : os' = s.os := mv.os
          subst z1
          subst z2
          subst z3
          show wpAny _ _ _ _ _ _
          refine wpAny_pure ?_
          show wpAny _ _ (ret Value.none) _ _ _
          refine wpAny_pure ⟨rfl, h', tk', rfl, hS', fun b o e => ?_⟩
          have lb : b < s.heap.objs.size := Heap.lt_size e
          have n2 : b ≠ (s.heap.push (bare w)).objs.size := by
            rw [Heap.size_push]
            exact Nat.ne_of_lt (Nat.lt_succ_of_lt lb)
          refine mv.heap b o (fun z => ?_) (Heap.get?_push_of_some _ (Heap.get?_push_of_some _ e))
          rcases List.mem_cons.mp z with z | z
          · exact absurd z (Nat.ne_of_lt lb)
          · exact absurd (List.mem_singleton.mp z) n2
      · cases r2 with
        | error e => exact hr2
        | ok fl2 =>
          cases fl2 with
          | ret r =>
            obtain ⟨rfl, h', tk, rfl, hS', hk'⟩ := hr2
            repeat (any_goals (first | assumption | wp_step))
            exact q _ _ hS' hk'
          | _ => exact hr2.elim
    | _ => exact hr.elim
end
section
variable {X : Cx}
/-- len(set(xs)), xs a list of texts -/
def tLenSetX (K : PySem.W.Frag) (ta : TE) : TE := fun σ H Q => ta σ H fun x H1 => ∃ l, ∃ xs : List Str, x = .ref l ∧ SqL K H1 l (xs.map V.str) ∧ xs.length ≤ 1000 ∧ Q (.int (dcnt xs : Nat)) H1
theorem pe_lenSetX {a : Expr} {ta : TE} {p p2 q pos : Pos} (hc : X.calm = true) (hg : Gl X "len") (hm : X.mg "len" = none) (hg2 : Gl X "set") (hm2 : X.mg "set" = none) (ha : PE X a ta)
    (na : starEach [a] X.env = (false, eval a X.env) :: starEach [] X.env := by rfl) : PE X (.Call (.Name "len" p) [.Call (.Name "set" p2) [a] [] q] [] pos) (tLenSetX X.K ta) := by
  constructor
  intro pins s σ H Q I h
  refine Call_ (ld_blt I hg hm boot_len (PyProof.Rows.callWith_builtin1 (PyProof.Rows.args_cons ?_ rfl) rfl rfl))
  refine Call_ (ld_blt I hg2 hm2 boot_set (PyProof.Rows.callWith_type1 (PyProof.Rows.args_cons (thn (ha.run pins s σ H _ I h) ?_) na) na rfl))
  rintro v s1 ⟨x, H1, I1, r1, l, xs, rfl, hq, l1, q1⟩
  cases r1
  obtain ⟨its, r, pl, _⟩ := I1.list hq
  refine PyProof.Rows.args_nil (set_of_texts xs (I1.ok.hd hc) pl.isList (by simpa using strsAre_of r) (by unfold scanBound; omega) fun h' tk hS hk => PyProof.Rows.args_nil ?_)
  obtain ⟨o, es, ep, t, ho, hex, hd, _, _, _, hf, hn⟩ := hS
  have I2 : Inv X pins σ H1 { s1 with heap := h', toks := tk } := I1.kept fun b o e => hk b o e
  have le := dcnt_le xs
  refine call_len_set ho hex hd hf (by rw [hn]; omega) ⟨.int (dcnt xs : Nat), H1, I2.tok _, ⟨_, by rw [hn]⟩, q1⟩
end
end L2
namespace KX
open PySem PySem.Spec PyProof.Rows L2 GL RZ TL
theorem nodup_of {α : Type} : ∀ {l : List α}, (∀ (a b : Nat) (x : α), l[a]? = some x → l[b]? = some x → a = b) → l.Nodup
  | [], _ => List.nodup_nil
  | y :: r, h => List.nodup_cons.mpr ⟨fun hy => by
      obtain ⟨i, hi⟩ := List.getElem?_of_mem hy
      have := h 0 (i + 1) y rfl hi
      omega, nodup_of fun a b x ea eb => by
      have := h (a + 1) (b + 1) x ea eb
      omega⟩
abbrev abcL : List Nat := (Str.ofString "abcdefghijklmnopqrstuvwxyz").cps.toList
theorem abcL_nodup : abcL.Nodup := by decide +kernel
theorem abcL_len : abcL.length = 26 := by decide +kernel
theorem sign_join {ws : List Str} (h : ∀ z ∈ ws, ∃ c, z = (⟨#[c]⟩ : Str)) : ∀ i : Nat, (joinL [] (ws.map tl))[i]? = (ws[i]?).bind fun z => z.cps.toList[0]? := by
  induction ws with
  | nil => intro i; rfl
  | cons z r ih =>
    obtain ⟨k, rfl⟩ := h z List.mem_cons_self
    have ih' := ih fun y hy => h y (List.mem_cons_of_mem _ hy)
    cases r with
    | nil => intro i; cases i <;> rfl
    | cons y r =>
      intro i
      cases i with
      | zero => rfl
      | succ i => exact ih' i
/-- how the names that are called lie: one word with another letter at one place -/
structure NmAt (at_ fi : Int) (i : Nat) (ns ws : List Str) : Prop where
  ex : ∃ (cs : List Nat) (w0 : List Str), cs.length = i ∧ ns = cs.map (fun c => Txt.join "" (w0.set at_.toNat ⟨#[c]⟩)) ∧ (∀ j c, cs[j]? = some c → abcL[((fi + 7 * (j : Nat)) % 26).toNat]? = some c) ∧
    (∀ c, ws.set at_.toNat ⟨#[c]⟩ = w0.set at_.toNat ⟨#[c]⟩) ∧ (∀ z ∈ w0, ∃ c, z = (⟨#[c]⟩ : Str)) ∧ at_.toNat < w0.length
theorem NmAt.new {at_ fi : Int} {ws : List Str} (h : ∀ z ∈ ws, ∃ c, z = (⟨#[c]⟩ : Str)) (l : at_.toNat < ws.length) : NmAt at_ fi 0 [] ws := ⟨⟨[], ws, rfl, rfl, fun j c e => (by cases e), fun c => rfl, h, l⟩⟩
theorem NmAt.step {at_ fi : Int} {i c : Nat} {ns ws : List Str} (n : NmAt at_ fi i ns ws) (h : abcL[((fi + 7 * (i : Nat)) % 26).toNat]? = some c) : NmAt at_ fi (i + 1) (ns ++ [Txt.join "" (ws.set at_.toNat ⟨#[c]⟩)]) (ws.set at_.toNat ⟨#[c]⟩) := by
  obtain ⟨cs, w0, h1, rfl, h3, h4, h5, h6⟩ := n.ex
  refine ⟨cs ++ [c], w0, by rw [List.length_append, h1]; rfl, ?_, ?_, ?_, h5, h6⟩
  · rw [List.map_append, h4]; rfl
  · intro j d e
    rcases Nat.lt_or_ge j cs.length with hj | hj
    · rw [List.getElem?_append_left hj] at e
      exact h3 j d e
    · rw [List.getElem?_append_right hj] at e
      have e0 : j - cs.length = 0 := by
        rcases Nat.eq_zero_or_pos (j - cs.length) with z | z
        · exact z
        · rw [List.getElem?_eq_none (by show 1 ≤ _; omega)] at e; cases e
      rw [e0] at e
      cases e
      rw [show j = i by omega]
      exact h
  · intro d
    rw [List.set_set, h4]
theorem tl_join0 (ws : List Str) : (Txt.join "" ws).cps.toList = joinL [] (ws.map tl) := by
  have e0 : tl ("" : Str) = [] := by decide +kernel
  rw [join_eq]
  have := tl_join "" ws
  rw [e0] at this
  exact this
theorem word_at {w0 : List Str} {k c : Nat} (h5 : ∀ z ∈ w0, ∃ c, z = (⟨#[c]⟩ : Str)) (h6 : k < w0.length) : (Txt.join "" (w0.set k ⟨#[c]⟩)).cps.toList[k]? = some c := by
  rw [tl_join0, sign_join]
  · rw [List.getElem?_set_self h6]; rfl
  · intro z hz
    rcases List.mem_or_eq_of_mem_set hz with hz | rfl
    · exact h5 z hz
    · exact ⟨c, rfl⟩
theorem NmAt.nodup {at_ fi : Int} {i : Nat} {ns ws : List Str} (n : NmAt at_ fi i ns ws) (hi : i ≤ 9) : ns.Nodup := by
  obtain ⟨cs, w0, h1, rfl, h3, h4, h5, h6⟩ := n.ex
  have cd : cs.Nodup := by
    refine nodup_of fun a b x ea eb => ?_
    have eq := nd_ix abcL_nodup (h3 a x ea) (h3 b x eb)
    have p1 := (List.getElem?_eq_some_iff.mp ea).1
    have p2 := (List.getElem?_eq_some_iff.mp eb).1
    omega
  refine List.Pairwise.map _ (fun a b ne e => ne ?_) cd
  have q1 := word_at (c := a) h5 h6
  have q2 := word_at (c := b) h5 h6
  rw [e, q2] at q1
  exact (Option.some.inj q1).symm
theorem NmAt.one {at_ fi : Int} {i : Nat} {ns ws : List Str} (n : NmAt at_ fi i ns ws) : ∀ z ∈ ns, 1 ≤ z.cps.toList.length := by
  obtain ⟨cs, w0, h1, rfl, h3, h4, h5, h6⟩ := n.ex
  intro z hz
  obtain ⟨c, _, rfl⟩ := List.mem_map.mp hz
  have q := (List.getElem?_eq_some_iff.mp (word_at (c := c) h5 h6)).1
  omega
/-- names of one sign and their place -/
def NumAt (ms : List Str) : Prop := ∀ j z, ms[j]? = some z → ∃ p : Str, p.cps.toList.length = 1 ∧ z = p ++ Str.ofString (toString ((j : Nat) : Int))
theorem NumAt.snoc {ms : List Str} {p : Str} (h : NumAt ms) (hp : p.cps.toList.length = 1) : NumAt (ms ++ [p ++ Str.ofString (toString ((ms.length : Nat) : Int))]) := by
  intro j z e
  rcases Nat.lt_or_ge j ms.length with hj | hj
  · rw [List.getElem?_append_left hj] at e
    exact h j z e
  · rw [List.getElem?_append_right hj] at e
    have e0 : j - ms.length = 0 := by
      rcases Nat.eq_zero_or_pos (j - ms.length) with q | q
      · exact q
      · rw [List.getElem?_eq_none (by show 1 ≤ _; omega)] at e; cases e
    rw [e0] at e
    cases e
    rw [show j = ms.length by omega]
    exact ⟨p, hp, rfl⟩
theorem num_inj : ∀ a b : Nat, a < 9 → b < 9 → (Str.ofString (toString ((a : Nat) : Int))).cps.toList = (Str.ofString (toString ((b : Nat) : Int))).cps.toList → a = b := by
  intro a b ha hb
  have h : a = 0 ∨ a = 1 ∨ a = 2 ∨ a = 3 ∨ a = 4 ∨ a = 5 ∨ a = 6 ∨ a = 7 ∨ a = 8 := by omega
  have k : b = 0 ∨ b = 1 ∨ b = 2 ∨ b = 3 ∨ b = 4 ∨ b = 5 ∨ b = 6 ∨ b = 7 ∨ b = 8 := by omega
  rcases h with rfl | rfl | rfl | rfl | rfl | rfl | rfl | rfl | rfl <;> rcases k with rfl | rfl | rfl | rfl | rfl | rfl | rfl | rfl | rfl <;> first | exact fun _ => rfl | (intro e; exact absurd e (by decide +kernel))
theorem NumAt.nodup {ms : List Str} (h : NumAt ms) (l : ms.length ≤ 9) : ms.Nodup := by
  refine nodup_of fun a b x ea eb => ?_
  obtain ⟨p, hp, ep⟩ := h a _ ea
  obtain ⟨q, hq, eq⟩ := h b _ eb
  have z : (p ++ Str.ofString (toString ((a : Nat) : Int))).cps.toList = (q ++ Str.ofString (toString ((b : Nat) : Int))).cps.toList := by rw [← ep, ← eq]
  have ap : ∀ x y : Str, (x ++ y).cps.toList = x.cps.toList ++ y.cps.toList := fun x y => by
    show (x.cps ++ y.cps).toList = _
    rw [Array.toList_append]
  rw [ap, ap] at z
  have := (List.append_inj z (hp.trans hq.symm)).2
  have p1 := (List.getElem?_eq_some_iff.mp ea).1
  have p2 := (List.getElem?_eq_some_iff.mp eb).1
  exact num_inj _ _ (by omega) (by omega) this
end KX
namespace GL
open PySem PySem.Spec PyProof.Rows L2 PySem.W PySem.Calls
section
variable {prog : Program} {w : World} {A : Around} {E : Value → Shared → Prop} {s : Shared}
/-- a list told out to n targets, the one at i starred: the middle becomes a new list behind all there is -/
theorem star_itemsL {a : Addr} {xs : Array Value} {n i : Nat} {Q : List Value → Shared → Prop} (ht : s.heap.IsList a xs) (hh : A.handled = none) (hi : i < n) (hn : n ≤ xs.size + 1) (hz : xs.size ≤ 70000)
    (h : ∀ (h' : Heap) (tk : Nat), (∀ b o, s.heap.get? b = some o → h'.get? b = some o) →
      Q (xs.toList.take i ++ [.ref h'.objs.size] ++ (xs.toList.drop i).drop (xs.size + 1 - n)) { s with heap := h'.push { cls := .type "list", data := .seq ((xs.toList.drop i).take (xs.size + 1 - n)).toArray }, toks := tk }) :
    wpAny (model prog w) A (unpackItems (.ref a) n (some i)) Q E s := by
  have la : a < s.heap.objs.size := by obtain ⟨o, ho, _⟩ := ht; exact Heap.lt_size ho
  have na : a ≠ s.heap.objs.size := Nat.ne_of_lt la
  unfold unpackItems notIterableAtAll
  refine wpAny_bind (wpAny_bind (wpAny_specialOf ht.typeIs slot_list_iter.lookup (wpAny_pure ?_)))
  simp only [Bool.false_eq_true, if_false]
  refine wpAny_bind (wpAny_holding (wpAny_pyIter_list ht (wpAny_bind (wpAny_holding (kun_draw na i 0 _ _ ⟨_, Heap.get?_push_size _ rfl, rfl, rfl⟩ (ht.push _) (by omega) fun h1 it1 sb1 => ?_)))))
  rw [Nat.zero_add] at it1
  have t1 : h1.IsList a xs := (ht.push _).extBut sb1.extBut na
  have lI : s.heap.objs.size < h1.objs.size := by obtain ⟨o, ho, _⟩ := it1; exact Heap.lt_size ho
  have la1 : a < h1.objs.size := by obtain ⟨o, ho, _⟩ := t1; exact Heap.lt_size ho
  rw [List.drop_zero]
  have l1 : (xs.toList.take i).length = i := by rw [List.length_take, Array.length_toList]; omega
  rw [if_neg (by omega : ¬ (xs.toList.take i).length < i)]
  refine wpAny_bind (wpAny_holding (kun_collect (s := { s with heap := h1 }) (T := "list_iterator") (.inr (.inr (.inl rfl))) (Walks.list (A := A.in1) hh s.heap.objs.size a na xs) (fun j u st => st.1.typeIs) (k := i) (by omega) ⟨it1, t1⟩ lI la1 (fun h2 tk k2 => ?_) (by rw [sizeLine_eq]; omega)))
  have l2 : (xs.toList.drop i).length = xs.size - i := by rw [List.length_drop, Array.length_toList]
  have l3 : (xs.toList.drop i).length - (n - 1 - i) = xs.size + 1 - n := by omega
  show wpAny _ _ (if (xs.toList.drop i).length < n - 1 - i then _ else _) _ _ _
  rw [if_neg (by omega)]
  show wpAny _ _ (newList ((xs.toList.drop i).take ((xs.toList.drop i).length - (n - 1 - i))) >>= fun d => pure (xs.toList.take i ++ [d] ++ (xs.toList.drop i).drop ((xs.toList.drop i).length - (n - 1 - i)))) _ _ _
  rw [l3]
  have kp : ∀ b o, s.heap.get? b = some o → h2.get? b = some o := fun b o e => k2 b o (Nat.ne_of_lt (Heap.lt_size e)) (sb1.extBut b o (Nat.ne_of_lt (Heap.lt_size e)) (Heap.get?_push_of_some _ e))
  exact wpAny_bind (wpAny_newList (s := { s with heap := h2, toks := tk }) (wpAny_pure (h h2 tk kp)) (by rw [List.length_take, l2, sizeLine_eq]; omega))
end
section
variable {X : Cx} {es : List Expr} {t : TGs} {m n i k : Nat} {pos : Pos}
/-- (a, .., *b, .., c) = a list -/
def gStarL (K : PySem.W.Frag) (n i : Nat) (t : TGs) : TG := fun v σ H Q => ∃ a xs, v = .ref a ∧ SqL K H a xs ∧ n ≤ xs.length + 1 ∧ xs.length ≤ 70000 ∧
  ∀ D, H D = none → t (xs.take i ++ [.ref D] ++ (xs.drop i).drop (xs.length + 1 - n)) σ (upd H D (.lst ((xs.drop i).take (xs.length + 1 - n)))) Q
theorem pg_starL (hc : X.calm = true) (h : PGs X es t) (hn : (assignEach es X.env).length = n := by rfl) (hst : (assignEach es X.env).findIdx? (·.1) = some i := by rfl) (hi : i < n := by decide) : PG X (.Tuple es k pos) (gStarL X.K n i t) := by
  constructor
  intro pins s σ H v u Q I r hw
  obtain ⟨a, xs, rfl, hq, h1, h2, hw⟩ := hw
  cases r
  obtain ⟨its, rv, ht, hz⟩ := I.list hq
  have el : its.length = xs.length := rv.length.symm
  rw [assign_Tuple]
  refine wpAny_bind (wpAny_standAt ?_)
  unfold unpack
  rw [hn, hst]
  refine wpAny_bind (wpAny_holding (star_itemsL ht.isList (I.ok.hd hc) hi (by rw [List.size_toArray, el]; exact h1) (by rw [List.size_toArray, el]; omega) fun h' tk kp => ?_))
  have I1 : Inv X pins σ H { s with heap := h', toks := tk } := I.kept kp
  have e3 : its.toArray.toList = its := by simp
  have e4 : its.toArray.size = xs.length := by rw [List.size_toArray, el]
  rw [e3, e4]
  have rd : ∀ j, Vals (xs.drop j) (its.drop j) := fun j => rv.drop j
  have rt : Vals ((xs.drop i).take (xs.length + 1 - n)) ((its.drop i).take (xs.length + 1 - n)) := (rd i).take _
  have I2 : Inv X pins σ (upd H h'.objs.size (.lst ((xs.drop i).take (xs.length + 1 - n)))) ({ s with heap := h'.push { cls := .type "list", data := .seq ((its.drop i).take (xs.length + 1 - n)).toArray }, toks := tk } : Shared) :=
    I1.laid (t' := tk) (fun b o e => Heap.get?_push_of_some _ e) (Nat.le_refl _) ⟨by rw [List.length_take, List.length_drop, sizeLine_eq]; omega, _, 0, rt, Heap.get?_push_size _ rfl⟩
  have r1 : Vals [V.ref h'.objs.size] [Value.ref h'.objs.size] := .cons rfl .nil
  exact h.run pins _ σ _ _ _ Q I2 (((rv.take i).append r1).append ((rd i).drop _)) (hw h'.objs.size (I1.hok.fresh (Nat.le_refl _)))
end

end GL
namespace GL
open PySem PySem.Spec PyProof.Rows L2 PySem.W PySem.Calls
/-! ### enumerate(a list, start=k) -/
section
variable {M : Model} {A : Around} {E : Value → Shared → Prop} {s : Shared} {env : Env}
theorem callWith_typeKw {pos : Pos} {T : String} {e : Expr} {kws : List Keyword} {Q : Value → Shared → Prop}
    (h : wpAny M A (spliced (backTo pos (starEach [e] env))) (fun vs s₁ => wpAny M A (evalAll ((backToKw pos (keywordEach kws env)).map (·.2)))
      (fun kvs s₂ => wpAny M A (call (.type T) vs (((backToKw pos (keywordEach kws env)).filterMap (·.1)).zip kvs)) Q E s₂) E s₁) E s)
    (he : starEach [e] env = [(false, eval e env)])
    (hall : (backToKw pos (keywordEach kws env)).all (·.1.isSome) = true)
    (hkw : (backToKw pos (keywordEach kws env)).any (·.1.isNone) = false) :
    wpAny M A (callWith pos (.type T) [] (backTo pos (starEach [e] env)) (backToKw pos (keywordEach kws env))) Q E s := by
  have he : backTo pos (starEach [e] env) = (false, eval e env) :: backTo pos (starEach [] env) := by rw [he]; rfl
  rw [he] at h ⊢
  unfold callWith
  have h' : wpAny M A (evalArgs (.type T) true ((false, eval e env) :: backTo pos (starEach [] env)) (backToKw pos (keywordEach kws env))) (fun a s₁ => wpAny M A (call (.type T) a.pos a.kw) Q E s₁) E s := evalArgs_kwB hall h
  refine wpAny_bind (wpAny_holding (wpAny_mono h' (fun a s₁ h₁ => wpAny_bind (wpAny_standAt ?_)) fun _ _ x => x))
  simp only [hkw, Bool.or_false]
  refine wpAny_bind (wpAny_pure ?_)
  exact wpAny_bind (wpAny_mono h₁ (fun r s₂ hr => wpAny_bind (wpAny_holding (wpAny_point (wpAny_pure hr)))) fun _ _ x => x)
end
/-- the list at a as it stands at each turn, each item in a new pair behind k and its index -/
def IteS (K : PySem.W.Frag) (k : Nat) (a : Addr) : It :=
  ⟨fun i H => ∃ (xs : List V) (x : V), SqL K H a xs ∧ xs[i]? = some x, fun i H v H' => ∃ T x, v = .ref T ∧ H T = none ∧ H' = upd H T (.tup [.int ((k + i : Nat) : Int), x]) ∧ ∀ xs, SqL K H a xs → xs[i]? = some x, fun i H => ∃ xs : List V, SqL K H a xs ∧ xs.length ≤ i⟩
theorem turn_enumS {P : Program} {w : World} {K : PySem.W.Frag} {elts : List Expr} {kk : Nat} {tpos : Pos} (k : Nat) (a e it : Addr) :
    Turn P w K (.Tuple elts kk tpos) (IteS K k a) [e, it] e (fun i h => (∃ old, IsEnum h e it ((k + i : Nat) : Int) old) ∧ h.IsListIter it a i ∧ e ≠ it ∧ a ≠ it) where
  mem := by simp
  obj := fun i h st b hb => by
    obtain ⟨⟨old, he⟩, ⟨o, ho, hc, hd⟩, _⟩ := st
    have e' : b = e ∨ b = it := by simpa using hb
    rcases e' with z | z
    · rw [z]; exact ⟨_, he, fun v q => nomatch q⟩
    · rw [z]; exact ⟨o, ho, fun v q => by rw [hd] at q; cases q⟩
  keep := fun i h h' st k => let ⟨⟨old, he⟩, hi, hne⟩ := st; ⟨⟨old, k e (by simp) _ he⟩, hi.at fun o q => k it (by simp) o q, hne⟩
  item := by
    intro X hP hw hK hc i pins s σ H E I hf st hg
    subst hP hw hK
    obtain ⟨⟨old, he⟩, hit, hne, nai⟩ := st
    obtain ⟨xs, x, hq, hx⟩ := hg
    obtain ⟨its, rv, p, hz⟩ := I.list hq
    obtain ⟨u, hu, ru⟩ := rv.get hx
    have hel : e < s.heap.objs.size := Heap.lt_size he
    have hil : it < s.heap.objs.size := by obtain ⟨_, q, _⟩ := hit; exact Heap.lt_size q
    have nae : a ≠ e := fun z => by
      obtain ⟨o, g, gc, _⟩ := p.isList
      rw [z, he] at g
      cases g
      exact absurd (Value.type.inj gc) (by decide)
    have li : i < its.toArray.size := by rw [List.size_toArray]; exact (List.getElem?_eq_some_iff.mp hu).1
    refine wpAny_pyNext_enum_itemC (Draws.list (A := X.A.in1) (I.ok.hd hc) it a nai its.toArray) he ⟨hit, p.isList⟩ li hne (by simp [hne, Ne.symm nae]) fun y h' tk hy ho st' hT hsz hk => ?_
    have ey : y = u := Option.some.inj (hy.symm.trans (by simpa using hu))
    subst ey
    refine ⟨_, rfl, wpAny_letOwnedTupleGo_enum (s := { s with heap := h', toks := tk + 1 }) ho fun h'' he' sb => ?_⟩
    have hT2 : h''.get? s.heap.objs.size = some { cls := .type "tuple", data := .seq #[.int ((k + i : Nat) : Int) tk, y] } := (sb.2 _ (Nat.ne_of_gt hel)).trans hT
    have new : ObjOk X.prog X.w (upd H s.heap.objs.size (.tup [.int ((k + i : Nat) : Int), x])) h'' s.heap.objs.size (.tup [.int ((k + i : Nat) : Int), x]) :=
      ⟨by show 2 ≤ sizeLine; decide, [.int ((k + i : Nat) : Int) tk, y], .cons ⟨_, rfl⟩ (.cons ru .nil), ⟨_, hT2, rfl, _, rfl⟩⟩
    have I1 : Inv X pins σ (upd H s.heap.objs.size (.tup [.int ((k + i : Nat) : Int), x])) { s with heap := h'', toks := tk + 1 } :=
      I.turnedNew (ch := [e, it]) (fun b ob hb q => (sb.2 b (fun z => hb (by simp [z]))).trans (hk b ob (fun z => hb (by simp [z])) (fun z => hb (by simp [z])) q)) hf (Nat.le_refl _) new
    refine ⟨.ref s.heap.objs.size, _, I1, rfl, ⟨_, x, rfl, I.hok.fresh (Nat.le_refl _), rfl, fun ys hy => by rw [I.list_inj hy hq]; exact hx⟩, ⟨⟨y, ?_⟩, st'.1.at fun o q => (sb.2 it (Ne.symm hne)).trans q, hne, nai⟩, fun b hb => ?_⟩
    · have e1 : ((k + (i + 1) : Nat) : Int) = ((k + i : Nat) : Int) + 1 := by omega
      rw [e1]; exact he'
    · have hb' : b < s.heap.objs.size := by
        have e' : b = e ∨ b = it := by simpa using hb
        rcases e' with z | z
        · rw [z]; exact hel
        · rw [z]; exact hil
      rw [upd_ne (Nat.ne_of_lt hb')]
      exact (hf b hb).1
  done := by
    intro X hP hw hK hc i pins s σ H E I hf st hg
    subst hP hw hK
    obtain ⟨⟨old, he⟩, hit, hne, nai⟩ := st
    obtain ⟨xs, hq, hx⟩ := hg
    obtain ⟨its, rv, p, hz⟩ := I.list hq
    obtain ⟨f0, f1, f2, f3, f4, f5⟩ := hf it (by simp)
    have hl := rv.length
    have hT : s.TypeIs (.ref e) "enumerate" := ⟨_, he, rfl⟩
    unfold pyNext
    refine wpAny_bind (wpAny_attempt (wpAny_callSpecial?_slot (name := Str.ofString "__next__") hT F.slot_enumerate_next (wpAny_call_entry F.slot_enumerate_next hT F.entry_enumerate_next ?_ (F.args_enumerate_next_1 _))))
    show wpAny _ _ (field (.ref e) 2 >>= _) _ _ _
    refine wpAny_bind (wpAny_field he rfl (x := .ref it) rfl (wpAny_bind (wpAny_nextOf_list_end (A := X.A.in1) (I.ok.hd hc) hit p.isList (by simp; omega) fun h' x he' hx' => ?_)))
    obtain ⟨o, ho, hc'⟩ := hx'
    exact wpAny_bind (wpAny_isInstance (T := "StopIteration") (b := true) ⟨o, ho, hc'⟩ isSubtype_stop (wpAny_pure ⟨rfl, I.turned (t' := s.toks) (fun b o hb q => he' b o hb q) f0 f1 f3 f4 f5⟩))
  self := fun A i s Q E st h => let ⟨⟨_, he⟩, _⟩ := st; wpAny_pyIter_enum he h
def iEnumS (K : PySem.W.Frag) (k : Nat) (ta : TA) (tk : TE) : TI := fun σ H R => ta σ H fun vs H1 => ∃ a, vs = [.ref a] ∧ tk σ H1 fun v H2 => v = .int (k : Nat) ∧ ∃ xs, SqL K H2 a xs ∧ R (IteS K k a) H2
theorem pi_enumS {X : Cx} {e ek : Expr} {ta : TA} {tk : TE} {k : Nat} {p pos kp tpos : Pos} {elts : List Expr} {kk : Nat} (hg : Gl X "enumerate") (hm : X.mg "enumerate" = none) (ha : PA X [e] ta) (hek : PE X ek tk) (hk : k < 1000 := by decide) (hs : starEach [e] X.env = [(false, eval e X.env)] := by rfl) :
    PI X (.Tuple elts kk tpos) (.Call (.Name "enumerate" p) [e] [⟨some "start", ek, kp⟩] pos) (iEnumS X.K k ta tk) := by
  refine ⟨fun pins s σ H R I h => ?_⟩
  have he0 : eval (.Call (.Name "enumerate" p) [e] [⟨some "start", ek, kp⟩] pos) X.env = (do callWith pos (← eval (.Name "enumerate" p) X.env) [] (backTo pos (starEach [e] X.env)) (backToKw pos (keywordEach [⟨some "start", ek, kp⟩] X.env))) := by rfl
  rw [he0]
  refine wpAny_bind (ld_blt I hg hm boot_enumerate (callWith_typeKw (env := X.env) (kws := [⟨some "start", ek, kp⟩]) (thn (ha.run pos pins s σ H _ I h) fun us s1 ⟨vs, H1, I1, r1, q1⟩ => ?_) hs rfl rfl))
  obtain ⟨a, ex, q⟩ := q1
  subst ex
  cases r1 with
  | cons r rr =>
    cases rr
    cases r
    refine kws_cons (thn (hek.run pins s1 σ H1 _ I1 q) fun u s2 q2 => kws_nil ?_)
    obtain ⟨v, H2, I2, r2, rfl, xs, hq, q⟩ := q2
    obtain ⟨t, rfl⟩ := r2
    obtain ⟨its, rv, p', hz⟩ := I2.list hq
    have la : a < s2.heap.objs.size := by obtain ⟨o, g, _⟩ := p'.isList; exact Heap.lt_size g
    show wpAny _ _ (call (.type "enumerate") [.ref a] [(Str.ofString "start", .int (k : Nat) t)]) _ _ _
    refine enum_begins_start (begins_list a its.toArray) p'.isList (by omega) (by omega) fun h' he hit hsz hk => wpAny_pyIter_enum he ?_
    have I3 : Inv X pins σ H2 { s2 with heap := h' } := I2.kept (t' := s2.toks) hk
    refine ⟨s2.heap.objs.size + 1, [s2.heap.objs.size + 1, s2.heap.objs.size], _, _, H2, rfl, I3, turn_enumS k a (s2.heap.objs.size + 1) s2.heap.objs.size, ⟨⟨.none, he⟩, ⟨_, hit, rfl, rfl⟩, Nat.succ_ne_self _, Nat.ne_of_lt la⟩, fun b hb => ?_, q⟩
    have e' : b = s2.heap.objs.size + 1 ∨ b = s2.heap.objs.size := by simpa using hb
    have hle : s2.heap.objs.size ≤ b := by
      rcases e' with z | z
      · rw [z]; exact Nat.le_add_right _ _
      · rw [z]; exact Nat.le_refl _
    exact I2.fpOk hle (I2.hok.fresh hle)
theorem walk_enumS {K : PySem.W.Frag} {k : Nat} {a : Addr} {xs : List V} : Walk (IteS K k a) xs.length (fun H => SqL K H a xs) (YPair (fun i => some (.int ((k + i : Nat) : Int))) (fun i => xs[i]?)) := by
  refine ⟨fun i _ hi q => ⟨xs, xs[i], q, by simp [hi]⟩, fun _ q => ⟨xs, q, Nat.le_refl _⟩, fun i H v H' _ q y => ?_⟩
  obtain ⟨T, x, h1, h2, h3, h4⟩ := y
  exact ⟨T, .int ((k + i : Nat) : Int), x, h1, h2, h3, rfl, h4 xs q⟩
end GL
/-! the deck of the later laws: a dict of a list of ints and two ints, the second one counts the draws -/
namespace G3
open PySem PySem.Spec PyProof.Rows L2 GL
structure Keys where
  c : Str
  b : Str
  n : Str
  cb : ¬ c = b
  cn : ¬ c = n
  bn : ¬ b = n
theorem inr_ne {x y : Str} (h : ¬ x = y) : ¬ ((Sum.inr x : Key) = (Sum.inr y : Key)) := fun e => by
  injection e with e1
  exact h e1
def deckD (k : Keys) (g : Addr) (m n : Int) : List (Key × V) := [(Sum.inr k.c, .ref g), (Sum.inr k.b, .int m), (Sum.inr k.n, .int n)]
theorem deck_c (k : Keys) (g : Addr) (m n : Int) : valV (deckD k g m n) (Sum.inr k.c : Key) = some (.ref g) := valV_pos rfl
theorem deck_b (k : Keys) (g : Addr) (m n : Int) : valV (deckD k g m n) (Sum.inr k.b : Key) = some (.int m) := by
  unfold deckD
  rw [valV_neg (inr_ne k.cb), valV_pos rfl]
theorem deck_n (k : Keys) (g : Addr) (m n : Int) : valV (deckD k g m n) (Sum.inr k.n : Key) = some (.int n) := by
  unfold deckD
  rw [valV_neg (inr_ne k.cn), valV_neg (inr_ne k.bn), valV_pos rfl]
theorem deck_put (k : Keys) (g : Addr) (m n n' : Int) : putK (deckD k g m n) (Sum.inr k.n : Key) (.int n') = deckD k g m n' := by
  unfold putK deckD
  simp only [List.any_cons, List.any_nil, List.map_cons, List.map_nil, decide_eq_false (inr_ne k.cn), decide_eq_false (inr_ne k.bn), decide_true, Bool.or_true, Bool.false_or, Bool.or_false, if_true]
  rw [if_neg (inr_ne k.cn), if_neg (inr_ne k.bn)]
theorem get_c {k : Keys} {H : Hp} {d g : Addr} {m n : Int} (h : H d = some (.dK (deckD k g m n))) : DGet H d (.str k.c) (some (.ref g)) := deck_c k g m n ▸ DGet.k (k := Sum.inr k.c) h
theorem get_b {k : Keys} {H : Hp} {d g : Addr} {m n : Int} (h : H d = some (.dK (deckD k g m n))) : DGet H d (.str k.b) (some (.int m)) := deck_b k g m n ▸ DGet.k (k := Sum.inr k.b) h
theorem get_n {k : Keys} {H : Hp} {d g : Addr} {m n : Int} (h : H d = some (.dK (deckD k g m n))) : DGet H d (.str k.n) (some (.int n)) := deck_n k g m n ▸ DGet.k (k := Sum.inr k.n) h
theorem put_n {k : Keys} {H : Hp} {d g : Addr} {m n n' : Int} (h : H d = some (.dK (deckD k g m n))) : DPut H d (.str k.n) (.int n') (upd H d (.dK (deckD k g m n'))) := deck_put k g m n n' ▸ DPut.k (k := Sum.inr k.n) h (show 3 < sizeLine from smallt (by omega))
theorem deck_merge (k : Keys) (g : Addr) (m n : Int) : mergeK [] (deckD k g m n) = deckD k g m n := by
  have e1 : putK ([] : List (Key × V)) (Sum.inr k.c : Key) (V.ref g) = [((Sum.inr k.c : Key), V.ref g)] := rfl
  have e2 : putK [((Sum.inr k.c : Key), V.ref g)] (Sum.inr k.b : Key) (V.int m) = [((Sum.inr k.c : Key), V.ref g), ((Sum.inr k.b : Key), V.int m)] := by
    unfold putK
    simp only [List.any_cons, List.any_nil, decide_eq_false (inr_ne k.cb), Bool.or_false]
    rfl
  have e3 : putK [((Sum.inr k.c : Key), V.ref g), ((Sum.inr k.b : Key), V.int m)] (Sum.inr k.n : Key) (V.int n) = deckD k g m n := by
    unfold putK
    simp only [List.any_cons, List.any_nil, decide_eq_false (inr_ne k.cn), decide_eq_false (inr_ne k.bn), Bool.or_false]
    rfl
  show putK (putK (putK ([] : List (Key × V)) (Sum.inr k.c : Key) (V.ref g)) (Sum.inr k.b : Key) (V.int m)) (Sum.inr k.n : Key) (V.int n) = _
  rw [e1, e2, e3]
section
variable {K : PySem.W.Frag} {H H' : Hp} {k : Keys} {d g : Addr} {b b' : Nat}
/-- the deck, from which b more draws may be made -/
structure Dk (k : Keys) (H : Hp) (d g : Addr) (b : Nat) : Prop where
  ex : ∃ (m n : Int) (L : List Int), H d = some (.dK (deckD k g m n)) ∧ H g = some (.lst (L.map V.int)) ∧ L.length ≤ 63 ∧ 0 ≤ m ∧ m < 2147483587 ∧ 0 ≤ n ∧ n + b ≤ 1000000000000
theorem Dk.ne (D : Dk k H d g b) : d ≠ g := by
  obtain ⟨m, n, L, h1, h2, _⟩ := D.ex
  exact ne_of h1 h2 (fun z => nomatch z)
theorem Dk.same (D : Dk k H d g b) (s : Same H H') : Dk k H' d g b := by
  obtain ⟨m, n, L, h1, h2, r⟩ := D.ex
  exact ⟨⟨m, n, L, s _ _ h1, s _ _ h2, r⟩⟩
theorem Dk.mono (D : Dk k H d g b) (h : b' ≤ b) : Dk k H d g b' := by
  obtain ⟨m, n, L, h1, h2, h3, h4, h5, h6, h7⟩ := D.ex
  exact ⟨⟨m, n, L, h1, h2, h3, h4, h5, h6, by omega⟩⟩
theorem Dk.off {p : Addr} (D : Dk k H d g b) (h : H p = none) : p ≠ d ∧ p ≠ g := by
  obtain ⟨m, n, L, h1, h2, r⟩ := D.ex
  exact ⟨(ne_of_none h1 h).symm, (ne_of_none h2 h).symm⟩
theorem Dk.new {p : Addr} {o : HO} (D : Dk k H d g b) (h : H p = none) : Dk k (upd H p o) d g b := D.same (Same.new h)
theorem Dk.mut {p : Addr} {o : HO} (D : Dk k H d g b) (n : p ≠ d ∧ p ≠ g) : Dk k (upd H p o) d g b := by
  obtain ⟨m, n', L, h1, h2, r⟩ := D.ex
  exact ⟨⟨m, n', L, by rw [upd_ne n.1.symm]; exact h1, by rw [upd_ne n.2.symm]; exact h2, r⟩⟩
theorem Mv.free3 {p : Addr} (m : Mv d g H H') (D' : Dk k H' d g b) (h : H' p = none) : H p = none := by
  have n := D'.off h
  cases e : H p with
  | none => rfl
  | some o => rw [m.keep p o e n.1 n.2] at h; cases h
def spDrw (k : Keys) : Sp := fun vs H Q _ => ∃ (d g : Addr) (n : Int) (b : Nat), vs = [.ref d, .int n] ∧ Dk k H d g (b + 1) ∧ 0 < n ∧ n.natAbs < 2 ^ 8000 ∧
  ∀ (r : Int) (H' : Hp), 0 ≤ r → r < n → Dk k H' d g b → Mv d g H H' → Q (.int r) H'
def spDck (K : PySem.W.Frag) (k : Keys) : Sp := fun vs H Q _ => ∃ (a : Addr) (ns : List Int), vs = [.ref a] ∧ SqL K H a (ns.map V.int) ∧ ns.length ≤ 63 ∧
  ∀ (d g : Addr) (H' : Hp), Same H H' → H d = none → H g = none → Dk k H' d g 1000000000000 → Q (.ref d) H'
def spPck (k : Keys) : Sp := fun vs H Q _ => ∃ (d g a : Addr) (xs : List V) (b : Nat), vs = [.ref d, .ref a] ∧ Dk k H d g (b + 1) ∧ H a = some (.lst xs) ∧ a ≠ g ∧ xs ≠ [] ∧ xs.length ≤ 1000 ∧
  ∀ (x : V) (H' : Hp), x ∈ xs → Dk k H' d g b → Mv d g H H' → Q x H'
theorem cut_map (ns : List Int) (lo hi : Option Int) : cutV (ns.map V.int) lo hi = ((ns.drop (HT.sIx ns.length 0 lo)).take (HT.sIx ns.length ns.length hi - HT.sIx ns.length 0 lo)).map V.int := by
  unfold cutV
  rw [List.length_map, List.map_take, List.map_drop]
theorem cut_ints (ns : List Int) (lo hi : Option Int) : ∃ ms : List Int, cutV (ns.map V.int) lo hi = ms.map V.int ∧ ms.length ≤ ns.length := by
  refine ⟨_, cut_map ns lo hi, ?_⟩
  rw [List.length_take, List.length_drop]
  omega
theorem ints_at {ns : List Int} {i : Nat} {x : V} (h : (ns.map V.int)[i]? = some x) : ∃ n, x = .int n ∧ i < ns.length := by
  rw [List.getElem?_map] at h
  cases e : ns[i]? with
  | none => rw [e] at h; cases h
  | some n =>
    rw [e] at h
    exact ⟨n, (Option.some.inj h).symm, (List.getElem?_eq_some_iff.mp e).1⟩
theorem vals_rev : ∀ {xs : List V} {us : List Value}, Vals xs us → Vals xs.reverse us.reverse
  | _, _, .nil => .nil
  | _, _, .cons r t => by
    rw [List.reverse_cons, List.reverse_cons]
    exact Vals.append (vals_rev t) (.cons r .nil)
def spLaw (K : PySem.W.Frag) : Sp := fun vs H Q _ => ∃ (a : Addr) (ns : List Int), vs = [.ref a] ∧ SqL K H a (ns.map V.int) ∧ ns.length ≤ 63 ∧ ∀ H', Q (.bl true) H'
theorem walk {l : PySem.W.OpenLaw} {k : Nat} {q : Program} {loose : List Str} {XP : (Str → Option Value) → Heap → Prop} {YP : World → Heap → Prop} {d : DefRec} {K : Params → PySem.W.Frag} (hn : l.most = some 63) (hdf : d.params.defaults = []) (hr : Room k callerA)
    (hY : ∀ (w : World) (h : Heap), YP w h → (K w.params).In h)
    (F : ∀ (w : World) (mg : Str → Option Value) (fa : Addr) (h : Heap), (K w.params).In h → h.Ns mainGlobals mg → mg d.name = some (.ref fa) →
      ∃ fd : FuncData, (∀ (s : Shared) (u : Value), BindsTo s fd ⟨[u], []⟩ [("_law_script", u)]) ∧ ∀ base : Heap, (K w.params).In base → base.Ns mainGlobals mg → FnG l.prog w (K w.params) mg base CX0 k fa fd ["_law_script"] (spLaw (K w.params))) :
    PySem.W.WalkO q loose XP YP l.row.toRowW d [] (fun f vs => PySem.call f vs) :=
  walkG (n := 63) (k := k) (x := "_law_script") (sp := spLaw) hn (by decide) hdf hr hY F (fun _ _ a ns hl _ hS => ⟨a, ns, rfl, hS, hl, fun _ => rfl⟩)
end
section
variable {X : Cx} {k n : Nat} {f : Addr} {fd : FuncData} {ps ks : List Str} {sp : Sp} {x : Str} {p pos : Pos} {e : Expr} {es : List Expr} {t tk : TA} {kws : List Keyword} {g : List Value → List Value → List Value} {gV : List V → List V → List V}
/-- what is known of a def that is called with keywords -/
structure DefKG (P : Program) (w : World) (K : PySem.W.Frag) (mg : Str → Option Value) (base : Heap) (k : Nat) (x : Str) (ps : List Str) (n : Nat) (ks : List Str) (gV : List V → List V → List V) (sp : Sp) : Prop where
  ex : ∃ (f : Addr) (fd : FuncData) (g : List Value → List Value → List Value), FnG P w K mg base CX0 k f fd ps sp ∧ mg x = some (.ref f) ∧ PySem.W.keepIn K (.ref f) = true ∧ KBn K fd ps n ks g gV
def tCallKG (sp : Sp) (n m : Nat) (gV : List V → List V → List V) (E : XK) (ta tk : TA) : TE := fun σ H Q => ta σ H fun vs H1 => tk σ H1 fun zs H2 => vs.length = n ∧ zs.length = m ∧ sp (gV vs zs) H2 Q E
/-- f(a=.., b=..) -/
theorem pe_defK0 (D : DefKG X.prog X.w X.K X.mg X.base k x ps 0 ks gV sp) (hr : Room k X.A) (hc : Calm X.A) (hg : Gl X x) (hkw : PK X kws tk)
    (hall : (backToKw pos (keywordEach kws X.env)).all (·.1.isSome) = true := by rfl) (hks : (backToKw pos (keywordEach kws X.env)).filterMap (·.1) = ks := by rfl) (hdb : (x == ("__debug__" : Str)) = false := by decide)
    (hpl : ((backTo pos (starEach [] X.env)).any (·.1) || (backToKw pos (keywordEach kws X.env)).any (·.1.isNone)) = false := by rfl) :
    PE X (.Call (.Name x p) [] kws pos) (tCallKG sp 0 ks.length gV E0 tNil tk) := by
  obtain ⟨f, fd, g, F, hm, hk, hb⟩ := D.ex
  constructor
  intro pins s σ H Q I h
  refine wpAny_Call_Name_kw (ld_glob I hg hm (PySem.W.callWith_KW0 (h₀ := X.base) I.ok.mod.kin hk hall (thn (hkw.run pos pins s σ H _ I h) ?_) hpl) hdb)
  rintro ws s2 ⟨zs, H2, I2, rz, l1, l2, q2⟩
  refine ⟨I2.kIn, ?_⟩
  rw [hks]
  exact runKG (us := []) (vs := []) F hr hc hb pass0 I2 .nil rz rfl l2 q2
end
theorem Nice.intW {i : Int} (h : i.natAbs < 2 ^ 1920) : Nice 1921 0 (.int i) := by
  have l : i.natAbs.log2 < 1920 := PySem.Flt.log2_lt_of (by decide) h
  exact ⟨decide_eq_true l, rfl, Nat.le_refl _, PyProof.Rows.int_text_len_1921 l⟩
theorem Nice.natW {n : Nat} (h : n < 2 ^ 1920) : Nice 1921 0 (.int (n : Int)) := Nice.intW (by rw [Int.natAbs_natCast]; exact h)
theorem defK_mk {P : Program} {w : World} {K : PySem.W.Frag} {mg : Str → Option Value} {base : Heap} {k n : Nat} {x : Str} {st : Stmt} {f : Addr} {fd : FuncData} {ps ks : List Str} {gV : List V → List V → List V} {g : List Value → List Value → List Value} {sp : Sp} (F : Fun K x x st f fd) (gl : mg x = some (.ref f)) (b : KBn K fd ps n ks g gV) (h : FnG P w K mg base CX0 k f fd ps sp) : DefKG P w K mg base k x ps n ks gV sp :=
  ⟨⟨f, fd, g, h, gl, F.kp, b⟩⟩
end G3
/-! an instance that is called: own __call__, where nothing that guards itself is under way -/
namespace G3
open PySem PySem.Spec PyProof.Rows L2 GL StX PySem.W PySem.Calls
theorem callO_ofK {M : Model} {A : Around} {E : Value → Shared → Prop} {s : Shared} {a : Addr} {pos : Pos} {Q : Value → Shared → Prop} {args : List (Bool × Sem Value)} {kws : List (Option Str × Sem Value)} (hplain : (args.any (·.1) || kws.any (·.1.isNone)) = false)
    (h : wpAny M A (evalArgs (.ref a) true args kws) (fun z s₁ => (∃ C ox od, PySem.W.InstAt s₁.heap a ox C od ∧ ox.data = .plain) ∧ wpAny M A (call (.ref a) ([] ++ z.pos) z.kw) Q E s₁) E s) : wpAny M A (callWith pos (.ref a) [] args kws) Q E s := by
  unfold callWith
  refine wpAny_bind (wpAny_holding (wpAny_mono h (fun z s₁ h₁ => wpAny_bind (wpAny_standAt ?_)) fun _ _ y => y))
  obtain ⟨⟨C, ox, od, J, hd⟩, h₁⟩ := h₁
  have L := PySem.W.kco_keeper (M := M) J hd
  simp only [hplain]
  refine wpAny_bind (L.here ?_)
  have tail : ∀ {t : Sem Value}, wpAny M A t Q E s₁ → wpAny M A (t >>= fun r => holding [r] point >>= fun _ => pure r) Q E s₁ :=
    fun ht => wpAny_bind (wpAny_mono ht (fun r s₂ hr => wpAny_bind (wpAny_holding (wpAny_point (wpAny_pure hr)))) fun _ _ y => y)
  exact tail (wpAny_operateT h₁)
section
variable {X : Cx} {CX : CXT} {k n : Nat} {f C : Addr} {fd : FuncData} {ps ks : List Str} {sp : Sp} {E : XK} {e fe : Expr} {es : List Expr} {tf : TE} {t tk : TA} {p pos : Pos} {ds : List Value} {dvs : List V} {kws : List Keyword} {g : List Value → List Value → List Value} {gV : List V → List V → List V}
def tCallOG (C : Addr) (sp : Sp) (E : XK) (tf : TE) (t : TA) : TE := fun σ H Q => tf σ H fun y H1 => ∃ a, y = V.ref a ∧ t σ H1 fun vs H2 => (∃ dx fs, H2 a = some (.ins C dx fs)) ∧ sp (V.ref a :: vs) H2 Q E
/-- f(e, ..), f an expression that gives an instance -/
theorem pe_callOG (hf : PE X fe tf) (c : CallO X.K C f) (F : FnG X.prog X.w X.K X.mg X.base CX k f fd ps sp) (hb : Binds X.K fd ps []) (hr : Room k X.A) (hc : Calm X.A) (hx : Passes CX X E) (ha : PA X (e :: es) t)
    (ht : eval (.Call fe (e :: es) [] pos) X.env = (do callWith pos (← eval fe X.env) [] (backTo pos (starEach (e :: es) X.env)) (backToKw pos (keywordEach [] X.env))) := by rfl)
    (he : starEach (e :: es) X.env = (false, eval e X.env) :: starEach es X.env := by rfl) (hpl : (backTo pos (starEach es X.env)).any (·.1) = false := by rfl) : PE X (.Call fe (e :: es) [] pos) (tCallOG C sp E tf t) := by
  refine ⟨fun pins s σ H Q I h => ?_⟩
  refine Call_ (thn (hf.run pins s σ H _ I h) fun u s1 ⟨y, H1, I1, ry, a, ey, q⟩ => ?_) ht
  subst ey
  obtain rfl : u = Value.ref a := ry
  refine callO_with (thn (ha.run pos pins s1 σ H1 _ I1 q) fun us s2 ⟨vs, H2, I2, r, hi, q2⟩ => ?_) he hpl
  obtain ⟨ox, od, J, hd⟩ := insC_at I2 (.inr hi)
  refine ⟨⟨C, ox, od, J, hd⟩, ?_⟩
  have both : Vals (V.ref a :: vs) (Value.ref a :: us) := .cons rfl r
  have long : (Value.ref a :: us).length = ps.length := both.length.symm.trans (F.len _ _ _ _ q2)
  have go := F.run X.A X.stack s2 H2 ⟨Value.ref a :: us, []⟩ (Value.ref a :: us) (V.ref a :: vs) Q E hr hc I2.env0 (by simpa using hb s2 (Value.ref a :: us) I2.kIn (by simpa using long)) both q2
  refine wpAny_call (PySem.W.kco_code (a := ⟨us, []⟩) I2.kIn J hd c.at_ c.fn c.fi (codeAny_mono go fun r' s' q => ?_))
  have z := out_of hx I2 r' s' q
  match r', z with
  | .error _, z => exact z
  | .ok (.ret _), z => exact z
def tCallOKG (C : Addr) (sp : Sp) (n : Nat) (gV : List V → List V → List V) (E : XK) (tf : TE) (tk : TA) : TE := fun σ H Q => tf σ H fun y H1 => ∃ a, y = V.ref a ∧ tk σ H1 fun zs H2 => zs.length = n ∧ (∃ dx fs, H2 a = some (.ins C dx fs)) ∧ sp (gV [V.ref a] zs) H2 Q E
/-- f(k=e, ..) -/
theorem pe_callOKG (hf : PE X fe tf) (c : CallO X.K C f) (F : FnG X.prog X.w X.K X.mg X.base CX k f fd ps sp) (hb : KBn X.K fd ps 1 ks g gV) (hr : Room k X.A) (hc : Calm X.A) (hx : Passes CX X E) (hkw : PK X kws tk)
    (hall : (backToKw pos (keywordEach kws X.env)).all (·.1.isSome) = true := by rfl) (hks : (backToKw pos (keywordEach kws X.env)).filterMap (·.1) = ks := by rfl)
    (hpl : ((backTo pos (starEach [] X.env)).any (·.1) || (backToKw pos (keywordEach kws X.env)).any (·.1.isNone)) = false := by rfl)
    (ht : eval (.Call fe [] kws pos) X.env = (do callWith pos (← eval fe X.env) [] (backTo pos (starEach [] X.env)) (backToKw pos (keywordEach kws X.env))) := by rfl) : PE X (.Call fe [] kws pos) (tCallOKG C sp ks.length gV E tf tk) := by
  refine ⟨fun pins s σ H Q I h => ?_⟩
  rw [ht]
  refine wpAny_bind (thn (hf.run pins s σ H _ I h) fun u s1 ⟨y, H1, I1, ry, a, ey, q⟩ => ?_)
  subst ey
  obtain rfl : u = Value.ref a := ry
  refine callO_ofK hpl (evalArgs_kw2_nil hall (thn (hkw.run pos pins s1 σ H1 _ I1 q) fun ws s2 ⟨zs, H2, I2, rz, l2, hi, q2⟩ => ?_))
  obtain ⟨ox, od, J, hd⟩ := insC_at I2 (.inr hi)
  refine ⟨⟨C, ox, od, J, hd⟩, ?_⟩
  rw [hks]
  have go := F.run X.A X.stack s2 H2 ⟨[Value.ref a], ks.zip ws⟩ (g [Value.ref a] ws) (gV [V.ref a] zs) Q E hr hc I2.env0 (hb.to s2 [Value.ref a] ws I2.kIn rfl (rz.length.symm.trans l2)) (hb.rel (.cons rfl .nil) rz) q2
  refine wpAny_call (PySem.W.kco_code (a := ⟨[], ks.zip ws⟩) I2.kIn J hd c.at_ c.fn c.fi (codeAny_mono go fun r' s' q => ?_))
  have z := out_of hx I2 r' s' q
  match r', z with
  | .error _, z => exact z
  | .ok (.ret _), z => exact z
end
/-! ### C.m(..), m a static method of the class at C -/
structure StatM (K : PySem.W.Frag) (C : Addr) (m : Str) (f : Addr) : Prop where
  ga : PySem.W.specialIn K (.ref C) "__getattribute__" = some (some (.builtin "type.__getattribute__"))
  rd : PySem.W.readsIn K C (.type "type") = true
  fc : ∃ (p : Addr) (rest : List Value), PySem.W.findCls K (.ref C) (.type "type") m = some (.get (.builtin "staticmethod.__get__") (.ref p) .none (.ref C)) ∧ PySem.W.recIn K p "staticmethod" = some (.ref f :: rest)
  kp : PySem.W.keepIn K (.ref f) = true
theorem getstat {X : Cx} {pins : List (Addr × Obj)} {σ : L2.St} {H : Hp} {s : Shared} {A : Around} {E : Value → Shared → Prop} {C f : Addr} {m : Str} {pl : Sem Bool} {Q : Value × List Value → Shared → Prop} (I : Inv X pins σ H s) (S : StatM X.K C m f)
    (h : ∀ s', Inv X pins σ H s' → Q (.ref f, []) s') : wpAny (model X.prog X.w) A (getMethod (.ref C) m pl) Q E s := by
  obtain ⟨p, rest, e1, e2⟩ := S.fc
  refine PySem.W.method_cls I.kIn S.ga (PySem.W.cls_bind (mc := .type "type") I.kIn S.rd e1 (wpAny_call (PySem.W.sm_get (s := { s with toks := s.toks + 1 }) I.kIn e2 (PySem.W.handed_on rfl ?_))))
  exact h _ (I.tok _)
section
variable {X : Cx} {CX : CXT} {k n : Nat} {f C : Addr} {fd : FuncData} {ps ks : List Str} {sp : Sp} {x m : Str} {e : Expr} {es : List Expr} {t tk : TA} {p pos apos : Pos} {ds : List Value} {dvs : List V} {kws : List Keyword} {g : List Value → List Value → List Value} {gV : List V → List V → List V}
theorem pe_statG {pl : Sem Bool} (S : StatM X.K C m f) (F : FnG X.prog X.w X.K X.mg X.base CX0 k f fd ps sp) (hb : Binds X.K fd ps ds) (hd : Vals dvs ds) (hr : Room k X.A) (hc : Calm X.A) (hg : Gl X x) (hm : X.mg x = some (.ref C)) (ha : PA X (e :: es) t) (hdb : (x == ("__debug__" : Str)) = false := by decide)
    (hst : starEach (e :: es) X.env = (false, eval e X.env) :: starEach es X.env := by rfl) (hpl : (backTo pos (starEach es X.env)).any (·.1) = false := by rfl)
    (ht : eval (.Call (.Attribute (.Name x p) m apos) (e :: es) [] pos) X.env = (eval (.Name x p) X.env >>= fun ov => standAt apos.atName >>= fun _ => holding [ov] (getMethod ov m pl) >>= fun fx =>
      callWith pos fx.1 fx.2 (backTo pos (starEach (e :: es) X.env)) (backToKw pos (keywordEach [] X.env))) := by rfl) :
    PE X (.Call (.Attribute (.Name x p) m apos) (e :: es) [] pos) (tCall sp dvs E0 t) := by
  constructor
  intro pins s σ H Q I h
  refine PySem.W.methodCall_KW (pl := pl) (ld_glob I hg hm ?_ hdb) ht
  refine getstat I S fun s1 I1 => ?_
  refine PySem.W.callWith_K (first := []) (h₀ := X.base) I1.ok.mod.kin S.kp (thn (ha.run pos pins s1 σ H _ I1 h) ?_) hst hpl
  rintro us s2 ⟨vs, H2, I2, r, q2⟩
  exact ⟨I2.kIn, runG F hr hc hb hd pass0 I2 r q2⟩
theorem pe_statKG0 {pl : Sem Bool} (S : StatM X.K C m f) (F : FnG X.prog X.w X.K X.mg X.base CX0 k f fd ps sp) (hb : KBn X.K fd ps 0 ks g gV) (hr : Room k X.A) (hc : Calm X.A) (hg : Gl X x) (hm : X.mg x = some (.ref C)) (hkw : PK X kws tk) (hdb : (x == ("__debug__" : Str)) = false := by decide)
    (hall : (backToKw pos (keywordEach kws X.env)).all (·.1.isSome) = true := by rfl) (hks : (backToKw pos (keywordEach kws X.env)).filterMap (·.1) = ks := by rfl)
    (hpl : ((backTo pos (starEach [] X.env)).any (·.1) || (backToKw pos (keywordEach kws X.env)).any (·.1.isNone)) = false := by rfl)
    (ht : eval (.Call (.Attribute (.Name x p) m apos) [] kws pos) X.env = (eval (.Name x p) X.env >>= fun ov => standAt apos.atName >>= fun _ => holding [ov] (getMethod ov m pl) >>= fun fx =>
      callWith pos fx.1 fx.2 (backTo pos (starEach [] X.env)) (backToKw pos (keywordEach kws X.env))) := by rfl) :
    PE X (.Call (.Attribute (.Name x p) m apos) [] kws pos) (tCallKG sp 0 ks.length gV E0 tNil tk) := by
  constructor
  intro pins s σ H Q I h
  refine PySem.W.methodCall_KW (pl := pl) (ld_glob I hg hm ?_ hdb) ht
  refine getstat I S fun s1 I1 => ?_
  refine PySem.W.callWith_KW0 (first := []) (h₀ := X.base) I1.ok.mod.kin S.kp hall (thn (hkw.run pos pins s1 σ H _ I1 h) ?_) hpl
  rintro ws s2 ⟨zs, H2, I2, rz, l1, l2, q2⟩
  refine ⟨I2.kIn, ?_⟩
  rw [hks]
  exact runKG (us := []) (vs := []) F hr hc hb pass0 I2 .nil rz rfl l2 q2
theorem pe_statKG1 {pl : Sem Bool} (S : StatM X.K C m f) (F : FnG X.prog X.w X.K X.mg X.base CX0 k f fd ps sp) (hb : KBn X.K fd ps n ks g gV) (hr : Room k X.A) (hc : Calm X.A) (hg : Gl X x) (hm : X.mg x = some (.ref C)) (ha : PA X (e :: es) t) (hkw : PK X kws tk) (hdb : (x == ("__debug__" : Str)) = false := by decide)
    (hall : (backToKw pos (keywordEach kws X.env)).all (·.1.isSome) = true := by rfl) (hks : (backToKw pos (keywordEach kws X.env)).filterMap (·.1) = ks := by rfl)
    (hpl : ((backTo pos (starEach (e :: es) X.env)).any (·.1) || (backToKw pos (keywordEach kws X.env)).any (·.1.isNone)) = false := by rfl)
    (hst : starEach (e :: es) X.env = (false, eval e X.env) :: starEach es X.env := by rfl)
    (ht : eval (.Call (.Attribute (.Name x p) m apos) (e :: es) kws pos) X.env = (eval (.Name x p) X.env >>= fun ov => standAt apos.atName >>= fun _ => holding [ov] (getMethod ov m pl) >>= fun fx =>
      callWith pos fx.1 fx.2 (backTo pos (starEach (e :: es) X.env)) (backToKw pos (keywordEach kws X.env))) := by rfl) :
    PE X (.Call (.Attribute (.Name x p) m apos) (e :: es) kws pos) (tCallKG sp n ks.length gV E0 t tk) := by
  constructor
  intro pins s σ H Q I h
  refine PySem.W.methodCall_KW (pl := pl) (ld_glob I hg hm ?_ hdb) ht
  refine getstat I S fun s1 I1 => ?_
  refine PySem.W.callWith_KW (first := []) (h₀ := X.base) I1.ok.mod.kin S.kp hall (thn (ha.run pos pins s1 σ H _ I1 h) ?_) hpl hst
  rintro us s2 ⟨vs, H2, I2, r, q2⟩
  refine thn (hkw.run pos pins s2 σ H2 _ I2 q2) ?_
  rintro ws s3 ⟨zs, H3, I3, rz, l1, l2, q3⟩
  refine ⟨I3.kIn, ?_⟩
  rw [hks]
  exact runKG (us := us) (vs := vs) F hr hc hb pass0 I3 r rz l1 l2 q3
end
/-! ### rules told with the written part itself: a comprehension's element may then use them -/
section
variable {X : Cx} {K : PySem.W.Frag} {a e o : Expr} {ta : TE} {p pos : Pos} {f : Str}
theorem ix_tupK (h : X.K = K := by rfl) : IxR X (rIxT K) := h ▸ ix_tup
theorem ix_listK (h : X.K = K := by rfl) : IxR X (rIxL K) := h ▸ ix_list
theorem pe_fldK (he : PE X e ta) (hb : attributeBase e f X.env (eval e X.env) = eval e X.env) (h : X.K = K := by rfl) : PE X (.Attribute e f pos) (tFld K ta f) := h ▸ pe_fld he hb
theorem pe_tupleOfK (hg : Gl X "tuple") (hm : X.mg "tuple" = none) (ha : PE X a ta) (h : X.K = K := by rfl) (na : starEach [a] X.env = (false, eval a X.env) :: starEach [] X.env := by rfl) :
    PE X (.Call (.Name "tuple" p) [a] [] pos) (tThen ta (kTup K)) := h ▸ pe_tupleOf hg hm ha na
theorem op_catAK (h : X.K = K := by rfl) : OpR X (binaryOp .Add) (rCatA K) := h ▸ op_catA
/-- t * k, k from 1 on -/
def rRepP (K : PySem.W.Frag) : R2 := fun x y H Q => ∃ l k xs, x = .ref l ∧ y = .int k ∧ SqT K H l xs ∧ xs ≠ [] ∧ 1 ≤ k ∧ k ≤ 1000 ∧ xs.length ≤ 1000 ∧ (k = 1 → Q (.ref l) H) ∧ (2 ≤ k → ∀ p, H p = none → Q (.ref p) (upd H p (.tup (List.replicate k.toNat xs).flatten)))
theorem op_repPK (h : X.K = K := by rfl) : OpR X (binaryOp .Mult) (rRepP K) := by
  subst h
  intro pins s σ H x y v u Q I rx ry hh
  obtain ⟨l, k, xs, rfl, rfl, hT, ne, h1, h2, hl, q1, q2⟩ := hh
  by_cases e : k = 1
  · exact op_rep01 pins s σ H _ _ v u Q I rx ry ⟨l, k, xs, rfl, rfl, hT, ne, .inr e, fun z => absurd z (by omega), q1⟩
  · exact op_repT pins s σ H _ _ v u Q I rx ry ⟨l, k, xs, rfl, rfl, hT, ne, by omega, h2, hl, q2 (by omega)⟩
def rLenSeq (K : PySem.W.Frag) : List V → Hp → VK → Prop := fun xs H Q => ∃ p ys, xs = [.ref p] ∧ (SqL K H p ys ∨ SqT K H p ys) ∧ Q (.int (ys.length : Nat)) H
theorem call_len_seqK (h : X.K = K := by rfl) : CallR X (.builtin "len") (rLenSeq K) := h ▸ call_len_seq
end
end G3
namespace GL
open PySem PySem.Spec PyProof.Rows L2 PySem.W PySem.Calls Builtin Builtin.Str
/-! ### repr of a text; str of an own object -/
section
variable {X : Cx}
theorem call_repr_str : CallR X (.builtin "repr") (fun xs H Q => ∃ a : Str, xs = [.str a] ∧ (reprText a).length ≤ sizeLine ∧ Q (.str (reprText a)) H) := by
  intro pins s σ H xs us Q I r h
  obtain ⟨a, rfl, hz, q⟩ := h
  obtain ⟨u, rfl, t, rfl⟩ := vals1 r
  exact PySem.P.repr_of_str (⟨.str _, H, I.tok _, ⟨_, rfl⟩, q⟩) hz
theorem Calm.in1 {A : Around} (g : Calm A) : Calm A.in1 := g
theorem str_new_in {prog : Program} {w : World} {v : Value} : MeetsIn prog w (Builtin.«str.__new__» ⟨[.type "str", v], []⟩) (fun A R s => wpAny (model prog w) A.in1 (Builtin.Str.strOf v) (fun r s' => R (.ok (.ret r)) s') (fun e s' => R (.error e) s') s) := by
  intro A R s h
  rw [str_new_tree v]
  refine wpAny_bind (wpAny_pure ?_)
  refine wpAny_bind (wpAny_of_eq isSubtype_str_str ?_)
  exact wpAny_bind (wpAny_mono h (fun r s' h' => wpAny_pure h') fun _ _ e => e)
theorem call_strO {k : Nat} {f C : Addr} {fd : FuncData} {sp : Sp} (hat : PySem.W.findIn X.K (.ref C) "__str__" = some (some (.ref f))) (hfn : PySem.W.isFn X.K (.ref f) = true) (FS : FnG X.prog X.w X.K X.mg X.base CX0 k f fd ["self"] sp) (hb : Binds X.K fd ["self"] []) (hr : Room (k + 2) X.A) (hc : Calm X.A) :
    CallR X (.type "str") (fun xs H Q => ∃ a dx fs, xs = [.ref a] ∧ H a = some (.ins C dx fs) ∧ sp [.ref a] H (fun v H2 => (∃ z, v = .str z) ∧ Q v H2) E0) := by
  intro pins s σ H xs us Q I r h
  obtain ⟨a, dx, fs, rfl, ha, q⟩ := h
  obtain rfl : us = [.ref a] := Vals.ref1 r
  obtain ⟨mA, OA, _⟩ := ins_get I.hok ha
  obtain ⟨odA, IA, _⟩ := OA.look
  refine callType_newIn F.called_str (by decide) (F.typeCall_str_1 _) (F.newCall_str_1 _) (fun obj => F.args_object_init_2 obj _) F.entry_str_new str_new_in ?_
  show wpAny (model X.prog X.w) X.A.in1.in1 (Builtin.Str.strOf (.ref a)) _ _ s
  unfold Builtin.Str.strOf
  have hr2 : Room k X.A.in1.in1 := hr.in1.in1
  refine wpAny_bind (wpAny_cRoomFor (by have := hr2.un; omega) ?_)
  have go := FS.run X.A.in1.in1 X.stack s H ⟨[.ref a], []⟩ [.ref a] [.ref a] _ E0 hr2 hc I.env0.in1.in1 (hb s [.ref a] I.kIn rfl) r q
  refine wpAny_bind (m := callSpecial? (.ref a) (Str.ofString "__str__")) (PySem.W.special_fn I.kIn IA hat (beq_iff_eq.mp hfn) (wpAny_call (codeAny_mono go fun r' s' q => ?_)))
  have z := out_of pass0 I r' s' q
  match r', z with
  | .error _, z => exact z
  | .ok (.ret u), z =>
    obtain ⟨v, H1, I1, rv, ⟨y, rfl⟩, q1⟩ := z
    obtain ⟨t, rfl⟩ := rv
    refine wpAny_bind (wpAny_pure ?_)
    exact wpAny_pure ⟨typeIs_str _ _ _, ⟨V.str y, H1, I1, ⟨t, rfl⟩, q1⟩⟩
end
end GL
namespace GL
open PySem PySem.Spec PyProof.Rows L2
/-! ### list.count, flat items -/
section
variable {X : Cx}
theorem count_of {y : V} : ∀ {ys : List V} {us : List Value}, Vals ys us → ys.all flatV = true → us.countP (eqU y) = ys.countP fun z => eqV z y
  | _, _, .nil, _ => rfl
  | _, _, .cons (a := z) (b := u) r rr, f => by
    rw [List.all_cons, Bool.and_eq_true] at f
    have ih := count_of (y := y) rr f.2
    rw [List.countP_cons, List.countP_cons, ih, eqU_of r f.1]
def rCntF (K : PySem.W.Frag) : V → List V → Hp → VK → Prop := fun x xs H Q => ∃ (a : Addr) (ys : List V) (y : V), x = V.ref a ∧ xs = [y] ∧ SqL K H a ys ∧ flatV y = true ∧ ys.all flatV = true ∧ Q (.int ((ys.countP fun z => eqV z y : Nat) : Int)) H
theorem mt_countF : MtR X "list.count" (rCntF X.K) := by
  intro pins s σ H x xs v us Q I rx rxs h
  obtain ⟨a, ys, y, rfl, rfl, hs, fy, fys, q⟩ := h
  cases rx
  cases rxs with
  | cons ry rt =>
    rename_i uy ut
    cases rt
    obtain ⟨its, rv, ⟨⟨cls, dd, data, sl⟩, n, ho, hc, hdn, hd⟩, hlen⟩ := I.list hs
    simp only at hc hd
    subst hc hd
    refine call_meets PySem.F.slot_list_count ⟨_, ho, rfl⟩ PySem.F.entry_list_count (PySem.F.args_list_count_2 _ _)
      (SeqAt.list_countAt a its.toArray n dd sl uy (eqU y)) ⟨ho, fun u' hu' => mem_eqAt ry fy rv fys u' (by simpa using hu'), ?_⟩
    have ec : its.toArray.toList.countP (eqU y) = ys.countP fun z => eqV z y := count_of rv fys
    refine ⟨.int ((ys.countP fun z => eqV z y : Nat) : Int), H, I.tok _, ⟨s.toks, ?_⟩, q⟩
    show Value.int ((its.toArray.toList.countP (eqU y) : Nat) : Int) s.toks = _
    rw [ec]
end
end GL
/-! tables of steps, what they reach, what they read; how they lie -/
namespace MA
open PySem PySem.Spec PyProof.Rows L2 GL G3
abbrev Tab := List (List Nat)
def vI (x : Nat) : V := V.int (x : Int)
def row (S : Tab) (s : Nat) : List Nat := (S[s]?).getD []
def stp (S : Tab) (s d : Nat) : Nat := ((row S s)[d]?).getD 0
structure Wf (S : Tab) (n b : Nat) : Prop where
  len : S.length = n
  wid : ∀ r ∈ S, r.length = b
  ent : ∀ r ∈ S, ∀ x ∈ r, x < n
inductive Rch (S : Tab) : Nat → Prop
  | zero : Rch S 0
  | step {s x : Nat} : Rch S s → x ∈ row S s → Rch S x
theorem row_mem {S : Tab} {s : Nat} (h : s < S.length) : row S s ∈ S := by
  unfold row
  rw [List.getElem?_eq_getElem h]
  exact List.getElem_mem h
theorem row_at {S : Tab} {s : Nat} (h : s < S.length) : S[s]? = some (row S s) := by
  unfold row
  rw [List.getElem?_eq_getElem h]; rfl
section
variable {S : Tab} {n b : Nat}
theorem Wf.rlen (W : Wf S n b) {s : Nat} (h : s < n) : (row S s).length = b := W.wid _ (row_mem (by rw [W.len]; exact h))
theorem Wf.rlt (W : Wf S n b) {s x : Nat} (h : x ∈ row S s) : x < n := by
  by_cases hs : s < S.length
  · exact W.ent _ (row_mem hs) x h
  · unfold row at h
    rw [List.getElem?_eq_none (by omega)] at h
    cases h
theorem stp_at (W : Wf S n b) {s d : Nat} (h : s < n) (hd : d < b) : (row S s)[d]? = some (stp S s d) := by
  unfold stp
  have := W.rlen h
  rw [List.getElem?_eq_getElem (show d < (row S s).length by omega)]; rfl
theorem stp_mem (W : Wf S n b) {s d : Nat} (h : s < n) (hd : d < b) : stp S s d ∈ row S s := List.mem_of_getElem? (stp_at W h hd)
theorem stp_lt (W : Wf S n b) {s d : Nat} (h : s < n) (hd : d < b) : stp S s d < n := W.rlt (stp_mem W h hd)
theorem Rch.lt (W : Wf S n b) (h0 : 0 < n) {s : Nat} (h : Rch S s) : s < n := by
  cases h with
  | zero => exact h0
  | step _ h => exact W.rlt h
/-- the state to which the digits lead -/
def runs (S : Tab) (b s m : Nat) : Nat := if h : 2 ≤ b ∧ 0 < m then runs S b (stp S s (m % b)) (m / b) else s
termination_by m
decreasing_by exact Nat.div_lt_self h.2 h.1
theorem runs_go {s m : Nat} (hb : 2 ≤ b) (hm : 0 < m) : runs S b s m = runs S b (stp S s (m % b)) (m / b) := by rw [runs, dif_pos ⟨hb, hm⟩]
theorem runs_end {s : Nat} : runs S b s 0 = s := by rw [runs, dif_neg (fun z => absurd z.2 (by decide))]
theorem runs_lt (W : Wf S n b) (hb : 2 ≤ b) : ∀ (m s : Nat), s < n → runs S b s m < n := by
  intro m
  induction m using Nat.strongRecOn with
  | ind m ih =>
    intro s hs
    rcases Nat.eq_zero_or_pos m with rfl | hm
    · rw [runs_end]; exact hs
    · rw [runs_go hb hm]
      exact ih _ (Nat.div_lt_self hm hb) _ (stp_lt W hs (Nat.mod_lt _ (by omega)))
/-! ### rounds -/
def it (S : Tab) : Nat → Nat → Nat
  | 0, s => s
  | k + 1, s => it S k (stp S s 0)
theorem it_succ : ∀ (k s : Nat), it S (k + 1) s = stp S (it S k s) 0
  | 0, _ => rfl
  | k + 1, s => it_succ k (stp S s 0)
theorem it_add : ∀ (j k s : Nat), it S (j + k) s = it S j (it S k s)
  | j, 0, s => rfl
  | j, k + 1, s => by
    show it S (j + k) (stp S s 0) = it S j (it S k (stp S s 0))
    exact it_add j k _
theorem it_lt (W : Wf S n b) (hb : 0 < b) : ∀ (k s : Nat), s < n → it S k s < n
  | 0, _, h => h
  | k + 1, s, h => it_lt W hb k _ (stp_lt W h hb)
/-- the least one of s and of the k next ones -/
def low (S : Tab) : Nat → Nat → Nat
  | 0, s => s
  | k + 1, s => min (low S k s) (it S (k + 1) s)
theorem low_le : ∀ (k s j : Nat), j ≤ k → low S k s ≤ it S j s
  | 0, s, j, h => by rw [show j = 0 by omega]; exact Nat.le_refl _
  | k + 1, s, j, h => by
    rcases Nat.lt_or_ge j (k + 1) with l | l
    · exact Nat.le_trans (Nat.min_le_left _ _) (low_le k s j (by omega))
    · rw [show j = k + 1 by omega]; exact Nat.min_le_right _ _
theorem low_is : ∀ (k s : Nat), ∃ j, j ≤ k ∧ low S k s = it S j s
  | 0, s => ⟨0, Nat.le_refl _, rfl⟩
  | k + 1, s => by
    obtain ⟨j, hj, e⟩ := low_is k s
    rcases Nat.le_total (low S k s) (it S (k + 1) s) with l | l
    · exact ⟨j, by omega, by show min _ _ = _; rw [Nat.min_eq_left l, e]⟩
    · exact ⟨k + 1, Nat.le_refl _, Nat.min_eq_right l⟩
def rnd (S : Tab) (n s : Nat) : Nat := low S n (it S n s)
/-- two alike among more than there are -/
theorem pigeon : ∀ (n : Nat) (f : Nat → Nat), (∀ i, i ≤ n → f i < n) → ∃ i j, i < j ∧ j ≤ n ∧ f i = f j
  | 0, f, h => absurd (h 0 (Nat.le_refl _)) (Nat.not_lt_zero _)
  | n + 1, f, h => by
    by_cases e : ∃ i, i < n + 1 ∧ f i = f (n + 1)
    · obtain ⟨i, hi, e⟩ := e
      exact ⟨i, n + 1, hi, Nat.le_refl _, e⟩
    · have ne : ∀ i, i ≤ n → f i ≠ f (n + 1) := fun i hi z => e ⟨i, by omega, z⟩
      let g : Nat → Nat := fun i => if f i < f (n + 1) then f i else f i - 1
      have hg : ∀ i, i ≤ n → g i < n := by
        intro i hi
        have h1 := h i (by omega)
        have h2 := h (n + 1) (Nat.le_refl _)
        have h3 := ne i hi
        show (if f i < f (n + 1) then f i else f i - 1) < n
        split <;> omega
      obtain ⟨i, j, hij, hj, eg⟩ := pigeon n g hg
      refine ⟨i, j, hij, by omega, ?_⟩
      have h3 := ne i (by omega)
      have h4 := ne j hj
      have eg' : (if f i < f (n + 1) then f i else f i - 1) = (if f j < f (n + 1) then f j else f j - 1) := eg
      split at eg' <;> split at eg' <;> omega
theorem back (W : Wf S n b) (hb : 0 < b) {s : Nat} (h : s < n) : ∃ p, 1 ≤ p ∧ p ≤ n ∧ it S p (it S n s) = it S n s := by
  obtain ⟨i, j, hij, hj, e⟩ := pigeon n (fun k => it S k s) (fun k _ => it_lt W hb k s h)
  refine ⟨j - i, by omega, by omega, ?_⟩
  have e1 : it S n s = it S (n - i) (it S i s) := by rw [← it_add]; congr 1; omega
  have e2 : it S n s = it S (n - i) (it S i s) := e1
  rw [← it_add, show j - i + n = (n - i) + j by omega, it_add, ← e, ← it_add]
  congr 1
  omega
/-- a round is the same from the next one -/
theorem rnd_step (W : Wf S n b) (hb : 0 < b) {s : Nat} (h : s < n) : rnd S n (stp S s 0) = rnd S n s := by
  obtain ⟨p, p1, pn, ep⟩ := back W hb h
  have e0 : it S n (stp S s 0) = it S 1 (it S n s) := by rw [← it_add, Nat.add_comm]; rfl
  unfold rnd
  rw [e0]
  generalize it S n s = t at *
  refine Nat.le_antisymm ?_ ?_
  · obtain ⟨j, hj, e⟩ := low_is (S := S) n t
    rw [e]
    rcases Nat.eq_zero_or_pos j with rfl | j0
    · have := low_le (S := S) n (it S 1 t) (p - 1) (by omega)
      rw [← it_add, show p - 1 + 1 = p by omega, ep] at this
      exact this
    · have := low_le (S := S) n (it S 1 t) (j - 1) (by omega)
      rw [← it_add, show j - 1 + 1 = j by omega] at this
      exact this
  · obtain ⟨j, hj, e⟩ := low_is (S := S) n (it S 1 t)
    rw [e, ← it_add]
    rcases Nat.lt_or_ge j n with l | l
    · exact low_le n t (j + 1) (by omega)
    · have := low_le (S := S) n t (j + 1 - p) (by omega)
      have e2 : it S (j + 1) t = it S (j + 1 - p) t := by
        rw [show j + 1 = (j + 1 - p) + p by omega, it_add, ep]
        congr 1
        omega
      rw [e2]
      exact this
theorem rnd_lt (W : Wf S n b) (hb : 0 < b) {s : Nat} (h : s < n) : rnd S n s < n := by
  unfold rnd
  obtain ⟨j, _, e⟩ := low_is (S := S) n (it S n s)
  rw [e]
  exact it_lt W hb _ _ (it_lt W hb _ _ h)
end
/-! ### how tables lie -/
section
variable {K : PySem.W.Frag} {H H' : Hp} {a d g : Addr} {S : Tab} {b c : Nat} {k : Keys}
structure Grid (K : PySem.W.Frag) (H : Hp) (a : Addr) (S : Tab) : Prop where
  ex : ∃ rs : List Addr, SqT K H a (rs.map V.ref) ∧ rs.length = S.length ∧ ∀ (i : Nat) (r : Addr) (w : List Nat), rs[i]? = some r → S[i]? = some w → SqT K H r (w.map vI)
theorem Grid.to (h : Grid K H a S) (t : ∀ {p : Addr} {xs : List V}, SqT K H p xs → SqT K H' p xs) : Grid K H' a S := by
  obtain ⟨rs, h1, h2, h3⟩ := h.ex
  exact ⟨rs, t h1, h2, fun i r w e1 e2 => t (h3 i r w e1 e2)⟩
theorem Grid.same (h : Grid K H a S) (s : Same H H') : Grid K H' a S := h.to fun q => Same.tup s q
theorem SqT.mv3 {p : Addr} {xs : List V} (D : Dk k H d g b) (m : Mv d g H H') (h : SqT K H p xs) : SqT K H' p xs := by
  obtain ⟨x, y, L, h1, h2, _⟩ := D.ex
  rcases h with (h | ⟨o, h⟩) | h
  · exact .inl (.inl (m.keep _ _ h (ne_of h h1 (fun z => nomatch z)) (ne_of h h2 (fun z => nomatch z))))
  · exact .inl (.inr ⟨o, m.keep _ _ h (ne_of h h1 (fun z => nomatch z)) (ne_of h h2 (fun z => nomatch z))⟩)
  · exact .inr h
theorem Dk.tup {r : Addr} {xs : List V} (D : Dk k H d g b) (h : H r = some (.tup xs)) : r ≠ d ∧ r ≠ g := by
  obtain ⟨x, y, L, h1, h2, _⟩ := D.ex
  exact ⟨ne_of h h1 (fun z => nomatch z), ne_of h h2 (fun z => nomatch z)⟩
theorem Dk.ins {r C dx : Addr} {fs : List (Str × V)} (D : Dk k H d g b) (h : H r = some (.ins C dx fs)) : r ≠ d ∧ r ≠ g := by
  obtain ⟨x, y, L, h1, h2, _⟩ := D.ex
  exact ⟨ne_of h h1 (fun z => nomatch z), ne_of h h2 (fun z => nomatch z)⟩
theorem Grid.mv3 (h : Grid K H a S) (D : Dk k H d g b) (m : Mv d g H H') : Grid K H' a S := h.to fun q => SqT.mv3 D m q
theorem SqT.upd {p q : Addr} {xs ys : List V} (hq : H q = some (.lst ys)) {o : HO} (h : SqT K H p xs) : SqT K (upd H q o) p xs := by
  rcases h with (h | ⟨o', h⟩) | h
  · exact .inl (.inl (by rw [upd_ne (ne_of h hq (fun z => nomatch z))]; exact h))
  · exact .inl (.inr ⟨o', by rw [upd_ne (ne_of h hq (fun z => nomatch z))]; exact h⟩)
  · exact .inr h
theorem Grid.len {n w : Nat} (W : Wf S n w) (h : Grid K H a S) : ∃ xs, SqT K H a xs ∧ xs.length = n := by
  obtain ⟨rs, h1, h2, _⟩ := h.ex
  exact ⟨_, h1, by rw [List.length_map, h2, W.len]⟩
theorem Grid.row {n w : Nat} (W : Wf S n w) (h : Grid K H a S) {s : Nat} (hs : s < n) : ∃ (xs : List V) (r : Addr), SqT K H a xs ∧ atI xs (s : Int) = some (.ref r) ∧ SqT K H r ((MA.row S s).map vI) := by
  obtain ⟨rs, h1, h2, h3⟩ := h.ex
  have l : s < rs.length := by rw [h2, W.len]; exact hs
  refine ⟨_, rs[s], h1, atI_nat (by rw [List.getElem?_map, List.getElem?_eq_getElem l]; rfl), h3 s _ _ (List.getElem?_eq_getElem l) (row_at (by rw [W.len]; exact hs))⟩
theorem at_vI {L : List Nat} {i x : Nat} (h : L[i]? = some x) : atI (L.map vI) (i : Int) = some (vI x) := atI_nat (by rw [List.getElem?_map, h]; rfl)
end
/-! ### what is reached -/
def kvT (L : List Nat) : List (Key × V) := L.map fun (x : Nat) => ((Sum.inl (x : Int) : Key), V.bl true)
theorem kvT_has (L : List Nat) (x : Nat) : (valV (kvT L) (Sum.inl (x : Int) : Key)).isSome = decide (x ∈ L) := by
  induction L with
  | nil => simp [kvT, valV]
  | cons y r ih =>
    by_cases e : y = x
    · subst e
      rw [show valV (kvT (y :: r)) (Sum.inl (y : Int) : Key) = some (.bl true) from valV_pos rfl, decide_eq_true (List.mem_cons_self)]; rfl
    · have ne : ¬ ((Sum.inl (y : Int) : Key) = Sum.inl (x : Int)) := fun z => e (by injection z with z; omega)
      rw [show valV (kvT (y :: r)) (Sum.inl (x : Int) : Key) = valV (kvT r) (Sum.inl (x : Int) : Key) from valV_neg ne, ih]
      refine decide_eq_decide.mpr ?_
      rw [List.mem_cons]
      exact ⟨fun h => .inr h, fun h => h.resolve_left fun z => e z.symm⟩
theorem kvT_put {L : List Nat} {x : Nat} (h : x ∉ L) : putK (kvT L) (Sum.inl (x : Int) : Key) (.bl true) = kvT (L ++ [x]) := by
  unfold putK
  have : ((kvT L).any fun kv => decide (kv.1 = (Sum.inl (x : Int) : Key))) = false := by
    rw [List.any_eq_false]
    intro p hp
    obtain ⟨y, hy, rfl⟩ := List.mem_map.mp hp
    refine fun z => h ?_
    have z' := of_decide_eq_true z
    injection z' with z'
    rw [show x = y by omega]; exact hy
  rw [this, if_neg (by decide)]
  unfold kvT
  rw [List.map_append]; rfl
theorem nodup_len : ∀ (n : Nat) (L : List Nat), L.Nodup → (∀ x ∈ L, x < n) → L.length ≤ n
  | 0, [], _, _ => Nat.le_refl _
  | 0, x :: r, _, h => absurd (h x List.mem_cons_self) (Nat.not_lt_zero _)
  | n + 1, L, hn, h => by
    have h1 : (L.filter fun x => x != n).length ≤ n := nodup_len n _ (hn.filter _) fun x hx => by
      obtain ⟨a, b⟩ := List.mem_filter.mp hx
      have := h x a
      have : x ≠ n := by simpa using b
      omega
    have h2 : L.length ≤ (L.filter fun x => x != n).length + 1 := by
      clear h1 h
      induction L with
      | nil => exact Nat.zero_le _
      | cons y r ih =>
        obtain ⟨n1, n2⟩ := List.nodup_cons.mp hn
        by_cases e : y = n
        · subst e
          rw [List.filter_cons_of_neg (by simp)]
          have : r.filter (fun x => x != y) = r := List.filter_eq_self.mpr fun x hx => by
            have : x ≠ y := fun z => n1 (z ▸ hx)
            simpa using this
          rw [this]; exact Nat.le_refl _
        · rw [List.filter_cons_of_pos (by simpa using e)]
          have := ih n2
          rw [List.length_cons, List.length_cons]; omega
    omega
/-- states found so far, each of them reached -/
structure Fnd (S : Tab) (L : List Nat) : Prop where
  nd : L.Nodup
  zr : 0 ∈ L
  rc : ∀ x ∈ L, Rch S x
theorem Fnd.add {S : Tab} {L : List Nat} {s x : Nat} (f : Fnd S L) (hs : s ∈ L) (hx : x ∈ row S s) (h : x ∉ L) : Fnd S (L ++ [x]) where
  nd := List.nodup_append.mpr ⟨f.nd, List.pairwise_singleton _ _, fun a ha b hb z => by
    rw [List.mem_singleton.mp hb] at z
    exact h (z ▸ ha)⟩
  zr := List.mem_append_left _ f.zr
  rc := fun y hy => by
    rcases List.mem_append.mp hy with hy | hy
    · exact f.rc y hy
    · rw [List.mem_singleton.mp hy]; exact .step (f.rc s hs) hx
theorem Fnd.all {S : Tab} {L : List Nat} (f : Fnd S L) (h : ∀ s ∈ L, ∀ x ∈ row S s, x ∈ L) (s : Nat) : s ∈ L ↔ Rch S s := by
  refine ⟨f.rc s, fun r => ?_⟩
  induction r with
  | zero => exact f.zr
  | step _ hx ih => exact h _ ih _ hx
theorem Fnd.len {S : Tab} {L : List Nat} {n b : Nat} (f : Fnd S L) (W : Wf S n b) (h0 : 0 < n) : L.length ≤ n := nodup_len n L f.nd fun x hx => (f.rc x hx).lt W h0
theorem perm_nat {ms : List Int} {L : List Nat} (h : ms.Perm (L.map fun x : Nat => (x : Int))) : ∃ M : List Nat, ms = M.map (fun x : Nat => (x : Int)) ∧ M.Perm L := by
  refine ⟨ms.map Int.toNat, ?_, ?_⟩
  · rw [List.map_map]
    have : ∀ x ∈ ms, ((fun x : Nat => (x : Int)) ∘ Int.toNat) x = x := fun x hx => by
      obtain ⟨y, _, rfl⟩ := List.mem_map.mp (h.mem_iff.mp hx)
      rfl
    rw [List.map_congr_left this, List.map_id']
  · have := h.map Int.toNat
    rw [List.map_map] at this
    have e : L.map (Int.toNat ∘ fun x : Nat => (x : Int)) = L := by
      have : ∀ x ∈ L, (Int.toNat ∘ fun x : Nat => (x : Int)) x = x := fun x _ => rfl
      rw [List.map_congr_left this, List.map_id']
    rw [e] at this
    exact this
theorem map_vI (L : List Nat) : (L.map fun x : Nat => (x : Int)).map V.int = L.map vI := by rw [List.map_map]; rfl
theorem dpa_nats {K : PySem.W.Frag} {H : Hp} : ∀ L : List Nat, DpAll K H (L.map vI) (L.map fun x : Nat => PyData.int (x : Int))
  | [] => .nil
  | x :: r => .cons (.int _) (dpa_nats r)
theorem map_dI (L : List Nat) : (L.map fun x : Nat => PyData.int (x : Int)) = (L.map fun x : Nat => (x : Int)).map PyData.int := by rw [List.map_map]; rfl
theorem shaped_nats (L : List Nat) : SeqAt.shaped (.list (L.map fun x : Nat => PyData.int (x : Int))) = true := by rw [map_dI]; exact shaped_ints _
theorem eqv_nats_nil (L : List Nat) : PyData.eqv (.list (L.map fun x : Nat => PyData.int (x : Int))) (.list []) = decide (L = []) := by
  rw [map_dI, eqv_ints_nil]
  exact decide_eq_decide.mpr List.map_eq_nil_iff
theorem pop_nat (L : List Nat) (c : Nat) : ((L ++ [c]).map vI)[((L ++ [c]).map vI).length - 1]? = some (vI c) := by
  rw [List.map_append, List.map_singleton, List.length_append, List.length_singleton, Nat.add_sub_cancel, List.getElem?_append_right (Nat.le_refl _), Nat.sub_self]
  rfl
theorem pop_natL (L : List Nat) (c : Nat) : ((L ++ [c]).map vI).dropLast = L.map vI := by
  rw [List.map_append, List.map_singleton, List.dropLast_concat]
theorem snoc_at {α : Type} {xs : List α} {x y : α} {i : Nat} (h : (xs ++ [x])[i]? = some y) : (i < xs.length ∧ xs[i]? = some y) ∨ (i = xs.length ∧ y = x) := by
  rcases Nat.lt_or_ge i xs.length with l | l
  · rw [List.getElem?_append_left l] at h
    exact .inl ⟨l, h⟩
  · rw [List.getElem?_append_right l] at h
    rcases Nat.eq_zero_or_pos (i - xs.length) with z | z
    · rw [z] at h
      exact .inr ⟨by omega, (Option.some.inj h).symm⟩
    · rw [List.getElem?_eq_none (by show 1 ≤ _; omega)] at h
      cases h
def rowD (r : List Nat) : PyData := .tuple (r.map fun x : Nat => PyData.int (x : Int))
theorem dpa_grid {K : PySem.W.Frag} {H : Hp} : ∀ (rs : List Addr) (S : Tab), rs.length = S.length → (∀ (i : Nat) (r : Addr) (w : List Nat), rs[i]? = some r → S[i]? = some w → SqT K H r (w.map vI)) → DpAll K H (rs.map V.ref) (S.map rowD)
  | [], [], _, _ => .nil
  | r :: rs, w :: S, l, h => .cons (.tup (h 0 r w rfl rfl) (dpa_nats w)) (dpa_grid rs S (by simpa using l) fun i r w e1 e2 => h (i + 1) r w e1 e2)
theorem Grid.dp {K : PySem.W.Frag} {H : Hp} {a : Addr} {S : Tab} (h : Grid K H a S) : Dp K H (.ref a) (.tuple (S.map rowD)) := by
  obtain ⟨rs, h1, h2, h3⟩ := h.ex
  exact .tup h1 (dpa_grid rs S h2 h3)
theorem nice_row {r : List Nat} {n w : Nat} (hl : r.length = w) (hw : w ≤ 10) (h : ∀ x ∈ r, x < n) (hn : n ≤ 200) : Nice 73 1 (rowD r) := by
  have h1 : ∀ d ∈ r.map (fun x : Nat => PyData.int (x : Int)), Nice 5 0 d := fun d hd => by
    obtain ⟨x, hx, rfl⟩ := List.mem_map.mp hd
    have := h x hx
    exact Nice.int (by omega) (by omega)
  exact (Nice.tup (n := 10) h1 (by rw [List.length_map]; omega)).mono (by decide) (by decide)
theorem nice_grid {S : Tab} {n w : Nat} (W : Wf S n w) (hw : w ≤ 10) (hn : n ≤ 100) : Nice 8000 2 (.tuple (S.map rowD)) := by
  have h1 : ∀ d ∈ S.map rowD, Nice 73 1 d := fun d hd => by
    obtain ⟨r, hr, rfl⟩ := List.mem_map.mp hd
    exact nice_row (W.wid r hr) hw (W.ent r hr) (by omega)
  exact (Nice.tup (n := 100) h1 (by rw [List.length_map, W.len]; exact hn)).mono (by decide) (by decide)
theorem nice_nats {B : List Nat} {n : Nat} (hl : B.length = n) (hn : n ≤ 100) (h : ∀ x ∈ B, x ≤ 200) : Nice 800 1 (.tuple (B.map fun x : Nat => PyData.int (x : Int))) := by
  have h1 : ∀ d ∈ B.map (fun x : Nat => PyData.int (x : Int)), Nice 5 0 d := fun d hd => by
    obtain ⟨x, hx, rfl⟩ := List.mem_map.mp hd
    have := h x hx
    exact Nice.int (by omega) (by omega)
  exact (Nice.tup (n := 100) h1 (by rw [List.length_map]; omega)).mono (by decide) (by decide)
end MA
namespace GL
open PySem PySem.Spec PyProof.Rows L2
section
variable {P : Program} {w : World} {K : PySem.W.Frag} {mg : Str → Option Value} {base : Heap}
/-- a def that may raise keeps its promise wherever no guard is under way -/
theorem okGX {x qual : Str} {st : Stmt} {f : Addr} {fd : FuncData} {N ps : List Str} {k : Nat} {sp : Sp} (F : Fun K x qual st f fd) (S : FnScope N ps (defScope st)) (len : ∀ vs H Q E, sp vs H Q E → vs.length = ps.length)
    (walk : ∀ (cdv : Value) (A : Around) (outer : List Env) (s : Shared) (H : Hp) (vs : List V) (Q : VK) (E : XK), Room k (A.deeper (envOfC qual (defScope st) s.heap.objs.size f cdv)) → Calm (A.deeper (envOfC qual (defScope st) s.heap.objs.size f cdv)) → sp vs H Q E →
      ∃ t, PSs (cxOf (L2.CX P w) P w K mg base N qual (defScope st) f cdv A outer s H E) (defBody st) t ∧ t { nx := fun _ H' => Q .non H', rt := Q } (start N vs) H) : FnG P w K mg base (L2.CX P w) (k + 1) f fd ps sp := by
  obtain ⟨oc, od, kV, doc, pm, an, cdv, ct, osl, rfl, lk, code⟩ := F.ex
  refine ⟨len, ?_⟩
  intro A outer s H args us vs Q E room calm e0 bnd rel want
  have long := len _ _ _ _ want
  have up : ∀ b o, base.get? b = some o → s.heap.get? b = some o := fun b o e => (e0.bs b o e).1
  have kin : K.In s.heap := e0.mod.kin.keeps up
  have lim : s.heap.NoLimit := e0.mod.nolimit.keeps up
  have kinds : ∀ y ∈ ps.zip us, (defScope st).names.lookup y.1 = some .local ∨ ((defScope st).names.lookup y.1 = some .cell ∧ ((cellsFrom (s.heap.objs.size + 1) (defScope st).names []).lookup y.1).isSome = true) := by
    rintro ⟨n, v⟩ hy
    exact (S.par n (List.of_mem_zip hy).1).imp id fun q => ⟨q, PySem.W.cellsFrom_some _ _ _ (.inl q)⟩
  refine codeAny_call_function room.depth (kin _ _ lk) rfl S.co S.gen rfl (PySem.W.codeRec_of kin code) (bnd _ _ _ _ (wpAny_newFunctionEnv_cells S.kind kinds ?_))
  rintro env rfl s1 x
  obtain ⟨t, deriv, reads⟩ := walk cdv A outer s H vs Q E (room.deeper _) (calm.deeper _) want
  have I : Inv (cxOf (L2.CX P w) P w K mg base N qual (defScope st) f cdv A outer s H E) [] (start N vs) H s1 := inv_start S room.hd e0 long rel x
  refine ⟨lim.keeps x.toInCall.keep, codeAny_func (wpAny_mono (deriv.run [] s1 (start N vs) H _ I reads) ?_ fun _ _ z => z)⟩
  intro fl s' hs
  match fl, hs with
  | .ret u, ⟨v, _, H', J, rv, q⟩ => exact ⟨v, H', J.os, J.bare, J.base, J.hok, rv, q⟩
  | .next, ⟨_, H', J, q⟩ => exact ⟨V.non, H', J.os, J.bare, J.base, J.hok, rfl, q⟩
  | .brk, ⟨_, _, _, q⟩ => exact q.elim
  | .cont, ⟨_, _, _, q⟩ => exact q.elim
end
section
variable {X : Cx} {CX : CXT} {k : Nat} {f C : Addr} {fd : FuncData} {ps : List Str} {sp : Sp} {ds : List Value} {dvs : List V} {E : L2.St → XK} {x : Str} {p pos : Pos} {e : Expr} {es : List Expr} {t : TA}
/-- a new instance whose __init__ may raise -/
def tMakeS (C : Addr) (sp : Sp) (E : L2.St → XK) (t : TA) : TE := fun σ H Q => t σ H fun vs H1 => ∀ x dx, H1 x = none → H1 dx = none → dx ≠ x →
  sp (.ref x :: vs) (upd (upd H1 dx (.own x)) x (.ins C dx [])) (fun v H2 => v = .non ∧ Q (.ref x) H2) (E σ)
theorem pe_makeS (M : Mk X.K C f) (F : FnG X.prog X.w X.K X.mg X.base CX k f fd ps sp) (hr : Room (k + 1) X.A) (hc : Calm X.A) (hg : Gl X x) (hm : X.mg x = some (.ref C)) (hb : Binds X.K fd ps []) (hx : ∀ σ, PassesAt CX X σ (E σ))
    (ha : PA X (e :: es) t) (hdb : (x == ("__debug__" : Str)) = false := by decide) (he : starEach (e :: es) X.env = (false, eval e X.env) :: starEach es X.env := by rfl) (hpl : (backTo pos (starEach es X.env)).any (·.1) = false := by rfl) :
    PE X (.Call (.Name x p) (e :: es) [] pos) (tMakeS C sp E t) := by
  constructor
  intro pins s σ H Q I h
  refine wpAny_Call_Name_kw (ld_glob I hg hm (PySem.W.callWith_K (h₀ := X.base) I.ok.mod.kin M.kp (thn (ha.run pos pins s σ H _ I h) ?_) he hpl) hdb)
  rintro us s1 ⟨vs, H1, I1, r, q⟩
  have r2 : Vals (V.ref (s1.heap.objs.size + 1) :: vs) (Value.ref (s1.heap.objs.size + 1) :: us) := .cons rfl r
  have q0 := q (s1.heap.objs.size + 1) s1.heap.objs.size (I1.hok.fresh (Nat.le_succ _)) (I1.hok.fresh (Nat.le_refl _)) (Nat.ne_of_lt (Nat.lt_succ_self _))
  have J := Inv.made (C := C) I1
  have bnd := fun s' X' => hb s' (Value.ref (s1.heap.objs.size + 1) :: us) X' (by rw [List.append_nil]; exact r2.length.symm.trans (F.len _ _ _ _ q0))
  have go := F.run _ X.stack _ _ ⟨Value.ref (s1.heap.objs.size + 1) :: us, []⟩ _ _ _ _ (hr.make C us []) (hc.make C us []) (J.env0.make C us []) (by have := bnd _ J.kIn; rw [List.append_nil] at this; exact this) r2 q0
  refine ⟨I1.kIn, wpAny_call (make_map (f := f) I1.kIn M.makes M.init (beq_iff_eq.mp M.fn) (codeAny_mono go fun r' s' q => ?_))⟩
  match r', q with
  | .error e, q => exact hx σ pins _ _ e s' J q
  | .ok (.ret u), q =>
    obtain ⟨v, H', I3, rv, ev, q3⟩ := J.after q
    cases ev
    exact ⟨rv, ⟨V.ref (s1.heap.objs.size + 1), H', I3, rfl, q3⟩⟩
end
end GL
namespace GX
open PySem PySem.Spec PyProof.Rows L2 PySem.W PySem.Calls PySem.HandSPX PySem.ESX Builtin Builtin.ObjectAttr
/-- the line of an own class that stands on one other own class, and that on Exception -/
abbrev two (B : Addr) : List Value := .ref B :: exTail
theorem two_has (B : Addr) (X : String) : (two B).contains (.type X) = exTail.contains (.type X) := by
  rw [List.contains_cons]
  rfl
section
variable {prog : Program} {w : World} {A : Around} {R : Result → Shared → Prop} {hp : Heap} {g : Array GenState} {d : Drawn} {t : Nat} {os : OsState}
theorem osa2 {K : W.Frag} {name : Str} {tk : Tok} {v : Value} {x C B : Addr} {fv : Array Value} {cd : ClassData}
    (kin : K.In hp) (at_ : hp.get? x = some { cls := .ref C, data := .fields fv })
    (known : W.clsIn K C = some cd) (line : cd.mro = .ref C :: two B) (own : cd.hasDict = true)
    (none_ : W.findIn K (.ref C) name = some none)
    (then_ : ∀ h' tk' dx, (∀ b o, b ≠ x → hp.get? b = some o → h'.get? b = some o) → hp.objs.size ≤ dx → dx ≠ x →
      h'.get? x = some { cls := .ref C, dict := some dx, data := .fields fv } →
      h'.Ns1 dx (fun y => if y = name then some v else none) → R (.ok (.ret .none)) ⟨h', g, d, tk', os⟩) :
    codeAny (model prog w) A (.call (.builtin "object.__setattr__") ⟨[.ref x, .str name tk, v], []⟩) R ⟨hp, g, d, t, os⟩ := by
  have inst : W.InstAt hp x { cls := .ref C, data := .fields fv } C none := ⟨at_, rfl, rfl, trivial⟩
  have apart : x ≠ hp.objs.size := Nat.ne_of_lt (Heap.lt_size at_)
  have facts := F.store_object
  have obj : W.mroIn K C (.type "object") = some true := by
    unfold W.mroIn
    rw [known, Option.bind_some, line]
    rfl
  have is_ : W.Looks (model prog w) hp (isInstance (.ref x) (.type "object")) true :=
    inst.type.andThen (W.looks_mroIn kin obj)
  refine codeAny_call_builtin facts.slot.plain facts.entry
    (@W.check_slot (model prog w) _ _ ⟨hp, g, d, t, os⟩ "object.__setattr__" "object" "__setattr__" (.ref x)
      [.str name tk, v] [] _ facts.kind facts.split is_ (facts.args (.ref x) (.str name tk) v) ?_)
  have up : W.Looks (model prog w) hp (mroOf (.ref C)) cd.mro := (W.looks_clsIn kin known).andThen .now
  have taker : W.Looks (model prog w) hp (storeTaker? none) none := .now
  have quiet : refuseLoop (.ref x) "__setattr__" cd.mro = pure () := by
    rw [line, refuseLoop_ref, refuseLoop_ref]
    exact F.store_Exception.passes _
  rw [W.osa_eq, refuse_eq]
  refine wpAny_bind (wpAny_bind (inst.type.at (wpAny_bind (up.at ?_))))
  rw [quiet]
  refine wpAny_pure (wpAny_bind (inst.type.at
    (wpAny_bind ((W.looks_findIn kin none_).at (wpAny_bind (taker.at ?_))))))
  show wpAny _ _ (storeInOwnDict (.ref x) (.ref C) (.str name tk) name v false) _ _ _
  have cls_ : W.Looks (model prog w) hp (classData C) cd := W.looks_clsIn kin known
  rcases cd with ⟨c1, c2, c3, c4, c5, c6, c7, c8, c9, c10, c11⟩
  replace own : c6 = true := own
  cases own
  unfold storeInOwnDict ownDictForStores
  repeat (first
    | with_reducible refine HandSPX.store_in_new ?_ ?_
    | with_reducible refine wpAny_loadPart_at at_ ?_
    | with_reducible refine cls_.at ?_
    | wp_step)
  · exact ⟨_, #[], _, (Heap.get?_update_ne _ _ _ _ apart.symm).trans
      (Heap.get?_push_at rfl rfl), rfl, fun e he => absurd he (by simp), fun _ => rfl⟩
  · intro h' tk' named same
    have still : (hp.push { cls := .type "dict", data := .dict #[] }).get? x =
      some { cls := .ref C, data := .fields fv } := Heap.get?_push_of_some _ at_
    refine then_ h' tk' hp.objs.size (fun b o hb ho => ?_) (Nat.le_refl _) apart.symm ?_ named
    · exact (same.2 b (Nat.ne_of_lt (Heap.lt_size ho))).trans
        ((Heap.get?_update_ne _ _ _ _ hb).trans (Heap.get?_push_of_some _ ho))
    · exact (same.2 x apart).trans (Heap.get?_update_self _ still rfl)
end
end GX
namespace GX
open PySem PySem.Spec PyProof.Rows L2 GL
/-- what the written part says of an own error at C, over the own one at B -/
structure OexE (K : PySem.W.Frag) (C B : Addr) : Prop where
  cls : ∃ nm q N bs sn sub ab col dd k0 k1 k2 k3 k5,
    K.lookup C = some (excClassObj nm q C N bs (two B) true sn sub ab col dd k0 k1 k2 k3 k5 "Exception.__new__")
  sa : PySem.W.findIn K (.ref C) "__setattr__" = some (some (.builtin "object.__setattr__"))
  base : PySem.W.subIn K (.ref C) (.type "BaseException") = some true
  type : PySem.W.typeIn K (.ref C) = some (.type "type")
  kept : PySem.W.keepIn K (.ref C) = true
theorem known {K : PySem.W.Frag} {C B : Addr} (T : OexE K C B) : ∃ cd : ClassData, PySem.W.clsIn K C = some cd ∧ cd.mro = .ref C :: two B ∧ cd.hasDict = true := by
  obtain ⟨nm, q, N, bs, sn, sub, ab, col, dd, k0, k1, k2, k3, k5, at_⟩ := T.cls
  refine ⟨{ name := nm, bases := bs, mro := .ref C :: two B, ns := N, qualname := q, hasDict := true, slotNames := sn, subclasses := sub, «abstract» := ab, collection := col, hasDel := false }, ?_, rfl, rfl⟩
  unfold PySem.W.clsIn
  rw [at_]
section
variable {X : Cx} {pins : List (Addr × Obj)} {σ : L2.St} {H : Hp} {s : Shared} {a C B dx : Addr} {f : Str} {y : V} {u : Value} {fs : List (Str × V)} {E : Value → Shared → Prop} {A : Around}
theorem put_first {Q : Unit → Shared → Prop} (T : OexE X.K C B) (I : Inv X pins σ H s) (e : H a = some (exo a C none))
    (hno : PySem.W.findIn X.K (.ref C) f = some none) (ry : RelV y u)
    (h : ∀ dx s', H dx = none → dx ≠ a → Inv X pins σ (upd (upd H dx (exd dx [(f, y)])) a (exo a C (some dx))) s' → Q () s') :
    wpAny (model X.prog X.w) A (setAttr (.ref a) f u) Q E s := by
  obtain ⟨cd, c1, c2, c3⟩ := known T
  obtain ⟨t1, old⟩ := exo_at I.hok e
  obtain ⟨hp, g, d, t, os⟩ := s
  refine PySem.W.set_plain I.kIn (od := none)
    (ox := { cls := .ref C, dict := none, data := .fields #[.ref t1, .none, .none, .none, .bool false, .none] })
    ⟨old, rfl, rfl, trivial⟩ T.sa ?_
  refine osa2 I.kIn old c1 c2 c3 hno (fun h' tk' dx keep new apart now named => ?_)
  have free : H dx = none := I.hok.fresh new
  have early : ∀ {b : Addr} {o : Obj}, hp.get? b = some o → b ≠ dx :=
    fun {b o} q => Nat.ne_of_lt (Nat.lt_of_lt_of_le (Heap.lt_size q) new)
  have off : ∀ {b : Addr}, H b = none → b ≠ a := fun {b} n z => by
    rw [z] at n
    exact nomatch e.symm.trans n
  refine h dx _ free apart (I.un (t' := tk') ?_ ?_)
  · constructor
    · exact fun b o q n _ _ => keep b o (off n) q
    · exact fun b o q n _ _ => ⟨o.slots, keep b o (off n) q⟩
    · intro b o q n _
      rw [upd_ne (off n), upd_ne (early q)]
      exact n
    · intro b o q _
      by_cases same : b = a
      · rw [same]
        exact ⟨_, now⟩
      · exact ⟨o, keep b o same q⟩
    · intro b xs q
      rw [upd_ne (at_ne e q exo_tup), upd_ne (ne_of_none q free)]
      exact q
    · intro b o v q
      rw [upd_ne (at_ne e q exo_frz), upd_ne (ne_of_none q free)]
      exact q
    · intro b ps q
      refine ⟨#[], ?_⟩
      rw [upd_ne (at_ne e q exo_tbl), upd_ne (ne_of_none q free), q]
      simp
  · intro b o q
    by_cases isA : b = a
    · subst isA
      rw [upd_same] at q
      cases q
      exact exo_ok now
    rw [upd_ne isA] at q
    by_cases isD : b = dx
    · subst isD
      rw [upd_same] at q
      cases q
      exact exd_ok named (relO_put (fs := []) ry fun g => True.intro)
    rw [upd_ne isD] at q
    refine (I.hok b o q).stay (fun c v hc z => keep c v ?_ z) (fun c hc => ?_) (fun c xs hc => ?_)
    · rcases hc with hc | hc
      · rw [hc]
        exact isA
      · exact at_ne e hc exo_own
    · rw [upd_ne (at_ne e hc exo_own), upd_ne (ne_of_none hc free)]
      exact hc
    · rw [upd_ne (at_ne e hc exo_tup), upd_ne (ne_of_none hc free)]
      exact hc
/-- Exception.__init__(self, ..): nothing of it is told -/
theorem base_init {us : List Value} {Q : Value → Shared → Prop} (T : OexE X.K C B) (I : Inv X pins σ H s) (e : H a = some (exo a C none))
    (hl : us.length ≤ sizeLine) (h : ∀ s', Inv X pins σ H s' → Q .none s') :
    wpAny (model X.prog X.w) A (call (.builtin "Exception.__init__") (.ref a :: us)) Q E s := by
  obtain ⟨nm, q, N, bs, sn, sub, ab, col, dd, k0, k1, k2, k3, k5, at_⟩ := T.cls
  obtain ⟨t1, old⟩ := exo_at I.hok e
  obtain ⟨hp, g, d, t, os⟩ := s
  refine wpAny_call (PySem.HandSPX.init_base F.excBase_Exception (two_has B) (I.kIn _ _ at_) old hl fun h' t2 keep now => ?_)
  have next := I.write (t' := t) (x := a) (e := a) (o := exo a C none) (by rw [e]; exact True.intro) (.inl rfl) keep ⟨_, now⟩ (exo_ok now)
  have as_is : upd H a (exo a C none) = H := funext fun b => by
    by_cases same : b = a
    · rw [same, upd_same, e]
    · rw [upd_ne same]
  rw [as_is] at next
  exact h _ next
end
/-- Base.__init__(self, ..), Base an own class that has no __init__ of its own -/
def tBase (K : PySem.W.Frag) (ta : TA) : TE := fun σ H Q => ta σ H fun vs H1 => ∃ (a C B : Addr) (ws : List V), vs = .ref a :: ws ∧ ws.length ≤ 1000 ∧ OexE K C B ∧ H1 a = some (exo a C none) ∧ Q .non H1
/-- self.f = e, the first one -/
def tPut (K : PySem.W.Frag) (f : Str) (to te : TE) : TS := fun D σ H => te σ H fun y H1 => to σ H1 fun x H2 => ∃ a C B : Addr, x = .ref a ∧ OexE K C B ∧ PySem.W.findIn K (.ref C) f = some none ∧
  H2 a = some (exo a C none) ∧ ∀ dx, H2 dx = none → dx ≠ a → D.nx σ (upd (upd H2 dx (exd dx [(f, y)])) a (exo a C (some dx)))
section
variable {X : Cx} {o e : Expr} {es : List Expr} {to te : TE} {ta : TA} {f : Str} {p p' p1 p2 pos : Pos} {B : Addr} {x : Str}
theorem pe_base {pl : Sem Bool} (hg : Gl X x) (hm : X.mg x = some (.ref B))
    (ga : PySem.W.specialIn X.K (.ref B) "__getattribute__" = some (some (.builtin "type.__getattribute__"))) (rd : PySem.W.readsIn X.K B (.type "type") = true)
    (fi : PySem.W.findCls X.K (.ref B) (.type "type") "__init__" = some (.val (.builtin "Exception.__init__"))) (ha : PA X (e :: es) ta)
    (hd : (x == ("__debug__" : Str)) = false := by decide)
    (hc : eval (.Call (.Attribute (.Name x p1) "__init__" p2) (e :: es) [] pos) X.env = (eval (.Name x p1) X.env >>= fun ov => standAt p2.atName >>= fun _ =>
      holding [ov] (getMethod ov "__init__" pl) >>= fun fx => callWith pos fx.1 fx.2 (backTo pos (starEach (e :: es) X.env)) (backToKw pos (keywordEach [] X.env))) := by rfl)
    (he : starEach (e :: es) X.env = (false, eval e X.env) :: starEach es X.env := by rfl) (hpl : (backTo pos (starEach es X.env)).any (·.1) = false := by rfl) :
    PE X (.Call (.Attribute (.Name x p1) "__init__" p2) (e :: es) [] pos) (tBase X.K ta) := by
  constructor
  intro pins s σ H Q I h
  refine PySem.W.methodCall_KW (pl := pl) (ld_glob I hg hm ?_ hd) hc
  refine PySem.W.method_cls I.kIn ga (PySem.W.cls_value I.kIn rd fi (by decide +kernel) ?_)
  show wpAny _ _ (callWith pos (Value.builtin "Exception.__init__") [] (backTo pos (starEach (e :: es) X.env)) []) _ _ _
  refine PyProof.Rows.callWith_method1 (thn (ha.run pos pins _ σ H _ (I.tok _) h) ?_) he hpl
  rintro us s1 ⟨vs, H1, I1, r1, a, C, B', ws, rfl, hl, T, ea, q⟩
  cases r1 with
  | @cons _ u0 _ ur ra rest =>
    obtain rfl : u0 = Value.ref a := ra
    refine base_init T I1 ea ?_ fun s' J => ⟨.non, H1, J, rfl, q⟩
    rw [← rest.length]
    exact Nat.le_trans hl (small (by decide))
theorem ps_put (ho : PE X o to) (he : PE X e te) (hs : swapsWith e (some (.Attribute o f p')) pos.line X.env = pure false := by rfl) : PS X (.Assign [.Attribute o f p'] e pos) (tPut X.K f to te) := by
  constructor
  intro pins s σ H D I h
  refine plainObj_wpAny_Assign_Attribute (thn (he.run pins s σ H _ I h) ?_) hs
  rintro v s1 ⟨y, H1, I1, r1, q1⟩
  refine thn (ho.run pins s1 σ H1 _ I1 q1) ?_
  rintro u s2 ⟨x, H2, I2, r2, a, C, B, rfl, T, hno, ea, q⟩
  obtain rfl : u = Value.ref a := r2
  exact put_first T I2 ea hno r1 fun dx s' n ne J => ⟨σ, _, J, q dx n ne⟩
/-- C(e, ..), C's own __init__ keeping sp -/
theorem pmkE {CX : CXT} {C fI : Addr} {k : Nat} {fd : FuncData} {ps : List Str} {sp : Sp} (T : OexE X.K C B) (iC : PySem.W.findIn X.K (.ref C) "__init__" = some (some (.ref fI)))
    (tI : PySem.W.typeIn X.K (.ref fI) = some (.type "function")) (F1 : FnG X.prog X.w X.K X.mg X.base CX k fI fd ps sp) (hr : Room (k + 1) X.A) (hcalm : Calm X.A) (hb : Binds X.K fd ps [])
    (hx : Passes CX X (fun _ _ _ => False)) (hg : Gl X x) (hm : X.mg x = some (.ref C)) (ha : PA X (e :: es) ta) (hdb : (x == ("__debug__" : Str)) = false := by decide)
    (he : starEach (e :: es) X.env = (false, eval e X.env) :: starEach es X.env := by rfl) (hpl : (backTo pos (starEach es X.env)).any (·.1) = false := by rfl) :
    PMk X (.Call (.Name x p) (e :: es) [] pos) (tMkO C sp [] ta) := by
  intro pins s σ H Q I h
  obtain ⟨nm, q, N, bs, sn, sub, ab, col, dd, k0, k1, k2, k3, k5, at_⟩ := T.cls
  refine wpAny_Call_Name_kw (ld_glob I hg hm (PySem.W.callWith_K (h₀ := X.base) I.ok.mod.kin T.kept (thn (ha.run pos pins s σ H _ I h) ?_) he hpl) hdb)
  rintro us s1 ⟨vs, H1, I1, r1, hz, q1⟩
  refine ⟨I1.kIn, ?_⟩
  show wpAny _ _ (call (.ref C) us) _ _ _
  obtain ⟨hp, g, dr, tk, os⟩ := s1
  have step : hp.objs.size ≤ hp.objs.size + 1 := Nat.le_succ _
  have free : H1 (hp.objs.size + 1) = none := I1.hok.fresh step
  have want := q1 (hp.objs.size + 1) free
  rw [List.append_nil] at want
  have keep : ∀ b o, hp.get? b = some o → ((hp.push (PySem.W.kdv_tup us)).push (PySem.HandSPX.excO C hp.objs.size)).get? b = some o :=
    fun b o e => Heap.get?_push_of_some _ (Heap.get?_push_of_some _ e)
  have there : ((hp.push (PySem.W.kdv_tup us)).push (PySem.HandSPX.excO C hp.objs.size)).get? (hp.objs.size + 1) =
    some (PySem.HandSPX.excO C hp.objs.size) := by heap_get
  have I2 : Inv X pins σ (upd H1 (hp.objs.size + 1) (exo (hp.objs.size + 1) C none))
      ⟨(hp.push (PySem.W.kdv_tup us)).push (PySem.HandSPX.excO C hp.objs.size), g, dr, tk, os⟩ :=
    I1.laid (t' := tk) (a := hp.objs.size + 1) (o := exo (hp.objs.size + 1) C none) keep step (exo_ok there)
  have r2 : Vals (V.ref (hp.objs.size + 1) :: vs) (Value.ref (hp.objs.size + 1) :: us) := .cons rfl r1
  have many : (Value.ref (hp.objs.size + 1) :: us).length = ps.length := r2.length.symm.trans (F1.len _ _ _ _ want)
  have few : us.length ≤ sizeLine := by
    rw [← r1.length]
    exact Nat.le_trans hz (small (by decide))
  have bnd := hb ⟨(hp.push (PySem.W.kdv_tup us)).push (PySem.HandSPX.excO C hp.objs.size), g, dr, tk, os⟩ (Value.ref (hp.objs.size + 1) :: us) I2.kIn (by rw [List.append_nil]; exact many)
  rw [List.append_nil] at bnd
  have go := F1.run _ X.stack _ _ ⟨Value.ref (hp.objs.size + 1) :: us, []⟩ _ _ _ (fun _ _ _ => False) (hr.make C us []) (hcalm.make C us []) (I2.env0.make C us []) bnd r2 want
  refine wpAny_call (PySem.HandSPX.call_own F.excBase_Exception (two_has B) (I1.kIn _ _ at_) (PySem.W.looks_findIn I1.kIn iC)
    (fun self => PySem.W.bind_fn I1.kIn self tI) few (codeAny_mono go fun r s' got => ?_))
  match r, got with
  | .error er, got => exact hx pins σ _ _ er s' I2 got
  | .ok (.ret u), got =>
    obtain ⟨v, H2, os2, bare2, un2, hok2, rv, rfl, d, fs, ea, ed, hd1, q2⟩ := got
    obtain ⟨h2, g2, d2, t2, os'⟩ := s'
    exact ⟨rv, mk_end (raises_own T.base T.type) I1 step keep un2 hok2 os2 bare2 ea ed hd1 q2⟩
end
end GX
namespace GX
open PySem PySem.Spec PyProof.Rows L2 GL
/-- what is asked of a held error of the class at C -/
structure HeldE (K : PySem.W.Frag) (C : Addr) : Prop where
  some_ : (PySem.W.clsIn K C).isSome = true
  ga : PySem.W.findIn K (.ref C) "__getattribute__" = some (some (.builtin "BaseException.__getattribute__"))
  gg : PySem.W.findIn K (.ref C) "__getattr__" = some none
  base : PySem.W.subIn K (.ref C) (.type "BaseException") = some true
  own : PySem.W.hasDictIn K C = true
  cl : PySem.W.findIn K (.ref C) "__class__" = some (some (.builtin "object.__class__"))
  get : PySem.W.specialIn K (.builtin "object.__class__") "__get__" = some (some (.builtin "getset_descriptor.__get__"))
  tk : PySem.W.takesIn K (.builtin "object.__class__") = some true
  obj : PySem.W.mroIn K C (.type "object") = some true
theorem kit_same {K : PySem.W.Frag} {C : Addr} : PySem.W.kitOne K (.ref C) (.ref C) = some true := by
  unfold PySem.W.kitOne
  exact if_pos (by first | exact beq_self_eq_true _ | rfl | simp | decide)
section
variable {X : Cx} {C a : Addr} {oe : Obj} {cls : Value} {d : Option Addr} {pn : List (Addr × Obj)} {e : Expr} {te : TE} {pos : Pos} {f : Str}
theorem held_at {pins : List (Addr × Obj)} {σ : L2.St} {H : Hp} {s : Shared} {dd : Addr} {fs : List (Str × V)} (hz : Zc (.ref C) (some dd) oe) (hf : ∃ vs, oe.data = .fields vs)
    (I : Inv (X.suite a ((a, oe) :: pn)) pins σ H s) (ea : H dd = some (.xd fs)) :
    ∃ od : Obj, PySem.W.InstAt s.heap a oe C (some od) ∧ ∀ g : Str, ∃ o, PySem.W.lookIn g od = some o ∧ RelO (fs.lookup g) o := by
  obtain ⟨at_, _⟩ := I.pin (a, oe) (List.mem_append_left _ List.mem_cons_self)
  obtain ⟨vs, hd⟩ := hf
  have there : ObjOk X.prog X.w H s.heap dd (.xd fs) := I.hok dd _ ea
  obtain ⟨mA, hns, hr⟩ := there
  obtain ⟨od, ho, hl⟩ := lookIn_ns hns
  exact ⟨od, ⟨at_, hz.1, by unfold PySem.W.notCls; rw [hd] <;> rfl, by rw [hz.2]; exact ho⟩, fun g => ⟨_, hl _, hr g⟩⟩
/-- e.f, e the error that the suite holds -/
def tHeld (C : Addr) (f : Str) (a : Addr) (cls : Value) (d : Option Addr) (te : TE) : TE := fun σ H Q => te σ H fun x H1 => x = .ref a ∧ cls = .ref C ∧
  ∃ (dd : Addr) (fs : List (Str × V)) (v : V), d = some dd ∧ H1 dd = some (.xd fs) ∧ fs.lookup f = some v ∧ Q v H1
theorem pe_held (T : HeldE X.K C) (no : PySem.W.findIn X.K (.ref C) f = some none) (hz : Zc cls d oe) (hf : ∃ vs, oe.data = .fields vs) (he : PE (X.suite a ((a, oe) :: pn)) e te)
    (hb : attributeBase e f X.env (eval e X.env) = eval e X.env := by rfl) :
    PE (X.suite a ((a, oe) :: pn)) (.Attribute e f pos) (tHeld C f a cls d te) := by
  constructor
  intro pins s σ H Q I h
  refine attr_of hb (thn (he.run pins s σ H _ I h) ?_)
  rintro u s1 ⟨x, H1, I1, rx, rfl, rfl, dd, fs, v, rfl, ea, el, q⟩
  obtain rfl : u = Value.ref a := rx
  obtain ⟨od, J, hl⟩ := held_at hz hf I1 ea
  obtain ⟨o, h1, h2⟩ := hl f
  rw [el] at h2
  obtain ⟨u, hu, ru⟩ := RelO.some_of (v := v) (o := o) h2
  exact HandSPX.exc_get I1.kIn J T.ga T.gg T.base (PySem.W.findObj_own T.own no rfl (by rw [h1, hu])) (handed_of ru) ⟨v, H1, I1.tok _, ru, q⟩
/-- isinstance(e, C), e the error that the suite holds, of just this class -/
theorem call_isE (T : HeldE X.K C) (hz : Zc cls d oe) (hf : ∃ vs, oe.data = .fields vs) : CallR (X.suite a ((a, oe) :: pn)) (.builtin "isinstance") (fun xs H Q => xs = [.ref a, .ref C] ∧ cls = .ref C ∧
    (∃ (dd : Addr) (fs : List (Str × V)), d = some dd ∧ H dd = some (.xd fs)) ∧ Q (.bl true) H) := by
  intro pins s σ H xs us Q I r h
  obtain ⟨rfl, rfl, ⟨dd, fs, rfl, ea⟩, q⟩ := h
  obtain ⟨u, w', rfl, ru, rw'⟩ := vals2 r
  obtain rfl : u = Value.ref a := ru
  obtain rfl : w' = Value.ref C := rw'
  obtain ⟨od, J, _⟩ := held_at hz hf I ea
  exact PySem.W.kia_one (PySem.W.kitx_exc T.some_ T.ga T.gg T.base T.cl T.get T.tk T.obj) I.kIn J kit_same (fun z => nomatch z) fun tk => ⟨.bl true, H, I.tok _, rfl, q⟩
end
end GX
namespace GX
open PySem PySem.Spec PyProof.Rows L2 PySem.W PySem.Calls GL
/-! ### C.m(..), a static method that may raise, within a try -/
section
variable {X : Cx} {CX : CXT} {k : Nat} {f C : Addr} {fd : FuncData} {ps : List Str} {sp : Sp} {E : L2.St → XK} {x m : Str} {e : Expr} {es : List Expr} {t : TA} {p pos apos : Pos}
def tStatS (sp : Sp) (E : L2.St → XK) (t : TA) : TE := fun σ H Q => t σ H fun vs H1 => sp vs H1 Q (E σ)
theorem pe_statGS {pl : Sem Bool} (S : G3.StatM X.K C m f) (F : FnG X.prog X.w X.K X.mg X.base CX k f fd ps sp) (hb : Binds X.K fd ps []) (hr : Room k X.A) (hc : Calm X.A) (hx : ∀ σ, PassesAt CX X σ (E σ)) (hg : Gl X x) (hm : X.mg x = some (.ref C)) (ha : PA X (e :: es) t) (hdb : (x == ("__debug__" : Str)) = false := by decide)
    (hst : starEach (e :: es) X.env = (false, eval e X.env) :: starEach es X.env := by rfl) (hpl : (backTo pos (starEach es X.env)).any (·.1) = false := by rfl)
    (ht : eval (.Call (.Attribute (.Name x p) m apos) (e :: es) [] pos) X.env = (eval (.Name x p) X.env >>= fun ov => standAt apos.atName >>= fun _ => holding [ov] (getMethod ov m pl) >>= fun fx =>
      callWith pos fx.1 fx.2 (backTo pos (starEach (e :: es) X.env)) (backToKw pos (keywordEach [] X.env))) := by rfl) :
    PE X (.Call (.Attribute (.Name x p) m apos) (e :: es) [] pos) (tStatS sp E t) := by
  constructor
  intro pins s σ H Q I h
  refine PySem.W.methodCall_KW (pl := pl) (ld_glob I hg hm ?_ hdb) ht
  refine G3.getstat I S fun s1 I1 => ?_
  refine PySem.W.callWith_K (first := []) (h₀ := X.base) I1.ok.mod.kin S.kp (thn (ha.run pos pins s1 σ H _ I1 h) ?_) hst hpl
  rintro us s2 ⟨vs, H2, I2, r, q2⟩
  have long : us.length = ps.length := r.length.symm.trans (F.len _ _ _ _ q2)
  refine ⟨I2.kIn, wpAny_call (codeAny_mono (F.run X.A X.stack s2 H2 ⟨us, []⟩ us vs Q (E σ) hr hc I2.env0 (by have := hb s2 us I2.kIn (by rw [List.append_nil]; exact long); rw [List.append_nil] at this; exact this) r q2) fun r' s' z => ?_)⟩
  match r', z with
  | .error _, z => exact hx σ pins _ _ _ s' I2 z
  | .ok (.ret _), z => exact I2.after z
end
end GX
namespace GX
open PySem PySem.Spec PyProof.Rows L2 PySem.W
/-! ### try: .. except C as n: .. and more clauses, where C takes whatever the body may raise -/
/-- what the first clause asks of an error of the body; the clauses behind it are never reached -/
def wOne (K : PySem.W.Frag) (c : Value) (i : Nat) (ts : Addr → Value → Option Addr → TS) (D : Ends) : WX := fun cls d σ H =>
  PySem.W.exmOne K cls c = some true ∧ ∀ a, H a = none → ts a cls d { nx := fun τ G => D.nx (τ.set i none) G, rt := D.rt, bk := fun τ G => D.bk (τ.set i none) G, ct := fun τ G => D.ct (τ.set i none) G } (σ.set i (some (.ref a))) H
section
variable {X : Cx} {x n : Str} {c : Value} {i : Nat} {body suite : List Stmt} {b₀ : Stmt} {hds : List ExceptHandler} {np pos pos' : Pos} {tb : WX → TS} {ts : Addr → Value → Option Addr → TS}
theorem ps_try_first (hs : X.stack = X.env :: X.outer) (hf : X.env.frame = some X.env.locals) (hN : X.N.Nodup) (hi : X.N[i]? = some n) (hln : X.env.kindOf n = some .local) (hc : Names X x c)
    (hb : ∀ (W : WX) (pn : List (Addr × Obj)) (xe : Value → Shared → Prop), Takes (X.tr pn xe) W → PassesOwn (model X.prog X.w) X.A X.env xe → PSs (X.tr pn xe) body (tb W))
    (hsu : ∀ (a : Addr) (oe : Obj) (cls : Value) (d : Option Addr) (pn : List (Addr × Obj)), Zc cls d oe → (∃ vs, oe.data = .fields vs) → PSs (X.suite a ((a, oe) :: pn)) (b₀ :: suite) (ts a cls d)) :
    PS X (.Try body (.ExceptHandler (some (.Name x np)) (some n) (b₀ :: suite) pos' :: hds) [] [] pos) (fun D σ H => tb (wOne X.K c i ts D) D σ H) := by
  refine ⟨fun pins s0 σ0 H0 D I0 h0 => wpAny_Try_except (wpAny_mono ((hb (wOne X.K c i ts D) (X.pn ++ pins) (fun e t1 => wpAny (model X.prog X.w) X.A (noteFrame e X.env) (fun _ t2 => wpAny (model X.prog X.w) X.A (setFlight e none) (fun _ t3 =>
    wpAny (model X.prog X.w) X.A (handleBy e X.env (.ExceptHandler (some (.Name x np)) (some n) (b₀ :: suite) pos' :: hds)) (SP X pins D) X.xe t3) X.xe t2) X.xe t1) (fun u s' err => ?_) PassesOwn.looking).run [] s0 σ0 H0 D (I0.toTry _) h0) (fun fl s1 done => ?_) fun _ _ z => z)⟩
  · have ok := I0.ok
    obtain ⟨a, B, sI, _, σ, H, cls, d, rfl, J', nb, up, sky, na, os, ag, hit, goes⟩ := err
    have J : Inv X pins σ H sI := J'.ofTry ok
    rw [hs] at sky
    refine Sky.land Zc.steady (by rw [ok.frames, hs]) hf sky fun h3 fl3 up3 => ?_
    have J3 : Inv X pins σ H { s' with heap := h3 } := J.landed nb fl3.1 (up.trans up3) os ag
    obtain ⟨oe, _, he, hz, hd⟩ := fl3.there
    have out : a ∉ frs (X.env :: X.outer) := fun m => by
      obtain ⟨_, o', e', no⟩ := fl3.2.2.1.mem m
      rw [he] at e'
      cases e'
      exact no _ hd
    have nL : a ≠ X.env.locals := fun z => out (List.mem_filterMap.mpr ⟨X.env, List.mem_cons_self, by rw [hf, z]⟩)
    have nF : a ∉ X.fs := fun m => by
      obtain ⟨e, me, q⟩ := List.mem_filterMap.mp m
      exact out (List.mem_filterMap.mpr ⟨e, List.mem_cons_of_mem _ me, q⟩)
    have S3 := J3.suite he hd na nL nF
    refine wpAny_handleBy_cons (codeAny_handlers_test ?_) (by intro q; cases q)
    have see := PySem.W.exm_one (M := model X.prog X.w) J3.kIn (fun A Q E s k q => wpAny_typeOf_ref (k _ _ he) (by rw [hz.1]; exact q)) hit
    have name : ∀ {Q E : Value → Shared → Prop}, Q c { s' with heap := h3 } → wpAny (model X.prog X.w) (X.A.mark (some (.ref a))) (eval (.Name x np) X.env) Q E { s' with heap := h3 } := fun {Q E} q => by
      obtain ⟨hg, dbg, m | ⟨m, v, nn⟩⟩ := hc
      · exact ld_glob (X := X.suite a ((a, oe) :: (X.pn ++ pins))) S3 hg m q dbg
      · exact ld_blt (X := X.suite a ((a, oe) :: (X.pn ++ pins))) S3 hg m v q nn dbg
    refine name (see.here (codeAny_handlers_suite_as (HandSPX.lands_againZ fl3 fun h4 fl4 up4 => ?_)))
    obtain ⟨o4, _, e4, z4, d4⟩ := fl4.there
    have J4 : Inv X pins σ H { s' with heap := h4 } := J.landed nb fl4.1 ((up.trans up3).trans up4) os ag
    have S4 := J4.suite e4 d4 na nL nF
    refine store_ok (X := X.suite a ((a, o4) :: (X.pn ++ pins))) (v := .ref a) S4 hN hi (.inl hln) rfl (fun s5 S5 => wpAny_mono ((hsu a o4 cls d (X.pn ++ pins) z4 ⟨_, d4⟩).run [] s5 _ H _ S5 (goes a na)) (fun fl s6 q => ?_) fun _ _ z => False.elim z) (.inr hln)
    have gone : ∀ {τ : L2.St} {G : Hp} {Q : Shared → Prop}, Inv (X.suite a ((a, o4) :: (X.pn ++ pins))) [] τ G s6 → (∀ s7, Inv X pins (τ.set i none) G s7 → Q s7) →
      wpAny (model X.prog X.w) X.A (do bindName X.env n .none; unbindBehindTheSuite X.env n pos') (fun _ s7 => Q s7) X.xe s6 := fun S6 k => gone_ok (S6.unsuite ok) hN hi hln k
    match fl, q with
    | .next, ⟨_, _, S6, q⟩ => exact gone S6 fun _ J7 => ⟨_, _, J7, q⟩
    | .brk, ⟨_, _, S6, q⟩ => exact gone S6 fun _ J7 => ⟨_, _, J7, q⟩
    | .cont, ⟨_, _, S6, q⟩ => exact gone S6 fun _ J7 => ⟨_, _, J7, q⟩
    | .ret u, ⟨_, _, _, S6, r, q⟩ => exact gone S6 fun _ J7 => ⟨_, _, _, J7, r, q⟩
  · have ok := I0.ok
    match fl, done with
    | .next, ⟨_, _, J, q⟩ => exact wpAny_execs_nil ⟨_, _, J.ofTry ok, q⟩
    | .brk, ⟨_, _, J, q⟩ => exact ⟨_, _, J.ofTry ok, q⟩
    | .cont, ⟨_, _, J, q⟩ => exact ⟨_, _, J.ofTry ok, q⟩
    | .ret u, ⟨_, _, _, J, r, q⟩ => exact ⟨_, _, _, J.ofTry ok, r, q⟩
end
end GX
namespace GL
open PySem PySem.Spec PyProof.Rows L2 PySem.W PySem.Calls
/-! ### text * int -/
def repS (z : Str) (n : Int) : Str := if n < 1 then Str.empty else if (n == 1 || z.length == 0) = true then z else ⟨(List.replicate n.toNat z.cps).foldl (· ++ ·) #[]⟩
theorem fold_cat : ∀ (l : List (Array Nat)) (a : Array Nat), (l.foldl (· ++ ·) a).toList = a.toList ++ (l.map Array.toList).flatten
  | [], a => by simp
  | b :: r, a => by
    show (r.foldl (· ++ ·) (a ++ b)).toList = _
    rw [fold_cat r (a ++ b)]
    simp
theorem repS_list (z : Str) (n : Int) : (repS z n).cps.toList = (List.replicate n.toNat z.cps.toList).flatten := by
  unfold repS
  by_cases h : n < 1
  · rw [if_pos h, show n.toNat = 0 by omega]; rfl
  · rw [if_neg h]
    by_cases h2 : (n == 1 || z.length == 0) = true
    · rw [if_pos h2]
      rcases Bool.or_eq_true_iff.mp h2 with e | e
      · rw [show n = 1 from by simpa using e]
        simp
      · have h0 : z.length = 0 := by simpa using e
        have e0 : z.cps.toList = [] := List.eq_nil_of_length_eq_zero (by rw [Array.length_toList]; exact h0)
        rw [e0]
        simp
    · rw [if_neg h2]
      show ((List.replicate n.toNat z.cps).foldl (· ++ ·) #[]).toList = _
      rw [fold_cat]
      simp
theorem repS_len (z : Str) (n : Int) : (repS z n).length = n.toNat * z.length := by
  have h := congrArg List.length (repS_list z n)
  rw [List.length_flatten, List.map_replicate, List.sum_replicate_nat] at h
  exact (Array.length_toList ..).symm.trans (h.trans (by rw [Array.length_toList]; rfl))
section
variable {X : Cx}
theorem op_repS : OpR X (binaryOp .Mult) (fun x y H Q => ∃ z n, x = .str z ∧ y = .int n ∧ 0 ≤ n ∧ n ≤ 10000 ∧ z.length ≤ 1000 ∧ Q (.str (repS z n)) H) := by
  intro pins s σ H x y v u Q I rx ry h
  obtain ⟨z, n, rfl, rfl, n0, n1, hz, q⟩ := h
  obtain ⟨t, rfl⟩ := rx
  obtain ⟨t', rfl⟩ := ry
  have prod : z.length * n.toNat ≤ 10000000 := Nat.le_trans (Nat.mul_le_mul hz (show n.toNat ≤ 10000 by omega)) (by decide)
  have tl : Builtin.Str.tooLong (z.length * n.toNat) = false := by
    unfold Builtin.Str.tooLong
    rw [sizeLine_eq]
    exact decide_eq_false (by omega)
  refine P.mul_str (by simp; omega) (fun h1 _ => ?_) (fun _ _ => tl) ?_
  · intro hgt
    have h2 : (z.length : Int) * n ≤ 1000 * 10000 := Int.mul_le_mul (by omega) n1 n0 (by decide)
    have : (z.length : Int) ≤ (2 ^ 63 - 1) / n := Int.le_ediv_of_mul_le (by omega) (by omega)
    omega
  · unfold repS at q
    by_cases h1 : n < 1
    · rw [if_pos h1] at q ⊢
      exact ⟨by decide, ⟨V.str _, H, I.tok _, ⟨_, rfl⟩, q⟩⟩
    · rw [if_neg h1] at q ⊢
      by_cases h2 : (n == 1 || z.length == 0) = true
      · rw [if_pos h2] at q ⊢
        exact ⟨V.str _, H, I, ⟨_, rfl⟩, q⟩
      · rw [if_neg h2] at q ⊢
        have ll := repS_len z n
        unfold repS at ll
        rw [if_neg h1, if_neg h2] at ll
        exact ⟨by rw [ll, sizeLine_eq, Nat.mul_comm]; omega, ⟨V.str _, H, I.tok _, ⟨_, rfl⟩, q⟩⟩
end
end GL
namespace KW
open PySem PySem.Spec PyProof.Rows L2 GL
def topS (i : Nat) : Stmt := PySem.Challenge.pw_whateverboxes_k15_texts_of_programs_bent.main.body.getD i (.Pass ⟨0, 0, 0, 0⟩)
abbrev LETTERS : Str := "abcdefghijklmnopqrstuvwxyz"
abbrev DIGITS : Str := "0123456789"
/-! the built-ins and the constants that the text uses -/
structure Bl (mg : Str → Option Value) : Prop where
  int : mg "int" = none
  len : mg "len" = none
  range : mg "range" = none
  tuple : mg "tuple" = none
  str : mg "str" = none
  abs : mg "abs" = none
  any : mg "any" = none
  all : mg "all" = none
  sum : mg "sum" = none
  zip : mg "zip" = none
  enumerate : mg "enumerate" = none
  repr : mg "repr" = none
  set : mg "set" = none
  g_MOST_DIGITS : ∃ u, mg "MOST_DIGITS" = some u ∧ RelV (.int 60) u
  g_MOST_SIGNS : ∃ u, mg "MOST_SIGNS" = some u ∧ RelV (.int 8) u
  g_MOST_NAMES : ∃ u, mg "MOST_NAMES" = some u ∧ RelV (.int 6) u
  g_LETTERS : ∃ u, mg "LETTERS" = some u ∧ RelV (.str LETTERS) u
  g_DIGITS : ∃ u, mg "DIGITS" = some u ∧ RelV (.str DIGITS) u
/-! ### what the words' tests say -/
def digB (c : Nat) : Bool := decide (c ∈ DIGITS.cps.toList)
def natB (z : Str) : Bool := decide (1 ≤ z.cps.toList.length ∧ z.cps.toList.length ≤ 60) && z.cps.toList.all digB && (decide (z = "0") || decide (z.cps.toList[0]? ≠ some 48))
def spNat : Sp := fun vs H Q _ => ∃ z : Str, vs = [.str z] ∧ z.cps.toList.length ≤ 100000 ∧ ∀ H', Same H H' → Q (.bl (natB z)) H'
section
variable {P : Program} {w : World} {K : PySem.W.Frag} {mg : Str → Option Value} {base : Heap}
abbrev s_is_natural : Stmt := topS 13
theorem sc_is_natural : FnScope ["word", "sign"] ["word"] (defScope s_is_natural) := ⟨rfl, rfl, rfl, by decide +kernel, rfl, by decide +kernel, by decide +kernel⟩
theorem ok_is_natural {f : Addr} {fd : FuncData} (F : Fun K "is_natural" "is_natural" s_is_natural f fd) (gl : mg "is_natural" = some (.ref f)) (T : Bl mg) : DefG P w K mg base 1 "is_natural" ["word"] spNat := by
  refine def_mk F gl (F.binds fun _ _ _ _ _ _ us hl => match us, hl with | [_], _ => rfl) (okG F sc_is_natural (fun vs H Q E h => ?_) fun cdv A outer s H vs Q E hr hc h => ?_)
  · obtain ⟨z, rfl, _⟩ := h
    rfl
  · obtain ⟨z, rfl, lz, q⟩ := h
    have nd := sc_is_natural.nd
    refine ⟨_, (pss_cons (ps_if (PW.pt (pw_or (pt_not (pt_chain op_le op_le pe_int (pe_callB call_len_str (by rfl) T.len boot_len (pa_cons (pv 0) pa_nil)) (C8.pe_gc (v := .int 60) (by rfl) T.g_MOST_DIGITS))) (pw_or1 (pt_not (pt_val (pe_callB (cr_all rfl) (by rfl) T.all boot_all (pa_cons (pe_lc (own := [("sign", 1)]) (g := (gName 1)) (tt := tYes) rfl nd (pi_str (pv 0)) (blkOk_by (own := [("sign", 1)]) (N := ["word", "sign"]) (sc := defScope s_is_natural) (by decide +kernel)) (fun _ _ _ _ _ => (pg_name (i := 1) nd rfl (by first | exact Or.inl rfl | exact Or.inr rfl))) (fun _ _ _ _ _ => pts_nil) (fun _ _ _ _ _ => (pe_cmpR op_in_sign (pv 1) (C8.pe_gc (v := .str DIGITS) (by rfl) T.g_DIGITS) (by with_unfolding_all rfl)))) pa_nil)))))))
        (pss_one (ps_ret pe_bl))
        pss_nil)
      (pss_one (ps_ret (pe_or (pe_cmpR op_eq (pv 0) pe_str (nomark _)) (pe_one (pe_cmpR op_ne (pe_ix ix_str (pv 0) pe_int (fun _ _ => rfl)) pe_str (nomark _))))))), ?_⟩
    have zl : z.length = z.cps.toList.length := (Array.length_toList ..).symm
    have lz2 : z.length ≤ sizeLine := by rw [zl]; exact small lz
    have no : ∀ H', Same H H' → natB z = false → Q (.bl false) H' := fun H' s e => by rw [← e]; exact q H' s
    refine ⟨_, rfl, z, rfl, lz2, (1 : Int), (z.length : Int), rfl, rfl, _, rfl, ?_⟩
    refine ite2 (fun e1 => ⟨_, _, rfl, rfl, _, rfl, ?_⟩) (fun e1 => ⟨_, rfl, iteT (iteT (no H (Same.refl H) ?_))⟩)
    rotate_left
    · have h1 : ¬ (1 ≤ z.cps.toList.length ∧ z.cps.toList.length ≤ 60) := fun h => e1 (decide_eq_true (by rw [zl]; omega))
      unfold natB
      rw [decide_eq_false h1]; rfl
    by_cases h2 : z.cps.toList.length ≤ 60
    · have e2 : decide ((z.length : Int) ≤ 60) = true := decide_eq_true (by rw [zl]; omega)
      rw [e2]
      refine iteF ?_
      refine ⟨_, rfl, z, rfl, fun D nD => ?_⟩
      have toL : ∀ (i : Nat) (c : Nat), z.cps[i]? = some c → z.cps.toList[i]? = some c := fun i c h => by rw [Array.getElem?_toList]; exact h
      refine lc_it walk_str (fun i Hx => Same H Hx ∧ Hx D = some (.lst (((z.cps.toList.take i).map digB).map V.bl))) ⟨Same.new nD, upd_same⟩ (fun _ _ _ _ => True.intro) ?_ ?_
      · rintro i x Hx Hy hi ⟨sx, hD⟩ ⟨rfl, c, hc', rfl⟩
        have hL := toL i c hc'
        refine ⟨rfl, _, rfl, c, DIGITS, rfl, rfl, _, hD, ?_, ?_, ?_⟩
        · rw [List.length_map, List.length_map, List.length_take]; exact smallt (by omega)
        · intro b u hb
          rw [upd_ne (ne_of_none hb nD)]
          exact sx _ _ hb
        · rw [upd_same, List.take_add_one, hL, List.map_append, List.map_append]; rfl
      · rintro Hx ⟨sx, hD⟩
        rw [show z.cps.size = z.cps.toList.length from rfl, List.take_length] at hD
        refine ⟨D, _, rfl, tofL hD, ?_⟩
        have ea : ((z.cps.toList.map digB).all id) = z.cps.toList.all digB := by rw [List.all_map]; rfl
        rw [ea]
        have h1 : 1 ≤ z.cps.toList.length ∧ z.cps.toList.length ≤ 60 := ⟨by have := of_decide_eq_true e1; rw [zl] at this; omega, h2⟩
        cases hd : z.cps.toList.all digB with
        | false =>
          refine ⟨_, rfl, iteT (no Hx sx ?_)⟩
          unfold natB
          rw [hd, Bool.and_false]; rfl
        | true =>
          refine ⟨_, rfl, iteF ?_⟩
          obtain ⟨c, hc0⟩ : ∃ c, z.cps.toList[0]? = some c := ⟨_, List.getElem?_eq_getElem (by omega)⟩
          have fin : natB z = (decide (z = "0") || decide (z.cps.toList[0]? ≠ some 48)) := by
            unfold natB
            rw [decide_eq_true h1, hd]; rfl
          refine ⟨_, rfl, rfl, _, rfl, ite2 (fun w => ?_) (fun w => ?_)⟩
          · have e0 : z = "0" := V.str.inj (of_decide_eq_true w)
            have : natB z = true := by rw [fin, decide_eq_true e0]; rfl
            rw [← this]
            exact q Hx sx
          · have e0 : ¬ z = "0" := fun e => w (decide_eq_true (by rw [e]))
            refine ⟨_, rfl, z, 0, c, rfl, rfl, lz2, atI_nat (j := 0) hc0, rfl, ?_⟩
            have z48 : ("0" : Str) = ⟨#[48]⟩ := by decide +kernel
            have : natB z = !decide (V.str { cps := #[c] } = V.str ("0" : Str)) := by
              rw [fin, decide_eq_false e0, Bool.false_or, hc0, z48]
              by_cases h : c = 48
              · subst h
                rfl
              · rw [decide_eq_true (show some c ≠ some 48 from fun e => h (Option.some.inj e)), decide_eq_false (fun e => h (by
                  have e' := congrArg Str.cps (V.str.inj e)
                  have := Array.toList_inj.mpr e'
                  exact (List.cons.inj this).1))]; rfl
            rw [← this]
            exact q Hx sx
    · have e2 : decide ((z.length : Int) ≤ 60) = false := decide_eq_false (by rw [zl]; omega)
      rw [e2]
      refine iteT (iteT (no H (Same.refl H) ?_))
      have h1 : ¬ (1 ≤ z.cps.toList.length ∧ z.cps.toList.length ≤ 60) := fun h => h2 h.2
      unfold natB
      rw [decide_eq_false h1]; rfl
end
end KW
namespace KW
open PySem PySem.Spec PyProof.Rows L2 GL
def wholeB (z : Str) : Bool := if Txt.startswith z "-" = true then (natB (cutS z (some 1) none) && decide (z ≠ "-0")) else natB z
def spWhole : Sp := fun vs H Q _ => ∃ z : Str, vs = [.str z] ∧ z.cps.toList.length ≤ 100000 ∧ ∀ H', Same H H' → Q (.bl (wholeB z)) H'
theorem ty_str {K : PySem.W.Frag} {H : Hp} (z : Str) : tyV K "str" (.str z) H := rfl
theorem tru_bl {K : PySem.W.Frag} {H : Hp} (b : Bool) : TruV K (.bl b) H b := rfl
theorem cut_len (z : Str) (lo hi : Option Int) : (cutS z lo hi).cps.toList.length ≤ z.cps.toList.length := by
  unfold cutS
  show (((z.cps.toList.drop _).take _).toArray).toList.length ≤ _
  rw [List.toList_toArray, List.length_take, List.length_drop]
  omega
end KW
namespace KW
open PySem PySem.Spec PyProof.Rows L2 GL RZ TL
def TAKEN : List Str := ["check", "input", "keep", "let", "mod", "names", "open", "self", "take"]
def letB (c : Nat) : Bool := decide (c ∈ LETTERS.cps.toList)
def bothB (c : Nat) : Bool := decide (c ∈ (LETTERS ++ DIGITS).cps.toList)
def nameB (z : Str) : Bool := decide (1 ≤ z.cps.toList.length ∧ z.cps.toList.length ≤ 8) && !decide (z ∈ TAKEN) && (letB (z.cps.toList.getD 0 0) && z.cps.toList.all bothB)
def spName : Sp := fun vs H Q _ => ∃ z : Str, vs = [.str z] ∧ z.cps.toList.length ≤ 100000 ∧ ∀ H', Same H H' → Q (.bl (nameB z)) H'
theorem eqV_str (x y : Str) : eqV (.str x) (.str y) = decide (x = y) := by
  unfold eqV
  rfl
theorem inV_strs (z : Str) (ns : List Str) : inV (.str z) (ns.map V.str) = decide (z ∈ ns) := by
  unfold inV
  rw [List.any_map]
  by_cases h : z ∈ ns
  · rw [decide_eq_true h]
    exact List.any_eq_true.mpr ⟨z, h, by show eqV (.str z) (.str z) = true; rw [eqV_str]; exact decide_eq_true rfl⟩
  · rw [decide_eq_false h]
    refine List.any_eq_false.mpr fun y hy => ?_
    show ¬ eqV (.str y) (.str z) = true
    rw [eqV_str, decide_eq_true_eq]
    exact fun e => h (e ▸ hy)
section
variable {P : Program} {w : World} {K : PySem.W.Frag} {mg : Str → Option Value} {base : Heap}
abbrev s_is_name : Stmt := topS 11
theorem sc_is_name : FnScope ["word", "sign"] ["word"] (defScope s_is_name) := ⟨rfl, rfl, rfl, by decide +kernel, rfl, by decide +kernel, by decide +kernel⟩
theorem ok_is_name {f TW : Addr} {fd : FuncData} (F : Fun K "is_name" "is_name" s_is_name f fd) (gl : mg "is_name" = some (.ref f)) (T : Bl mg) (gTW : mg "TAKEN_WORDS" = some (.ref TW)) (lTW : ∀ H : Hp, SqT K H TW (TAKEN.map V.str)) : DefG P w K mg base 1 "is_name" ["word"] spName := by
  refine def_mk F gl (F.binds fun _ _ _ _ _ _ us hl => match us, hl with | [_], _ => rfl) (okG F sc_is_name (fun vs H Q E h => ?_) fun cdv A outer s H vs Q E hr hc h => ?_)
  · obtain ⟨z, rfl, _⟩ := h
    rfl
  · obtain ⟨z, rfl, lz, q⟩ := h
    have nd := sc_is_name.nd
    refine ⟨_, (pss_cons (ps_if (PW.pt (pw_or (pt_not (pt_chain op_le op_le pe_int (pe_callB call_len_str (by rfl) T.len boot_len (pa_cons (pv 0) pa_nil)) (C8.pe_gc (v := .int 8) (by rfl) T.g_MOST_SIGNS))) (pw_or1 (pt_cmpR (op_inK (K := K)) (pv 0) (C8.pe_gc (v := .ref TW) (by rfl) ⟨_, gTW, rfl⟩) (by with_unfolding_all rfl)))))
        (pss_one (ps_ret pe_bl))
        pss_nil)
      (pss_one (ps_ret (pe_and (pe_cmpR op_in_sign (pe_ix ix_str (pv 0) pe_int (fun _ _ => rfl)) (C8.pe_gc (v := .str LETTERS) (by rfl) T.g_LETTERS) (by with_unfolding_all rfl)) (pe_one (pe_callB (cr_all rfl) (by rfl) T.all boot_all (pa_cons (pe_lc (own := [("sign", 1)]) (g := (gName 1)) (tt := tYes) rfl nd (pi_str (pv 0)) (blkOk_by (own := [("sign", 1)]) (N := ["word", "sign"]) (sc := defScope s_is_name) (by decide +kernel)) (fun _ _ _ _ _ => (pg_name (i := 1) nd rfl (by first | exact Or.inl rfl | exact Or.inr rfl))) (fun _ _ _ _ _ => pts_nil) (fun _ _ _ _ _ => (pe_cmpR op_in_sign (pv 1) (pe_op op_add_str (C8.pe_gc (v := .str LETTERS) (by rfl) T.g_LETTERS) (C8.pe_gc (v := .str DIGITS) (by rfl) T.g_DIGITS)) (by with_unfolding_all rfl)))) pa_nil))))))), ?_⟩
    have zl : z.length = z.cps.toList.length := (Array.length_toList ..).symm
    have lz2 : z.length ≤ sizeLine := by rw [zl]; exact small lz
    have no : ∀ H', Same H H' → nameB z = false → Q (.bl false) H' := fun H' s e => by rw [← e]; exact q H' s
    refine ⟨_, rfl, z, rfl, lz2, (1 : Int), (z.length : Int), rfl, rfl, _, rfl, ?_⟩
    refine ite2 (fun e1 => ⟨_, _, rfl, rfl, _, rfl, ?_⟩) (fun e1 => ⟨_, rfl, iteT (iteT (no H (Same.refl H) ?_))⟩)
    rotate_left
    · have h1 : ¬ (1 ≤ z.cps.toList.length ∧ z.cps.toList.length ≤ 8) := fun h => e1 (decide_eq_true (by rw [zl]; omega))
      unfold nameB
      rw [decide_eq_false h1]; rfl
    by_cases h2 : z.cps.toList.length ≤ 8
    · have e2 : decide ((z.length : Int) ≤ 8) = true := decide_eq_true (by rw [zl]; omega)
      rw [e2]
      refine iteF ?_
      have h1 : 1 ≤ z.cps.toList.length ∧ z.cps.toList.length ≤ 8 := ⟨by have := of_decide_eq_true e1; rw [zl] at this; omega, h2⟩
      obtain ⟨c0, hc0⟩ : ∃ c, z.cps.toList[0]? = some c := ⟨_, List.getElem?_eq_getElem (by omega)⟩
      have g0 : z.cps.toList.getD 0 0 = c0 := by rw [List.getD_eq_getElem?_getD, hc0]; rfl
      refine ⟨_, rfl, TW, _, rfl, .inr (lTW H), rfl, flat_strs TAKEN, _, rfl, ?_⟩
      rw [if_neg (show ¬ false = true by decide), inV_strs]
      cases ht : decide (z ∈ TAKEN) with
      | true =>
        refine iteT (no H (Same.refl H) ?_)
        unfold nameB
        rw [ht, decide_eq_true h1]; rfl
      | false =>
        refine iteF ?_
        have fin : nameB z = (letB c0 && z.cps.toList.all bothB) := by
          unfold nameB
          rw [ht, decide_eq_true h1, g0]; rfl
        refine ⟨_, rfl, z, 0, c0, rfl, rfl, lz2, atI_nat (j := 0) hc0, c0, LETTERS, rfl, rfl, _, rfl, ?_⟩
        show if letB c0 = true then _ else _
        cases hl : letB c0 with
        | false =>
          refine iteF ?_
          rw [hl, Bool.false_and] at fin
          rw [← fin]
          exact q H (Same.refl H)
        | true =>
          rw [hl, Bool.true_and] at fin
          refine iteT ?_
          refine ⟨_, rfl, z, rfl, fun D nD => ?_⟩
          have toL : ∀ (i : Nat) (c : Nat), z.cps[i]? = some c → z.cps.toList[i]? = some c := fun i c h => by rw [Array.getElem?_toList]; exact h
          refine lc_it walk_str (fun i Hx => Same H Hx ∧ Hx D = some (.lst (((z.cps.toList.take i).map bothB).map V.bl))) ⟨Same.new nD, upd_same⟩ (fun _ _ _ _ => True.intro) ?_ ?_
          · rintro i x Hx Hy hi ⟨sx, hD⟩ ⟨rfl, c, hc', rfl⟩
            have hL := toL i c hc'
            refine ⟨rfl, _, rfl, _, _, rfl, rfl, small (by decide +kernel), c, LETTERS ++ DIGITS, rfl, rfl, _, hD, ?_, ?_, ?_⟩
            · rw [List.length_map, List.length_map, List.length_take]; exact smallt (by omega)
            · intro b u hb
              rw [upd_ne (ne_of_none hb nD)]
              exact sx _ _ hb
            · rw [upd_same, List.take_add_one, hL, List.map_append, List.map_append]; rfl
          · rintro Hx ⟨sx, hD⟩
            rw [show z.cps.size = z.cps.toList.length from rfl, List.take_length] at hD
            refine ⟨D, _, rfl, tofL hD, ?_⟩
            have ea : ((z.cps.toList.map bothB).all id) = z.cps.toList.all bothB := by rw [List.all_map]; rfl
            rw [ea, ← fin]
            exact q Hx sx
    · have e2 : decide ((z.length : Int) ≤ 8) = false := decide_eq_false (by rw [zl]; omega)
      rw [e2]
      refine iteT (iteT (no H (Same.refl H) ?_))
      have h1 : ¬ (1 ≤ z.cps.toList.length ∧ z.cps.toList.length ≤ 8) := fun h => h2 h.2
      unfold nameB
      rw [decide_eq_false h1]; rfl
end
end KW
namespace KW
open PySem PySem.Spec PyProof.Rows L2 GL RZ TL
/-! ### write_sum: the words of a sum -/
def ab (i : Int) : Int := if i < 0 then -i else i
def w1 (acc : List Str) (f : Int) : List Str := if f < 0 then acc ++ [("-" : Str)] else if 0 < f ∧ acc ≠ [] then acc ++ [("+" : Str)] else acc
def w2 (acc : List Str) (f : Int) : List Str := if 1 < ab f then acc ++ [Str.ofString (toString (ab f))] else acc
def w3 (acc : List Str) (n : Str) (f : Int) : List Str := if f ≠ 0 then acc ++ [n] else acc
def stepW (acc : List Str) (p : Str × Int) : List Str := w3 (w2 (w1 acc p.2) p.2) p.1 p.2
def wordsW (ps : List (Str × Int)) : List Str := ps.foldl stepW []
def sumW (ps : List (Str × Int)) : Str := if wordsW ps = [] then "0" else Txt.join " " (wordsW ps)
/-- few words, none of them long -/
def Few (k : Nat) (ws : List Str) : Prop := ws.length ≤ k ∧ ∀ z ∈ ws, z.length ≤ 2000
theorem Few.app {k j : Nat} {ws vs : List Str} (h : Few k ws) (h' : Few j vs) : Few (k + j) (ws ++ vs) := ⟨by rw [List.length_append]; exact Nat.add_le_add h.1 h'.1, fun z hz => (List.mem_append.mp hz).elim (h.2 z) (h'.2 z)⟩
theorem Few.mono {k j : Nat} {ws : List Str} (h : Few k ws) (l : k ≤ j) : Few j ws := ⟨Nat.le_trans h.1 l, h.2⟩
theorem Few.one {z : Str} (h : z.length ≤ 2000) : Few 1 [z] := ⟨Nat.le_refl _, fun y hy => by rw [List.mem_singleton.mp hy]; exact h⟩
theorem Few.sum {k : Nat} {ws : List Str} (h : Few k ws) : (ws.map (·.length)).sum ≤ k * 2000 := by
  obtain ⟨l, m⟩ := h
  have : (ws.map (·.length)).sum ≤ ws.length * 2000 := by
    clear l
    induction ws with
    | nil => exact Nat.le_refl _
    | cons a r ih =>
      have h1 := m a List.mem_cons_self
      have h2 := ih fun z hz => m z (List.mem_cons_of_mem _ hz)
      show a.length + (r.map (·.length)).sum ≤ (r.length + 1) * 2000
      omega
  have := Nat.mul_le_mul_right 2000 l
  omega
theorem few1 {k : Nat} {ws : List Str} {f : Int} (h : Few k ws) : Few (k + 1) (w1 ws f) := by
  unfold w1
  split
  · exact h.app (Few.one (by decide +kernel))
  · split
    · exact h.app (Few.one (by decide +kernel))
    · exact h.mono (Nat.le_succ _)
theorem few2 {k : Nat} {ws : List Str} {f : Int} (h : Few k ws) (hf : (ab f).natAbs.log2 < 1920) : Few (k + 1) (w2 ws f) := by
  unfold w2
  split
  · exact h.app (Few.one (Nat.le_trans (PyProof.Rows.int_text_len_1921 hf) (by decide)))
  · exact h.mono (Nat.le_succ _)
theorem few3 {k : Nat} {ws : List Str} {n : Str} {f : Int} (h : Few k ws) (hn : n.length ≤ 2000) : Few (k + 1) (w3 ws n f) := by
  unfold w3
  split
  · exact h.app (Few.one hn)
  · exact h.mono (Nat.le_succ _)
def spWSum (K : PySem.W.Frag) : Sp := fun vs H Q _ => ∃ (a b : Addr) (ns : List Str) (fs : List Int), vs = [.ref a, .ref b] ∧ SqT K H a (ns.map V.str) ∧ SqT K H b (fs.map V.int) ∧ ns.length = fs.length ∧ ns.length ≤ 20 ∧ (∀ z ∈ ns, z.length ≤ 2000) ∧ (∀ f ∈ fs, (ab f).natAbs.log2 < 1920) ∧
  ∀ H', Same H H' → Q (.str (sumW (ns.zip fs))) H'
abbrev stS (a b l : Addr) (n : Str) (f : Int) : L2.St := [some (.ref a), some (.ref b), some (.ref l), some (.str n), some (.int f)]
end KW
namespace KW
open PySem PySem.Spec PyProof.Rows L2 GL RZ TL
/-- names as a system has them -/
def namesB (ns : List Str) : Bool := decide (1 ≤ ns.length ∧ ns.length ≤ 6) && (decide (dcnt ns = ns.length) && ns.all nameB)
theorem namesB_of {ns : List Str} (h1 : 1 ≤ ns.length) (h6 : ns.length ≤ 6) (hn : ns.Nodup) (hok : ∀ z ∈ ns, nameB z = true) : namesB ns = true := by
  unfold namesB
  rw [decide_eq_true (⟨h1, h6⟩ : 1 ≤ ns.length ∧ ns.length ≤ 6), decide_eq_true ((dcnt_nodup ns).mpr hn), List.all_eq_true.mpr hok]
  rfl
def spNames (K : PySem.W.Frag) : Sp := fun vs H Q _ => ∃ (l : Addr) (ns : List Str), vs = [.ref l] ∧ H l = some (.lst (ns.map V.str)) ∧ ns.length ≤ 62000 ∧ (∀ z ∈ ns, z.cps.toList.length ≤ 100000) ∧ ∀ H', Same H H' → Q (.bl (namesB ns)) H'
section
variable {P : Program} {w : World} {K : PySem.W.Frag} {mg : Str → Option Value} {base : Heap}
abbrev s_are_names : Stmt := topS 12
theorem sc_are_names : FnScope ["words", "word"] ["words"] (defScope s_are_names) := ⟨rfl, rfl, rfl, by decide +kernel, rfl, by decide +kernel, by decide +kernel⟩
theorem ok_are_names {f : Addr} {fd : FuncData} (F : Fun K "are_names" "are_names" s_are_names f fd) (gl : mg "are_names" = some (.ref f)) (T : Bl mg) (D_is_name : DefG P w K mg base 1 "is_name" ["word"] spName) : DefG P w K mg base 2 "are_names" ["words"] (spNames K) := by
  refine def_mk F gl (F.binds fun _ _ _ _ _ _ us hl => match us, hl with | [_], _ => rfl) (okG F sc_are_names (fun vs H Q E h => ?_) fun cdv A outer s H vs Q E hr hc h => ?_)
  · obtain ⟨l, ns, rfl, _⟩ := h
    rfl
  · obtain ⟨l, ns, rfl, hl, n6, ok, q⟩ := h
    have hL : SqL K H l (ns.map V.str) := tofL hl
    have nd := sc_are_names.nd
    refine ⟨_, (pss_one (ps_ret (pe_and (pe_chain op_le op_le pe_int (pe_callB call_len_seq (by rfl) T.len boot_len (pa_cons (pv 0) pa_nil)) (C8.pe_gc (v := .int 6) (by rfl) T.g_MOST_NAMES)) (pe_and (pe_cmpR op_eq (pe_lenSetX rfl (by rfl) T.len (by rfl) T.set (pv 0)) (pe_callB call_len_seq (by rfl) T.len boot_len (pa_cons (pv 0) pa_nil)) (nomark _)) (pe_one (pe_callB (cr_all rfl) (by rfl) T.all boot_all (pa_cons (pe_lc (own := [("word", 1)]) (g := (gName 1)) (tt := tYes) rfl nd (pi_list (pv 0)) (blkOk_by (own := [("word", 1)]) (N := ["words", "word"]) (sc := defScope s_are_names) (by decide +kernel)) (fun _ _ _ _ _ => (pg_name (i := 1) nd rfl (by first | exact Or.inl rfl | exact Or.inr rfl))) (fun _ _ _ _ _ => pts_nil) (fun _ _ _ _ _ => (pe_def D_is_name (hr.mono (by decide)) hc (by rfl) (pa_cons (pv 1) pa_nil)))) pa_nil))))))), ?_⟩
    have no : ∀ H', Same H H' → namesB ns = false → Q (.bl false) H' := fun H' s e => by rw [← e]; exact q H' s
    refine ⟨_, rfl, l, _, rfl, .inl hL, (1 : Int), (((ns.map V.str).length : Nat) : Int), rfl, rfl, _, rfl, ?_⟩
    rw [List.length_map]
    refine ite2 (fun e1 => ?_) (fun e1 => ?_)
    rotate_left
    · refine ⟨_, rfl, ite2 (fun e => by cases e) (fun _ => no H (Same.refl H) ?_)⟩
      unfold namesB
      rw [decide_eq_false (show ¬ (1 ≤ ns.length ∧ ns.length ≤ 6) from fun h => e1 (decide_eq_true (by omega)))]
      rfl
    have h1 : 1 ≤ ns.length := by have := of_decide_eq_true e1; omega
    refine ⟨((ns.length : Nat) : Int), 6, rfl, rfl, _, rfl, ?_⟩
    refine ite2 (fun e2 => ?_) (fun e2 => ?_)
    rotate_left
    · refine no H (Same.refl H) ?_
      unfold namesB
      rw [decide_eq_false (show ¬ (1 ≤ ns.length ∧ ns.length ≤ 6) from fun h => e2 (decide_eq_true (by omega)))]
      rfl
    have h6 : ns.length ≤ 6 := by have := of_decide_eq_true e2; omega
    have hb : namesB ns = (decide (dcnt ns = ns.length) && ns.all nameB) := by
      unfold namesB
      rw [decide_eq_true (⟨h1, h6⟩ : 1 ≤ ns.length ∧ ns.length ≤ 6), Bool.true_and]
    refine ⟨_, rfl, l, ns, rfl, hL, (by omega), _, rfl, l, _, rfl, .inl hL, rfl, _, rfl, ite2 (fun e3 => ?_) (fun e3 => no H (Same.refl H) ?_)⟩
    rotate_left
    · rw [hb, decide_eq_false (show ¬ dcnt ns = ns.length from fun z => e3 (decide_eq_true (by rw [z, List.length_map]))), Bool.false_and]
    have d3 : dcnt ns = ns.length := by
      have := V.int.inj (of_decide_eq_true e3)
      rw [List.length_map] at this
      omega
    rw [decide_eq_true d3, Bool.true_and] at hb
    refine ⟨_, rfl, l, rfl, ⟨_, hL⟩, fun D nD => ?_⟩
    refine lc_list (K := K) (a := l) (xs := ns.map V.str) (fun i Hx => Same H Hx ∧ Hx D = some (.lst (((ns.take i).map nameB).map V.bl))) ⟨Same.new nD, upd_same⟩ (fun i Hx _ h => tofL (h.1 _ _ hl)) ?_ ?_
    · rintro i x Hx hi ⟨sx, hD⟩
      obtain ⟨z, hz, rfl⟩ : ∃ z, ns[i]? = some z ∧ x = .str z := by
        rw [List.getElem?_map] at hi
        cases hz : ns[i]? with
        | none => rw [hz] at hi; cases hi
        | some z => rw [hz] at hi; cases hi; exact ⟨z, rfl, rfl⟩
      have il := (List.getElem?_eq_some_iff.mp hz).1
      refine ⟨rfl, _, rfl, z, rfl, ok z (List.mem_of_getElem? hz), fun H2 s2 => ⟨_, (s2 _ _ hD), ?_, ?_, ?_⟩⟩
      · rw [List.length_map, List.length_map, List.length_take]; exact smallt (by omega)
      · intro b u hb'
        rw [upd_ne (ne_of_none hb' nD)]
        exact s2 _ _ (sx _ _ hb')
      · rw [upd_same, List.take_add_one, hz, List.map_append, List.map_append]; rfl
    · rintro Hx ⟨sx, hD⟩
      rw [List.length_map, List.take_length] at hD
      refine ⟨D, _, rfl, tofL hD, ?_⟩
      have qq := q Hx sx
      rw [hb] at qq
      have ea : ((ns.map nameB).all id) = ns.all nameB := by rw [List.all_map]; rfl
      rw [ea]
      exact qq
end
end KW
namespace KW
open PySem PySem.Spec PyProof.Rows L2 GL RZ TL
section
variable {X : Cx} {e : Expr} {t : TE}
/-- an expression, told only by what its answer must be -/
def tCutE (t : TE) : TE := fun σ H Q => ∃ Q' : VK, t σ H Q' ∧ ∀ x H', Q' x H' → Q x H'
theorem pe_cutE (h : PE X e t) : PE X e (tCutE t) := ⟨fun pins s σ H Q I ⟨Q', hw, m⟩ => thn (h.run pins s σ H Q' I hw) fun _ _ ⟨x, H1, I1, r, q⟩ => ⟨x, H1, I1, r, m x H1 q⟩⟩
end
def valN (z : Str) : Int := (NumText.digitsVal z.cps.toList : Nat)
def sgn (z : Str) : Int := if z = "-" then -1 else 1
/-- a term, read: its factor and its name -/
def termB : List Str → Option (Int × Str)
  | [s, x] => if nameB x = true then some (sgn s, x) else if natB x = true then some (sgn s * valN x, "") else none
  | [s, a, x] => if natB a = true ∧ nameB x = true then some (sgn s * valN a, x) else none
  | _ => none
theorem term2 (s x : Str) : termB [s, x] = if nameB x = true then some (sgn s, x) else if natB x = true then some (sgn s * valN x, "") else none := rfl
theorem term3 (s a x : Str) : termB [s, a, x] = if natB a = true ∧ nameB x = true then some (sgn s * valN a, x) else none := rfl
def tOf : Option (Int × Str) → List V
  | none => []
  | some (i, z) => [.int i, .str z]
def spTerm : Sp := fun vs H Q _ => ∃ (l : Addr) (ws : List Str), vs = [.ref l] ∧ H l = some (.lst (ws.map V.str)) ∧ 1 ≤ ws.length ∧ ws.length ≤ 62001 ∧ (∀ z ∈ ws, z.cps.toList.length ≤ 100000) ∧
  ∀ (t : Addr) (H' : Hp), Same H H' → H' t = some (.tup (tOf (termB ws))) → Q (.ref t) H'
section
variable {P : Program} {w : World} {K : PySem.W.Frag} {mg : Str → Option Value} {base : Heap}
abbrev s_read_term : Stmt := topS 16
theorem sc_read_term : FnScope ["words", "sign"] ["words"] (defScope s_read_term) := ⟨rfl, rfl, rfl, by decide +kernel, rfl, by decide +kernel, by decide +kernel⟩
theorem ok_read_term {f : Addr} {fd : FuncData} (F : Fun K "_read_term" "_read_term" s_read_term f fd) (gl : mg "_read_term" = some (.ref f)) (T : Bl mg) (D_is_name : DefG P w K mg base 1 "is_name" ["word"] spName) (D_is_natural : DefG P w K mg base 1 "is_natural" ["word"] spNat) : DefG P w K mg base 2 "_read_term" ["words"] spTerm := by
  refine def_mk F gl (F.binds fun _ _ _ _ _ _ us hl => match us, hl with | [_], _ => rfl) (okG F sc_read_term (fun vs H Q E h => ?_) fun cdv A outer s H vs Q E hr hc h => ?_)
  · obtain ⟨l, ns, rfl, _⟩ := h
    rfl
  · obtain ⟨l, ws, rfl, hl, w1, w2, wl, q⟩ := h
    have nd := sc_read_term.nd
    refine ⟨_, (pss_cons (ps_set (i := 1) nd rfl (by first | exact Or.inl rfl | exact Or.inr rfl) (pe_cutE (pe_ifExp (pt_cmpR op_eq (pe_ix ix_list (pv 0) pe_int (fun _ _ => rfl)) pe_str (nomark _)) (pe_un un_neg pe_int) pe_int)))
      (pss_cons (ps_if (PW.pt (pw_and (pt_cmpR op_eq (pe_callB call_len_seq (by rfl) T.len boot_len (pa_cons (pv 0) pa_nil)) pe_int (nomark _)) (pw_and1 (pt_truth (pe_def D_is_name (hr.mono (by decide)) hc (by rfl) (pa_cons (pe_ix ix_list (pv 0) pe_int (fun _ _ => rfl)) pa_nil)) (fun _ => rfl)))))
        (pss_one (ps_ret (pe_tup (pa_cons (pv 1) (pa_cons (pe_ix ix_list (pv 0) pe_int (fun _ _ => rfl)) pa_nil)))))
        pss_nil)
      (pss_cons (ps_if (PW.pt (pw_and (pt_cmpR op_eq (pe_callB call_len_seq (by rfl) T.len boot_len (pa_cons (pv 0) pa_nil)) pe_int (nomark _)) (pw_and1 (pt_truth (pe_def D_is_natural (hr.mono (by decide)) hc (by rfl) (pa_cons (pe_ix ix_list (pv 0) pe_int (fun _ _ => rfl)) pa_nil)) (fun _ => rfl)))))
        (pss_one (ps_ret (pe_tup (pa_cons (pe_op op_mul (pv 1) (pe_callTy call_int_str (by rfl) T.int boot_int (pa_cons (pe_ix ix_list (pv 0) pe_int (fun _ _ => rfl)) pa_nil))) (pa_cons pe_str pa_nil)))))
        pss_nil)
      (pss_cons (ps_if (PW.pt (pw_and (pt_cmpR op_eq (pe_callB call_len_seq (by rfl) T.len boot_len (pa_cons (pv 0) pa_nil)) pe_int (nomark _)) (pw_and (pt_truth (pe_def D_is_natural (hr.mono (by decide)) hc (by rfl) (pa_cons (pe_ix ix_list (pv 0) pe_int (fun _ _ => rfl)) pa_nil)) (fun _ => rfl)) (pw_and1 (pt_truth (pe_def D_is_name (hr.mono (by decide)) hc (by rfl) (pa_cons (pe_ix ix_list (pv 0) pe_int (fun _ _ => rfl)) pa_nil)) (fun _ => rfl))))))
        (pss_one (ps_ret (pe_tup (pa_cons (pe_op op_mul (pv 1) (pe_callTy call_int_str (by rfl) T.int boot_int (pa_cons (pe_ix ix_list (pv 0) pe_int (fun _ _ => rfl)) pa_nil))) (pa_cons (pe_ix ix_list (pv 0) pe_int (fun _ _ => rfl)) pa_nil)))))
        pss_nil)
      (pss_one (ps_ret (pe_tup pa_nil))))))), ?_⟩
    obtain ⟨s0, rs, rfl⟩ : ∃ s0 rs, ws = s0 :: rs := by
      cases ws with
      | nil => exact absurd w1 (by decide)
      | cons a r => exact ⟨a, r, rfl⟩
    have hL : ∀ {Hx : Hp}, Same H Hx → SqL K Hx l ((s0 :: rs).map V.str) := fun s => tofL (s _ _ hl)
    refine ⟨fun x H' => x = .int (sgn s0) ∧ H' = H, ?_, ?_⟩
    · refine ⟨_, rfl, l, _, 0, _, rfl, rfl, hL (Same.refl H), atI_nat (j := 0) rfl, rfl, _, rfl, ite2 (fun e => ⟨1, rfl, ?_, rfl⟩) (fun e => ⟨?_, rfl⟩)⟩
      · unfold sgn
        rw [if_pos (V.str.inj (of_decide_eq_true e))]
      · unfold sgn
        rw [if_neg (fun z => e (decide_eq_true (congrArg V.str z)))]
    rintro x H' ⟨rfl, rfl⟩
    have no2 : ∀ {n : Nat}, n ≠ 2 → decide (V.int ((n : Nat) : Int) = V.int 2) = true → False := fun {n} hn e => hn (by have := V.int.inj (of_decide_eq_true e); omega)
    have no3 : ∀ {n : Nat}, n ≠ 3 → decide (V.int ((n : Nat) : Int) = V.int 3) = true → False := fun {n} hn e => hn (by have := V.int.inj (of_decide_eq_true e); omega)
    have iN : ∀ {u : Str}, natB u = true → PySem.intText? u = some (valN u) ∧ u.length ≤ 640 := fun {u} h => by
      unfold natB at h
      rw [Bool.and_eq_true, Bool.and_eq_true] at h
      obtain ⟨⟨h1, h2⟩, _⟩ := h
      have h1 := of_decide_eq_true h1
      have zl : u.length = u.cps.toList.length := (Array.length_toList ..).symm
      refine ⟨PySem.intText_digits (fun c hc => ?_) ?_ (by omega), by omega⟩
      · have hc2 : c ∈ DIGITS.cps.toList := of_decide_eq_true (List.all_eq_true.mp h2 c hc)
        have ds : ∀ d ∈ DIGITS.cps.toList, 48 ≤ d ∧ d ≤ 57 := by decide +kernel
        exact ds c hc2
      · intro z
        rw [z] at h1
        exact absurd h1.1 (by decide)
    have cm : ∀ v : Int, CMul (sgn s0) v := fun v => .inl (by unfold sgn; split <;> exact ⟨by decide, by decide⟩)
    rcases rs with _ | ⟨x, _ | ⟨y, _ | ⟨z, r⟩⟩⟩
    · refine ⟨_, rfl, l, _, rfl, .inl (hL (Same.refl _)), rfl, _, rfl, ite2 (fun e => (no2 (n := 1) (by decide) e).elim) (fun _ => ite2 (fun e => by cases e) (fun _ => ?_))⟩
      refine ⟨_, rfl, l, _, rfl, .inl (hL (Same.refl _)), rfl, _, rfl, ite2 (fun e => (no2 (n := 1) (by decide) e).elim) (fun _ => ite2 (fun e => by cases e) (fun _ => ?_))⟩
      refine ⟨_, rfl, l, _, rfl, .inl (hL (Same.refl _)), rfl, _, rfl, ite2 (fun e => (no3 (n := 1) (by decide) e).elim) (fun _ => ite2 (fun e => by cases e) (fun _ => ?_))⟩
      exact ⟨(show 0 ≤ sizeLine from small (by decide)), fun t nt => q t _ (Same.new nt) upd_same⟩
    · refine ⟨_, rfl, l, _, rfl, .inl (hL (Same.refl _)), rfl, _, rfl, ite2 (fun _ => ?_) (fun e => absurd rfl e)⟩
      refine ⟨_, rfl, l, _, 1, _, rfl, rfl, hL (Same.refl _), atI_nat (j := 1) rfl, x, rfl, wl x (by simp), fun H1 s1 => ⟨_, rfl, ite2 (fun e => ?_) (fun e => ?_)⟩⟩
      · refine ⟨_, rfl, _, rfl, l, _, 1, _, rfl, rfl, hL s1, atI_nat (j := 1) rfl, (show 2 ≤ sizeLine from small (by decide)), fun t nt => q t _ (s1.trans (Same.new nt)) ?_⟩
        rw [upd_same]
        rw [term2, if_pos e]; rfl
      refine ⟨_, rfl, l, _, rfl, .inl (hL s1), rfl, _, rfl, ite2 (fun _ => ?_) (fun e => absurd rfl e)⟩
      refine ⟨_, rfl, l, _, 1, _, rfl, rfl, hL s1, atI_nat (j := 1) rfl, x, rfl, wl x (by simp), fun H2 s2 => ⟨_, rfl, ite2 (fun e2 => ?_) (fun e2 => ?_)⟩⟩
      · refine ⟨_, rfl, _, rfl, l, _, 1, _, rfl, rfl, hL (s1.trans s2), atI_nat (j := 1) rfl, x, valN x, rfl, (iN e2).1, (iN e2).2, ?_⟩
        refine ⟨sgn s0, valN x, rfl, rfl, cm _, (show 2 ≤ sizeLine from small (by decide)), fun t nt => q t _ ((s1.trans s2).trans (Same.new nt)) ?_⟩
        rw [upd_same, term2, if_neg e, if_pos e2]; rfl
      refine ⟨_, rfl, l, _, rfl, .inl (hL (s1.trans s2)), rfl, _, rfl, ite2 (fun e => (no3 (n := 2) (by decide) e).elim) (fun _ => ite2 (fun e => by cases e) (fun _ => ?_))⟩
      refine ⟨(show 0 ≤ sizeLine from small (by decide)), fun t nt => q t _ ((s1.trans s2).trans (Same.new nt)) ?_⟩
      rw [upd_same]
      rw [term2, if_neg e, if_neg e2]; rfl
    · refine ⟨_, rfl, l, _, rfl, .inl (hL (Same.refl _)), rfl, _, rfl, ite2 (fun e => (no2 (n := 3) (by decide) e).elim) (fun _ => ite2 (fun e => by cases e) (fun _ => ?_))⟩
      refine ⟨_, rfl, l, _, rfl, .inl (hL (Same.refl _)), rfl, _, rfl, ite2 (fun e => (no2 (n := 3) (by decide) e).elim) (fun _ => ite2 (fun e => by cases e) (fun _ => ?_))⟩
      refine ⟨_, rfl, l, _, rfl, .inl (hL (Same.refl _)), rfl, _, rfl, ite2 (fun _ => ?_) (fun e => absurd rfl e)⟩
      have bad : ∀ (Hx : Hp) (t : Addr), Same H' Hx → Hx t = none → ¬ (natB x = true ∧ nameB y = true) → Q (.ref t) (upd Hx t (.tup [])) := fun Hx t sx nt e => by
        refine q t _ (sx.trans (Same.new nt)) ?_
        rw [upd_same, term3, if_neg e]; rfl
      refine ⟨_, rfl, l, _, 1, _, rfl, rfl, hL (Same.refl _), atI_nat (j := 1) rfl, x, rfl, wl x (by simp), fun H1 s1 => ⟨_, rfl, ite2 (fun e => ?_) (fun e => ?_)⟩⟩
      · refine ⟨_, rfl, l, _, 2, _, rfl, rfl, hL s1, atI_nat (j := 2) rfl, y, rfl, wl y (by simp), fun H2 s2 => ⟨_, rfl, ite2 (fun e2 => ?_) (fun e2 => ?_)⟩⟩
        · refine ⟨_, rfl, _, rfl, l, _, 1, _, rfl, rfl, hL (s1.trans s2), atI_nat (j := 1) rfl, x, valN x, rfl, (iN e).1, (iN e).2, sgn s0, valN x, rfl, rfl, cm _, _, rfl, l, _, 2, _, rfl, rfl, hL (s1.trans s2), atI_nat (j := 2) rfl, (show 2 ≤ sizeLine from small (by decide)), fun t nt => q t _ ((s1.trans s2).trans (Same.new nt)) ?_⟩
          rw [upd_same, term3, if_pos ⟨e, e2⟩]; rfl
        · exact ⟨(show 0 ≤ sizeLine from small (by decide)), fun t nt => bad _ t (s1.trans s2) nt fun z => e2 z.2⟩
      · refine ite2 (fun e => by cases e) (fun _ => ?_)
        exact ⟨(show 0 ≤ sizeLine from small (by decide)), fun t nt => bad _ t s1 nt fun z => e z.1⟩
    · have n4 : ∀ k : Nat, ((s0 :: x :: y :: z :: r).map V.str).length = k → k ≠ 2 ∧ k ≠ 3 := fun k e => by
        rw [List.length_map] at e
        simp at e
        omega
      refine ⟨_, rfl, l, _, rfl, .inl (hL (Same.refl _)), rfl, _, rfl, ite2 (fun e => (no2 (n4 _ rfl).1 e).elim) (fun _ => ite2 (fun e => by cases e) (fun _ => ?_))⟩
      refine ⟨_, rfl, l, _, rfl, .inl (hL (Same.refl _)), rfl, _, rfl, ite2 (fun e => (no2 (n4 _ rfl).1 e).elim) (fun _ => ite2 (fun e => by cases e) (fun _ => ?_))⟩
      refine ⟨_, rfl, l, _, rfl, .inl (hL (Same.refl _)), rfl, _, rfl, ite2 (fun e => (no3 (n4 _ rfl).2 e).elim) (fun _ => ite2 (fun e => by cases e) (fun _ => ?_))⟩
      exact ⟨(show 0 ≤ sizeLine from small (by decide)), fun t nt => q t _ (Same.new nt) upd_same⟩
end
end KW
namespace KW
open PySem PySem.Spec PyProof.Rows L2 GL RZ TL
/-- == and != of data without dicts, whatever the texts -/
def rEqP (K : PySem.W.Frag) : R2 := fun x y H Q => ∃ d e, Dp K H x d ∧ Dp K H y e ∧ d.plain = true ∧ e.plain = true ∧ d.depth ≤ 60 ∧ Q (.bl (PyData.eqv d e)) H
def rNeP (K : PySem.W.Frag) : R2 := fun x y H Q => ∃ d e, Dp K H x d ∧ Dp K H y e ∧ d.plain = true ∧ e.plain = true ∧ d.depth ≤ 60 ∧ Q (.bl (!PyData.eqv d e)) H
theorem op_eqP {X : Cx} {K : PySem.W.Frag} (hu : X.A.units + 64 < cLine) (h : X.K = K := by rfl) : OpR X (compareOp .Eq) (rEqP K) := by
  subst h
  intro pins s σ H x y v u Q I rx ry hh
  obtain ⟨d, e, hd, he, sd, se, dp, q⟩ := hh
  obtain ⟨as, r1⟩ := Dp.reads I d x v hd rx
  obtain ⟨bs, r2⟩ := Dp.reads I e y u he ry
  exact SeqAt.eq_plain r1 r2 sd se (by have : min d.depth e.depth ≤ d.depth := Nat.min_le_left _ _; omega) ⟨.bl _, H, I, rfl, q⟩
theorem op_neP {X : Cx} {K : PySem.W.Frag} (hu : X.A.units + 64 < cLine) (h : X.K = K := by rfl) : OpR X (compareOp .NotEq) (rNeP K) := by
  subst h
  intro pins s σ H x y v u Q I rx ry hh
  obtain ⟨d, e, hd, he, sd, se, dp, q⟩ := hh
  obtain ⟨as, r1⟩ := Dp.reads I d x v hd rx
  obtain ⟨bs, r2⟩ := Dp.reads I e y u he ry
  exact SeqAt.ne_plain r1 r2 sd se (by have : min d.depth e.depth ≤ d.depth := Nat.min_le_left _ _; omega) ⟨.bl _, H, I, rfl, q⟩
theorem plain_strs : ∀ ws : List Str, PyData.plain (.list (ws.map PyData.str)) = true
  | [] => rfl
  | _ :: r => plain_strs r
theorem depth_strs : ∀ ws : List Str, PyData.depth (.list (ws.map PyData.str)) ≤ 60 := fun ws => by
  have : PyData.depthAll (ws.map PyData.str) ≤ 0 := depthAll_of _ fun d hd => by
    obtain ⟨z, _, rfl⟩ := List.mem_map.mp hd
    exact Nat.le_refl 0
  show PyData.depthAll (ws.map PyData.str) + 1 ≤ 60
  omega
theorem eqv_strs : ∀ xs ys : List Str, PyData.eqv (.list (xs.map PyData.str)) (.list (ys.map PyData.str)) = decide (xs = ys)
  | [], [] => rfl
  | [], _ :: _ => rfl
  | _ :: _, [] => rfl
  | x :: xs, y :: ys => by
    have ih : PyData.eqvAll (xs.map PyData.str) (ys.map PyData.str) = decide (xs = ys) := eqv_strs xs ys
    show (PyData.eqv (.str x) (.str y) && PyData.eqvAll (xs.map PyData.str) (ys.map PyData.str)) = _
    rw [ih]
    show ((x == y) && decide (xs = ys)) = _
    by_cases e : x = y
    · subst e
      by_cases f : xs = ys
      · subst f; simp
      · simp [f]
    · simp [e]
theorem dpa_strs {K : PySem.W.Frag} {H : Hp} : ∀ ws : List Str, DpAll K H (ws.map V.str) (ws.map PyData.str)
  | [] => .nil
  | _ :: r => .cons (.str _) (dpa_strs r)
theorem two_ends : ∀ ws : List Str, 2 ≤ ws.length → ∃ init a x, ws = init ++ [a, x]
  | [], h => absurd h (by decide)
  | [_], h => absurd h (by simp)
  | [a, x], _ => ⟨[], a, x, rfl⟩
  | b :: c :: d :: r, h => by
    obtain ⟨init, a, x, e⟩ := two_ends (c :: d :: r) (by simp)
    exact ⟨b :: init, a, x, by rw [e]; rfl⟩
theorem cut_mid (xs : List V) (a b : V) : cutV (xs ++ [a, b]) (some (-2)) (some (-1)) = [a] := by
  have l : (xs ++ [a, b]).length = xs.length + 2 := by rw [List.length_append]; rfl
  have e1 : HT.sIx (xs.length + 2) 0 (some (-2)) = xs.length := by
    unfold HT.sIx
    simp
    try omega
  have e2 : HT.sIx (xs.length + 2) (xs.length + 2) (some (-1)) = xs.length + 1 := by
    unfold HT.sIx
    simp
    try omega
  unfold cutV
  rw [l, e1, e2, List.drop_left, show xs.length + 1 - xs.length = 1 by omega]
  rfl
theorem cut_fore (xs : List V) (a b : V) : cutV (xs ++ [a, b]) none (some (-2)) = xs := by
  have l : (xs ++ [a, b]).length = xs.length + 2 := by rw [List.length_append]; rfl
  have e1 : HT.sIx (xs.length + 2) 0 none = 0 := rfl
  have e2 : HT.sIx (xs.length + 2) (xs.length + 2) (some (-2)) = xs.length := by
    unfold HT.sIx
    simp
    try omega
  unfold cutV
  rw [l, e1, e2, List.drop_zero, Nat.sub_zero, List.take_left]
theorem cut_mid1 (b : V) : cutV [b] (some (-2)) (some (-1)) = [] := rfl
/-- the words ahead of a modulus, and the modulus (0: there is none) -/
def lastS (ws : List Str) : Str := ws.getLastD ""
def modOf (ws : List Str) : List Str × Int := if 2 ≤ ws.length ∧ ws[ws.length - 2]? = some ("mod" : Str) ∧ natB (lastS ws) = true ∧ 2 ≤ valN (lastS ws) then (ws.take (ws.length - 2), valN (lastS ws)) else (ws, 0)
theorem modOf_one (x : Str) : modOf [x] = ([x], 0) := if_neg fun h => absurd h.1 (by simp)
theorem modOf_app (init : List Str) (a x : Str) : modOf (init ++ [a, x]) = if a = "mod" ∧ natB x = true ∧ 2 ≤ valN x then (init, valN x) else (init ++ [a, x], 0) := by
  have l : (init ++ [a, x]).length = init.length + 2 := by rw [List.length_append]; rfl
  have e1 : (init ++ [a, x])[init.length]? = some a := by rw [List.getElem?_append_right (Nat.le_refl _), Nat.sub_self]; rfl
  have e2 : lastS (init ++ [a, x]) = x := by
    unfold lastS
    rw [show init ++ [a, x] = (init ++ [a]) ++ [x] by simp]
    simp
  unfold modOf
  rw [l, Nat.add_sub_cancel, e1, e2, List.take_left]
  by_cases h : a = "mod" ∧ natB x = true ∧ 2 ≤ valN x
  · rw [if_pos h, if_pos ⟨by omega, by rw [h.1], h.2⟩]
  · rw [if_neg h, if_neg fun z => h ⟨Option.some.inj z.2.1, z.2.2⟩]
def spMod : Sp := fun vs H Q _ => ∃ (l : Addr) (ws : List Str), vs = [.ref l] ∧ H l = some (.lst (ws.map V.str)) ∧ ws.length ≤ 62000 ∧ (∀ z ∈ ws, z.cps.toList.length ≤ 100000) ∧
  ∀ (t l' : Addr) (H' : Hp), Same H H' → H' t = some (.tup [.ref l', .int (modOf ws).2]) → H' l' = some (.lst ((modOf ws).1.map V.str)) → Q (.ref t) H'
theorem nat_int {u : Str} (h : natB u = true) : PySem.intText? u = some (valN u) ∧ u.length ≤ 640 := by
  unfold natB at h
  rw [Bool.and_eq_true, Bool.and_eq_true] at h
  obtain ⟨⟨h1, h2⟩, _⟩ := h
  have h1 := of_decide_eq_true h1
  have zl : u.length = u.cps.toList.length := (Array.length_toList ..).symm
  refine ⟨PySem.intText_digits (fun c hc => ?_) ?_ (by omega), by omega⟩
  · have hc2 : c ∈ DIGITS.cps.toList := of_decide_eq_true (List.all_eq_true.mp h2 c hc)
    have ds : ∀ d ∈ DIGITS.cps.toList, 48 ≤ d ∧ d ≤ 57 := by decide +kernel
    exact ds c hc2
  · intro z
    rw [z] at h1
    exact absurd h1.1 (by decide)
section
variable {P : Program} {w : World} {K : PySem.W.Frag} {mg : Str → Option Value} {base : Heap}
abbrev s_without_modulus : Stmt := topS 14
theorem sc_without_modulus : FnScope ["words"] ["words"] (defScope s_without_modulus) := ⟨rfl, rfl, rfl, by decide +kernel, rfl, by decide +kernel, by decide +kernel⟩
theorem ok_without_modulus {f : Addr} {fd : FuncData} (F : Fun K "without_modulus" "without_modulus" s_without_modulus f fd) (gl : mg "without_modulus" = some (.ref f)) (T : Bl mg) (D_is_natural : DefG P w K mg base 1 "is_natural" ["word"] spNat) : DefG P w K mg base 2 "without_modulus" ["words"] spMod := by
  refine def_mk F gl (F.binds fun _ _ _ _ _ _ us hl => match us, hl with | [_], _ => rfl) (okG F sc_without_modulus (fun vs H Q E h => ?_) fun cdv A outer s H vs Q E hr hc h => ?_)
  · obtain ⟨l, ns, rfl, _⟩ := h
    rfl
  · obtain ⟨l, ws, rfl, hl, w2, wl, q⟩ := h
    have nd := sc_without_modulus.nd
    have hu64 := hr.units
    refine ⟨_, (pss_cons (ps_if (PW.pt (pw_and (pt_cmpR (op_eqP (K := K) hu64) (pe_slice sl_list (pv 0) (po_some (pe_un un_neg pe_int)) (po_some (pe_un un_neg pe_int))) (pe_lst (pa_cons pe_str pa_nil)) (nomark _)) (pw_and (pt_truth (pe_def D_is_natural (hr.mono (by decide)) hc (by rfl) (pa_cons (pe_ix ix_list (pv 0) (pe_un un_neg pe_int) (fun _ _ => rfl)) pa_nil)) (fun _ => rfl)) (pw_and1 (pt_cmpR op_ge (pe_callTy call_int_str (by rfl) T.int boot_int (pa_cons (pe_ix ix_list (pv 0) (pe_un un_neg pe_int) (fun _ _ => rfl)) pa_nil)) pe_int (nomark _))))))
        (pss_one (ps_ret (pe_tup (pa_cons (pe_slice sl_list (pv 0) po_none (po_some (pe_un un_neg pe_int))) (pa_cons (pe_callTy call_int_str (by rfl) T.int boot_int (pa_cons (pe_ix ix_list (pv 0) (pe_un un_neg pe_int) (fun _ _ => rfl)) pa_nil)) pa_nil)))))
        pss_nil)
      (pss_one (ps_ret (pe_tup (pa_cons (pv 0) (pa_cons pe_int pa_nil)))))), ?_⟩
    have hL : ∀ {Hx : Hp}, Same H Hx → SqL K Hx l (ws.map V.str) := fun s => tofL (s _ _ hl)
    refine ⟨_, rfl, 2, rfl, -2, rfl, 1, rfl, -1, rfl, l, _, rfl, hL (Same.refl H), fun p np => ?_⟩
    have s1 := Same.new (o := .lst (cutV (ws.map V.str) (some (-2)) (some (-1)))) np
    have hp : upd H p (.lst (cutV (ws.map V.str) (some (-2)) (some (-1)))) p = some (.lst (cutV (ws.map V.str) (some (-2)) (some (-1)))) := upd_same
    generalize upd H p (.lst (cutV (ws.map V.str) (some (-2)) (some (-1)))) = H1 at *
    refine ⟨(show 1 ≤ sizeLine from small (by decide)), fun p2 np2 => ?_⟩
    have s2 := Same.new (o := .lst [.str "mod"]) np2
    have hp2 : upd H1 p2 (.lst [.str "mod"]) p2 = some (.lst [.str "mod"]) := upd_same
    have s12 := s1.trans s2
    have hp1 := s2 _ _ hp
    generalize upd H1 p2 (.lst [.str "mod"]) = H2 at *
    have bad : modOf ws = (ws, 0) → ∀ Hx, Same H Hx → ∀ t, Hx t = none → Q (.ref t) (upd Hx t (.tup [.ref l, .int 0])) := fun e Hx sx t nt => by
      refine q t l _ (sx.trans (Same.new nt)) ?_ ?_
      · rw [upd_same, e]
      · rw [e]; exact (sx.trans (Same.new nt)) _ _ hl
    by_cases w2' : 2 ≤ ws.length
    rotate_left
    · have em0 : modOf ws = (ws, 0) := if_neg fun h => w2' h.1
      have hp1 : H2 p = some (.lst (([] : List Str).map V.str)) := by
        rw [hp1]
        match ws, w2' with
        | [], _ => rfl
        | [x], _ => rfl
        | _ :: _ :: _, h => exact absurd (by simp) h
      refine ⟨.list (([] : List Str).map PyData.str), .list (([("mod" : Str)]).map PyData.str), .lst (tofL hp1) (dpa_strs _), .lst (tofL hp2) (dpa_strs ["mod"]), plain_strs _, plain_strs _, depth_strs _, _, rfl, ?_⟩
      rw [eqv_strs]
      refine ite2 (fun e => absurd e (by decide)) (fun _ => ite2 (fun e => by cases e) (fun _ => ?_))
      exact ⟨_, rfl, (show 2 ≤ sizeLine from small (by decide)), fun t nt => bad em0 _ s12 t nt⟩
    obtain ⟨init, a, x, rfl⟩ := two_ends ws w2'
    have hp1 : H2 p = some (.lst (([a] : List Str).map V.str)) := by
      rw [List.map_append] at hp1
      exact hp1.trans (congrArg (fun z => some (HO.lst z)) (cut_mid _ _ _))
    have hlast : atI ((init ++ [a, x]).map V.str) (-1) = some (V.str x) := by
      rw [show (init ++ [a, x]).map V.str = (init.map V.str ++ [V.str a]) ++ [V.str x] by simp]
      exact atI_last _ _
    refine ⟨.list (([a] : List Str).map PyData.str), .list (([("mod" : Str)]).map PyData.str), .lst (tofL hp1) (dpa_strs [a]), .lst (tofL hp2) (dpa_strs ["mod"]), plain_strs _, plain_strs _, depth_strs _, _, rfl, ?_⟩
    rw [eqv_strs]
    have badm : ¬ (a = "mod" ∧ natB x = true ∧ 2 ≤ valN x) → ∀ Hx, Same H Hx → ∀ t, Hx t = none → Q (.ref t) (upd Hx t (.tup [.ref l, .int 0])) := fun e => bad (by rw [modOf_app, if_neg e])
    refine ite2 (fun e => ?_) (fun e => ite2 (fun z => by cases z) (fun _ => ?_))
    rotate_left
    · have e' : ¬ a = "mod" := fun z => e (decide_eq_true (by rw [z]))
      exact ⟨_, rfl, (show 2 ≤ sizeLine from small (by decide)), fun t nt => badm (fun z => e' z.1) _ s12 t nt⟩
    have ea : a = "mod" := (List.cons.inj (of_decide_eq_true e)).1
    refine ⟨_, rfl, 1, rfl, l, _, -1, _, rfl, rfl, hL s12, hlast, x, rfl, wl x (by simp), fun H3 s3 => ⟨_, rfl, ?_⟩⟩
    have s13 := s12.trans s3
    refine ite2 (fun e2 => ?_) (fun e2 => ite2 (fun z => by cases z) (fun _ => ?_))
    rotate_left
    · exact ⟨_, rfl, (show 2 ≤ sizeLine from small (by decide)), fun t nt => badm (fun z => e2 z.2.1) _ s13 t nt⟩
    refine ⟨_, rfl, 1, rfl, l, _, -1, _, rfl, rfl, hL s13, hlast, x, valN x, rfl, (nat_int e2).1, (nat_int e2).2, valN x, 2, rfl, rfl, _, rfl, ?_⟩
    refine ite2 (fun e3 => ?_) (fun e3 => ?_)
    rotate_left
    · exact ⟨_, rfl, (show 2 ≤ sizeLine from small (by decide)), fun t nt => badm (fun z => e3 (decide_eq_true z.2.2)) _ s13 t nt⟩
    have em : modOf (init ++ [a, x]) = (init, valN x) := by rw [modOf_app, if_pos ⟨ea, e2, of_decide_eq_true e3⟩]
    refine ⟨_, rfl, 2, rfl, -2, rfl, l, _, rfl, hL s13, fun p3 np3 => ?_⟩
    have s4 := Same.new (o := .lst (cutV ((init ++ [a, x]).map V.str) none (some (-2)))) np3
    have s14 := s13.trans s4
    have hp3 : upd H3 p3 (.lst (cutV ((init ++ [a, x]).map V.str) none (some (-2)))) p3 = some (.lst (init.map V.str)) := by
      rw [upd_same, List.map_append]
      exact congrArg (fun z => some (HO.lst z)) (cut_fore _ _ _)
    generalize upd H3 p3 (.lst (cutV ((init ++ [a, x]).map V.str) none (some (-2)))) = H4 at *
    refine ⟨_, rfl, 1, rfl, l, _, -1, _, rfl, rfl, hL s14, hlast, x, valN x, rfl, (nat_int e2).1, (nat_int e2).2, (show 2 ≤ sizeLine from small (by decide)), fun t nt => ?_⟩
    refine q t p3 _ (s14.trans (Same.new nt)) ?_ ?_
    · rw [upd_same, em]
    · rw [em]; exact (Same.new nt) _ _ hp3
end
end KW
namespace KW
open PySem PySem.Spec PyProof.Rows L2 GL RZ TL
/-- x in a list of data without dicts -/
def rInP (K : PySem.W.Frag) : R2 := fun x y H Q => ∃ d es, Dp K H x d ∧ Dp K H y (.list es) ∧ d.plain = true ∧ PyData.plainAll es = true ∧ d.depth ≤ 60 ∧ Q (.bl (es.any fun z => PyData.eqv z d)) H
theorem op_inP {X : Cx} {K : PySem.W.Frag} (hu : X.A.units + 64 < cLine) (h : X.K = K := by rfl) : OpR X (compareOp .In) (rInP K) := by
  subst h
  intro pins s σ H x y v u Q I rx ry hh
  obtain ⟨d, es, hd, he, sd, se, dp, q⟩ := hh
  obtain ⟨as, r1⟩ := Dp.reads I d x v hd rx
  obtain ⟨bs, r2⟩ := Dp.reads I _ y u he ry
  exact SeqAt.in_list_data r2 r1 se sd (by have : min (PyData.depthAll es) d.depth ≤ d.depth := Nat.min_le_right _ _; omega) ⟨.bl _, H, I, rfl, q⟩
def isSg (w : Str) : Bool := decide (w = "+") || decide (w = "-")
def stepP (ps : List (List Str)) (w : Str) : List (List Str) := if isSg w = true then ps ++ [[w]] else ps.dropLast ++ [ps.getLastD [] ++ [w]]
def partsOf (ws : List Str) : List (List Str) := ws.foldl stepP []
theorem partsOf_snoc (ws : List Str) (w : Str) : partsOf (ws ++ [w]) = stepP (partsOf ws) w := by
  unfold partsOf
  rw [List.foldl_append]; rfl
def signedOf (ws : List Str) : List Str := if ws.take 1 = [("-" : Str)] then ws else "+" :: ws
theorem signed_head (ws : List Str) : ∃ w r, signedOf ws = w :: r ∧ isSg w = true := by
  unfold signedOf
  by_cases h : ws.take 1 = [("-" : Str)]
  · rw [if_pos h]
    cases ws with
    | nil => cases h
    | cons w r =>
      have e : w = "-" := (List.cons.inj h).1
      subst e
      exact ⟨_, r, rfl, by decide +kernel⟩
  · rw [if_neg h]
    exact ⟨_, ws, rfl, by decide +kernel⟩
def termsOf (ws : List Str) : List (Option (Int × Str)) := (partsOf (signedOf ws)).map termB
structure PartsAt (H0 Hx : Hp) (as : List Addr) (ps : List (List Str)) (i : Nat) : Prop where
  len : as.length = ps.length
  at_ : ∀ (j : Nat) (a : Addr), as[j]? = some a → ∃ us : List Str, ps[j]? = some us ∧ Hx a = some (.lst (us.map V.str))
  nd : as.Nodup
  new : ∀ a ∈ as, H0 a = none
  few : ps.length ≤ i
  ok : ∀ p ∈ ps, 1 ≤ p.length ∧ p.length ≤ i ∧ ∀ z ∈ p, z.cps.toList.length ≤ 100000
theorem PartsAt.same {H0 Hx H' : Hp} {as : List Addr} {ps : List (List Str)} {i : Nat} (h : PartsAt H0 Hx as ps i) (s : Same Hx H') : PartsAt H0 H' as ps i :=
  ⟨h.len, fun j a e => by obtain ⟨us, h1, h2⟩ := h.at_ j a e; exact ⟨us, h1, s _ _ h2⟩, h.nd, h.new, h.few, h.ok⟩
theorem stepP_ne (ps : List (List Str)) (w : Str) : stepP ps w ≠ [] := by
  unfold stepP
  split <;> simp
theorem ends_of {α : Type} (l : List α) (h : l ≠ []) : ∃ r a, l = r ++ [a] := ⟨l.dropLast, l.getLast h, (List.dropLast_concat_getLast h).symm⟩
theorem PartsAt.snoc {H0 Hx : Hp} {as : List Addr} {ps : List (List Str)} {i : Nat} (h : PartsAt H0 Hx as ps i) {n : Addr} {w : Str} {H' : Hp} (hn : Hx n = none) (s : Same H0 Hx) (k : ∀ a o, Hx a = some o → a ∈ as → H' a = some o) (hw : w.cps.toList.length ≤ 100000)
    (e : H' n = some (.lst [.str w])) : PartsAt H0 H' (as ++ [n]) (ps ++ [[w]]) (i + 1) where
  len := by rw [List.length_append, List.length_append, h.len]; rfl
  at_ := fun j a hj => by
    rcases Nat.lt_or_ge j as.length with lt | ge
    · rw [List.getElem?_append_left lt] at hj
      obtain ⟨ws, h1, h2⟩ := h.at_ j a hj
      exact ⟨ws, by rw [List.getElem?_append_left (by rw [← h.len]; exact lt)]; exact h1, k _ _ h2 (List.mem_of_getElem? hj)⟩
    · rw [List.getElem?_append_right ge] at hj
      have j0 : j - as.length = 0 := by
        have := (List.getElem?_eq_some_iff.mp hj).1
        simp at this
        omega
      rw [j0] at hj
      cases hj
      refine ⟨[w], ?_, e⟩
      rw [List.getElem?_append_right (by rw [← h.len]; exact ge), ← h.len, j0]; rfl
  nd := by
    rw [List.nodup_append]
    refine ⟨h.nd, by simp, fun a ha b hb => ?_⟩
    rw [List.mem_singleton.mp hb]
    rintro rfl
    obtain ⟨j, hj⟩ := List.mem_iff_getElem?.mp ha
    obtain ⟨ws, _, h2⟩ := h.at_ j _ hj
    rw [hn] at h2; cases h2
  new := fun a ha => by
    rcases List.mem_append.mp ha with ha | ha
    · exact h.new a ha
    · rw [List.mem_singleton.mp ha]
      cases e0 : H0 n with
      | none => rfl
      | some o => rw [s _ _ e0] at hn; cases hn
  few := by
    have := h.few
    rw [List.length_append]
    show _ + 1 ≤ _
    omega
  ok := fun p hp => by
    rcases List.mem_append.mp hp with hp | hp
    · obtain ⟨h1, h2, h3⟩ := h.ok p hp
      exact ⟨h1, by omega, h3⟩
    · rw [List.mem_singleton.mp hp]
      exact ⟨Nat.le_refl _, by show 1 ≤ _; omega, fun z hz => by rw [List.mem_singleton.mp hz]; exact hw⟩
theorem PartsAt.last {H0 Hx : Hp} {as : List Addr} {ps : List (List Str)} {a : Addr} {p : List Str} {i : Nat} (h : PartsAt H0 Hx (as ++ [a]) (ps ++ [p]) i) {w : Str} (hw : w.cps.toList.length ≤ 100000) :
    Hx a = some (.lst (p.map V.str)) ∧ PartsAt H0 (upd Hx a (.lst (p.map V.str ++ [.str w]))) (as ++ [a]) (ps ++ [p ++ [w]]) (i + 1) := by
  have len : as.length = ps.length := by
    have := h.len
    rw [List.length_append, List.length_append] at this
    exact Nat.add_right_cancel this
  have ea : (as ++ [a])[as.length]? = some a := by rw [List.getElem?_append_right (Nat.le_refl _), Nat.sub_self]; rfl
  have eL : Hx a = some (.lst (p.map V.str)) := by
    obtain ⟨ws, h1, h2⟩ := h.at_ _ _ ea
    rw [len, List.getElem?_append_right (Nat.le_refl _), Nat.sub_self] at h1
    cases h1
    exact h2
  have na : ∀ b ∈ as, b ≠ a := fun b hb => (List.nodup_append.mp h.nd).2.2 b hb a (List.mem_singleton.mpr rfl)
  refine ⟨eL, ?_, fun j b hj => ?_, h.nd, h.new, ?_, fun q hq => ?_⟩
  · rw [List.length_append, List.length_append, len]; rfl
  · rcases Nat.lt_or_ge j as.length with lt | ge
    · obtain ⟨ws, h1, h2⟩ := h.at_ j b hj
      rw [List.getElem?_append_left lt] at hj
      refine ⟨ws, ?_, by rw [upd_ne (na b (List.mem_of_getElem? hj))]; exact h2⟩
      rw [List.getElem?_append_left (by rw [← len]; exact lt)] at h1 ⊢
      exact h1
    · rw [List.getElem?_append_right ge] at hj
      have j0 : j - as.length = 0 := by
        have := (List.getElem?_eq_some_iff.mp hj).1
        simp at this
        omega
      rw [j0] at hj
      cases hj
      refine ⟨p ++ [w], ?_, by rw [upd_same, List.map_append]; rfl⟩
      rw [List.getElem?_append_right (by rw [← len]; exact ge), ← len, j0]; rfl
  · have := h.few
    rw [List.length_append] at this ⊢
    have : ps.length + 1 ≤ i := this
    show ps.length + 1 ≤ i + 1
    omega
  · rcases List.mem_append.mp hq with hq | hq
    · obtain ⟨h1, h2, h3⟩ := h.ok q (List.mem_append_left _ hq)
      exact ⟨h1, by omega, h3⟩
    · rw [List.mem_singleton.mp hq]
      obtain ⟨h1, h2, h3⟩ := h.ok p (List.mem_append_right _ (List.mem_singleton.mpr rfl))
      refine ⟨by rw [List.length_append]; omega, by rw [List.length_append]; show _ + 1 ≤ _; omega, fun z hz => ?_⟩
      rcases List.mem_append.mp hz with hz | hz
      · exact h3 z hz
      · rw [List.mem_singleton.mp hz]; exact hw
inductive TsAt (H : Hp) : List V → List (Option (Int × Str)) → Prop
  | nil : TsAt H [] []
  | cons {p : Addr} {t : Option (Int × Str)} {xs : List V} {ts : List (Option (Int × Str))} : H p = some (.tup (tOf t)) → TsAt H xs ts → TsAt H (.ref p :: xs) (t :: ts)
theorem TsAt.same {H H' : Hp} (s : Same H H') : ∀ {xs : List V} {ts : List (Option (Int × Str))}, TsAt H xs ts → TsAt H' xs ts
  | _, _, .nil => .nil
  | _, _, .cons a t => .cons (s _ _ a) (t.same s)
theorem TsAt.to {H H' : Hp} (k : ∀ a xs, H a = some (.tup xs) → H' a = some (.tup xs)) : ∀ {xs : List V} {ts : List (Option (Int × Str))}, TsAt H xs ts → TsAt H' xs ts
  | _, _, .nil => .nil
  | _, _, .cons a t => .cons (k _ _ a) (t.to k)
theorem TsAt.snoc {H : Hp} {p : Addr} {t : Option (Int × Str)} (h : H p = some (.tup (tOf t))) : ∀ {xs : List V} {ts : List (Option (Int × Str))}, TsAt H xs ts → TsAt H (xs ++ [.ref p]) (ts ++ [t])
  | _, _, .nil => .cons h .nil
  | _, _, .cons a r => .cons a (r.snoc h)
theorem TsAt.len {H : Hp} : ∀ {xs : List V} {ts : List (Option (Int × Str))}, TsAt H xs ts → xs.length = ts.length
  | _, _, .nil => rfl
  | _, _, .cons _ t => by rw [List.length_cons, List.length_cons, t.len]
def tD : Option (Int × Str) → PyData
  | none => .tuple []
  | some (i, z) => .tuple [.int i, .str z]
theorem TsAt.dp {K : PySem.W.Frag} {H : Hp} : ∀ {xs : List V} {ts : List (Option (Int × Str))}, TsAt H xs ts → DpAll K H xs (ts.map tD)
  | _, _, .nil => .nil
  | _, _, .cons (t := none) a r => .cons (.tup (tofT a) .nil) r.dp
  | _, _, .cons (t := some (i, z)) a r => .cons (.tup (tofT a) (.cons (.int _) (.cons (.str _) .nil))) r.dp
theorem plain_ts : ∀ ts : List (Option (Int × Str)), PyData.plainAll (ts.map tD) = true
  | [] => rfl
  | none :: r => plain_ts r
  | some _ :: r => plain_ts r
theorem any_ts : ∀ ts : List (Option (Int × Str)), ((ts.map tD).any fun z => PyData.eqv z (.tuple [])) = ts.any Option.isNone
  | [] => rfl
  | none :: r => rfl
  | some _ :: r => any_ts r
def spRSum : Sp := fun vs H Q _ => ∃ (l : Addr) (ws : List Str), vs = [.ref l] ∧ H l = some (.lst (ws.map V.str)) ∧ ws.length ≤ 62000 ∧ (∀ z ∈ ws, z.cps.toList.length ≤ 100000) ∧
  ∀ (t : Addr) (xs : List V) (H' : Hp), Same H H' → H' t = some (.tup xs) → (if (termsOf ws).any Option.isNone = true then xs = [] else TsAt H' xs (termsOf ws)) → Q (.ref t) H'
section
variable {P : Program} {w : World} {K : PySem.W.Frag} {mg : Str → Option Value} {base : Heap}
abbrev s_read_sum : Stmt := topS 15
theorem sc_read_sum : FnScope ["words", "signed", "parts", "word", "terms", "part"] ["words"] (defScope s_read_sum) := ⟨rfl, rfl, rfl, by decide +kernel, rfl, by decide +kernel, by decide +kernel⟩
theorem ok_read_sum {f : Addr} {fd : FuncData} (F : Fun K "read_sum" "read_sum" s_read_sum f fd) (gl : mg "read_sum" = some (.ref f)) (T : Bl mg) (D_read_term : DefG P w K mg base 2 "_read_term" ["words"] spTerm) : DefG P w K mg base 3 "read_sum" ["words"] spRSum := by
  refine def_mk F gl (F.binds fun _ _ _ _ _ _ us hl => match us, hl with | [_], _ => rfl) (okG F sc_read_sum (fun vs H Q E h => ?_) fun cdv A outer s H vs Q E hr hc h => ?_)
  · obtain ⟨l, ns, rfl, _⟩ := h
    rfl
  · obtain ⟨l, ws, rfl, hl, w2, wl, q⟩ := h
    have nd := sc_read_sum.nd
    have hu64 := hr.units
    refine ⟨_, (pss_cons (ps_set (i := 1) nd rfl (by first | exact Or.inl rfl | exact Or.inr rfl) (pe_cutE (pe_ifExp (pt_cmpR (op_eqP (K := K) hu64) (pe_slice sl_list (pv 0) po_none (po_some pe_int)) (pe_lst (pa_cons pe_str pa_nil)) (nomark _)) (pv 0) (pe_op op_cat (pe_lst (pa_cons pe_str pa_nil)) (pv 0)))))
      (pss_cons (ps_set (i := 2) nd rfl (by first | exact Or.inl rfl | exact Or.inr rfl) (pe_lst pa_nil))
      (pss_cons (ps_for PassesOwn.never rfl (pi_list (pv 1)) (pg_name (i := 3) nd rfl (by first | exact Or.inl rfl | exact Or.inr rfl))
        (pss_one (ps_if (pt_cmpR (op_inK (K := K)) (pv 3) (pe_tup (pa_cons pe_str (pa_cons pe_str pa_nil))) (by with_unfolding_all rfl))
          (pss_one (ps_expr (pe_bm PySem.F.plainAttrs_list PySem.F.slot_list_append PySem.F.type_list_append mt_append (pv 2) (pa_cons (pe_lst (pa_cons (pv 3) pa_nil)) pa_nil))))
          (pss_one (ps_expr (pe_bm PySem.F.plainAttrs_list PySem.F.slot_list_append PySem.F.type_list_append mt_append (pe_ix ix_list (pv 2) (pe_un un_neg pe_int) (fun _ _ => rfl)) (pa_cons (pv 3) pa_nil)))))))
      (pss_cons (ps_setLc (i := 4) (own := [("part", 5)]) (g := (gName 5)) (tt := tYes) rfl nd rfl rfl (sw_true rfl rfl rfl (by decide +kernel)) (pi_list (pv 2)) (blkOk_by (own := [("part", 5)]) (N := ["words", "signed", "parts", "word", "terms", "part"]) (sc := defScope s_read_sum) (by decide +kernel)) (fun _ _ _ _ _ => (pg_name (i := 5) nd rfl (by first | exact Or.inl rfl | exact Or.inr rfl))) (fun _ _ _ _ _ => pts_nil) (fun _ _ _ _ _ => (pe_def D_read_term (hr.mono (by decide)) hc (by rfl) (pa_cons (pv 5) pa_nil))))
      (pss_one (ps_ret (pe_ifExp (pt_cmpR (op_inP (K := K) hu64) (pe_tup pa_nil) (pv 4) (by with_unfolding_all rfl)) (pe_tup pa_nil) (pe_tupleOf (by rfl) T.tuple (pv 4))))))))), ?_⟩
    -- the words with a sign ahead
    refine ⟨fun x H' => ∃ p, x = .ref p ∧ Same H H' ∧ H' p = some (.lst ((signedOf ws).map V.str)), ?_, ?_⟩
    · refine ⟨_, rfl, 1, rfl, l, _, rfl, tofL hl, fun p1 np1 => ?_⟩
      have s1 := Same.new (o := .lst (cutV (ws.map V.str) none (some 1))) np1
      have e1 : cutV (ws.map V.str) none (some 1) = (ws.take 1).map V.str := by
        cases ws with
        | nil => rfl
        | cons a r => rfl
      have h1 : upd H p1 (.lst (cutV (ws.map V.str) none (some 1))) p1 = some (.lst ((ws.take 1).map V.str)) := by rw [upd_same, e1]
      generalize upd H p1 (.lst (cutV (ws.map V.str) none (some 1))) = Ha at *
      refine ⟨(show 1 ≤ sizeLine from small (by decide)), fun p2 np2 => ?_⟩
      have s2 := Same.new (o := .lst [.str "-"]) np2
      have h2 : upd Ha p2 (.lst [.str "-"]) p2 = some (.lst (([("-" : Str)]).map V.str)) := upd_same
      have h1' := s2 _ _ h1
      generalize upd Ha p2 (.lst [.str "-"]) = Hb at *
      have s12 := s1.trans s2
      refine ⟨.list ((ws.take 1).map PyData.str), .list (([("-" : Str)]).map PyData.str), .lst (tofL h1') (dpa_strs _), .lst (tofL h2) (dpa_strs ["-"]), plain_strs _, plain_strs _, depth_strs _, _, rfl, ?_⟩
      rw [eqv_strs]
      refine ite2 (fun e => ?_) (fun e => ?_)
      · refine ⟨_, rfl, l, rfl, s12, ?_⟩
        rw [signedOf, if_pos (of_decide_eq_true e)]
        exact s12 _ _ hl
      · refine ⟨(show 1 ≤ sizeLine from small (by decide)), fun p3 np3 => ?_⟩
        have s3 := Same.new (o := .lst [.str "+"]) np3
        refine ⟨_, rfl, p3, l, [.str "+"], ws.map V.str, rfl, rfl, upd_same, (s12.trans s3) _ _ hl, small (by rw [List.length_map]; show 1 + _ ≤ 100000; omega), fun p4 np4 => ⟨p4, rfl, (s12.trans s3).trans (Same.new np4), ?_⟩⟩
        rw [upd_same, signedOf, if_neg (fun z => e (decide_eq_true z))]
        rfl
    rintro x H1 ⟨sg, rfl, s1, hsg⟩
    obtain ⟨gs, egs⟩ : ∃ gs, gs = signedOf ws := ⟨_, rfl⟩
    rw [← egs] at hsg
    have gl1 : gs.length ≤ 62001 := by
      rw [egs]; unfold signedOf
      split
      · omega
      · rw [List.length_cons]; omega
    have gw : ∀ z ∈ gs, z.cps.toList.length ≤ 100000 := fun z hz => by
      rw [egs] at hz; unfold signedOf at hz
      split at hz
      · exact wl z hz
      · rcases List.mem_cons.mp hz with rfl | hz
        · decide +kernel
        · exact wl z hz
    -- the parts
    refine ⟨Nat.zero_le _, fun P0 nP => ?_⟩
    refine ⟨_, rfl, sg, rfl, ⟨_, tofL ((Same.new nP) _ _ hsg)⟩, for_list (K := K) (a := sg) (xs := gs.map V.str) (fun i σ Hx => ∃ (v3 : Option V) (as : List Addr), σ = [some (.ref l), some (.ref sg), some (.ref P0), v3, none, none] ∧ Same H1 Hx ∧ Hx P0 = some (.lst (as.map V.ref)) ∧ P0 ∉ as ∧ PartsAt H1 Hx as (partsOf (gs.take i)) i)
      ⟨none, [], rfl, Same.new nP, upd_same, (fun z => by cases z), ⟨rfl, fun j a h => (by cases h), .nil, fun a h => (by cases h), Nat.le_refl _, fun p h => (by cases h)⟩⟩ (fun i σ Hx _ ⟨_, _, _, sx, _⟩ => tofL (sx _ _ hsg)) ?_ ?_⟩
    · rintro i x σ Hx hi ⟨v3, as, rfl, sx, hP, nPa, pa⟩
      obtain ⟨z, hz, rfl⟩ : ∃ z, gs[i]? = some z ∧ x = .str z := by
        rw [List.getElem?_map] at hi
        cases hz : gs[i]? with
        | none => rw [hz] at hi; cases hi
        | some z => rw [hz] at hi; cases hi; exact ⟨z, rfl, rfl⟩
      have il := (List.getElem?_eq_some_iff.mp hz).1
      have zw := gw z (List.mem_of_getElem? hz)
      have et : partsOf (gs.take (i + 1)) = stepP (partsOf (gs.take i)) z := by
        rw [List.take_add_one, hz]
        exact partsOf_snoc _ _
      refine ⟨_, rfl, (show 2 ≤ sizeLine from small (by decide)), fun t0 nt0 => ?_⟩
      have st := Same.new (o := .tup [.str "+", .str "-"]) nt0
      have ht : upd Hx t0 (.tup [.str "+", .str "-"]) t0 = some (.tup (([("+" : Str), "-"]).map V.str)) := upd_same
      have sy := sx.trans st
      have hPy := st _ _ hP
      have pay := pa.same st
      generalize upd Hx t0 (.tup [.str "+", .str "-"]) = Hy at *
      refine ⟨t0, _, rfl, .inr (tofT ht), rfl, flat_strs ["+", "-"], _, rfl, ?_⟩
      have eb : inV (.str z) (([("+" : Str), "-"]).map V.str) = isSg z := by
        rw [inV_strs]
        unfold isSg
        by_cases h1 : z = "+"
        · simp [h1]
        · by_cases h2 : z = "-"
          · simp [h2]
          · simp [h1, h2]
      refine ite2 (fun e => ?_) (fun e => ?_)
      · have e : isSg z = true := eb ▸ e
        refine ⟨_, rfl, .inl ⟨rfl, _, tofL hPy⟩, _, rfl, (show 1 ≤ sizeLine from small (by decide)), fun n nn => ?_⟩
        have nP0 : n ≠ P0 := fun z => by rw [z, hPy] at nn; cases nn
        have sn := Same.new (o := .lst [.str z]) nn
        have few := pay.few
        refine ⟨P0, as.map V.ref, .ref n, rfl, rfl, sn _ _ hPy, smallt (by rw [List.length_map, pay.len]; omega), _, as ++ [n], rfl, ?_, ?_, ?_, ?_⟩
        · intro b o hb
          have := sn _ _ (sy _ _ hb)
          rw [upd_ne (fun z => by rw [z, nP] at hb; cases hb)]
          exact this
        · rw [upd_same, List.map_append]; rfl
        · intro h
          rcases List.mem_append.mp h with h | h
          · exact nPa h
          · exact nP0 (List.mem_singleton.mp h).symm
        · rw [et, stepP, if_pos e]
          refine pay.snoc nn sy (fun a o ha hm => ?_) zw ?_
          · rw [upd_ne (fun z => nPa (by rw [← z]; exact hm))]
            exact sn _ _ ha
          · rw [upd_ne nP0, upd_same]
      · have e : ¬ isSg z = true := fun h => e (eb.trans h)
        have ne : partsOf (gs.take i) ≠ [] := by
          cases i with
          | zero =>
            obtain ⟨w0, r0, e0, e1⟩ := signed_head ws
            rw [← egs] at e0
            rw [e0] at hz
            cases hz
            exact absurd e1 e
          | succ j =>
            have hj : gs[j]? = some (gs[j]'(by omega)) := List.getElem?_eq_getElem (by omega)
            rw [List.take_add_one, hj]
            show partsOf (gs.take j ++ [_]) ≠ []
            rw [partsOf_snoc]
            exact stepP_ne _ _
        obtain ⟨ps', p, ep⟩ := ends_of _ ne
        obtain ⟨as', a, ea⟩ := ends_of as (fun z => by
          have := pay.len
          rw [z, ep] at this
          simp at this)
        subst ea
        rw [ep] at pay
        obtain ⟨hla, pnew⟩ := pay.last zw
        have few := pay.few
        obtain ⟨o1, o2, _⟩ := pay.ok p (List.mem_append_right _ (List.mem_singleton.mpr rfl))
        have aP : P0 ≠ a := fun z => nPa (z ▸ List.mem_append_right _ (List.mem_singleton.mpr rfl))
        have na := pay.new a (List.mem_append_right _ (List.mem_singleton.mpr rfl))
        refine ⟨_, rfl, 1, rfl, P0, _, -1, .ref a, rfl, rfl, tofL hPy, (by rw [List.map_append]; exact atI_last _ _), .inl ⟨rfl, _, tofL hla⟩, _, rfl, a, _, _, rfl, rfl, hla, smallt (by rw [List.length_map]; omega), _, as' ++ [a], rfl, ?_, ?_, nPa, ?_⟩
        · intro b o hb
          rw [upd_ne (fun z => by rw [z, na] at hb; cases hb)]
          exact sy _ _ hb
        · rw [upd_ne aP]; exact hPy
        · rw [et, ep, stepP, if_neg e, List.dropLast_concat, List.getLastD_concat]
          exact pnew
    · rintro σ Hx ⟨v3, as, rfl, sx, hP, nPa, pa⟩
      have ga : partsOf (gs.take (gs.map V.str).length) = partsOf gs := by rw [List.length_map, List.take_length]
      rw [ga] at pa
      have pfew := pa.few
      have gfew : (partsOf gs).length ≤ 62001 := by rw [List.length_map] at pfew; omega
      refine ⟨_, rfl, P0, rfl, ⟨_, tofL hP⟩, fun D nD => ?_⟩
      refine lc_list (K := K) (a := P0) (xs := as.map V.ref) (fun i Hy => Same Hx Hy ∧ ∃ ys, Hy D = some (.lst ys) ∧ TsAt Hy ys (((partsOf gs).take i).map termB)) ⟨Same.new nD, [], upd_same, .nil⟩ (fun i Hy _ h => tofL (h.1 _ _ hP)) ?_ ?_
      · rintro i x Hy hi ⟨sy, ys, hD, hT⟩
        obtain ⟨a, ha, rfl⟩ : ∃ a, as[i]? = some a ∧ x = .ref a := by
          rw [List.getElem?_map] at hi
          cases hz : as[i]? with
          | none => rw [hz] at hi; cases hi
          | some z => rw [hz] at hi; cases hi; exact ⟨z, rfl, rfl⟩
        obtain ⟨us, hus, hla⟩ := pa.at_ i a ha
        have il := (List.getElem?_eq_some_iff.mp hus).1
        obtain ⟨o1, o2, o3⟩ := pa.ok us (List.mem_of_getElem? hus)
        refine ⟨rfl, _, rfl, a, us, rfl, sy _ _ hla, o1, by rw [List.length_map] at o2; omega, o3, fun t H' s' ht => ⟨_, s' _ _ hD, ?_, ?_, ys ++ [.ref t], upd_same, ?_⟩⟩
        · rw [hT.len, List.length_map, List.length_take]; exact smallt (by omega)
        · intro b o hb
          rw [upd_ne (ne_of_none hb nD)]
          exact s' _ _ (sy _ _ hb)
        · have kt : ∀ b vs, H' b = some (.tup vs) → upd H' D (.lst (ys ++ [.ref t])) b = some (.tup vs) := fun b vs hb => by
            rw [upd_ne (fun e => by rw [e, s' _ _ hD] at hb; cases hb)]
            exact hb
          rw [List.take_add_one, hus, List.map_append]
          exact ((hT.same s').to kt).snoc (kt _ _ ht)
      · rintro Hy ⟨sy, ys, hD, hT⟩
        rw [List.length_map, pa.len, List.take_length] at hT
        have et : (partsOf gs).map termB = termsOf ws := by rw [egs]; rfl
        rw [et] at hT
        have s0 : Same H Hy := s1.trans (sx.trans sy)
        refine ⟨(show 0 ≤ sizeLine from small (by decide)), fun t0 nt0 => ?_⟩
        have st := Same.new (o := .tup []) nt0
        have h0 : upd Hy t0 (.tup []) t0 = some (.tup []) := upd_same
        have hD' := st _ _ hD
        have hT' := hT.same st
        have s0' := s0.trans st
        generalize upd Hy t0 (.tup []) = Hz at *
        refine ⟨_, rfl, .tuple [], (termsOf ws).map tD, .tup (tofT h0) .nil, .lst (tofL hD') hT'.dp, rfl, plain_ts _, (show 1 ≤ 60 by decide), _, rfl, ?_⟩
        rw [any_ts]
        refine ite2 (fun e => ?_) (fun e => ?_)
        · exact ⟨(show 0 ≤ sizeLine from small (by decide)), fun t nt => q t [] _ (s0'.trans (Same.new nt)) upd_same (by rw [if_pos e])⟩
        · refine ⟨_, rfl, .inl ⟨D, _, rfl, tofL hD', fun t nt => q t ys _ (s0'.trans (Same.new nt)) upd_same ?_⟩⟩
          rw [if_neg e]
          exact hT'.same (Same.new nt)
end
end KW
namespace KW
open PySem PySem.Spec PyProof.Rows L2 GL RZ TL
theorem joinL_app (S : List Nat) : ∀ p q : List (List Nat), p ≠ [] → q ≠ [] → joinL S (p ++ q) = joinL S p ++ (S ++ joinL S q)
  | [], _, h, _ => absurd rfl h
  | [a], [], _, h => absurd rfl h
  | [a], b :: r, _, _ => rfl
  | a :: b :: r, q, _, hq => by
    have ih := joinL_app S (b :: r) q (fun z => nomatch z) hq
    show a ++ (S ++ joinL S ((b :: r) ++ q)) = (a ++ (S ++ joinL S (b :: r))) ++ (S ++ joinL S q)
    rw [ih, List.append_assoc, List.append_assoc]
theorem tl_joinT (ws : List Str) : tl (Txt.join " " ws) = joinL [32] (ws.map tl) := by
  rw [TL.join_eq, tl_join]
  rfl
/-- the words of a sum, of a line -/
def sumWords (ps : List (Str × Int)) : List Str := if wordsW ps = [] then ["0"] else wordsW ps
theorem sumW_join (ps : List (Str × Int)) : sumW ps = Txt.join " " (sumWords ps) := by
  unfold sumW sumWords
  split
  · exact TL.ext_tl (by rw [tl_joinT]; rfl)
  · rfl
theorem sumWords_ne (ps : List (Str × Int)) : sumWords ps ≠ [] := by
  unfold sumWords
  split
  · simp
  · assumption
end KW
namespace KW
open PySem PySem.Spec PyProof.Rows L2 GL RZ TL
def numT (n : Nat) : Str := Str.ofString (toString ((n : Nat) : Int))
theorem tl_numT (n : Nat) : tl (numT n) = numL n := tl_num n
theorem numL_head : ∀ n : Nat, 1 ≤ n → ∃ c r, numL n = c :: r ∧ c ≠ 48 := fun n => by
  induction n using Nat.strongRecOn with
  | _ n ih =>
    intro h
    by_cases h9 : n < 10
    · rw [numL_lt h9]
      exact ⟨48 + n, [], rfl, by omega⟩
    · rw [numL_step (by omega)]
      obtain ⟨c, r, e, hc⟩ := ih (n / 10) (by omega) (by omega)
      exact ⟨c, r ++ [48 + n % 10], by rw [e]; rfl, hc⟩
theorem digB_of {c : Nat} (h : 48 ≤ c ∧ c ≤ 57) : digB c = true := by
  have e : DIGITS.cps.toList = [48, 49, 50, 51, 52, 53, 54, 55, 56, 57] := by decide +kernel
  unfold digB
  rw [e]
  refine decide_eq_true ?_
  obtain ⟨h1, h2⟩ := h
  have : c = 48 ∨ c = 49 ∨ c = 50 ∨ c = 51 ∨ c = 52 ∨ c = 53 ∨ c = 54 ∨ c = 55 ∨ c = 56 ∨ c = 57 := by omega
  rcases this with rfl | rfl | rfl | rfl | rfl | rfl | rfl | rfl | rfl | rfl <;> simp
theorem natB_num {n : Nat} (h : n < 10 ^ 60) : natB (numT n) = true := by
  have t : (numT n).cps.toList = numL n := tl_numT n
  unfold natB
  rw [t]
  have l1 : 1 ≤ (numL n).length := by cases e : numL n with
    | nil => exact absurd e (numL_ne n)
    | cons _ _ => simp
  have l2 := numL_len (k := 60) (by decide) h
  rw [decide_eq_true (⟨l1, l2⟩ : 1 ≤ (numL n).length ∧ (numL n).length ≤ 60), List.all_eq_true.mpr fun c hc => digB_of (numL_digits n c hc), Bool.and_self, Bool.true_and]
  by_cases h0 : n = 0
  · subst h0
    rw [decide_eq_true (show numT 0 = "0" from TL.ext_tl (by rw [tl_numT]; decide +kernel))]; rfl
  · obtain ⟨c, r, e, hc⟩ := numL_head n (by omega)
    rw [e]
    rw [decide_eq_true (show (c :: r)[0]? ≠ some 48 from fun z => hc (Option.some.inj z)), Bool.or_true]
theorem valN_num (n : Nat) : valN (numT n) = n := by
  show ((NumText.digitsVal (numT n).cps.toList : Nat) : Int) = n
  rw [show (numT n).cps.toList = numL n from tl_numT n, numL_val]
theorem int_text (i : Int) : Str.ofString (toString i) = if i < 0 then "-" ++ numT i.natAbs else numT i.natAbs := by
  by_cases h : i < 0
  · rw [if_pos h]
    obtain ⟨n, rfl⟩ : ∃ n : Nat, i = -((n + 1 : Nat) : Int) := ⟨i.natAbs - 1, by omega⟩
    have e : toString (-((n + 1 : Nat) : Int)) = "-" ++ toString (((n + 1 : Nat)) : Int) := rfl
    rw [e]
    refine TL.ext_tl ?_
    rw [tl_append, Int.natAbs_neg, Int.natAbs_natCast]
    show (Str.ofString ("-" ++ toString (((n + 1 : Nat)) : Int))).cps.toList = tl ("-" : Str) ++ (Str.ofString (toString (((n + 1 : Nat)) : Int))).cps.toList
    rw [PyProof.Rows.signs_ofString, PyProof.Rows.signs_ofString, String.toList_append, List.map_append]
    rfl
  · rw [if_neg h]
    unfold numT
    rw [show ((i.natAbs : Nat) : Int) = i by omega]
theorem minus_starts {z : Str} {cs : List Nat} (t : z.cps.toList = 45 :: cs) : Txt.startswith z "-" = true := by
  unfold Txt.startswith
  rw [Bool.and_eq_true]
  have l1 : ("-" : Str).length = 1 := by decide +kernel
  have zl : z.length = z.cps.toList.length := (Array.length_toList ..).symm
  constructor
  · rw [l1, zl, t]
    exact decide_eq_true (by rw [List.length_cons]; omega)
  · show (z.cps.extract 0 (0 + ("-" : Str).length) == ("-" : Str).cps) = true
    rw [beq_iff_eq]
    refine Array.toList_inj.mp ?_
    rw [Array.toList_extract, l1, t, show ("-" : Str).cps.toList = [45] by decide +kernel]
    rfl
theorem no_blank (i : Int) : (32 : Nat) ∉ tl (Str.ofString (toString i)) := fun h => (PyProof.Rows.intText_free_32 i).mp h
end KW
namespace KW
open PySem PySem.Spec PyProof.Rows L2 GL RZ TL
def sg (f : Int) : Str := if f < 0 then "-" else "+"
def numW (f : Int) : List Str := if 1 < ab f then [Str.ofString (toString (ab f))] else []
def piece (p : Str × Int) : List Str := sg p.2 :: (numW p.2 ++ [p.1])
def real (ps : List (Str × Int)) : List (Str × Int) := ps.filter fun p => decide (p.2 ≠ 0)
theorem step_zero {acc : List Str} {n : Str} : stepW acc (n, 0) = acc := by
  unfold stepW w3 w2 w1
  have e : ab 0 = 0 := by decide
  simp [e]
theorem step_on {acc : List Str} {n : Str} {f : Int} (h : acc ≠ []) (hf : f ≠ 0) : stepW acc (n, f) = acc ++ piece (n, f) := by
  unfold stepW w3 w2 w1 piece numW sg
  by_cases hn : f < 0
  · by_cases ha : 1 < ab f
    · simp [hn, ha, hf]
    · simp [hn, ha, hf]
  · have hp : 0 < f := by omega
    by_cases ha : 1 < ab f
    · simp [hn, ha, hf, hp, h]
    · simp [hn, ha, hf, hp, h]
theorem step_first {n : Str} {f : Int} (hf : f ≠ 0) : stepW [] (n, f) = if f < 0 then piece (n, f) else (piece (n, f)).tail := by
  unfold stepW w3 w2 w1 piece numW sg
  by_cases hn : f < 0
  · by_cases ha : 1 < ab f
    · simp [hn, ha, hf]
    · simp [hn, ha, hf]
  · have hp : 0 < f := by omega
    by_cases ha : 1 < ab f
    · simp [hn, ha, hf, hp]
    · simp [hn, ha, hf, hp]
theorem step_first_ne {n : Str} {f : Int} (hf : f ≠ 0) : stepW [] (n, f) ≠ [] := by
  rw [step_first hf]
  split
  · exact fun z => nomatch z
  · unfold piece
    simp
theorem words_on : ∀ (ps : List (Str × Int)) (acc : List Str), acc ≠ [] → ps.foldl stepW acc = acc ++ (real ps).flatMap piece
  | [], acc, _ => by simp [real]
  | (n, f) :: r, acc, h => by
    by_cases hf : f = 0
    · subst hf
      show r.foldl stepW (stepW acc (n, 0)) = _
      rw [step_zero, words_on r acc h]
      simp [real]
    · show r.foldl stepW (stepW acc (n, f)) = _
      rw [step_on h hf, words_on r _ (by simp [piece])]
      simp [real, hf]
theorem signed_words : ∀ ps : List (Str × Int), (∀ p ∈ ps, p.1 ≠ "-") → real ps ≠ [] → wordsW ps ≠ [] ∧ signedOf (wordsW ps) = (real ps).flatMap piece
  | [], _, h => absurd rfl h
  | (n, f) :: r, hn, h => by
    by_cases hf : f = 0
    · subst hf
      have e : wordsW ((n, 0) :: r) = wordsW r := by
        show r.foldl stepW (stepW [] (n, 0)) = _
        rw [step_zero]; rfl
      have er : real ((n, 0) :: r) = real r := by simp [real]
      rw [e, er]
      rw [er] at h
      exact signed_words r (fun p hp => hn p (List.mem_cons_of_mem _ hp)) h
    · have e : wordsW ((n, f) :: r) = stepW [] (n, f) ++ (real r).flatMap piece := by
        show r.foldl stepW (stepW [] (n, f)) = _
        exact words_on r _ (step_first_ne hf)
      have er : real ((n, f) :: r) = (n, f) :: real r := by simp [real, hf]
      rw [e, er]
      refine ⟨fun z => step_first_ne hf (List.append_eq_nil_iff.mp z).1, ?_⟩
      rw [step_first hf, List.flatMap_cons]
      by_cases hneg : f < 0
      · rw [if_pos hneg]
        unfold signedOf piece sg
        rw [if_pos hneg]
        rfl
      · rw [if_neg hneg]
        have es : piece (n, f) = ("+" : Str) :: (piece (n, f)).tail := by
          unfold piece sg
          rw [if_neg hneg]; rfl
        have hd : ((piece (n, f)).tail ++ (real r).flatMap piece).take 1 ≠ [("-" : Str)] := by
          unfold piece numW
          by_cases ha : 1 < ab f
          · rw [if_pos ha]
            intro z
            have z : Str.ofString (toString (ab f)) = "-" := (List.cons.inj z).1
            have t := congrArg tl z
            have h0 : ¬ ab f < 0 := by omega
            rw [int_text, if_neg h0, tl_numT] at t
            have := numL_digits (ab f).natAbs 45 (by rw [t]; decide +kernel)
            omega
          · rw [if_neg ha]
            intro z
            exact hn (n, f) List.mem_cons_self (List.cons.inj z).1
        unfold signedOf
        rw [if_neg hd]
        conv => rhs; rw [es]
        rfl
theorem num_sg (n : Nat) : isSg (numT n) = false := by
  have d : ∀ c, tl (numT n) = [c] → 48 ≤ c := fun c e => by
    rw [tl_numT] at e
    exact (numL_digits n c (by rw [e]; exact List.mem_cons_self)).1
  unfold isSg
  rw [decide_eq_false (show ¬ numT n = "+" from fun z => absurd (d 43 (by rw [z]; decide +kernel)) (by decide)), decide_eq_false (show ¬ numT n = "-" from fun z => absurd (d 45 (by rw [z]; decide +kernel)) (by decide))]
  rfl
theorem numT_ab {f : Int} : Str.ofString (toString (ab f)) = numT f.natAbs := by
  have h0 : ¬ ab f < 0 := by unfold ab; split <;> omega
  rw [int_text, if_neg h0]
  congr 1
  unfold ab; split <;> omega
theorem sg_is (f : Int) : isSg (sg f) = true := by unfold sg; split <;> decide +kernel
theorem step_sg {P : List (List Str)} {w : Str} (h : isSg w = true) : stepP P w = P ++ [[w]] := if_pos h
theorem step_no {P : List (List Str)} {p : List Str} {w : Str} (h : isSg w = false) : stepP (P ++ [p]) w = P ++ [p ++ [w]] := by
  unfold stepP
  rw [if_neg (by rw [h]; decide), List.dropLast_concat, List.getLastD_concat]
theorem piece_parts {P : List (List Str)} {p : Str × Int} (h : isSg p.1 = false) : (piece p).foldl stepP P = P ++ [piece p] := by
  unfold piece numW
  by_cases ha : 1 < ab p.2
  · rw [if_pos ha]
    show stepP (stepP (stepP P (sg p.2)) _) p.1 = _
    rw [step_sg (sg_is _), step_no (by rw [numT_ab]; exact num_sg _), step_no h]
    rfl
  · rw [if_neg ha]
    show stepP (stepP P (sg p.2)) p.1 = _
    rw [step_sg (sg_is _), step_no h]
    rfl
theorem pieces_parts : ∀ (qs : List (Str × Int)) (P : List (List Str)), (∀ p ∈ qs, isSg p.1 = false) → (qs.flatMap piece).foldl stepP P = P ++ qs.map piece
  | [], P, _ => by simp
  | p :: r, P, h => by
    rw [List.flatMap_cons, List.foldl_append, piece_parts (h p List.mem_cons_self), pieces_parts r _ fun q hq => h q (List.mem_cons_of_mem _ hq)]
    simp
theorem name_sg {z : Str} (h : nameB z = true) : isSg z = false := by
  unfold isSg
  by_cases h1 : z = "+"
  · subst h1; revert h; decide +kernel
  · by_cases h2 : z = "-"
    · subst h2; revert h; decide +kernel
    · rw [decide_eq_false h1, decide_eq_false h2]; rfl
theorem term_piece {p : Str × Int} (hn : nameB p.1 = true) (hf : p.2 ≠ 0) (hb : p.2.natAbs < 10 ^ 60) : termB (piece p) = some (p.2, p.1) := by
  have sv : sgn (sg p.2) = if p.2 < 0 then -1 else 1 := by
    unfold sg sgn
    by_cases h : p.2 < 0
    · rw [if_pos h, if_pos h]; rfl
    · rw [if_neg h, if_neg h]
      exact if_neg (by decide +kernel)
  unfold piece numW
  by_cases ha : 1 < ab p.2
  · rw [if_pos ha]
    show termB [sg p.2, Str.ofString (toString (ab p.2)), p.1] = _
    rw [term3, numT_ab, if_pos ⟨natB_num hb, hn⟩, valN_num, sv]
    congr 1
    refine Prod.ext ?_ rfl
    show (if p.2 < 0 then (-1 : Int) else 1) * ((p.2.natAbs : Nat) : Int) = p.2
    split <;> omega
  · rw [if_neg ha]
    show termB [sg p.2, p.1] = _
    rw [term2, if_pos hn, sv]
    congr 1
    refine Prod.ext ?_ rfl
    show (if p.2 < 0 then (-1 : Int) else 1) = p.2
    unfold ab at ha
    by_cases h : p.2 < 0
    · rw [if_pos h] at ha ⊢; omega
    · rw [if_neg h] at ha ⊢; omega
/-- what is written of a sum is read back -/
theorem terms_words {ps : List (Str × Int)} (hn : ∀ p ∈ ps, nameB p.1 = true) (hb : ∀ p ∈ ps, p.2.natAbs < 10 ^ 60) (hr : real ps ≠ []) : termsOf (sumWords ps) = (real ps).map fun p => some (p.2, p.1) := by
  have hs : ∀ p ∈ ps, isSg p.1 = false := fun p hp => name_sg (hn p hp)
  obtain ⟨w1, w2⟩ := signed_words ps (fun p hp z => by have := hs p hp; rw [z] at this; revert this; decide +kernel) hr
  unfold sumWords
  rw [if_neg w1]
  unfold termsOf partsOf
  rw [w2, pieces_parts (real ps) [] fun p hp => hs p (List.mem_filter.mp hp).1, List.nil_append, List.map_map]
  refine List.map_congr_left fun p hp => ?_
  obtain ⟨h1, h2⟩ := List.mem_filter.mp hp
  exact term_piece (hn p h1) (of_decide_eq_true h2) (hb p h1)
theorem terms_zero {ps : List (Str × Int)} (hr : real ps = []) : termsOf (sumWords ps) = [some ((0 : Int), ("" : Str))] := by
  have e : wordsW ps = [] := by
    have : ∀ qs : List (Str × Int), real qs = [] → qs.foldl stepW [] = [] := fun qs => by
      induction qs with
      | nil => intro _; rfl
      | cons p r ih =>
        intro h
        obtain ⟨n, f⟩ := p
        by_cases hf : f = 0
        · subst hf
          show r.foldl stepW (stepW [] (n, 0)) = []
          rw [step_zero]
          exact ih (by simpa [real] using h)
        · simp [real, hf] at h
    exact this ps hr
  unfold sumWords
  rw [if_pos e]
  decide +kernel
end KW
namespace KW
open PySem PySem.Spec PyProof.Rows L2 GL RZ TL
section
variable {P : Program} {w : World} {K : PySem.W.Frag} {mg : Str → Option Value} {base : Heap}
abbrev s_draw : Stmt := topS 24
theorem sc_draw : FnScope ["_law_deck_here", "_law_many", "_law_cell", "_law_mixed"] ["_law_deck_here", "_law_many"] (defScope s_draw) := ⟨rfl, rfl, rfl, by decide +kernel, rfl, by decide +kernel, by decide +kernel⟩
theorem ok_draw {f : Addr} {fd : FuncData} (F : Fun K "_law_draw" "_law_draw" s_draw f fd) (gl : mg "_law_draw" = some (.ref f)) (T : Bl mg) : DefG P w K mg base 1 "_law_draw" ["_law_deck_here", "_law_many"] spDraw := by
  refine def_mk F gl (F.binds fun _ _ _ _ _ _ us hl => match us, hl with | [_, _], _ => rfl) (okG F sc_draw (fun vs H Q E h => ?_) fun cdv A outer s H vs Q E hr hc h => ?_)
  · obtain ⟨d, g, n, rfl, _⟩ := h
    rfl
  · obtain ⟨d, g, n, rfl, D, n0, nB, q⟩ := h
    have nd := sc_draw.nd
    have hu := hu_of hr
    have hu64 := hr.units
    obtain ⟨m, L, hd, hg, hL, m0, mB⟩ := id D.ex
    have dg := D.ne
    refine ⟨_, (pss_cons (ps_if (pt_cmpR (op_neD hu64) (pe_dget hu (pv 0) pe_str (fun _ _ => rfl)) (pe_lst pa_nil) (nomark _))
        (pss_cons (ps_set (i := 2) nd rfl (by first | exact Or.inl rfl | exact Or.inr rfl) (pe_callTy call_int1 rfl T.int boot_int (pa_cons (pe_bm0 PySem.F.plainAttrs_list PySem.F.slot_list_pop PySem.F.type_list_pop mt_pop (pe_dget hu (pv 0) pe_str (fun _ _ => rfl))) pa_nil)))
        (pss_cons (ps_if (pt_cmpR op_ge (pv 2) (pv 1) (nomark _))
          (pss_one (ps_expr (pe_bm PySem.F.plainAttrs_list PySem.F.slot_list_append PySem.F.type_list_append mt_append (pe_dget hu (pv 0) pe_str (fun _ _ => rfl)) (pa_cons (pe_op op_fdivW (pv 2) (pv 1)) pa_nil))))
          pss_nil)
        (pss_one (ps_ret (pe_op op_mod (pv 2) (pv 1))))))
        pss_nil)
      (pss_cons (ps_set (i := 3) nd rfl (by first | exact Or.inl rfl | exact Or.inr rfl) (pe_op op_mod (pe_callTy call_int1 rfl T.int boot_int (pa_cons (pe_op op_add (pe_op op_mul (pe_callTy call_int1 rfl T.int boot_int (pa_cons (pe_dget hu (pv 0) pe_str (fun _ _ => rfl)) pa_nil)) pe_int) pe_int) pa_nil)) pe_int))
      (pss_cons (ps_dput hu (pv 0) pe_str (pv 3) rfl)
      (pss_cons (ps_set (i := 3) nd rfl (by first | exact Or.inl rfl | exact Or.inr rfl) (pe_op op_mod (pe_callTy call_int1 rfl T.int boot_int (pa_cons (pe_op op_add (pe_op op_mul (pv 3) (pv 3)) (pe_op op_mul pe_int (pv 3))) pa_nil)) pe_int))
      (pss_one (ps_ret (pe_op op_mod (pe_op op_fdivW (pv 3) pe_int) (pv 1)))))))), ?_⟩
    -- deck["great"] != []
    refine ⟨_, rfl, d, _, rfl, deck_great g m ▸ DGet.k (k := Sum.inr "great") hd, Nat.zero_le _, fun o no => ?_⟩
    have god : o ≠ g := (ne_of_none hg no).symm
    have dod : o ≠ d := (ne_of_none hd no).symm
    have sm : Same H (upd H o (.lst [])) := Same.new no
    refine ⟨_, _, .lst (tofL (sm _ _ hg)) (dpa_ints L), .lst (tofL upd_same) .nil, shaped_ints L, shaped_ints [], _, rfl, ?_⟩
    rw [eqv_ints_nil]
    refine ite2 (fun e => ?_) (fun e => ?_)
    · -- cell = int(deck["great"].pop())
      have hne : L ≠ [] := fun z => by rw [z] at e; exact absurd e (by decide)
      obtain ⟨L0, c, rfl⟩ := snoc_of hne
      rw [List.length_append, List.length_singleton] at hL
      have g1 := sm _ _ hg
      refine ⟨_, rfl, d, _, rfl, deck_great g m ▸ DGet.k (k := Sum.inr "great") (sm _ _ hd), ty_l (tofL g1), g, _, _, rfl, rfl, g1, pop_at L0 c, .inl ⟨c, rfl, ?_⟩⟩
      rw [pop_left]
      refine ⟨_, rfl, _, rfl, c, n, rfl, rfl, _, rfl, ?_⟩
      have h1 : upd (upd H o (.lst [])) g (.lst (L0.map V.int)) d = some (.dK (deckD g m)) := by rw [upd_ne dg]; exact sm _ _ hd
      have kp : ∀ x : HO, Mv d g H (upd (upd H o (.lst [])) g x) := fun x => ⟨fun b u hb _ n2 => by rw [upd_ne n2]; exact sm _ _ hb⟩
      refine ite2 (fun _ => ?_) (fun _ => ?_)
      · refine ⟨_, rfl, d, _, rfl, deck_great g m ▸ DGet.k (k := Sum.inr "great") h1, ty_l (tofL upd_same), _, rfl, _, rfl, c, n, rfl, rfl, wide_div (b := 250) n0 (by omega) (by decide) (by decide), g, _, _, rfl, rfl, upd_same, ?_, ?_⟩
        · rw [List.length_map]; exact smallt (by omega)
        · refine ⟨_, rfl, _, rfl, c, n, rfl, rfl, n0, ?_⟩
          rw [upd_upd]
          refine q _ _ (Int.emod_nonneg _ (by omega)) (Int.emod_lt_of_pos _ n0) ⟨m, L0 ++ [c / n], by rw [upd_ne dg]; exact sm _ _ hd, ?_, ?_, m0, mB⟩ (kp _)
          · rw [upd_same, List.map_append, List.map_singleton]
          · rw [List.length_append, List.length_singleton]; exact hL
      · refine ⟨_, rfl, _, rfl, c, n, rfl, rfl, n0, ?_⟩
        exact q _ _ (Int.emod_nonneg _ (by omega)) (Int.emod_lt_of_pos _ n0) ⟨m, L0, h1, upd_same, by omega, m0, mB⟩ (kp _)
    · -- mixed = ..
      refine ⟨_, rfl, d, _, rfl, deck_mixed g m ▸ DGet.k (k := Sum.inr "mixed") (sm _ _ hd), .inl ⟨m, rfl, m, 69621, rfl, rfl, mul_small m0 (by omega), _, 173, rfl, rfl, .inl ⟨_, rfl, _, 2147483587, rfl, rfl, (show (0 : Int) < 2147483587 by decide), ?_⟩⟩⟩
      have a0 : 0 ≤ (m * 69621 + 173) % 2147483587 := Int.emod_nonneg _ (by decide)
      have a1 : (m * 69621 + 173) % 2147483587 < 2147483587 := Int.emod_lt_of_pos _ (by decide)
      refine ⟨_, rfl, _, rfl, d, _, rfl, DPut.k (k := Sum.inr "mixed") (sm _ _ hd) (by show 2 < sizeLine; exact smallt (by omega)), ?_⟩
      rw [deck_put]
      refine ⟨_, rfl, _, rfl, _, _, rfl, rfl, mul_small a0 (by omega), _, rfl, 39373, _, rfl, rfl, mul_small (by decide) (by decide), _, _, rfl, rfl, .inl ⟨_, rfl, _, 2147483579, rfl, rfl, (show (0 : Int) < 2147483579 by decide), ?_⟩⟩
      refine ⟨_, rfl, _, 64, rfl, rfl, wide_div (b := 8) (by decide) (by decide) (by decide) (by decide), _, rfl, _, n, rfl, rfl, n0, ?_⟩
      exact q _ _ (Int.emod_nonneg _ (by omega)) (Int.emod_lt_of_pos _ n0) ⟨_, L, upd_same, by rw [upd_ne dg.symm]; exact sm _ _ hg, hL, a0, a1⟩ ⟨fun b u hb n1 _ => by rw [upd_ne n1]; exact sm _ _ hb⟩
end
theorem deck_merge (g : Addr) (m : Int) : mergeK [] (deckD g m) = deckD g m := by
  have e1 : putK ([] : List (Key × V)) (Sum.inr "great" : Key) (V.ref g) = [((Sum.inr "great" : Key), V.ref g)] := rfl
  have e2 : putK [((Sum.inr "great" : Key), V.ref g)] (Sum.inr "mixed" : Key) (V.int m) = deckD g m := by
    unfold putK
    simp only [List.any_cons, List.any_nil, decide_eq_false gm, Bool.or_false]
    rfl
  show putK (putK ([] : List (Key × V)) (Sum.inr "great" : Key) (V.ref g)) (Sum.inr "mixed" : Key) (V.int m) = _
  rw [e1, e2]
def spDeck (K : PySem.W.Frag) : Sp := fun vs H Q _ => ∃ (a : Addr) (ns : List Int), vs = [.ref a] ∧ SqL K H a (ns.map V.int) ∧ ns.length ≤ 63 ∧
  ∀ (d g : Addr) (H' : Hp), Same H H' → H d = none → H g = none → Deck H' d g → Q (.ref d) H'
theorem cut_map (ns : List Int) (lo hi : Option Int) : cutV (ns.map V.int) lo hi = ((ns.drop (HT.sIx ns.length 0 lo)).take (HT.sIx ns.length ns.length hi - HT.sIx ns.length 0 lo)).map V.int := by
  unfold cutV
  rw [List.length_map, List.map_take, List.map_drop]
theorem cut_ints (ns : List Int) (lo hi : Option Int) : ∃ ms : List Int, cutV (ns.map V.int) lo hi = ms.map V.int ∧ ms.length ≤ ns.length := by
  refine ⟨_, cut_map ns lo hi, ?_⟩
  rw [List.length_take, List.length_drop]
  omega
theorem ints_at {ns : List Int} {i : Nat} {x : V} (h : (ns.map V.int)[i]? = some x) : ∃ n, x = .int n ∧ i < ns.length := by
  rw [List.getElem?_map] at h
  cases e : ns[i]? with
  | none => rw [e] at h; cases h
  | some n =>
    rw [e] at h
    exact ⟨n, (Option.some.inj h).symm, (List.getElem?_eq_some_iff.mp e).1⟩
section
variable {P : Program} {w : World} {K : PySem.W.Frag} {mg : Str → Option Value} {base : Heap}
abbrev s_deck : Stmt := topS 23
theorem sc_deck : FnScope ["_law_script", "_law_mixed", "_law_cell"] ["_law_script"] (defScope s_deck) := ⟨rfl, rfl, rfl, by decide +kernel, rfl, by decide +kernel, by decide +kernel⟩
theorem ok_deck {f : Addr} {fd : FuncData} (F : Fun K "_law_deck" "_law_deck" s_deck f fd) (gl : mg "_law_deck" = some (.ref f)) (T : Bl mg) : DefG P w K mg base 1 "_law_deck" ["_law_script"] (spDeck K) := by
  refine def_mk F gl (F.binds fun _ _ _ _ _ _ us hl => match us, hl with | [_], _ => rfl) (okG F sc_deck (fun vs H Q E h => ?_) fun cdv A outer s H vs Q E hr hc h => ?_)
  · obtain ⟨a, ns, rfl, _⟩ := h
    rfl
  · obtain ⟨a, ns, rfl, hS, hlen, q⟩ := h
    have nd := sc_deck.nd
    refine ⟨_, (pss_cons (ps_set (i := 1) nd rfl (by first | exact Or.inl rfl | exact Or.inr rfl) pe_int)
      (pss_cons (ps_for PassesOwn.never rfl (pi_list (pe_slice sl_list (pv 0) po_none (po_some pe_int))) (pg_name (i := 2) nd rfl (by first | exact Or.inl rfl | exact Or.inr rfl))
        (pss_one (ps_set (i := 1) nd rfl (by first | exact Or.inl rfl | exact Or.inr rfl) (pe_op op_mod (pe_callTy call_int1 rfl T.int boot_int (pa_cons (pe_op op_add (pe_op op_add (pe_op op_mul (pv 1) pe_int) (pe_op op_mod (pe_callTy call_int1 rfl T.int boot_int (pa_cons (pv 2) pa_nil)) pe_int)) pe_int) pa_nil)) pe_int))))
      (pss_one (ps_ret (pe_disp (pps_cons pe_str (pe_revL (pe_lc (own := [("_law_cell", 2)]) (g := gName 2) rfl nd (pi_list (pe_slice sl_list (pv 0) po_none (po_some pe_int))) (blkOk_by (own := [("_law_cell", 2)]) (N := ["_law_script", "_law_mixed", "_law_cell"]) (sc := defScope s_deck) (by decide +kernel)) (fun _ _ _ _ _ => pg_name (i := 2) nd rfl (by first | exact Or.inl rfl | exact Or.inr rfl)) (fun _ _ _ _ _ => pts_one (pt_cmpR op_ge (pv 2) (pe_op op_pow pe_int pe_int) (nomark _))) (fun _ _ _ _ _ => pv 2)))
        (pps_cons pe_str (pv 1) pps_nil)) rfl rfl (by decide) (by decide)))))), ?_⟩
    -- for cell in script[:63]
    refine ⟨_, rfl, 63, rfl, a, _, rfl, hS, fun c nc => ?_⟩
    obtain ⟨ms, em, lm⟩ := cut_ints ns none (some 63)
    rw [em]
    have s1 : Same H (upd H c (.lst (ms.map V.int))) := Same.new nc
    refine ⟨c, rfl, ⟨_, tofL upd_same⟩, for_list (K := K) (a := c) (xs := ms.map V.int) (fun i σ H2 => ∃ (m : Int) (v : Option V), σ = [some (.ref a), some (.int m), v] ∧ H2 = upd H c (.lst (ms.map V.int)) ∧ 0 ≤ m ∧ m < 2147483587)
      ⟨_, none, rfl, rfl, by decide, by decide⟩ (fun i σ H2 _ ⟨_, _, _, e, _⟩ => by rw [e]; exact tofL upd_same) ?_ ?_⟩
    · rintro i y σ H2 hi ⟨m, v, rfl, rfl, m0, m1⟩
      obtain ⟨x, rfl, _⟩ := ints_at hi
      have b0 := Int.emod_nonneg x (show (2147483629 : Int) ≠ 0 by decide)
      refine ⟨_, rfl, m, 48271, rfl, rfl, mul_small m0 (by omega), _, rfl, .inl ⟨x, rfl, x, 2147483629, rfl, rfl, (show (0 : Int) < 2147483629 by decide), _, _, rfl, rfl, _, _, rfl, rfl, .inl ⟨_, rfl, _, 2147483587, rfl, rfl, (show (0 : Int) < 2147483587 by decide), _, _, rfl, rfl, Int.emod_nonneg _ (by decide), Int.emod_lt_of_pos _ (by decide)⟩⟩⟩
    · rintro σ H2 ⟨m, v, rfl, rfl, m0, m1⟩
      intro p np
      have npc : c ≠ p := ne_of_none upd_same np
      have s2 : Same H (upd (upd H c (.lst (ms.map V.int))) p (.dK [])) := s1.trans (Same.new np)
      refine ⟨_, rfl, 63, rfl, a, _, rfl, s2.seq hS, fun c2 nc2 => ?_⟩
      rw [em]
      have s3 := s2.trans (Same.new (o := .lst (ms.map V.int)) nc2)
      have ncp : p ≠ c2 := ne_of_none upd_same nc2
      refine ⟨c2, rfl, ⟨_, tofL upd_same⟩, fun D nD => ?_⟩
      have ncD : c2 ≠ D := ne_of_none upd_same nD
      have npD : p ≠ D := ne_of_none (by rw [upd_ne ncp]; exact upd_same) nD
      refine lc_list (K := K) (a := c2) (xs := ms.map V.int) (fun i H2 => ∃ L : List Int, Same H H2 ∧ H2 D = some (.lst (L.map V.int)) ∧ H2 c2 = some (.lst (ms.map V.int)) ∧ H2 p = some (.dK []) ∧ L.length ≤ i)
        ⟨[], s3.trans (Same.new nD), upd_same, by rw [upd_ne ncD]; exact upd_same, by rw [upd_ne npD, upd_ne ncp]; exact upd_same, Nat.le_refl _⟩
        (fun i H2 _ ⟨_, _, _, e, _⟩ => tofL e) ?_ ?_
      · rintro i y H2 hi ⟨L, sm, hD, hc2, hp, hL⟩
        obtain ⟨x, rfl, hil⟩ := ints_at hi
        refine ⟨rfl, _, rfl, 10, 18, rfl, rfl, ⟨by decide, by decide, by decide⟩, _, _, rfl, rfl, _, rfl, ?_⟩
        refine ite2 (fun _ => ?_) (fun _ => ?_)
        · refine ⟨_, rfl, _, hD, by rw [List.length_map]; exact smallt (by omega), L ++ [x], ?_, ?_, ?_, ?_, ?_⟩
          · intro b u hb
            rw [upd_ne (ne_of_none hb (s3.free nD))]
            exact sm _ _ hb
          · rw [upd_same, List.map_append]; rfl
          · rw [upd_ne ncD]; exact hc2
          · rw [upd_ne npD]; exact hp
          · rw [List.length_append]; exact Nat.succ_le_succ hL
        · exact ⟨L, sm, hD, hc2, hp, by omega⟩
      · rintro H2 ⟨L, sm, hD, hc2, hp, hL⟩
        refine ⟨D, _, rfl, tofL hD, fun g ng => ⟨_, rfl, ?_, deckD g m, rfl, (show 2 ≤ 15 by decide), ?_⟩⟩
        · rw [upd_ne (ne_of_none hp ng)]; exact hp
        · rw [deck_merge]
          have npg : p ≠ g := ne_of_none hp ng
          refine q p g _ (fun b u hb => ?_) (s1.free np) (sm.free ng) ⟨m, L.reverse, upd_same, ?_, ?_, m0, m1⟩
          · rw [upd_ne (ne_of_none hb (s1.free np)), upd_ne (ne_of_none hb (sm.free ng))]
            exact sm _ _ hb
          · rw [upd_ne npg.symm, upd_same, List.map_reverse]
          · rw [List.length_reverse]
            rw [List.length_map] at hL
            omega
end
section
variable {P : Program} {w : World} {K : PySem.W.Frag} {mg : Str → Option Value} {base : Heap}
abbrev s_pick : Stmt := topS 25
theorem sc_pick : FnScope ["_law_deck_here", "_law_some"] ["_law_deck_here", "_law_some"] (defScope s_pick) := ⟨rfl, rfl, rfl, by decide +kernel, rfl, by decide +kernel, by decide +kernel⟩
theorem ok_pickL {f : Addr} {fd : FuncData} (F : Fun K "_law_pick" "_law_pick" s_pick f fd) (gl : mg "_law_pick" = some (.ref f)) (T : Bl mg) (D_draw : DefG P w K mg base 1 "_law_draw" ["_law_deck_here", "_law_many"] spDraw) :
    DefG P w K mg base 2 "_law_pick" ["_law_deck_here", "_law_some"] spPickL := by
  refine def_mk F gl (F.binds fun _ _ _ _ _ _ us hl => match us, hl with | [_, _], _ => rfl) (okG F sc_pick (fun vs H Q E h => ?_) fun cdv A outer s H vs Q E hr hc h => ?_)
  · obtain ⟨d, g, a, xs, rfl, _⟩ := h
    rfl
  · obtain ⟨d, g, a, xs, rfl, D, ha, nag, hne, hl, q⟩ := h
    have nd := sc_pick.nd
    refine ⟨_, (pss_one (ps_ret (pe_ix ix_list (pv 1) (pe_def D_draw (hr.mono (by decide)) hc rfl (pa_cons (pv 0) (pa_cons (pe_callB call_len_seq rfl T.len boot_len (pa_cons (pv 1) pa_nil)) pa_nil))) (fun _ _ => rfl)))), ?_⟩
    have nad : a ≠ d ∧ a ≠ g := ⟨by obtain ⟨m, L, h1, _⟩ := D.ex; exact (ne_of h1 ha (fun z => nomatch z)).symm, nag⟩
    have h0 : 0 < xs.length := List.length_pos_iff.mpr hne
    refine ⟨_, rfl, _, rfl, _, rfl, a, xs, rfl, .inl (tofL ha), d, g, _, rfl, D, by omega, by omega, fun r H' r0 r1 D' M => ?_⟩
    obtain ⟨x, hx, e⟩ := at_in (xs := xs) r0 r1
    exact ⟨a, xs, r, x, rfl, rfl, tofL (M.at ha nad), e, q x H' hx D' M⟩
theorem ok_pickS {f : Addr} {fd : FuncData} (F : Fun K "_law_pick" "_law_pick" s_pick f fd) (gl : mg "_law_pick" = some (.ref f)) (T : Bl mg) (D_draw : DefG P w K mg base 1 "_law_draw" ["_law_deck_here", "_law_many"] spDraw) :
    DefG P w K mg base 2 "_law_pick" ["_law_deck_here", "_law_some"] spPickS := by
  refine def_mk F gl (F.binds fun _ _ _ _ _ _ us hl => match us, hl with | [_, _], _ => rfl) (okG F sc_pick (fun vs H Q E h => ?_) fun cdv A outer s H vs Q E hr hc h => ?_)
  · obtain ⟨d, g, z, rfl, _⟩ := h
    rfl
  · obtain ⟨d, g, z, rfl, D, hne, hl, q⟩ := h
    have nd := sc_pick.nd
    refine ⟨_, (pss_one (ps_ret (pe_ix ix_str (pv 1) (pe_def D_draw (hr.mono (by decide)) hc rfl (pa_cons (pv 0) (pa_cons (pe_callB call_len_str rfl T.len boot_len (pa_cons (pv 1) pa_nil)) pa_nil))) (fun _ _ => rfl)))), ?_⟩
    have h0 : 0 < z.cps.toList.length := List.length_pos_iff.mpr hne
    have e0 := str_len z
    refine ⟨_, rfl, _, rfl, _, rfl, z, rfl, small (by omega), d, g, _, rfl, D, by omega, by omega, fun r H' r0 r1 D' M => ?_⟩
    obtain ⟨x, hx, e⟩ := at_in (xs := z.cps.toList) r0 (by omega)
    exact ⟨z, r, x, rfl, rfl, small (by omega), e, q x H' hx D' M⟩
end
end KW
namespace KW
open PySem PySem.Spec PyProof.Rows L2 GL RZ TL KX
/-! ### names that are called -/
def S1 (c : Nat) : Str := ⟨#[c]⟩
abbrev alnum : List Nat := (LETTERS ++ DIGITS).cps.toList
def Wd (z : Str) : Prop := (1 ≤ z.cps.toList.length ∧ z.cps.toList.length ≤ 8) ∧ (∀ c, z.cps.toList[0]? = some c → c ∈ LETTERS.cps.toList) ∧ ∀ c ∈ z.cps.toList, c ∈ alnum
theorem wd_name {z : Str} (h : Wd z) (ht : z ∉ TAKEN) : nameB z = true := by
  obtain ⟨h1, h2, h3⟩ := h
  unfold nameB
  rw [decide_eq_true h1, decide_eq_false ht, Bool.true_and, Bool.not_false, Bool.true_and, Bool.and_eq_true]
  refine ⟨decide_eq_true ?_, List.all_eq_true.mpr fun c hc => decide_eq_true (h3 c hc)⟩
  have e : z.cps.toList[0]? = some z.cps.toList[0] := List.getElem?_eq_getElem (by omega)
  have := h2 _ e
  rwa [List.getD_eq_getElem?_getD, e]
theorem joinL_one : ∀ cs : List Nat, joinL [] (cs.map fun c => [c]) = cs
  | [] => rfl
  | [c] => rfl
  | c :: d :: r => by
    have ih := joinL_one (d :: r)
    show [c] ++ ([] ++ joinL [] ((d :: r).map fun c => [c])) = c :: d :: r
    rw [ih]; rfl
theorem tl_S1 (cs : List Nat) : (Txt.join "" (cs.map S1)).cps.toList = cs := by
  rw [tl_join0, List.map_map]
  exact joinL_one cs
theorem S1_len (cs : List Nat) : ((cs.map S1).map (·.length)).sum = cs.length := by
  induction cs with
  | nil => rfl
  | cons c r ih =>
    rw [List.map_cons, List.map_cons, List.sum_cons, ih, List.length_cons]
    show 1 + r.length = _
    omega
def Cs (cs : List Nat) : Prop := (1 ≤ cs.length ∧ cs.length ≤ 8) ∧ (∀ c, cs[0]? = some c → c ∈ LETTERS.cps.toList) ∧ ∀ c ∈ cs, c ∈ alnum
theorem let_alnum {c : Nat} (h : c ∈ LETTERS.cps.toList) : c ∈ alnum := by
  have e : alnum = LETTERS.cps.toList ++ DIGITS.cps.toList := Array.toList_append
  rw [e]
  exact List.mem_append_left _ h
theorem Cs.set {cs : List Nat} {i c : Nat} (h : Cs cs) (hc : c ∈ LETTERS.cps.toList) : Cs (cs.set i c) := by
  obtain ⟨h1, h2, h3⟩ := h
  refine ⟨by rw [List.length_set]; exact h1, fun d hd => ?_, fun d hd => ?_⟩
  · rw [List.getElem?_set] at hd
    by_cases e : i = 0
    · subst e
      rw [if_pos rfl, if_pos (by omega)] at hd
      cases hd; exact hc
    · rw [if_neg e] at hd
      exact h2 d hd
  · rcases List.mem_or_eq_of_mem_set hd with hd | rfl
    · exact h3 d hd
    · exact let_alnum hc
theorem Cs.wd {cs : List Nat} (h : Cs cs) : Wd (Txt.join "" (cs.map S1)) := by
  unfold Wd
  rw [tl_S1]
  exact h
theorem app_list (x y : Str) : (x ++ y).cps.toList = x.cps.toList ++ y.cps.toList := by
  show (x.cps ++ y.cps).toList = _
  exact Array.toList_append
theorem let_at {fi : Int} {i c : Nat} (e : atI (Str.ofString "abcdefghijklmnopqrstuvwxyz").cps.toList ((fi + 7 * (0 + (i : Nat))) % 26) = some c) : abcL[((fi + 7 * (i : Nat)) % 26).toNat]? = some c := by
  unfold atI ixN at e
  rw [if_pos (Int.emod_nonneg _ (by decide)), show (Str.ofString "abcdefghijklmnopqrstuvwxyz").cps.toList.length = 26 from abcL_len, if_pos (show (fi + 7 * (0 + (i : Int))) % 26 < ((26 : Nat) : Int) from Int.emod_lt_of_pos _ (by decide)), show (0 + (i : Int)) = (i : Int) by omega] at e
  exact e
theorem cut_first (z : Str) : (cutS z none (some 1)).cps.toList = z.cps.toList.take 1 := by
  unfold cutS
  show ((z.cps.toList.drop _).take _).toArray.toList = _
  have zl : z.length = z.cps.toList.length := (Array.length_toList ..).symm
  rw [List.toList_toArray, HT.sIx_none, show HT.sIx z.length z.length (some 1) = min 1 z.length from HT.sIx_nat _ _ 1, List.drop_zero, Nat.sub_zero, zl]
  cases z.cps.toList with
  | nil => rfl
  | cons a r => rw [show min 1 (a :: r).length = 1 by rw [List.length_cons]; omega]
theorem num_one : ∀ k : Nat, k < 9 → ∃ c, (Str.ofString (toString (k : Int))).cps.toList = [c] ∧ c ∈ alnum := by
  intro k hk
  have : k = 0 ∨ k = 1 ∨ k = 2 ∨ k = 3 ∨ k = 4 ∨ k = 5 ∨ k = 6 ∨ k = 7 ∨ k = 8 := by omega
  rcases this with rfl | rfl | rfl | rfl | rfl | rfl | rfl | rfl | rfl
  · exact ⟨48, by decide +kernel, by decide +kernel⟩
  · exact ⟨49, by decide +kernel, by decide +kernel⟩
  · exact ⟨50, by decide +kernel, by decide +kernel⟩
  · exact ⟨51, by decide +kernel, by decide +kernel⟩
  · exact ⟨52, by decide +kernel, by decide +kernel⟩
  · exact ⟨53, by decide +kernel, by decide +kernel⟩
  · exact ⟨54, by decide +kernel, by decide +kernel⟩
  · exact ⟨55, by decide +kernel, by decide +kernel⟩
  · exact ⟨56, by decide +kernel, by decide +kernel⟩
theorem log_small : ∀ k : Nat, k < 9 → (k : Int).natAbs.log2 < 1920 := by
  intro k hk
  have : k = 0 ∨ k = 1 ∨ k = 2 ∨ k = 3 ∨ k = 4 ∨ k = 5 ∨ k = 6 ∨ k = 7 ∨ k = 8 := by omega
  rcases this with rfl | rfl | rfl | rfl | rfl | rfl | rfl | rfl | rfl <;> decide +kernel
theorem strs_at {ns : List Str} {i : Nat} {x : V} (h : (ns.map V.str)[i]? = some x) : ∃ n, x = .str n ∧ ns[i]? = some n ∧ i < ns.length := by
  rw [List.getElem?_map] at h
  cases e : ns[i]? with
  | none => rw [e] at h; cases h
  | some n => rw [e] at h; exact ⟨n, (Option.some.inj h).symm, rfl, (List.getElem?_eq_some_iff.mp e).1⟩
theorem ixN_of {n : Nat} {r : Int} (h0 : 0 ≤ r) (h1 : r < n) : ixN n r = some r.toNat := by
  unfold ixN
  rw [if_pos h0, if_pos h1]
theorem short_free {z : Str} (h : z.cps.toList.length = 2) : z ∉ TAKEN := fun m => by
  have a : ∀ y ∈ TAKEN, y.cps.toList.length ≠ 2 := by decide +kernel
  exact a z m h
theorem flt_take {z : Str} {ns : List Str} {i : Nat} (p : Str → Bool) (e : ns[i]? = some z) : (ns.take (i + 1)).filter p = (ns.take i).filter p ++ (if p z then [z] else []) := by
  rw [List.take_add_one, e, List.filter_append]
  cases h : p z <;> simp [h]
def spCalled (K : PySem.W.Frag) : Sp := fun vs H Q _ => ∃ (d g : Addr) (n : Int), vs = [.ref d, .int n] ∧ Deck H d g ∧ 1 ≤ n ∧ n ≤ 9 ∧
  ∀ (p : Addr) (ns : List Str) (H' : Hp), Deck H' d g → Mv d g H H' → SqZ K H' p (ns.map V.str) → (ns.length : Int) = n → (∀ z ∈ ns, nameB z = true) → ns.Nodup → Q (.ref p) H'
abbrev abc : Str := "abcdefghijklmnopqrstuvwxyz"
theorem abc_len : abc.cps.toList.length = 26 := by decide +kernel
theorem abc9_len : (abc ++ "0123456789").cps.toList.length = 36 := by decide +kernel
section
variable {P : Program} {w : World} {K : PySem.W.Frag} {mg : Str → Option Value} {base : Heap}
abbrev s_called : Stmt := topS 26
theorem sc_called : FnScope ["_law_deck_here", "_law_many", "_law_letters", "_law_word", "_law_k", "_law_at", "_law_first", "_law_found", "_law_kept_here", "_law_name_here"] ["_law_deck_here", "_law_many"] (defScope s_called) := ⟨rfl, rfl, rfl, by decide +kernel, rfl, by decide +kernel, by decide +kernel⟩
theorem ok_called {f : Addr} {fd : FuncData} (F : Fun K "_law_called" "_law_called" s_called f fd) (gl : mg "_law_called" = some (.ref f)) (T : Bl mg) (D_draw : DefG P w K mg base 1 "_law_draw" ["_law_deck_here", "_law_many"] spDraw)
    (D_pick : DefG P w K mg base 2 "_law_pick" ["_law_deck_here", "_law_some"] spPickS) : DefG P w K mg base 3 "_law_called" ["_law_deck_here", "_law_many"] (spCalled K) := by
  refine def_mk F gl (F.binds fun _ _ _ _ _ _ us hl => match us, hl with | [_, _], _ => rfl) (okG F sc_called (fun vs H Q E h => ?_) fun cdv A outer s H vs Q E hr hc h => ?_)
  · obtain ⟨d, g, n, rfl, _⟩ := h
    rfl
  · obtain ⟨d, g, n, rfl, D, n1, n6, q⟩ := h
    have nd := sc_called.nd
    have hu64 := hr.units
    refine ⟨_, (pss_cons (ps_set (i := 2) nd rfl (by first | exact Or.inl rfl | exact Or.inr rfl) pe_str)
      (pss_cons (ps_set (i := 3) nd rfl (by first | exact Or.inl rfl | exact Or.inr rfl) (pe_lst (pa_cons (pe_def D_pick (hr.mono (by decide)) hc (by rfl) (pa_cons (pv 0) (pa_cons (pv 2) pa_nil))) pa_nil)))
      (pss_cons (ps_for PassesOwn.never rfl (pi_range1 (by rfl) T.range (pa_cons (pe_def D_draw (hr.mono (by decide)) hc (by rfl) (pa_cons (pv 0) (pa_cons pe_int pa_nil))) pa_nil)) (pg_name (i := 4) nd rfl (by first | exact Or.inl rfl | exact Or.inr rfl))
        (pss_one (ps_expr (pe_bm PySem.F.plainAttrs_list PySem.F.slot_list_append PySem.F.type_list_append mt_append (pv 3) (pa_cons (pe_def D_pick (hr.mono (by decide)) hc (by rfl) (pa_cons (pv 0) (pa_cons (pe_op op_add_str (pv 2) pe_str) pa_nil))) pa_nil)))))
      (pss_cons (ps_par3 (i := 5) (j := 6) (l := 7) rfl nd rfl rfl rfl (by decide) (by decide) (by decide) rfl rfl rfl (pa_cons (pe_def D_draw (hr.mono (by decide)) hc (by rfl) (pa_cons (pv 0) (pa_cons (pe_callB call_len_seq (by rfl) T.len boot_len (pa_cons (pv 3) pa_nil)) pa_nil))) (pa_cons (pe_def D_draw (hr.mono (by decide)) hc (by rfl) (pa_cons (pv 0) (pa_cons pe_int pa_nil))) (pa_cons (pe_lst pa_nil) pa_nil))) rfl)
      (pss_cons (ps_for PassesOwn.never rfl (pi_range1 (by rfl) T.range (pa_cons (pv 1) pa_nil)) (pg_name (i := 4) nd rfl (by first | exact Or.inl rfl | exact Or.inr rfl))
        (pss_cons (ps_asg (pe_ix ix_str (pv 2) (pe_op op_mod (pe_op op_add (pv 6) (pe_op op_mul pe_int (pv 4))) pe_int) (fun _ _ => rfl)) (pg_sub (pv 3) (pv 5) set_list))
        (pss_one (ps_expr (pe_bm PySem.F.plainAttrs_list PySem.F.slot_list_append PySem.F.type_list_append mt_append (pv 7) (pa_cons (pe_join pe_str (pv 3)) pa_nil))))))
      (pss_cons (ps_set (i := 8) nd rfl (by first | exact Or.inl rfl | exact Or.inr rfl) (pe_lst (pa_cons pe_str (pa_cons pe_str (pa_cons pe_str (pa_cons pe_str (pa_cons pe_str (pa_cons pe_str (pa_cons pe_str (pa_cons pe_str (pa_cons pe_str pa_nil)))))))))))
      (pss_cons (ps_if (pt_cmpR (op_neP (K := K) hu64) (pe_lc (own := [("_law_name_here", 9)]) (g := (gName 9)) rfl nd (pi_list (pv 7)) (blkOk_by (own := [("_law_name_here", 9)]) (N := ["_law_deck_here", "_law_many", "_law_letters", "_law_word", "_law_k", "_law_at", "_law_first", "_law_found", "_law_kept_here", "_law_name_here"]) (sc := defScope s_called) (by decide +kernel)) (fun _ _ _ _ _ => (pg_name (i := 9) nd rfl (by first | exact Or.inl rfl | exact Or.inr rfl))) (fun _ _ _ _ _ => (pts_one (pt_cmpR (op_inK (K := K)) (pv 9) (pv 8) (by with_unfolding_all rfl)))) (fun _ _ _ _ _ => (pv 9))) (pe_lst pa_nil) (nomark _))
        (pss_one (ps_setLc (i := 7) (own := [("_law_k", 4), ("_law_name_here", 9)]) (g := (gTup K 2 (gCons (gName 4) (gCons (gName 9) gNil)))) (tt := tYes) rfl nd rfl rfl (sw_true rfl rfl rfl (by decide +kernel)) (pi_enum (by rfl) T.enumerate (pa_cons (pv 7) pa_nil)) (blkOk_by (own := [("_law_k", 4), ("_law_name_here", 9)]) (N := ["_law_deck_here", "_law_many", "_law_letters", "_law_word", "_law_k", "_law_at", "_law_first", "_law_found", "_law_kept_here", "_law_name_here"]) (sc := defScope s_called) (by decide +kernel)) (fun _ _ _ _ _ => (pg_tup rfl (pgs_cons (pg_name (i := 4) nd rfl (by first | exact Or.inl rfl | exact Or.inr rfl)) (pgs_cons (pg_name (i := 9) nd rfl (by first | exact Or.inl rfl | exact Or.inr rfl)) pgs_nil)))) (fun _ _ _ _ _ => pts_nil) (fun _ _ _ _ _ => (pe_op op_add_str (pe_slice sl_str (pv 9) po_none (po_some pe_int)) (pe_callTy call_str_int (by rfl) T.str boot_str (pa_cons (pv 4) pa_nil))))))
        pss_nil)
      (pss_one (ps_ret (pe_tupleZ (by rfl) T.tuple (pv 7))))))))))), ?_⟩
    -- letters; word = [pick(letters)]
    refine ⟨_, rfl, _, rfl, d, g, abc, rfl, D, (fun z => by have := abc_len; rw [z] at this; cases this), by rw [str_len, abc_len]; decide, fun c0 H1 hc0 D1 M1 => ⟨(show 1 ≤ sizeLine from small (by decide)), fun p np => ?_⟩⟩
    have offp := D1.off np
    have npH := M1.free D D1 np
    -- for k in range(draw(8))
    refine ⟨_, rfl, d, g, 8, rfl, D1.new np, by decide, by decide, fun r8 H2 r80 r81 D2 M2 => ⟨r8, rfl, by omega, by omega, ?_⟩⟩
    have M02 : Mv d g H H2 := M1.trans ((Mv.of (Same.new np)).trans M2)
    refine for_range (fun i σ H3 => Deck H3 d g ∧ Mv d g H H3 ∧ ∃ (cs : List Nat) (v4 : Option V), σ = [some (.ref d), some (.int n), some (.str abc), some (.ref p), v4, none, none, none, none, none] ∧ H3 p = some (.lst ((cs.map S1).map V.str)) ∧ cs.length = 1 + i ∧ (∀ c, cs[0]? = some c → c ∈ LETTERS.cps.toList) ∧ ∀ c ∈ cs, c ∈ alnum)
      ⟨D2, M02, [c0], none, rfl, M2.at upd_same offp, rfl, (fun c e => by cases e; exact hc0), fun c hc => by rw [List.mem_singleton.mp hc]; exact let_alnum hc0⟩ ?_ ?_
    · rintro i σ H3 hi ⟨D3, M3, cs, v4, rfl, hp, hl, hs0, hs⟩
      refine ⟨_, rfl, ty_l (tofL hp), _, rfl, _, rfl, abc, _, rfl, rfl, small (by rw [str_len, str_len, abc_len]; decide), d, g, _, rfl, D3, (fun z => by have := abc9_len; rw [z] at this; cases this), by rw [str_len, abc9_len]; decide, fun c H4 hc4 D4 M4 => ?_⟩
      refine ⟨p, _, _, rfl, rfl, M4.at hp offp, by rw [List.length_map, List.length_map]; exact smallt (by omega), D4.mut offp, (M3.trans M4).mut npH, cs ++ [c], _, rfl, ?_, ?_, ?_, ?_⟩
      · rw [upd_same, List.map_append, List.map_append]; rfl
      · rw [List.length_append, hl]; rfl
      · intro c' hc'
        rw [List.getElem?_append_left (by omega)] at hc'
        exact hs0 c' hc'
      · intro z hz
        rcases List.mem_append.mp hz with hz | hz
        · exact hs z hz
        · rw [List.mem_singleton.mp hz]; exact hc4
    · rintro σ H3 ⟨D3, M3, cs, v4, rfl, hp, hl, hs0, hs⟩
      have hcs : Cs cs := ⟨⟨by omega, by omega⟩, hs0, hs⟩
      have hl8 : cs.length ≤ 8 := by omega
      have lm : ∀ cs : List Nat, ((cs.map S1).map V.str).length = cs.length := fun cs => by rw [List.length_map, List.length_map]
      -- at, first, found
      refine ⟨_, rfl, _, rfl, p, _, rfl, .inl (tofL hp), d, g, _, rfl, D3, by rw [lm]; omega, by rw [lm]; omega, fun at_ H4 a0 a1 D4 M4 => ?_⟩
      rw [lm] at a1
      refine ⟨_, rfl, d, g, 26, rfl, D4, by decide, by decide, fun fi H5 f0 f1 D5 M5 => ⟨Nat.zero_le _, fun fn nfn => ?_⟩⟩
      have offn := D5.off nfn
      have hp5 : H5 p = some (.lst ((cs.map S1).map V.str)) := M5.at (M4.at hp offp) offp
      have npf : p ≠ fn := ne_of_none hp5 nfn
      have M05 : Mv d g H H5 := M3.trans (M4.trans M5)
      have nfH := M05.free D D5 nfn
      refine ⟨_, _, _, rfl, ?_⟩
      -- for k in range(many)
      refine ⟨_, rfl, n, rfl, by omega, by omega, ?_⟩
      refine for_range (fun i σ H6 => Deck H6 d g ∧ Mv d g H H6 ∧ ∃ (cs : List Nat) (ns : List Str) (v4 : Option V), σ = [some (.ref d), some (.int n), some (.str abc), some (.ref p), v4, some (.int at_), some (.int fi), some (.ref fn), none, none] ∧
          H6 p = some (.lst ((cs.map S1).map V.str)) ∧ Cs cs ∧ at_ < cs.length ∧ H6 fn = some (.lst (ns.map V.str)) ∧ ns.length = i ∧ NmAt at_ fi i ns (cs.map S1) ∧ ∀ z ∈ ns, Wd z)
        ⟨D5.new nfn, M05.trans (Mv.of (Same.new nfn)), cs, [], v4, rfl, by rw [upd_ne npf]; exact hp5, hcs, a1, upd_same, rfl, NmAt.new (fun z hz => by obtain ⟨c, _, rfl⟩ := List.mem_map.mp hz; exact ⟨c, rfl⟩) (by rw [List.length_map]; omega), fun z hz => nomatch hz⟩ ?_ ?_
      · rintro i σ H6 hi ⟨D6, M6, cs, ns, v4, rfl, hp, hs, ha, hf, hn, hnm, hw⟩
        obtain ⟨c, hcm, ec⟩ := at_in (xs := abc.cps.toList) (r := (fi + 7 * (0 + (i : Nat))) % 26) (Int.emod_nonneg _ (by decide)) (by rw [abc_len]; exact Int.emod_lt_of_pos _ (by decide))
        refine ⟨_, rfl, _, rfl, _, rfl, 7, _, rfl, rfl, mul_small (by decide) (by decide), _, _, rfl, rfl, _, 26, rfl, rfl, (show (0 : Int) < 26 by decide), abc, _, c, rfl, rfl, small (by rw [str_len, abc_len]; decide), ec, ?_⟩
        have hs2 : Cs (cs.set at_.toNat c) := hs.set hcm
        refine ⟨_, rfl, _, rfl, p, _, at_, at_.toNat, rfl, rfl, hp, ixN_of a0 (by rw [lm]; exact ha), ?_⟩
        have em0 : (cs.map S1).set at_.toNat (S1 c) = (cs.set at_.toNat c).map S1 := by rw [List.map_set]
        have em : ((cs.map S1).map V.str).set at_.toNat (.str ⟨#[c]⟩) = ((cs.set at_.toNat c).map S1).map V.str := by rw [← em0, List.map_set]; rfl
        rw [em]
        have hf2 : upd H6 p (.lst (((cs.set at_.toNat c).map S1).map V.str)) fn = some (.lst (ns.map V.str)) := by rw [upd_ne npf.symm]; exact hf
        have stp := hnm.step (let_at ec)
        rw [show (cs.map S1).set at_.toNat ⟨#[c]⟩ = (cs.set at_.toNat c).map S1 from em0] at stp
        refine ⟨_, rfl, ty_l (tofL hf2), ⟨_, rfl⟩, _, rfl, "", p, (cs.set at_.toNat c).map S1, rfl, rfl, .inl (tofL upd_same), ?_, fn, _, _, rfl, rfl, hf2, by rw [List.length_map]; exact smallt (by omega), (D6.mut offp).mut offn, (M6.mut npH).mut nfH, cs.set at_.toNat c, ns ++ [Txt.join "" ((cs.set at_.toNat c).map S1)], _, rfl, ?_, hs2, by rw [List.length_set]; exact ha, ?_, ?_, stp, ?_⟩
        · rw [S1_len, List.length_map, List.length_set]
          have : (Str.ofString "").length = 0 := by decide +kernel
          rw [this]
          have := hs.1.2
          omega
        · rw [upd_ne npf, upd_same]
        · rw [upd_same, List.map_append]; rfl
        · rw [List.length_append, hn]; rfl
        · intro z hz
          rcases List.mem_append.mp hz with hz | hz
          · exact hw z hz
          · rw [List.mem_singleton.mp hz]
            exact hs2.wd
      · rintro σ H6 ⟨D6, M6, cs2, ns, v5, rfl, hp6, hs6, ha6, hf6, hn6, hnm6, hw6⟩
        have fin : ∀ (Hx : Hp) (x : Addr) (ms : List Str), Deck Hx d g → Mv d g H Hx → Hx x = some (.lst (ms.map V.str)) → (ms.length : Int) = n → (∀ z ∈ ms, nameB z = true) → ms.Nodup → kTupZ K (.ref x) Hx Q :=
          fun Hx x ms Dx Mx hx hlx hwx hdx => ⟨x, _, rfl, tofL hx, fun t o nt od => q t ms _ (Dx.new nt) (Mx.trans (Mv.of (Same.new nt))) (.inl ⟨o, upd_same, od⟩) hlx hwx hdx⟩
        -- kept
        refine ⟨(show 9 ≤ sizeLine from small (by decide)), fun kp nkp => ?_⟩
        have s7 := Same.new (o := .lst [.str "check", .str "input", .str "keep", .str "let", .str "mod", .str "names", .str "open", .str "self", .str "take"]) nkp
        have hk7 : upd H6 kp (.lst [.str "check", .str "input", .str "keep", .str "let", .str "mod", .str "names", .str "open", .str "self", .str "take"]) kp = some (.lst [.str "check", .str "input", .str "keep", .str "let", .str "mod", .str "names", .str "open", .str "self", .str "take"]) := upd_same
        revert s7 hk7
        generalize upd H6 kp (.lst [.str "check", .str "input", .str "keep", .str "let", .str "mod", .str "names", .str "open", .str "self", .str "take"]) = H7
        intro s7 hk7
        have hk7 : H7 kp = some (.lst (TAKEN.map V.str)) := hk7
        have D7 := D6.same s7
        have M7 := M6.trans (Mv.of s7)
        -- [name for name in found if name in kept] != []
        refine ⟨_, rfl, fn, rfl, ⟨_, tofL (s7 _ _ hf6)⟩, fun Dl nDl => ?_⟩
        refine lc_list (K := K) (a := fn) (xs := ns.map V.str) (fun i H8 => Same H7 H8 ∧ H8 Dl = some (.lst (((ns.take i).filter fun z => decide (z ∈ TAKEN)).map V.str))) ⟨Same.new nDl, upd_same⟩
          (fun i H8 _ h => tofL (h.1 _ _ (s7 _ _ hf6))) ?_ ?_
        · rintro i x H8 hi ⟨s8, hD⟩
          obtain ⟨z, rfl, hz, hil⟩ := strs_at hi
          have ft := flt_take (fun z => decide (z ∈ TAKEN)) hz
          refine ⟨rfl, _, rfl, _, rfl, kp, _, rfl, .inl (tofL (s8 _ _ hk7)), rfl, flat_strs TAKEN, _, rfl, ?_⟩
          rw [if_neg (show ¬ false = true by decide), inV_strs]
          refine ite2 (fun e => ?_) (fun e => ?_)
          · refine ⟨_, rfl, _, hD, ?_, ?_, ?_⟩
            · rw [List.length_map]; exact smallt (Nat.lt_of_le_of_lt (List.length_filter_le _ _) (by rw [List.length_take]; omega))
            · intro b u hb
              rw [upd_ne (ne_of_none hb nDl)]
              exact s8 _ _ hb
            · rw [upd_same, ft, if_pos e, List.map_append]; rfl
          · refine ⟨s8, ?_⟩
            rw [ft, if_neg e, List.append_nil]
            exact hD
        · rintro H8 ⟨s8, hD⟩
          rw [List.length_map, List.take_length] at hD
          refine ⟨Nat.zero_le _, fun o no => ?_⟩
          have s9 := s8.trans (Same.new (o := .lst []) no)
          have hD9 := Same.new (o := .lst []) no _ _ hD
          have ho9 : upd H8 o (.lst []) o = some (.lst (([] : List Str).map V.str)) := upd_same
          have hf9 := s9 _ _ (s7 _ _ hf6)
          revert s9 hf9 hD9 ho9
          generalize upd H8 o (.lst []) = H9
          intro s9 hD9 ho9 hf9
          refine ⟨.list ((ns.filter fun z => decide (z ∈ TAKEN)).map PyData.str), .list (([] : List Str).map PyData.str), .lst (tofL hD9) (dpa_strs _), .lst (tofL ho9) (dpa_strs []), plain_strs _, plain_strs _, depth_strs _, _, rfl, ?_⟩
          rw [eqv_strs]
          refine ite2 (fun _ => ?_) (fun em => ?_)
          · refine ⟨_, rfl, fn, _, rfl, tofL hf9, fun D2 nD2 => ?_⟩
            have hnl : ns.length ≤ 9 := by omega
            refine lc_it (walk_enum (K := K) (a := fn) (xs := ns.map V.str)) (fun i H10 => Same H9 H10 ∧ ∃ ms : List Str, H10 D2 = some (.lst (ms.map V.str)) ∧ ms.length = i ∧ NumAt ms ∧ ∀ z ∈ ms, nameB z = true) ⟨Same.new nD2, [], upd_same, rfl, (fun j z e => by cases e), fun z hz => nomatch hz⟩
              (fun i H10 _ h => tofL (h.1 _ _ hf9)) ?_ ?_
            · rintro i x H10 H11 hi ⟨s10, ms, hD2, hml, hnu, hmw⟩ ⟨t, u, v, rfl, nt, rfl, f1, f2⟩
              rw [List.length_map] at hi
              have e1 : u = .int (i : Nat) := (Option.some.inj f1).symm
              subst e1
              obtain ⟨z, rfl, hz, hil⟩ := strs_at f2
              have hzw := hw6 z (List.mem_of_getElem? hz)
              obtain ⟨cd, ecd, hcd⟩ := num_one i (by omega)
              have nDt : D2 ≠ t := ne_of_none hD2 nt
              obtain ⟨c1, r1, e1⟩ : ∃ c1 r1, z.cps.toList = c1 :: r1 := by
                cases e : z.cps.toList with
                | nil => have := hzw.1.1; rw [e] at this; exact absurd this (by decide)
                | cons a r => exact ⟨a, r, rfl⟩
              have ec1 : (cutS z none (some 1)).cps.toList = [c1] := by rw [cut_first, e1]; rfl
              have el : (cutS z none (some 1) ++ Str.ofString (toString (i : Int))).cps.toList = [c1, cd] := by rw [app_list, ec1, ecd]; rfl
              have lc1 : (cutS z none (some 1)).length = 1 := by rw [str_len, ec1]; rfl
              have lcd : (Str.ofString (toString (i : Int))).length = 1 := by rw [str_len, ecd]; rfl
              have hc1 : c1 ∈ LETTERS.cps.toList := hzw.2.1 c1 (by rw [e1]; rfl)
              refine ⟨t, _, rfl, tofT upd_same, rfl, _, _, rfl, _, _, rfl, rfl, rfl, ?_⟩
              refine ⟨_, rfl, 1, rfl, z, rfl, small (by rw [str_len]; have := hzw.1.2; omega), _, rfl, (i : Int), rfl, log_small i (by omega), _, _, rfl, rfl, small (by rw [lc1, lcd]; decide), _, (by rw [upd_ne nDt]; exact hD2), by rw [List.length_map]; exact smallt (by omega), ?_, ms ++ [cutS z none (some 1) ++ Str.ofString (toString (i : Int))], ?_, ?_, (by have q := hnu.snoc (p := cutS z none (some 1)) (by rw [ec1]; rfl); rw [hml] at q; exact q), ?_⟩
              · intro b o hb
                rw [upd_ne (ne_of_none hb nD2), upd_ne (ne_of_none (s10 _ _ hb) nt)]
                exact s10 _ _ hb
              · rw [upd_same, List.map_append]; rfl
              · rw [List.length_append, hml]; rfl
              · intro y hy
                rcases List.mem_append.mp hy with hy | hy
                · exact hmw y hy
                · rw [List.mem_singleton.mp hy]
                  refine wd_name ?_ (short_free (by rw [el]; rfl))
                  unfold Wd
                  rw [el]
                  refine ⟨⟨Nat.le_add_left _ _, (show 2 ≤ 8 by decide)⟩, fun c hc => (by cases hc; exact hc1), fun c hc => ?_⟩
                  rcases List.mem_cons.mp hc with rfl | hc
                  · exact let_alnum hc1
                  · rw [List.mem_singleton.mp hc]; exact hcd
            · rintro H10 ⟨s10, ms, hD2, hml, hnu, hmw⟩
              rw [List.length_map] at hml
              exact ⟨_, rfl, fin H10 D2 ms ((D7.same s9).same s10) (M7.trans ((Mv.of s9).trans (Mv.of s10))) hD2 (by omega) hmw (hnu.nodup (by omega))⟩
          · have emp : (ns.filter fun z => decide (z ∈ TAKEN)) = [] := by
              cases e : (ns.filter fun z => decide (z ∈ TAKEN)) with
              | nil => rfl
              | cons y r => rw [e] at em; exact absurd rfl em
            exact ⟨_, rfl, fin H9 fn ns (D7.same s9) (M7.trans (Mv.of s9)) hf9 (by omega) (fun z hz => wd_name (hw6 z hz) fun ht => absurd (decide_eq_true ht) (List.filter_eq_nil_iff.mp emp z hz)) (hnm6.nodup (by omega))⟩
end
end KW
namespace KW
open PySem PySem.Spec PyProof.Rows L2 GL RZ TL
/-! ### terms, as the law draws them: sign, factor, name, whether it stands bare -/
abbrev Tm := Int × Int × Option Str × Bool
def sN (i : Int) : Str := Str.ofString (toString i)
def sgT (t : Tm) : Str := if t.1 < 0 then "-" else "+"
def bodyW (t : Tm) : List Str := match t.2.2.1 with
  | none => [sN t.2.1]
  | some n => if t.2.2.2 = true then [n] else [sN t.2.1, n]
def pcT (t : Tm) : List Str := sgT t :: bodyW t
def firstW (t : Tm) : List Str := (if t.1 < 0 then [("-" : Str)] else []) ++ bodyW t
def sumWs : List Tm → List Str
  | [] => []
  | t :: r => firstW t ++ (r.map pcT).flatten
def OkT (given : List Str) (t : Tm) : Prop := (0 ≤ t.2.1 ∧ t.2.1 < 10 ^ 60) ∧ ∀ n, t.2.2.1 = some n → n ∈ given ∧ nameB n = true
theorem nat_sN {f : Int} (h0 : 0 ≤ f) (h : f < 10 ^ 60) : natB (sN f) = true ∧ isSg (sN f) = false ∧ sN f ≠ "mod" ∧ sN f ≠ "=" := by
  have n0 : ¬ f < 0 := by omega
  have e : sN f = numT f.natAbs := by unfold sN; rw [int_text, if_neg n0]
  have d : ∀ c ∈ tl (sN f), 48 ≤ c := fun c hc => by
    rw [e, tl_numT] at hc
    exact (numL_digits _ c hc).1
  have f60 : f.natAbs < 10 ^ 60 := by omega
  refine ⟨by rw [e]; exact natB_num f60, by rw [e]; exact num_sg _, fun z => ?_, fun z => ?_⟩
  · rw [e] at z
    have q := numL_digits f.natAbs 109 (by rw [← tl_numT, z]; decide +kernel)
    omega
  · rw [e] at z
    have q := numL_digits f.natAbs 61 (by rw [← tl_numT, z]; decide +kernel)
    omega
theorem name_not {z : Str} (h : nameB z = true) : isSg z = false ∧ z ≠ "mod" ∧ z ≠ "=" ∧ z ≠ "" ∧ z ≠ "check" := by
  refine ⟨name_sg h, ?_, ?_, ?_, ?_⟩ <;> (rintro rfl; revert h; decide +kernel)
theorem body_ne (t : Tm) : bodyW t ≠ [] := by
  unfold bodyW
  split
  · simp
  · split <;> simp
theorem body_all {P : Str → Prop} {given : List Str} {t : Tm} (h : OkT given t) (pn : ∀ f : Int, 0 ≤ f → f < 10 ^ 60 → P (sN f)) (pm : ∀ n ∈ given, nameB n = true → P n) : ∀ w ∈ bodyW t, P w := fun w hw => by
  obtain ⟨⟨h0, h1⟩, h2⟩ := h
  unfold bodyW at hw
  cases e : t.2.2.1 with
  | none =>
    rw [e] at hw
    rw [List.mem_singleton.mp hw]; exact pn _ h0 h1
  | some n =>
    obtain ⟨g1, g2⟩ := h2 n e
    rw [e] at hw
    replace hw : w ∈ (if t.2.2.2 = true then [n] else [sN t.2.1, n]) := hw
    split at hw
    · rw [List.mem_singleton.mp hw]; exact pm n g1 g2
    · rcases List.mem_cons.mp hw with rfl | hw
      · exact pn _ h0 h1
      · rw [List.mem_singleton.mp hw]; exact pm n g1 g2
theorem body_sg {given : List Str} {t : Tm} (h : OkT given t) : ∀ w ∈ bodyW t, isSg w = false :=
  body_all h (fun f h0 h1 => (nat_sN h0 h1).2.1) (fun n _ hn => (name_not hn).1)
theorem sgT_is (t : Tm) : isSg (sgT t) = true := by unfold sgT; split <;> decide +kernel
theorem nosg_parts : ∀ (b : List Str) (P : List (List Str)) (p : List Str), (∀ w ∈ b, isSg w = false) → b.foldl stepP (P ++ [p]) = P ++ [p ++ b]
  | [], P, p, _ => by simp
  | w :: r, P, p, h => by
    show r.foldl stepP (stepP (P ++ [p]) w) = _
    rw [step_no (h w List.mem_cons_self), nosg_parts r P _ fun z hz => h z (List.mem_cons_of_mem _ hz)]
    simp
theorem parts_flat : ∀ (ts : List Tm) (P : List (List Str)), (∀ t ∈ ts, ∀ w ∈ bodyW t, isSg w = false) → ((ts.map pcT).flatten).foldl stepP P = P ++ ts.map pcT
  | [], P, _ => by simp
  | t :: r, P, h => by
    rw [List.map_cons, List.flatten_cons, List.foldl_append]
    have e : (pcT t).foldl stepP P = P ++ [pcT t] := by
      show (bodyW t).foldl stepP (stepP P (sgT t)) = _
      rw [step_sg (sgT_is t), nosg_parts _ _ _ (h t List.mem_cons_self)]
      rfl
    rw [e, parts_flat r _ fun x hx => h x (List.mem_cons_of_mem _ hx)]
    simp
theorem signed_sum {t : Tm} {r : List Tm} (h : ∀ w ∈ bodyW t, isSg w = false) : signedOf (sumWs (t :: r)) = ((t :: r).map pcT).flatten := by
  show signedOf (firstW t ++ (r.map pcT).flatten) = _
  unfold firstW signedOf
  by_cases hn : t.1 < 0
  · rw [if_pos hn, if_pos (by simp)]
    rw [List.map_cons, List.flatten_cons]
    unfold pcT sgT
    rw [if_pos hn]; simp
  · rw [if_neg hn, List.nil_append]
    have hd : ¬ (bodyW t ++ (r.map pcT).flatten).take 1 = [("-" : Str)] := fun z => by
      cases e : bodyW t with
      | nil => exact body_ne t e
      | cons w b =>
        rw [e] at z
        have z : w = "-" := (List.cons.inj z).1
        have := h w (by rw [e]; exact List.mem_cons_self)
        rw [z] at this
        revert this; decide +kernel
    rw [if_neg hd, List.map_cons, List.flatten_cons]
    unfold pcT sgT
    rw [if_neg hn]; rfl
theorem term_is {given : List Str} {t : Tm} (h : OkT given t) : ∃ i n, termB (pcT t) = some (i, n) ∧ (n = "" ∨ n ∈ given) := by
  obtain ⟨⟨h0, h1⟩, h2⟩ := h
  unfold pcT bodyW
  cases e : t.2.2.1 with
  | none =>
    obtain ⟨nb, _⟩ := nat_sN h0 h1
    show ∃ i n, termB [sgT t, sN t.2.1] = some (i, n) ∧ _
    rw [term2]
    by_cases hn : nameB (sN t.2.1) = true
    · -- a number is no name
      exfalso
      have e1 : sN t.2.1 = numT t.2.1.natAbs := by unfold sN; rw [int_text, if_neg (by omega)]
      unfold nameB at hn
      rw [Bool.and_eq_true, Bool.and_eq_true] at hn
      have l1 := (of_decide_eq_true hn.1.1).1
      have l2 : letB ((sN t.2.1).cps.toList.getD 0 0) = true := (Bool.and_eq_true_iff.mp hn.2).1
      have l3 := of_decide_eq_true l2
      have ge : ∀ c ∈ LETTERS.cps.toList, 97 ≤ c := by decide +kernel
      have g1 := ge _ l3
      cases ec : (sN t.2.1).cps.toList with
      | nil => rw [ec] at l1; exact absurd l1 (by decide)
      | cons c rr =>
        rw [ec] at g1
        have mem : c ∈ tl (sN t.2.1) := by show c ∈ (sN t.2.1).cps.toList; rw [ec]; exact List.mem_cons_self
        rw [e1, tl_numT] at mem
        have := (numL_digits _ c mem).2
        have g1 : 97 ≤ c := g1
        omega
    · rw [if_neg hn, if_pos nb]
      exact ⟨_, _, rfl, .inl rfl⟩
  | some n =>
    obtain ⟨g1, g2⟩ := h2 n e
    show ∃ i m, termB (sgT t :: (if t.2.2.2 = true then [n] else [sN t.2.1, n])) = some (i, m) ∧ _
    split
    · show ∃ i m, termB [sgT t, n] = some (i, m) ∧ _
      rw [term2, if_pos g2]
      exact ⟨_, _, rfl, .inr g1⟩
    · obtain ⟨nb, _⟩ := nat_sN h0 h1
      show ∃ i m, termB [sgT t, sN t.2.1, n] = some (i, m) ∧ _
      rw [term3, if_pos ⟨nb, g2⟩]
      exact ⟨_, _, rfl, .inr g1⟩
/-- what reads as a sum over given names -/
def OkS (given ws : List Str) : Prop := ws.length ≤ 100 ∧ (∀ z ∈ ws, z.cps.toList.length ≤ 1000) ∧ termsOf ws ≠ [] ∧ ∀ x ∈ termsOf ws, ∃ i n, x = some (i, n) ∧ (n = "" ∨ n ∈ given)
theorem terms_sum {t : Tm} {r : List Tm} {given : List Str} (h : ∀ x ∈ t :: r, OkT given x) : termsOf (sumWs (t :: r)) = ((t :: r).map pcT).map termB := by
  unfold termsOf partsOf
  rw [signed_sum (body_sg (h t List.mem_cons_self)), parts_flat _ [] fun x hx => body_sg (h x hx), List.nil_append]
theorem sN_len {f : Int} (h0 : 0 ≤ f) (h : f < 10 ^ 60) : (sN f).cps.toList.length ≤ 61 := by
  have e : (sN f).cps.toList.length = (sN f).length := Array.length_toList ..
  rw [e]
  unfold sN
  rw [PySem.ofString_length]
  exact PySem.int_text_length_le10 (k := 60) (by decide) (by omega)
theorem body_len (t : Tm) : (bodyW t).length ≤ 2 := by
  unfold bodyW
  split
  · exact (by decide : 1 ≤ 2)
  · split
    · exact (by decide : 1 ≤ 2)
    · exact Nat.le_refl _
theorem name_len8 {z : Str} (h : nameB z = true) : 1 ≤ z.cps.toList.length ∧ z.cps.toList.length ≤ 8 := by
  unfold nameB at h
  rw [Bool.and_eq_true, Bool.and_eq_true] at h
  exact of_decide_eq_true h.1.1
theorem sum_all {P : Str → Prop} {given : List Str} : ∀ {ts : List Tm}, (∀ t ∈ ts, OkT given t) → P "-" → P "+" → (∀ f : Int, 0 ≤ f → f < 10 ^ 60 → P (sN f)) → (∀ n ∈ given, nameB n = true → P n) → ∀ w ∈ sumWs ts, P w
  | [], _, _, _, _, _ => fun w hw => nomatch hw
  | t :: r, h, hm, hp, pn, pm => fun w hw => by
    replace hw : w ∈ firstW t ++ (r.map pcT).flatten := hw
    unfold firstW at hw
    rcases List.mem_append.mp hw with hw | hw
    · rcases List.mem_append.mp hw with hw | hw
      · split at hw
        · rw [List.mem_singleton.mp hw]; exact hm
        · exact nomatch hw
      · exact body_all (h t List.mem_cons_self) pn pm w hw
    · obtain ⟨l, hl, hw⟩ := List.mem_flatten.mp hw
      obtain ⟨x, hx, rfl⟩ := List.mem_map.mp hl
      rcases List.mem_cons.mp hw with rfl | hw
      · unfold sgT; split
        · exact hm
        · exact hp
      · exact body_all (h x (List.mem_cons_of_mem _ hx)) pn pm w hw
theorem flat_len : ∀ ts : List Tm, ((ts.map pcT).flatten).length ≤ 3 * ts.length
  | [] => Nat.le_refl _
  | t :: r => by
    have h1 := body_len t
    have h2 := flat_len r
    rw [List.map_cons, List.flatten_cons, List.length_append, List.length_cons]
    show (bodyW t).length + 1 + _ ≤ _
    omega
theorem sum_len : ∀ ts : List Tm, (sumWs ts).length ≤ 3 * ts.length
  | [] => Nat.le_refl _
  | t :: r => by
    have h1 := body_len t
    have h2 := flat_len r
    show (firstW t ++ (r.map pcT).flatten).length ≤ _
    unfold firstW
    rw [List.length_append, List.length_append, List.length_cons]
    have : (if t.1 < 0 then [("-" : Str)] else []).length ≤ 1 := by split <;> decide
    omega
theorem ok_sum {given : List Str} {ts : List Tm} (hne : ts ≠ []) (l3 : ts.length ≤ 3) (h : ∀ t ∈ ts, OkT given t) : OkS given (sumWs ts) := by
  cases ts with
  | nil => exact absurd rfl hne
  | cons t r =>
    have e := terms_sum h
    refine ⟨Nat.le_trans (sum_len _) (by omega), ?_, by rw [e]; simp, fun x hx => ?_⟩
    · exact sum_all h (by decide +kernel) (by decide +kernel) (fun f h0 h1 => Nat.le_trans (sN_len h0 h1) (by decide)) (fun n _ hn => Nat.le_trans (name_len8 hn).2 (by decide))
    · rw [e, List.map_map] at hx
      obtain ⟨y, hy, rfl⟩ := List.mem_map.mp hx
      exact term_is (h y hy)
theorem sum_ne {ts : List Tm} (h : ts ≠ []) : sumWs ts ≠ [] := by
  cases ts with
  | nil => exact absurd rfl h
  | cons t r =>
    show firstW t ++ (r.map pcT).flatten ≠ []
    unfold firstW
    intro z
    have := (List.append_eq_nil_iff.mp (List.append_eq_nil_iff.mp z).1).2
    exact body_ne t this
/-! ### what is read of a sum, exactly -/
def Uni (t : Tm) : Prop := (t.1 = 1 ∨ t.1 = -1) ∧ (t.2.2.2 = true → t.2.1 = 1)
def ptT (t : Tm) : Int × Str := (t.1 * t.2.1, match t.2.2.1 with | none => "" | some n => n)
theorem sgn_T {t : Tm} (u : Uni t) : sgn (sgT t) = t.1 := by
  unfold sgn sgT
  rcases u.1 with e | e
  · rw [e]; decide +kernel
  · rw [e]; decide +kernel
theorem num_name {f : Int} (h0 : 0 ≤ f) (hn : nameB (sN f) = true) : False := by
  have e1 : sN f = numT f.natAbs := by unfold sN; rw [int_text, if_neg (by omega)]
  unfold nameB at hn
  rw [Bool.and_eq_true, Bool.and_eq_true] at hn
  have l1 := (of_decide_eq_true hn.1.1).1
  have l2 : letB ((sN f).cps.toList.getD 0 0) = true := (Bool.and_eq_true_iff.mp hn.2).1
  have l3 := of_decide_eq_true l2
  have ge : ∀ c ∈ LETTERS.cps.toList, 97 ≤ c := by decide +kernel
  have g1 := ge _ l3
  cases ec : (sN f).cps.toList with
  | nil => rw [ec] at l1; exact absurd l1 (by decide)
  | cons c rr =>
    rw [ec] at g1
    have mem : c ∈ tl (sN f) := by show c ∈ (sN f).cps.toList; rw [ec]; exact List.mem_cons_self
    rw [e1, tl_numT] at mem
    have := (numL_digits _ c mem).2
    have g1 : 97 ≤ c := g1
    omega
theorem val_sN {f : Int} (h0 : 0 ≤ f) : valN (sN f) = f := by
  have e1 : sN f = numT f.natAbs := by unfold sN; rw [int_text, if_neg (by omega)]
  rw [e1, valN_num]; omega
theorem term_at {given : List Str} {t : Tm} (h : OkT given t) (u : Uni t) : termB (pcT t) = some (ptT t) := by
  have sg := sgn_T u
  obtain ⟨⟨h0, h1⟩, h2⟩ := h
  obtain ⟨_, ub⟩ := u
  have nb := (nat_sN h0 h1).1
  have vn := val_sN h0
  obtain ⟨sn, f, nm, ba⟩ := t
  cases nm with
  | none =>
    show termB [sgT (sn, f, none, ba), sN f] = some (sn * f, ("" : Str))
    rw [term2, if_neg (num_name h0), if_pos nb, sg, vn]
  | some n =>
    obtain ⟨g1, g2⟩ := h2 n rfl
    cases ba with
    | true =>
      show termB [sgT (sn, f, some n, true), n] = some (sn * f, n)
      have e1 : f = 1 := ub rfl
      rw [term2, if_pos g2, sg, e1, Int.mul_one]
    | false =>
      show termB [sgT (sn, f, some n, false), sN f, n] = some (sn * f, n)
      rw [term3, if_pos ⟨nb, g2⟩, sg, vn]
theorem terms_at {given : List Str} {ts : List Tm} (ne : ts ≠ []) (h : ∀ x ∈ ts, OkT given x) (u : ∀ x ∈ ts, Uni x) : termsOf (sumWs ts) = ts.map fun t => some (ptT t) := by
  cases ts with
  | nil => exact absurd rfl ne
  | cons t r =>
    rw [terms_sum h, List.map_map]
    exact List.map_congr_left fun x hx => term_at (h x hx) (u x hx)
end KW
namespace KW
open PySem PySem.Spec PyProof.Rows L2 GL RZ TL
theorem TsAt.get {H : Hp} : ∀ {xs : List V} {ts : List (Option (Int × Str))} {j : Nat} {x : V}, TsAt H xs ts → xs[j]? = some x → ∃ p t, x = .ref p ∧ H p = some (.tup (tOf t)) ∧ ts[j]? = some t
  | _, _, _, _, .nil, e => by cases e
  | _, _, 0, _, .cons a r, e => by cases e; exact ⟨_, _, rfl, a, rfl⟩
  | _, _, j + 1, _, .cons a r, e => TsAt.get (j := j) r (by simpa using e)
/-- a term whose name, if it has one, is given -/
def inG (given : List Str) : Option (Int × Str) → Bool
  | none => false
  | some (_, n) => decide (n = "") || decide (n ∈ given)
/-- the words are a sum over given names -/
def gsB (given ws : List Str) : Bool := (termsOf ws).all (inG given)
theorem terms_ne (ws : List Str) : termsOf ws ≠ [] := by
  obtain ⟨w, r, e, h⟩ := signed_head ws
  unfold termsOf
  rw [e]
  intro z
  have z : partsOf (w :: r) = [] := List.map_eq_nil_iff.mp z
  have go : ∀ (r : List Str) (ps : List (List Str)), ps ≠ [] → r.foldl stepP ps ≠ [] := fun r => by
    induction r with
    | nil => intro ps h; exact h
    | cons a r ih => intro ps _; exact ih _ (stepP_ne _ _)
  exact go r _ (stepP_ne _ _) z
theorem terms_le (ws : List Str) : (termsOf ws).length ≤ ws.length + 1 := by
  have : ∀ (ws' : List Str) (ps : List (List Str)), (ws'.foldl stepP ps).length ≤ ps.length + ws'.length := fun ws' => by
    induction ws' with
    | nil => intro ps; exact Nat.le_refl _
    | cons w r ih =>
      intro ps
      have h1 : (stepP ps w).length ≤ ps.length + 1 := by
        unfold stepP
        split
        · rw [List.length_append]; exact Nat.le_refl _
        · rw [List.length_append, List.length_dropLast]
          show ps.length - 1 + 1 ≤ _
          omega
      have h2 := ih (stepP ps w)
      show (r.foldl stepP (stepP ps w)).length ≤ _
      rw [List.length_cons]; omega
  have h3 := this (signedOf ws) []
  have l : (signedOf ws).length ≤ ws.length + 1 := by
    unfold signedOf
    split
    · omega
    · rw [List.length_cons]; exact Nat.le_refl _
  unfold termsOf partsOf
  rw [List.length_map]
  rw [List.length_nil] at h3
  omega
theorem gs_none {given ws : List Str} (h : (termsOf ws).any Option.isNone = true) : gsB given ws = false := by
  obtain ⟨x, hx, hn⟩ := List.any_eq_true.mp h
  cases x with
  | some p => cases hn
  | none =>
    unfold gsB
    cases e : (termsOf ws).all (inG given) with
    | false => rfl
    | true => exact Bool.noConfusion (show false = true from List.all_eq_true.mp e none hx)
def spGSum : Sp := fun vs H Q _ => ∃ (l g : Addr) (ws given : List Str), vs = [.ref l, .ref g] ∧ H l = some (.lst (ws.map V.str)) ∧ H g = some (.lst (given.map V.str)) ∧ given.length ≤ 62000 ∧ ws.length ≤ 62000 ∧ (∀ z ∈ ws, z.cps.toList.length ≤ 100000) ∧
  ∀ (t : Addr) (xs : List V) (H' : Hp), Same H H' → H' t = some (.tup xs) → (if gsB given ws = true then TsAt H' xs (termsOf ws) else xs = []) → Q (.ref t) H'
section
variable {P : Program} {w : World} {K : PySem.W.Frag} {mg : Str → Option Value} {base : Heap}
abbrev s_read_given_sum : Stmt := topS 21
theorem sc_read_given_sum : FnScope ["words", "given", "terms", "_", "name"] ["words", "given"] (defScope s_read_given_sum) := ⟨rfl, rfl, rfl, by decide +kernel, rfl, by decide +kernel, by decide +kernel⟩
theorem ok_read_given_sum {f : Addr} {fd : FuncData} (F : Fun K "_read_given_sum" "_read_given_sum" s_read_given_sum f fd) (gl : mg "_read_given_sum" = some (.ref f)) (T : Bl mg) (D_read_sum : DefG P w K mg base 3 "read_sum" ["words"] spRSum) :
    DefG P w K mg base 4 "_read_given_sum" ["words", "given"] spGSum := by
  refine def_mk F gl (F.binds fun _ _ _ _ _ _ us hl => match us, hl with | [_, _], _ => rfl) (okG F sc_read_given_sum (fun vs H Q E h => ?_) fun cdv A outer s H vs Q E hr hc h => ?_)
  · obtain ⟨l, g, ws, given, rfl, _⟩ := h
    rfl
  · obtain ⟨l, g, ws, given, rfl, hl, hg, gl100, wl40, wl, q⟩ := h
    have nd := sc_read_given_sum.nd
    refine ⟨_, (pss_cons (ps_set (i := 2) nd rfl (by first | exact Or.inl rfl | exact Or.inr rfl) (pe_def D_read_sum (hr.mono (by decide)) hc (by rfl) (pa_cons (pv 0) pa_nil)))
      (pss_one (ps_ret (pe_ifExp (pt_val (pe_callB (cr_all rfl) (by rfl) T.all boot_all (pa_cons (pe_lc (own := [("_", 3), ("name", 4)]) (g := (gTup K 2 (gCons (gName 3) (gCons (gName 4) gNil)))) (tt := tYes) rfl nd (pi_tup (pv 2)) (blkOk_by (own := [("_", 3), ("name", 4)]) (N := ["words", "given", "terms", "_", "name"]) (sc := defScope s_read_given_sum) (by decide +kernel)) (fun _ _ _ _ _ => (pg_tup rfl (pgs_cons (pg_name (i := 3) nd rfl (by first | exact Or.inl rfl | exact Or.inr rfl)) (pgs_cons (pg_name (i := 4) nd rfl (by first | exact Or.inl rfl | exact Or.inr rfl)) pgs_nil)))) (fun _ _ _ _ _ => pts_nil) (fun _ _ _ _ _ => (pe_or (pe_cmpR op_eq (pv 4) pe_str (nomark _)) (pe_one (pe_cmpR (op_inK (K := K)) (pv 4) (pv 1) (by with_unfolding_all rfl)))))) pa_nil))) (pv 2) (pe_tup pa_nil))))), ?_⟩
    refine ⟨_, rfl, l, ws, rfl, hl, wl40, wl, fun t xs H1 s1 ht cond => ?_⟩
    have tl9 := terms_le ws
    by_cases hany : (termsOf ws).any Option.isNone = true
    · rw [if_pos hany] at cond
      subst cond
      have gf : gsB given ws = false := gs_none hany
      refine ⟨_, rfl, t, rfl, ⟨_, tofT ht⟩, fun D nD => ?_⟩
      refine lc_tup (K := K) (a := t) (xs := []) (fun i Hx => Same H1 Hx ∧ Hx D = some (.lst [])) ⟨Same.new nD, upd_same⟩ (fun i Hx _ h => tofT (h.1 _ _ ht)) (fun j y Hx hj => by cases hj) ?_
      rintro Hx ⟨sx, hD⟩
      refine ⟨D, ([] : List Bool), rfl, tofL hD, ?_⟩
      refine ⟨_, rfl, iteT ⟨_, rfl, ?_⟩⟩
      exact q t [] Hx (s1.trans sx) (sx _ _ ht) (by rw [gf]; rfl)
    rw [if_neg hany] at cond
    have xl : xs.length = (termsOf ws).length := cond.len
    refine ⟨_, rfl, t, rfl, ⟨_, tofT ht⟩, fun D nD => ?_⟩
    refine lc_tup (K := K) (a := t) (xs := xs) (fun i Hx => Same H1 Hx ∧ Hx D = some (.lst ((((termsOf ws).take i).map (inG given)).map V.bl))) ⟨Same.new nD, upd_same⟩ (fun i Hx _ h => tofT (h.1 _ _ ht)) ?_ ?_
    · rintro j y Hx hj ⟨sx, hD⟩
      obtain ⟨p5, tt, rfl, hp5, htt⟩ := (cond.same sx).get hj
      have jl := (List.getElem?_eq_some_iff.mp htt).1
      cases tt with
      | none => exact absurd (List.any_eq_true.mpr ⟨none, List.mem_of_getElem? htt, rfl⟩) hany
      | some pr =>
      obtain ⟨i5, n5⟩ := pr
      refine ⟨p5, _, rfl, tofT hp5, rfl, _, _, rfl, _, _, rfl, rfl, rfl, ?_⟩
      have fin : ∀ b : Bool, b = inG given (some (i5, n5)) → ∃ acc, Hx D = some (.lst acc) ∧ acc.length < sizeLine ∧ (Same H1 (upd Hx D (.lst (acc ++ [V.bl b]))) ∧ upd Hx D (.lst (acc ++ [V.bl b])) D = some (.lst ((((termsOf ws).take (j + 1)).map (inG given)).map V.bl))) := fun b hb => by
        subst hb
        refine ⟨_, hD, ?_, ?_, ?_⟩
        · rw [List.length_map, List.length_map, List.length_take]; exact smallt (by omega)
        · intro b' o hb'
          rw [upd_ne (ne_of_none hb' nD)]
          exact sx _ _ hb'
        · rw [upd_same, List.take_add_one, htt, List.map_append, List.map_append]; rfl
      refine ⟨_, rfl, rfl, _, rfl, ite2 (fun e => ?_) (fun e => ?_)⟩
      · refine fin true ?_
        show true = (decide (n5 = "") || decide (n5 ∈ given))
        rw [decide_eq_true (V.str.inj (of_decide_eq_true e))]; rfl
      · refine ⟨_, rfl, _, rfl, g, _, rfl, .inl (tofL (sx _ _ (s1 _ _ hg))), rfl, flat_strs given, ?_⟩
        rw [inV_strs]
        refine fin _ ?_
        show decide (n5 ∈ given) = (decide (n5 = "") || decide (n5 ∈ given))
        rw [decide_eq_false (fun z => e (decide_eq_true (congrArg V.str z))), Bool.false_or]
    rintro Hx ⟨sx, hD⟩
    rw [xl, List.take_length] at hD
    refine ⟨D, _, rfl, tofL hD, ?_⟩
    have ea : ((termsOf ws).map (inG given)).all id = gsB given ws := by rw [List.all_map]; rfl
    rw [ea]
    cases eg : gsB given ws with
    | true =>
      refine ⟨_, rfl, iteT ⟨_, rfl, ?_⟩⟩
      exact q t xs Hx (s1.trans sx) (sx _ _ ht) (by rw [eg, if_pos rfl]; exact cond.same sx)
    | false =>
      refine ⟨_, rfl, iteF ⟨(show 0 ≤ sizeLine from small (by decide)), fun t2 nt2 => ?_⟩⟩
      exact q t2 [] _ (s1.trans (sx.trans (Same.new nt2))) upd_same (by rw [eg]; rfl)
end
end KW
namespace KW
open PySem PySem.Spec PyProof.Rows L2 GL RZ TL
theorem cut_lo (ns : List Str) {c : Int} (h0 : 0 ≤ c) (h1 : c ≤ ns.length) : cutV (ns.map V.str) none (some c) = (ns.take c.toNat).map V.str := by
  unfold cutV
  have e : HT.sIx (ns.map V.str).length (ns.map V.str).length (some c) = c.toNat := by
    rw [List.length_map]
    show (if c < 0 then _ else min c.toNat ns.length) = _
    rw [if_neg (by omega)]
    omega
  rw [e]
  show ((ns.map V.str).drop 0).take (c.toNat - 0) = _
  rw [List.drop_zero, Nat.sub_zero, List.map_take]
theorem cut_hi0 (ns : List Str) {c : Int} (h0 : 0 ≤ c) : cutV (ns.map V.str) (some c) none = (ns.drop c.toNat).map V.str := by
  unfold cutV
  have e : HT.sIx (ns.map V.str).length 0 (some c) = min c.toNat ns.length := by
    rw [List.length_map]
    show (if c < 0 then _ else min c.toNat ns.length) = _
    rw [if_neg (by omega)]
  rw [e]
  show ((ns.map V.str).drop (min c.toNat ns.length)).take ((ns.map V.str).length - min c.toNat ns.length) = _
  rw [List.take_of_length_le (by rw [List.length_drop]; omega), List.map_drop]
  by_cases h : c.toNat ≤ ns.length
  · rw [Nat.min_eq_left h]
  · rw [Nat.min_eq_right (by omega), List.drop_of_length_le (by rw [List.length_map]; exact Nat.le_refl _), List.drop_of_length_le (by rw [List.length_map]; omega)]
theorem cut_hi (ns : List Str) {c : Int} (h0 : 0 ≤ c) (h1 : c ≤ ns.length) : cutV (ns.map V.str) (some c) none = (ns.drop c.toNat).map V.str := cut_hi0 ns h0
theorem all_flat (ws : List Str) : (ws.map V.str).all flatV = true := List.all_eq_true.mpr fun x hx => by
  obtain ⟨w, _, rfl⟩ := List.mem_map.mp hx; rfl
/-! ### a check, read -/
def cntE (W : List Str) : Nat := W.countP fun w => decide (w = ("=" : Str))
def eqAt : List Str → Nat
  | [] => 0
  | w :: r => if w = "=" then 0 else eqAt r + 1
def ckB (given ps : List Str) : Bool := decide (cntE (modOf ps).1 = 1) && (gsB given ((modOf ps).1.take (eqAt (modOf ps).1)) && gsB given ((modOf ps).1.drop (eqAt (modOf ps).1 + 1)))
theorem eq_split : ∀ W : List Str, 1 ≤ cntE W → ∃ a b, W = a ++ ("=" : Str) :: b ∧ (∀ w ∈ a, w ≠ "=") ∧ eqAt W = a.length
  | [], h => absurd (show 1 ≤ 0 from h) (by decide)
  | w :: r, h => by
    by_cases e : w = "="
    · subst e
      exact ⟨[], r, rfl, (fun w hw => nomatch hw), by unfold eqAt; rw [if_pos rfl]; rfl⟩
    · have h2 : 1 ≤ cntE r := by
        unfold cntE at h ⊢
        rw [List.countP_cons, decide_eq_false e] at h
        simpa using h
      obtain ⟨a, b, e1, e2, e3⟩ := eq_split r h2
      refine ⟨w :: a, b, by rw [e1]; rfl, fun x hx => ?_, ?_⟩
      · rcases List.mem_cons.mp hx with rfl | hx
        · exact e
        · exact e2 x hx
      · show (if w = "=" then 0 else eqAt r + 1) = _
        rw [if_neg e, e3]; rfl
theorem cnt_map (W : List Str) : (W.map V.str).countP (fun z => eqV z (.str "=")) = cntE W := by
  unfold cntE
  rw [List.countP_map]
  congr 1
theorem mod_sub (ps : List Str) : (modOf ps).1.length ≤ ps.length ∧ ∀ z ∈ (modOf ps).1, z ∈ ps := by
  unfold modOf
  split
  · exact ⟨by rw [List.length_take]; omega, fun z hz => List.mem_of_mem_take hz⟩
  · exact ⟨Nat.le_refl _, fun z hz => hz⟩
theorem gs_some {given ws : List Str} (h : gsB given ws = true) {x : Option (Int × Str)} (hx : x ∈ termsOf ws) : ∃ i n, x = some (i, n) := by
  have := List.all_eq_true.mp h x hx
  cases x with
  | none => cases this
  | some p => exact ⟨p.1, p.2, rfl⟩
def spCheck : Sp := fun vs H Q _ => ∃ (p g : Addr) (given ps : List Str), vs = [.ref p, .ref g] ∧ H p = some (.lst (ps.map V.str)) ∧ H g = some (.lst (given.map V.str)) ∧ given.length ≤ 62000 ∧ ps.length ≤ 62000 ∧ (∀ z ∈ ps, z.cps.toList.length ≤ 100000) ∧
  ∀ (t : Addr) (x y : V) (H' : Hp), Same H H' → (if ckB given ps = true then H' t = some (.tup [.str "check", .str "", x, y]) else H' t = some (.tup [])) → Q (.ref t) H'
section
variable {P : Program} {w : World} {K : PySem.W.Frag} {mg : Str → Option Value} {base : Heap}
abbrev s_read_check : Stmt := topS 20
theorem sc_read_check : FnScope ["parts", "given", "words", "modulus", "at", "left", "right", "factor", "name"] ["parts", "given"] (defScope s_read_check) := ⟨rfl, rfl, rfl, by decide +kernel, rfl, by decide +kernel, by decide +kernel⟩
theorem ok_read_check {f : Addr} {fd : FuncData} (F : Fun K "_read_check" "_read_check" s_read_check f fd) (gl : mg "_read_check" = some (.ref f)) (T : Bl mg) (D_without_modulus : DefG P w K mg base 2 "without_modulus" ["words"] spMod) (D_read_given_sum : DefG P w K mg base 4 "_read_given_sum" ["words", "given"] spGSum) :
    DefG P w K mg base 5 "_read_check" ["parts", "given"] spCheck := by
  refine def_mk F gl (F.binds fun _ _ _ _ _ _ us hl => match us, hl with | [_, _], _ => rfl) (okG F sc_read_check (fun vs H Q E h => ?_) fun cdv A outer s H vs Q E hr hc h => ?_)
  · obtain ⟨p, g, given, ps, rfl, _⟩ := h
    rfl
  · obtain ⟨p, g, given, ps, rfl, hp, hg, g100, pl, wl, q⟩ := h
    have nd := sc_read_check.nd
    refine ⟨_, (pss_cons (ps_asg (pe_def D_without_modulus (hr.mono (by decide)) hc (by rfl) (pa_cons (pv 0) pa_nil)) (pg_tup rfl (pgs_cons (pg_name (i := 2) nd rfl (by first | exact Or.inl rfl | exact Or.inr rfl)) (pgs_cons (pg_name (i := 3) nd rfl (by first | exact Or.inl rfl | exact Or.inr rfl)) pgs_nil))))
      (pss_cons (ps_if (pt_cmpR op_ne (pe_bm PySem.F.plainAttrs_list PySem.F.slot_list_count PySem.F.type_list_count mt_countF (pv 2) (pa_cons pe_str pa_nil)) pe_int (nomark _))
        (pss_one (ps_ret (pe_tup pa_nil)))
        pss_nil)
      (pss_cons (ps_set (i := 4) nd rfl (by first | exact Or.inl rfl | exact Or.inr rfl) (pe_bm PySem.F.plainAttrs_list PySem.F.slot_list_index PySem.F.type_list_index mt_index (pv 2) (pa_cons pe_str pa_nil)))
      (pss_cons (ps_set (i := 5) nd rfl (by first | exact Or.inl rfl | exact Or.inr rfl) (pe_def D_read_given_sum (hr.mono (by decide)) hc (by rfl) (pa_cons (pe_slice sl_list (pv 2) po_none (po_some (pv 4))) (pa_cons (pv 1) pa_nil))))
      (pss_cons (ps_set (i := 6) nd rfl (by first | exact Or.inl rfl | exact Or.inr rfl) (pe_def D_read_given_sum (hr.mono (by decide)) hc (by rfl) (pa_cons (pe_slice sl_list (pv 2) (po_some (pe_op op_add (pv 4) pe_int)) po_none) (pa_cons (pv 1) pa_nil))))
      (pss_cons (ps_if (PW.pt (pw_or (pt_not (pt_truth (pv 5) (fun _ => rfl))) (pw_or1 (pt_not (pt_truth (pv 6) (fun _ => rfl))))))
        (pss_one (ps_ret (pe_tup pa_nil)))
        pss_nil)
      (pss_one (ps_ret (pe_tup (pa_cons pe_str (pa_cons pe_str (pa_cons (pe_op (G3.op_catAK (K := K)) (pv 5) (pe_tupleOf (by rfl) T.tuple (pe_lc (own := [("factor", 7), ("name", 8)]) (g := (gTup K 2 (gCons (gName 7) (gCons (gName 8) gNil)))) (tt := tYes) rfl nd (pi_tup (pv 6)) (blkOk_by (own := [("factor", 7), ("name", 8)]) (N := ["parts", "given", "words", "modulus", "at", "left", "right", "factor", "name"]) (sc := defScope s_read_check) (by decide +kernel)) (fun _ _ _ _ _ => (pg_tup rfl (pgs_cons (pg_name (i := 7) nd rfl (by first | exact Or.inl rfl | exact Or.inr rfl)) (pgs_cons (pg_name (i := 8) nd rfl (by first | exact Or.inl rfl | exact Or.inr rfl)) pgs_nil)))) (fun _ _ _ _ _ => pts_nil) (fun _ _ _ _ _ => (pe_tup (pa_cons (pe_un un_neg (pv 7)) (pa_cons (pv 8) pa_nil))))))) (pa_cons (pv 3) pa_nil))))))))))))), ?_⟩
    refine ⟨_, rfl, p, ps, rfl, hp, pl, wl, fun t l' H1 s1 ht hl' => ?_⟩
    refine ⟨t, _, rfl, tofT ht, rfl, _, _, rfl, _, _, rfl, rfl, ?_⟩
    obtain ⟨lm, sub⟩ := mod_sub ps
    have eck : ckB given ps = (decide (cntE (modOf ps).1 = 1) && (gsB given ((modOf ps).1.take (eqAt (modOf ps).1)) && gsB given ((modOf ps).1.drop (eqAt (modOf ps).1 + 1)))) := rfl
    have wlW : ∀ z ∈ (modOf ps).1, z.cps.toList.length ≤ 100000 := fun z hz => wl z (sub z hz)
    generalize (modOf ps).2 = m at *
    generalize (modOf ps).1 = W at *
    refine ⟨_, rfl, ty_l (tofL hl'), l', W.map V.str, .str "=", rfl, rfl, tofL hl', rfl, all_flat W, ?_⟩
    rw [cnt_map]
    have no : ckB given ps = false → ∀ Hx, Same H Hx → ∀ t, Hx t = none → Q (.ref t) (upd Hx t (.tup [])) := fun e Hx sx t nt => q t .non .non _ (sx.trans (Same.new nt)) (by rw [e]; exact upd_same)
    by_cases c1 : cntE W = 1
    rotate_left
    · refine ⟨rfl, _, rfl, ite2 (fun _ => ?_) fun e => absurd (show (!decide (V.int ((cntE W : Nat) : Int) = V.int 1)) = true by
        rw [decide_eq_false (fun z => c1 (by have := V.int.inj z; omega))]; rfl) e⟩
      exact ⟨(show 0 ≤ sizeLine from small (by decide)), fun t nt => no (by rw [eck, decide_eq_false c1, Bool.false_and]) _ s1 t nt⟩
    obtain ⟨a, b, eW, ha, ej⟩ := eq_split W (by omega)
    rw [ej] at eck
    rw [decide_eq_true c1, Bool.true_and] at eck
    rw [c1]
    have hj : (W.map V.str)[a.length]? = some (V.str "=") := by
      rw [eW, List.map_append, List.getElem?_append_right (by rw [List.length_map]; exact Nat.le_refl _), List.length_map, Nat.sub_self]; rfl
    have hno : ∀ (k : Nat) (z' : V), k < a.length → (W.map V.str)[k]? = some z' → eqV z' (.str "=") = false := fun k z' hk hz => by
      rw [eW, List.map_append, List.getElem?_append_left (by rw [List.length_map]; exact hk), List.getElem?_map] at hz
      cases e : a[k]? with
      | none => rw [e] at hz; cases hz
      | some z =>
        rw [e] at hz; cases hz
        rw [eqV_str]
        exact decide_eq_false (ha z (List.mem_of_getElem? e))
    refine ⟨rfl, _, rfl, ite2 (fun e => absurd e (by simp)) fun _ => ?_⟩
    refine ⟨_, rfl, ty_l (tofL hl'), l', W.map V.str, .str "=", a.length, .str "=", rfl, rfl, tofL hl', rfl, all_flat W, hj, by rw [eqV_str]; exact decide_eq_true rfl, hno, ?_⟩
    have hg1 := s1 _ _ hg
    have lW : W.length = a.length + (b.length + 1) := by rw [eW, List.length_append, List.length_cons]
    -- left
    refine ⟨_, rfl, _, rfl, _, rfl, l', _, rfl, tofL hl', fun p2 np2 => ?_⟩
    have e1 : cutV (W.map V.str) none (some ((a.length : Nat) : Int)) = (W.take a.length).map V.str := by
      rw [cut_lo W (by omega) (by omega), Int.toNat_natCast]
    rw [e1]
    have s2 := Same.new (o := .lst ((W.take a.length).map V.str)) np2
    have hp2 : upd H1 p2 (.lst ((W.take a.length).map V.str)) p2 = some (.lst ((W.take a.length).map V.str)) := upd_same
    generalize upd H1 p2 (.lst ((W.take a.length).map V.str)) = H2 at *
    have lL : (W.take a.length).length ≤ 62000 := by rw [List.length_take]; omega
    refine ⟨_, rfl, p2, g, W.take a.length, given, rfl, hp2, s2 _ _ hg1, g100, lL, (fun z hz => wlW z (List.mem_of_mem_take hz)), fun tL xL H3 s3 htL cL => ?_⟩
    -- right
    have s23 := s2.trans s3
    refine ⟨_, rfl, _, rfl, _, 1, rfl, rfl, _, rfl, l', _, rfl, tofL (s23 _ _ hl'), fun p4 np4 => ?_⟩
    have e2 : cutV (W.map V.str) (some (((a.length : Nat) : Int) + 1)) none = (W.drop (a.length + 1)).map V.str := by
      rw [cut_hi0 W (by omega), show (((a.length : Nat) : Int) + 1).toNat = a.length + 1 by omega]
    rw [e2]
    have s4 := Same.new (o := .lst ((W.drop (a.length + 1)).map V.str)) np4
    have hp4 : upd H3 p4 (.lst ((W.drop (a.length + 1)).map V.str)) p4 = some (.lst ((W.drop (a.length + 1)).map V.str)) := upd_same
    generalize upd H3 p4 (.lst ((W.drop (a.length + 1)).map V.str)) = H4 at *
    have lR : (W.drop (a.length + 1)).length ≤ 62000 := by rw [List.length_drop]; omega
    refine ⟨_, rfl, p4, g, W.drop (a.length + 1), given, rfl, hp4, s4 _ _ (s23 _ _ hg1), g100, lR, (fun z hz => wlW z (List.mem_of_mem_drop hz)), fun tR xR H5 s5 htR cR => ?_⟩
    have htL5 := s5 _ _ (s4 _ _ htL)
    have s15 := s1.trans (s23.trans (s4.trans s5))
    have nel : ∀ {ws : List Str} {Hx : Hp} {xs : List V}, TsAt Hx xs (termsOf ws) → ∃ v r, xs = v :: r := fun {ws Hx xs} h => by
      cases xs with
      | nil => exact absurd (List.eq_nil_of_length_eq_zero (by rw [← h.len]; rfl)) (terms_ne ws)
      | cons v r => exact ⟨v, r, rfl⟩
    cases eL : gsB given (W.take a.length) with
    | false =>
      rw [eL] at cL eck
      have cL : xL = [] := cL
      subst cL
      refine ⟨_, rfl, _, .inr (.inl ⟨_, tofT htL5, rfl⟩), iteT ?_⟩
      exact ⟨(show 0 ≤ sizeLine from small (by decide)), fun t nt => no eck _ s15 t nt⟩
    | true =>
    rw [eL] at cL eck
    have cL : TsAt H3 xL (termsOf (W.take a.length)) := cL
    obtain ⟨v1, xL', rfl⟩ := nel cL
    refine ⟨_, rfl, _, .inr (.inl ⟨_, tofT htL5, rfl⟩), iteF ?_⟩
    cases eR : gsB given (W.drop (a.length + 1)) with
    | false =>
      rw [eR] at cR eck
      have cR : xR = [] := cR
      subst cR
      refine ⟨_, rfl, _, .inr (.inl ⟨_, tofT htR, rfl⟩), iteT ?_⟩
      exact ⟨(show 0 ≤ sizeLine from small (by decide)), fun t nt => no eck _ s15 t nt⟩
    | true =>
    have gR := eR
    rw [eR] at cR eck
    have cR : TsAt H5 xR (termsOf (W.drop (a.length + 1))) := cR
    obtain ⟨v2, xR', rfl⟩ := nel cR
    refine ⟨_, rfl, _, .inr (.inl ⟨_, tofT htR, rfl⟩), iteF ?_⟩
    have lR3 : (v2 :: xR').length ≤ b.length + 1 := by
      rw [cR.len]
      refine Nat.le_trans (terms_le _) ?_
      rw [List.length_drop]; omega
    have lL3 : (v1 :: xL').length ≤ a.length + 1 := by
      rw [cL.len]
      refine Nat.le_trans (terms_le _) ?_
      rw [List.length_take]; omega
    -- the right side, turned
    refine ⟨_, rfl, _, rfl, tR, rfl, ⟨_, tofT htR⟩, fun D nD => ?_⟩
    refine lc_tup (K := K) (a := tR) (xs := v2 :: xR') (fun i Hx => Same H5 Hx ∧ ∃ ys, Hx D = some (.lst ys) ∧ ys.length = i) ⟨Same.new nD, [], upd_same, rfl⟩ (fun i Hx _ h => tofT (h.1 _ _ htR)) ?_ ?_
    · rintro j y Hx hj ⟨sx, ys, hD, hyl⟩
      have jl := (List.getElem?_eq_some_iff.mp hj).1
      obtain ⟨p5, tt, rfl, hp5, htt⟩ := (cR.same sx).get hj
      obtain ⟨i5, n5, rfl⟩ := gs_some gR (List.mem_of_getElem? htt)
      refine ⟨p5, _, rfl, tofT hp5, rfl, _, _, rfl, _, _, rfl, rfl, rfl, ?_⟩
      refine ⟨_, rfl, i5, rfl, _, rfl, (show 2 ≤ sizeLine from small (by decide)), fun q5 nq5 => ?_⟩
      have nDq : D ≠ q5 := ne_of_none hD nq5
      refine ⟨_, by rw [upd_ne nDq]; exact hD, smallt (by omega), ?_, ys ++ [.ref q5], upd_same, by rw [List.length_append, hyl]; rfl⟩
      intro b o hb
      rw [upd_ne (ne_of_none hb nD), upd_ne (ne_of_none (sx _ _ hb) nq5)]
      exact sx _ _ hb
    rintro Hx ⟨sx, ys, hD, hyl⟩
    refine .inl ⟨D, _, rfl, tofL hD, fun tt ntt => ?_⟩
    have s6 := Same.new (o := .tup ys) ntt
    refine catA_of (tofT (s6 _ _ (sx _ _ htL5))) (tofT upd_same) (by omega) fun ta Ha sa qa => ?_
    refine ⟨_, rfl, (show 4 ≤ sizeLine from small (by decide)), fun tz ntz => ?_⟩
    exact q tz _ _ _ (s15.trans (sx.trans (s6.trans (sa.trans (Same.new ntz))))) (by rw [eck]; exact upd_same)
end
end KW
namespace KW
open PySem PySem.Spec PyProof.Rows L2 GL RZ TL
/-! ### a line ahead of the last one, read: its word and the name that it gives -/
def stB (given : List Str) : List Str → Option (Str × Str)
  | [] => none
  | w :: ps => if w = "check" then (if ckB given ps = true then some (("check" : Str), ("" : Str)) else none) else match ps with
    | [] => none
    | n :: r => if nameB n = true ∧ n ∉ given then (if w = "take" ∧ r = [] then some (("take" : Str), n) else if w = "let" ∧ r.take 1 = [("=" : Str)] ∧ gsB given (r.drop 1) = true then some (("let" : Str), n) else none) else none
theorem st_check_ {given ps : List Str} {w : Str} (h : w = "check") : stB given (w :: ps) = if ckB given ps = true then some (("check" : Str), ("" : Str)) else none := by
  cases ps with
  | nil => exact if_pos h
  | cons a r => exact if_pos h
theorem st_check (given ps : List Str) : stB given ("check" :: ps) = if ckB given ps = true then some (("check" : Str), ("" : Str)) else none := st_check_ rfl
theorem st_one {given : List Str} {w : Str} (h : w ≠ "check") : stB given [w] = none := if_neg h
theorem st_more {given r : List Str} {w n : Str} (h : w ≠ "check") : stB given (w :: n :: r) = if nameB n = true ∧ n ∉ given then (if w = "take" ∧ r = [] then some (("take" : Str), n) else if w = "let" ∧ r.take 1 = [("=" : Str)] ∧ gsB given (r.drop 1) = true then some (("let" : Str), n) else none) else none := if_neg h
def SpAt (H' : Hp) (t : Addr) : Option (Str × Str) → Prop
  | none => H' t = some (.tup [])
  | some (w, n) => ∃ x y, H' t = some (.tup [.str w, .str n, x, y])
def spStep : Sp := fun vs H Q _ => ∃ (p g : Addr) (given ws : List Str), vs = [.ref p, .ref g] ∧ H p = some (.lst (ws.map V.str)) ∧ H g = some (.lst (given.map V.str)) ∧ given.length ≤ 62000 ∧ ws ≠ [] ∧ ws.length ≤ 62000 ∧ (∀ z ∈ ws, z.cps.toList.length ≤ 100000) ∧
  ∀ (t : Addr) (H' : Hp), Same H H' → SpAt H' t (stB given ws) → Q (.ref t) H'
theorem strD (a b : Str) : decide (V.str a = V.str b) = decide (a = b) := by
  by_cases e : a = b
  · rw [decide_eq_true e, decide_eq_true (congrArg V.str e)]
  · rw [decide_eq_false e, decide_eq_false (fun z => e (V.str.inj z))]
section
variable {P : Program} {w : World} {K : PySem.W.Frag} {mg : Str → Option Value} {base : Heap}
abbrev s_read_step : Stmt := topS 19
theorem sc_read_step : FnScope ["words", "given", "word", "parts", "terms"] ["words", "given"] (defScope s_read_step) := ⟨rfl, rfl, rfl, by decide +kernel, rfl, by decide +kernel, by decide +kernel⟩
theorem ok_read_step {f : Addr} {fd : FuncData} (F : Fun K "_read_step" "_read_step" s_read_step f fd) (gl : mg "_read_step" = some (.ref f)) (T : Bl mg) (D_is_name : DefG P w K mg base 1 "is_name" ["word"] spName) (D_read_check : DefG P w K mg base 5 "_read_check" ["parts", "given"] spCheck) (D_read_given_sum : DefG P w K mg base 4 "_read_given_sum" ["words", "given"] spGSum) :
    DefG P w K mg base 6 "_read_step" ["words", "given"] spStep := by
  refine def_mk F gl (F.binds fun _ _ _ _ _ _ us hl => match us, hl with | [_, _], _ => rfl) (okG F sc_read_step (fun vs H Q E h => ?_) fun cdv A outer s H vs Q E hr hc h => ?_)
  · obtain ⟨p, g, given, ws, rfl, _⟩ := h
    rfl
  · obtain ⟨p, g, given, ws, rfl, hp, hg, g100, wne, w40, wl, q⟩ := h
    have nd := sc_read_step.nd
    have hu64 := hr.units
    refine ⟨_, (pss_cons (ps_asg (pv 0) (pg_starL (n := 2) (i := 1) rfl (pgs_cons (pg_name (i := 2) nd rfl (by first | exact Or.inl rfl | exact Or.inr rfl)) (pgs_consS (pg_name (i := 3) nd rfl (by first | exact Or.inl rfl | exact Or.inr rfl)) pgs_nil))))
      (pss_cons (ps_if (pt_cmpR op_eq (pv 2) pe_str (nomark _))
        (pss_one (ps_ret (pe_def D_read_check (hr.mono (by decide)) hc (by rfl) (pa_cons (pv 3) (pa_cons (pv 1) pa_nil)))))
        pss_nil)
      (pss_cons (ps_if (PW.pt (pw_or (pt_not (pt_truth (pv 3) (fun _ => rfl))) (pw_or (pt_not (pt_truth (pe_def D_is_name (hr.mono (by decide)) hc (by rfl) (pa_cons (pe_ix ix_list (pv 3) pe_int (fun _ _ => rfl)) pa_nil)) (fun _ => rfl))) (pw_or1 (pt_cmpR (op_inK (K := K)) (pe_ix ix_list (pv 3) pe_int (fun _ _ => rfl)) (pv 1) (by with_unfolding_all rfl))))))
        (pss_one (ps_ret (pe_tup pa_nil)))
        pss_nil)
      (pss_cons (ps_if (PW.pt (pw_and (pt_cmpR op_eq (pv 2) pe_str (nomark _)) (pw_and1 (pt_cmpR op_eq (pe_callB call_len_seq (by rfl) T.len boot_len (pa_cons (pv 3) pa_nil)) pe_int (nomark _)))))
        (pss_one (ps_ret (pe_tup (pa_cons (pv 2) (pa_cons (pe_ix ix_list (pv 3) pe_int (fun _ _ => rfl)) (pa_cons (pe_tup pa_nil) (pa_cons pe_int pa_nil)))))))
        pss_nil)
      (pss_cons (ps_set (i := 4) nd rfl (by first | exact Or.inl rfl | exact Or.inr rfl) (pe_def D_read_given_sum (hr.mono (by decide)) hc (by rfl) (pa_cons (pe_slice sl_list (pv 3) (po_some pe_int) po_none) (pa_cons (pv 1) pa_nil))))
      (pss_cons (ps_if (PW.pt (pw_and (pt_cmpR op_eq (pv 2) pe_str (nomark _)) (pw_and (pt_cmpR (op_eqP (K := K) hu64) (pe_slice sl_list (pv 3) (po_some pe_int) (po_some pe_int)) (pe_lst (pa_cons pe_str pa_nil)) (nomark _)) (pw_and1 (pt_truth (pv 4) (fun _ => rfl))))))
        (pss_one (ps_ret (pe_tup (pa_cons (pv 2) (pa_cons (pe_ix ix_list (pv 3) pe_int (fun _ _ => rfl)) (pa_cons (pv 4) (pa_cons pe_int pa_nil)))))))
        pss_nil)
      (pss_one (ps_ret (pe_tup pa_nil))))))))), ?_⟩
    obtain ⟨wd, rest, rfl⟩ : ∃ wd rest, ws = wd :: rest := by
      cases ws with
      | nil => exact absurd rfl wne
      | cons a r => exact ⟨a, r, rfl⟩
    rw [List.length_cons] at w40
    refine ⟨_, rfl, p, _, rfl, tofL hp, by simp, by rw [List.length_map, List.length_cons]; omega, fun R nR => ?_⟩
    have tk : ((((wd :: rest).map V.str).drop 1).take (((wd :: rest).map V.str).length + 1 - 2)) = rest.map V.str := by
      rw [List.map_cons, List.length_cons, List.length_map]
      show (rest.map V.str).take _ = _
      exact List.take_of_length_le (by rw [List.length_map]; omega)
    have dp : ((((wd :: rest).map V.str).drop 1).drop (((wd :: rest).map V.str).length + 1 - 2)) = [] := by
      rw [List.map_cons, List.length_cons, List.length_map]
      exact List.drop_eq_nil_of_le (by show (rest.map V.str).length ≤ _; rw [List.length_map]; omega)
    rw [tk, dp]
    have s1 := Same.new (o := .lst (rest.map V.str)) nR
    have hR : upd H R (.lst (rest.map V.str)) R = some (.lst (rest.map V.str)) := upd_same
    generalize upd H R (.lst (rest.map V.str)) = H1 at *
    rw [show ((wd :: rest).map V.str).take 1 ++ [V.ref R] ++ [] = [V.str wd, V.ref R] from rfl]
    refine ⟨_, _, rfl, _, _, rfl, rfl, ?_⟩
    have hg1 := s1 _ _ hg
    have no : stB given (wd :: rest) = none → ∀ Hx, Same H Hx → ∀ t, Hx t = none → Q (.ref t) (upd Hx t (.tup [])) := fun e Hx sx t nt => q t _ (sx.trans (Same.new nt)) (by rw [e]; exact upd_same)
    by_cases ec : wd = "check"
    · subst ec
      refine ⟨_, rfl, rfl, _, rfl, ite2 (fun _ => ?_) (fun e => absurd (decide_eq_true rfl) e)⟩
      refine ⟨_, rfl, _, rfl, R, g, given, rest, rfl, hR, hg1, g100, by omega, (fun z hz => wl z (List.mem_cons_of_mem _ hz)), fun t x y H' s' ht => q t H' (s1.trans s') ?_⟩
      rw [st_check]
      cases e : ckB given rest with
      | true => rw [e] at ht; exact ⟨x, y, ht⟩
      | false => rw [e] at ht; exact ht
    refine ⟨_, rfl, rfl, _, rfl, ite2 (fun e => absurd (V.str.inj (of_decide_eq_true e)) ec) fun _ => ?_⟩
    cases rest with
    | nil =>
      refine ⟨_, rfl, _, .inl ⟨_, tofL hR, rfl⟩, iteT (iteT ?_)⟩
      exact ⟨(show 0 ≤ sizeLine from small (by decide)), fun t nt => no (st_one ec) _ s1 t nt⟩
    | cons n r =>
    have sm := st_more (given := given) (r := r) (n := n) ec
    refine ⟨_, rfl, _, .inl ⟨_, tofL hR, rfl⟩, iteF ?_⟩
    refine ⟨_, rfl, R, _, 0, _, rfl, rfl, tofL hR, atI_nat (j := 0) rfl, n, rfl, wl n (by simp), fun H2 s2 => ⟨nameB n, tru_bl _, ?_⟩⟩
    have s12 := s1.trans s2
    have hR2 := s2 _ _ hR
    have hg2 := s2 _ _ hg1
    cases en : nameB n with
    | false =>
      rw [if_neg (fun z => by rw [en] at z; cases z.1)] at sm
      refine iteT (iteT ?_)
      exact ⟨(show 0 ≤ sizeLine from small (by decide)), fun t nt => no sm _ s12 t nt⟩
    | true =>
    refine iteF ?_
    refine ⟨_, rfl, R, _, 0, _, rfl, rfl, tofL hR2, atI_nat (j := 0) rfl, _, rfl, g, _, rfl, .inl (tofL hg2), rfl, flat_strs given, _, rfl, ?_⟩
    rw [inV_strs]
    by_cases eg : n ∈ given
    · rw [decide_eq_true eg]
      rw [if_neg (fun z => z.2 eg)] at sm
      refine iteT ?_
      exact ⟨(show 0 ≤ sizeLine from small (by decide)), fun t nt => no sm _ s12 t nt⟩
    rw [decide_eq_false eg]
    rw [if_pos ⟨en, eg⟩] at sm
    refine iteF ?_
    by_cases et : wd = "take" ∧ r = []
    · obtain ⟨rfl, rfl⟩ := et
      rw [if_pos ⟨rfl, rfl⟩] at sm
      refine ⟨_, rfl, rfl, _, rfl, ite2 (fun _ => ?_) (fun e => absurd (decide_eq_true rfl) e)⟩
      refine ⟨_, rfl, R, _, rfl, .inl (tofL hR2), rfl, _, rfl, ite2 (fun _ => ?_) (fun e => absurd (by simp) e)⟩
      refine ⟨_, rfl, _, rfl, R, _, 0, _, rfl, rfl, tofL hR2, atI_nat (j := 0) rfl, (show 0 ≤ sizeLine from small (by decide)), fun te nte => ⟨(show 4 ≤ sizeLine from small (by decide)), fun t nt => ?_⟩⟩
      exact q t _ (s12.trans ((Same.new nte).trans (Same.new nt))) (by rw [sm]; exact ⟨_, _, upd_same⟩)
    rw [if_neg et] at sm
    -- past the second test
    refine ⟨_, rfl, rfl, _, rfl, ?_⟩
    rw [strD]
    refine (ite2 (fun e => ⟨_, rfl, R, _, rfl, .inl (tofL hR2), rfl, _, rfl, ite2 (fun e2 => absurd ⟨of_decide_eq_true e, by
        have := V.int.inj (of_decide_eq_true e2)
        rw [List.length_map, List.length_cons] at this
        exact List.eq_nil_of_length_eq_zero (by omega)⟩ et) fun _ => ?_⟩) fun e => ?_)
    all_goals
      refine ⟨_, rfl, 2, rfl, R, _, rfl, tofL hR2, fun p3 np3 => ?_⟩
      have e2 : cutV ((n :: r).map V.str) (some 2) none = (r.drop 1).map V.str := by
        rw [cut_hi0 (n :: r) (c := 2) (by decide)]
        rfl
      rw [e2]
      have s3 := Same.new (o := .lst ((r.drop 1).map V.str)) np3
      have hp3 : upd H2 p3 (.lst ((r.drop 1).map V.str)) p3 = some (.lst ((r.drop 1).map V.str)) := upd_same
      generalize upd H2 p3 (.lst ((r.drop 1).map V.str)) = H3 at *
      refine ⟨_, rfl, p3, g, r.drop 1, given, rfl, hp3, s3 _ _ hg2, g100, by rw [List.length_drop]; rw [List.length_cons] at w40; omega, (fun z hz => wl z (List.mem_cons_of_mem _ (List.mem_cons_of_mem _ (List.mem_of_mem_drop hz)))), fun tt xs H4 s4 htt cT => ?_⟩
      have hR4 := s4 _ _ (s3 _ _ hR2)
      have s14 := s12.trans (s3.trans s4)
      refine ⟨_, rfl, rfl, _, rfl, ?_⟩
      rw [strD]
      by_cases el : wd = "let"
      rotate_left
      · rw [decide_eq_false el]
        rw [if_neg (fun z => el z.1)] at sm
        refine iteF (iteF ?_)
        exact ⟨(show 0 ≤ sizeLine from small (by decide)), fun t nt => no sm _ s14 t nt⟩
      rw [decide_eq_true el]
      refine iteT ?_
      refine ⟨_, rfl, 1, rfl, 2, rfl, R, _, rfl, tofL hR4, fun p5 np5 => ?_⟩
      have e3 : cutV ((n :: r).map V.str) (some 1) (some 2) = (r.take 1).map V.str := by
        cases r with
        | nil => rfl
        | cons a r' =>
        unfold cutV
        have a1 : HT.sIx ((n :: a :: r').map V.str).length 0 (some 1) = 1 := by
          rw [List.length_map, List.length_cons, List.length_cons]
          show min 1 _ = 1
          omega
        have a2 : HT.sIx ((n :: a :: r').map V.str).length ((n :: a :: r').map V.str).length (some 2) = 2 := by
          rw [List.length_map, List.length_cons, List.length_cons]
          show min 2 _ = 2
          omega
        rw [a1, a2]
        rfl
      rw [e3]
      have s5 := Same.new (o := .lst ((r.take 1).map V.str)) np5
      have hp5 : upd H4 p5 (.lst ((r.take 1).map V.str)) p5 = some (.lst ((r.take 1).map V.str)) := upd_same
      generalize upd H4 p5 (.lst ((r.take 1).map V.str)) = H5 at *
      refine ⟨(show 1 ≤ sizeLine from small (by decide)), fun p6 np6 => ?_⟩
      have s6 := Same.new (o := .lst [.str "="]) np6
      have hp6 : upd H5 p6 (.lst [.str "="]) p6 = some (.lst (([("=" : Str)]).map V.str)) := upd_same
      have hp5' := s6 _ _ hp5
      generalize upd H5 p6 (.lst [.str "="]) = H6 at *
      refine ⟨.list ((r.take 1).map PyData.str), .list (([("=" : Str)]).map PyData.str), .lst (tofL hp5') (dpa_strs _), .lst (tofL hp6) (dpa_strs _), plain_strs _, plain_strs _, depth_strs _, _, rfl, ?_⟩
      rw [eqv_strs]
      have s46 := s5.trans s6
      by_cases eq1 : r.take 1 = [("=" : Str)]
      rotate_left
      · rw [decide_eq_false eq1]
        rw [if_neg (fun z => eq1 z.2.1)] at sm
        refine iteF (iteF ?_)
        exact ⟨(show 0 ≤ sizeLine from small (by decide)), fun t nt => no sm _ (s14.trans s46) t nt⟩
      rw [decide_eq_true eq1]
      refine iteT ?_
      cases eS : gsB given (r.drop 1) with
      | false =>
        rw [eS] at cT
        have cT : xs = [] := cT
        subst cT
        rw [if_neg (fun z => by rw [eS] at z; cases z.2.2)] at sm
        refine ⟨_, rfl, _, .inr (.inl ⟨_, tofT (s46 _ _ htt), rfl⟩), iteF ?_⟩
        exact ⟨(show 0 ≤ sizeLine from small (by decide)), fun t nt => no sm _ (s14.trans s46) t nt⟩
      | true =>
        have gS := eS
        rw [eS] at cT
        have cT : TsAt H4 xs (termsOf (r.drop 1)) := cT
        rw [if_pos ⟨el, eq1, gS⟩] at sm
        obtain ⟨v1, xs', rfl⟩ : ∃ v r, xs = v :: r := by
          cases xs with
          | nil => exact absurd (List.eq_nil_of_length_eq_zero (by rw [← cT.len]; rfl)) (terms_ne _)
          | cons v r => exact ⟨v, r, rfl⟩
        refine ⟨_, rfl, _, .inr (.inl ⟨_, tofT (s46 _ _ htt), rfl⟩), iteT ?_⟩
        refine ⟨_, rfl, _, rfl, R, _, 0, _, rfl, rfl, tofL (s46 _ _ hR4), atI_nat (j := 0) rfl, _, rfl, (show 4 ≤ sizeLine from small (by decide)), fun t nt => ?_⟩
        exact q t _ (s14.trans (s46.trans (Same.new nt))) (by rw [sm, el]; exact ⟨_, _, upd_same⟩)
end
end KW
namespace KW
open PySem PySem.Spec PyProof.Rows L2 GL RZ TL
theorem pe_fldK {X : Cx} {K : PySem.W.Frag} {e : Expr} {ta : TE} {f : Str} {pos : Pos} (he : PE X e ta) (hb : attributeBase e f X.env (eval e X.env) = eval e X.env) (h : X.K = K := by rfl) : PE X (.Attribute e f pos) (tFld K ta f) := h ▸ pe_fld he hb
theorem tups_same {H H' : Hp} (s : Same H H') : ∀ a xs, H a = some (.tup xs) → H' a = some (.tup xs) := fun _ _ h => s _ _ h
/-! ### the class -/
def flds (t s a k n : V) : List (Str × V) := putF "names" n (putF "kept" k (putF "taken" a (putF "_steps" s (putF "_text" t []))))
theorem f_text (t s a k n : V) : (flds t s a k n).lookup ("_text" : Str) = some t := by
  unfold flds; rw [lookup_putF, if_neg (by decide +kernel), lookup_putF, if_neg (by decide +kernel), lookup_putF, if_neg (by decide +kernel), lookup_putF, if_neg (by decide +kernel), lookup_putF, if_pos rfl]
theorem f_taken (t s a k n : V) : (flds t s a k n).lookup ("taken" : Str) = some a := by
  unfold flds; rw [lookup_putF, if_neg (by decide +kernel), lookup_putF, if_neg (by decide +kernel), lookup_putF, if_pos rfl]
theorem f_kept (t s a k n : V) : (flds t s a k n).lookup ("kept" : Str) = some k := by
  unfold flds; rw [lookup_putF, if_neg (by decide +kernel), lookup_putF, if_pos rfl]
theorem f_names (t s a k n : V) : (flds t s a k n).lookup ("names" : Str) = some n := by
  unfold flds; rw [lookup_putF, if_pos rfl]
theorem put_len (x : Str) (v : V) : ∀ fs : List (Str × V), (putF x v fs).length ≤ fs.length + 1
  | [] => Nat.le_refl _
  | (y, u) :: r => by
    have ih := put_len x v r
    show (if y = x then (y, v) :: r else (y, u) :: putF x v r).length ≤ r.length + 1 + 1
    split
    · exact Nat.le_succ _
    · rw [List.length_cons]; omega
structure Prg (K : PySem.W.Frag) (mg : Str → Option Value) (C : Addr) : Prop where
  cl : Cls K C
  nT : NoAttr K C "_text"
  nS : NoAttr K C "_steps"
  nA : NoAttr K C "taken"
  nK : NoAttr K C "kept"
  nN : NoAttr K C "names"
  mgC : mg "Program" = some (.ref C)
abbrev Wn := Str × Str
inductive StepsAt (H : Hp) : List V → List Wn → Prop
  | nil : StepsAt H [] []
  | cons {p : Addr} {w n : Str} {x y : V} {xs : List V} {ss : List Wn} : H p = some (.tup [.str w, .str n, x, y]) → StepsAt H xs ss → StepsAt H (.ref p :: xs) ((w, n) :: ss)
theorem StepsAt.len {H : Hp} : ∀ {xs : List V} {ss : List Wn}, StepsAt H xs ss → xs.length = ss.length
  | _, _, .nil => rfl
  | _, _, .cons _ t => congrArg Nat.succ t.len
theorem StepsAt.to {H H' : Hp} (k : ∀ a xs, H a = some (.tup xs) → H' a = some (.tup xs)) : ∀ {xs : List V} {ss : List Wn}, StepsAt H xs ss → StepsAt H' xs ss
  | _, _, .nil => .nil
  | _, _, .cons a t => .cons (k _ _ a) (t.to k)
theorem StepsAt.snoc {H : Hp} {p : Addr} {w n : Str} {x y : V} (h : H p = some (.tup [.str w, .str n, x, y])) : ∀ {xs : List V} {ss : List Wn}, StepsAt H xs ss → StepsAt H (xs ++ [.ref p]) (ss ++ [(w, n)])
  | _, _, .nil => .cons h .nil
  | _, _, .cons a t => .cons a (t.snoc h)
theorem StepsAt.get {H : Hp} : ∀ {xs : List V} {ss : List Wn} {i : Nat} {v : V}, StepsAt H xs ss → xs[i]? = some v → ∃ p w n x y, v = .ref p ∧ H p = some (.tup [.str w, .str n, x, y]) ∧ ss[i]? = some (w, n)
  | _, _, _, _, .nil, e => by cases e
  | _, _, 0, _, .cons a t, e => by cases e; exact ⟨_, _, _, _, _, rfl, a, rfl⟩
  | _, _, i + 1, _, .cons a t, e => StepsAt.get (i := i) t (by simpa using e)
def takenOf (ss : List Wn) : List Str := (ss.filter fun s => decide (s.1 = ("take" : Str))).map (·.2)
def namesOf (ss : List Wn) : List Str := (ss.filter fun s => !decide (s.1 = ("check" : Str))).map (·.2)
theorem fil_take {ss : List Wn} {i : Nat} {s : Wn} (p : Wn → Bool) (e : ss[i]? = some s) : ((ss.take (i + 1)).filter p).map (·.2) = ((ss.take i).filter p).map (·.2) ++ (if p s then [s.2] else []) := by
  rw [List.take_add_one, e, List.filter_append, List.map_append]
  cases h : p s <;> simp [h]
def spInit (C : Addr) : Sp := fun vs H Q _ => ∃ (s dx st : Addr) (x y : V) (xs : List V) (ss : List Wn), vs = [.ref s, x, .ref st, y] ∧ H s = some (.ins C dx []) ∧ H st = some (.tup xs) ∧ StepsAt H xs ss ∧ ss.length ≤ 62000 ∧
  ∀ (tt tn : Addr) (H' : Hp), (∀ b o, b ≠ s → H b = some o → H' b = some o) → H' s = some (.ins C dx (flds x (.ref st) (.ref tt) y (.ref tn))) → H' tt = some (.tup ((takenOf ss).map V.str)) → H' tn = some (.tup ((namesOf ss).map V.str)) → Q .non H'
section
variable {P : Program} {w : World} {K : PySem.W.Frag} {mg : Str → Option Value} {base : Heap}
abbrev s_Program_init : Stmt := inClass (topS 18) 0
theorem sc_Program_init : FnScope ["self", "text", "steps", "kept", "word", "name", "_"] ["self", "text", "steps", "kept"] (defScope s_Program_init) := ⟨rfl, rfl, rfl, by decide +kernel, rfl, by decide +kernel, by decide +kernel⟩
theorem ok_init {f C : Addr} {fd : FuncData} (F : Fun K "__init__" "Program.__init__" s_Program_init f fd) (T : Bl mg) (S : Prg K mg C) : FnG P w K mg base CX0 1 f fd ["self", "text", "steps", "kept"] (spInit C) := by
  refine okG F sc_Program_init (fun vs H Q E h => ?_) fun cdv A outer s H vs Q E hr hc h => ?_
  · obtain ⟨s, dx, st, x, y, xs, ss, rfl, _⟩ := h
    rfl
  · obtain ⟨so, dx, st, x, y, xs, ss, rfl, hs, hst, hX, l100, q⟩ := h
    have nd := sc_Program_init.nd
    refine ⟨_, (pss_cons (ps_fld (pv 0) (pv 1) rfl)
      (pss_cons (ps_fld (pv 0) (pv 2) rfl)
      (pss_cons (ps_fld (pv 0) (pe_tupleOf (by rfl) T.tuple (pe_lc (own := [("word", 4), ("name", 5), ("_", 6)]) (g := (gTup K 4 (gCons (gName 4) (gCons (gName 5) (gCons (gName 6) (gCons (gName 6) gNil)))))) rfl nd (pi_tup (pv 2)) (blkOk_by (own := [("word", 4), ("name", 5), ("_", 6)]) (N := ["self", "text", "steps", "kept", "word", "name", "_"]) (sc := defScope s_Program_init) (by decide +kernel)) (fun _ _ _ _ _ => (pg_tup rfl (pgs_cons (pg_name (i := 4) nd rfl (by first | exact Or.inl rfl | exact Or.inr rfl)) (pgs_cons (pg_name (i := 5) nd rfl (by first | exact Or.inl rfl | exact Or.inr rfl)) (pgs_cons (pg_name (i := 6) nd rfl (by first | exact Or.inl rfl | exact Or.inr rfl)) (pgs_cons (pg_name (i := 6) nd rfl (by first | exact Or.inl rfl | exact Or.inr rfl)) pgs_nil)))))) (fun _ _ _ _ _ => (pts_one (pt_cmpR op_eq (pv 4) pe_str (nomark _)))) (fun _ _ _ _ _ => (pv 5)))) rfl)
      (pss_cons (ps_fld (pv 0) (pv 3) rfl)
      (pss_one (ps_fld (pv 0) (pe_tupleOf (by rfl) T.tuple (pe_lc (own := [("word", 4), ("name", 5), ("_", 6)]) (g := (gTup K 4 (gCons (gName 4) (gCons (gName 5) (gCons (gName 6) (gCons (gName 6) gNil)))))) rfl nd (pi_tup (pv 2)) (blkOk_by (own := [("word", 4), ("name", 5), ("_", 6)]) (N := ["self", "text", "steps", "kept", "word", "name", "_"]) (sc := defScope s_Program_init) (by decide +kernel)) (fun _ _ _ _ _ => (pg_tup rfl (pgs_cons (pg_name (i := 4) nd rfl (by first | exact Or.inl rfl | exact Or.inr rfl)) (pgs_cons (pg_name (i := 5) nd rfl (by first | exact Or.inl rfl | exact Or.inr rfl)) (pgs_cons (pg_name (i := 6) nd rfl (by first | exact Or.inl rfl | exact Or.inr rfl)) (pgs_cons (pg_name (i := 6) nd rfl (by first | exact Or.inl rfl | exact Or.inr rfl)) pgs_nil)))))) (fun _ _ _ _ _ => (pts_one (pt_cmpR op_ne (pv 4) pe_str (nomark _)))) (fun _ _ _ _ _ => (pv 5)))) rfl)))))), ?_⟩
    refine ⟨_, rfl, _, rfl, so, C, dx, _, rfl, hs, S.cl, S.nT, (show 0 < 1000 by decide), ?_⟩
    refine ⟨_, rfl, _, rfl, so, C, dx, _, rfl, upd_same, S.cl, S.nS, Nat.lt_of_le_of_lt (put_len _ _ _) (by decide), ?_⟩
    rw [upd_upd]
    have ne_so : ∀ {b : Addr} {o : HO}, H b = some o → (∀ d fs, o ≠ .ins C d fs) → b ≠ so := fun hb hn z => by
      rw [z, hs] at hb; exact hn _ _ (Option.some.inj hb).symm
    have hst2 : upd H so (.ins C dx (putF "_steps" (.ref st) (putF "_text" x []))) st = some (.tup xs) := by rw [upd_ne (ne_so hst (fun _ _ z => nomatch z))]; exact hst
    have hX2 : StepsAt (upd H so (.ins C dx (putF "_steps" (.ref st) (putF "_text" x [])))) xs ss := hX.to fun a ys h => by rw [upd_ne (ne_so h (fun _ _ z => nomatch z))]; exact h
    have hs2 : upd H so (.ins C dx (putF "_steps" (.ref st) (putF "_text" x []))) so = some (.ins C dx (putF "_steps" (.ref st) (putF "_text" x []))) := upd_same
    have kp2 : ∀ b o, b ≠ so → H b = some o → upd H so (.ins C dx (putF "_steps" (.ref st) (putF "_text" x []))) b = some o := fun b o n h => by rw [upd_ne n]; exact h
    generalize upd H so (.ins C dx (putF "_steps" (.ref st) (putF "_text" x []))) = H2 at *
    -- taken
    refine ⟨_, rfl, st, rfl, ⟨_, tofT hst2⟩, fun D2 nD2 => ?_⟩
    refine lc_tup (K := K) (a := st) (xs := xs) (fun i Hx => Same H2 Hx ∧ Hx D2 = some (.lst ((((ss.take i).filter fun s => decide (s.1 = ("take" : Str))).map (·.2)).map V.str))) ⟨Same.new nD2, upd_same⟩ (fun i Hx _ h => tofT (h.1 _ _ hst2)) ?_ ?_
    · rintro i v Hx hi ⟨sx, hD⟩
      obtain ⟨p, wd, n, b1, b2, rfl, hp, hs'⟩ := (hX2.to (tups_same sx)).get hi
      have il := (List.getElem?_eq_some_iff.mp hs').1
      have ft := fil_take (fun s : Wn => decide (s.1 = ("take" : Str))) hs'
      refine ⟨p, _, rfl, tofT hp, rfl, _, _, rfl, _, _, rfl, _, _, rfl, _, _, rfl, rfl, rfl, ?_⟩
      refine ⟨_, rfl, rfl, _, rfl, ?_⟩
      have ec : decide (V.str wd = V.str ("take" : Str)) = (fun s : Wn => decide (s.1 = ("take" : Str))) (wd, n) := by
        show decide (V.str wd = V.str ("take" : Str)) = decide (wd = ("take" : Str))
        by_cases e : wd = ("take" : Str)
        · rw [decide_eq_true e, decide_eq_true (congrArg V.str e)]
        · rw [decide_eq_false e, decide_eq_false (fun z => e (V.str.inj z))]
      rw [ec]
      refine ite2 (fun e => ?_) (fun e => ?_)
      · refine ⟨_, rfl, _, hD, ?_, ?_, ?_⟩
        · rw [List.length_map, List.length_map]; exact smallt (Nat.lt_of_le_of_lt (List.length_filter_le _ _) (by rw [List.length_take]; omega))
        · intro b o hb
          rw [upd_ne (ne_of_none hb nD2)]
          exact sx _ _ hb
        · rw [upd_same, ft, if_pos e, List.map_append]; rfl
      · refine ⟨sx, ?_⟩
        rw [ft, if_neg e, List.append_nil]
        exact hD
    rintro Hx2 ⟨sx2, hD2⟩
    rw [hX2.len, List.take_length] at hD2
    refine .inl ⟨D2, _, rfl, tofL hD2, fun tt ntt => ?_⟩
    have st2 := Same.new (o := .tup (((ss.filter fun s => decide (s.1 = ("take" : Str))).map (·.2)).map V.str)) ntt
    have s23 := sx2.trans st2
    refine ⟨_, rfl, so, C, dx, _, rfl, s23 _ _ hs2, S.cl, S.nA, Nat.lt_of_le_of_lt (put_len _ _ _) (Nat.lt_of_le_of_lt (Nat.succ_le_succ (put_len _ _ _)) (by decide)), ?_⟩
    have htt : upd Hx2 tt (.tup (((ss.filter fun s => decide (s.1 = ("take" : Str))).map (·.2)).map V.str)) tt = some (.tup ((takenOf ss).map V.str)) := upd_same
    generalize upd Hx2 tt (.tup (((ss.filter fun s => decide (s.1 = ("take" : Str))).map (·.2)).map V.str)) = H3 at *
    -- kept
    have hs3 := s23 _ _ hs2
    refine ⟨_, rfl, _, rfl, so, C, dx, _, rfl, upd_same, S.cl, S.nK, Nat.lt_of_le_of_lt (put_len _ _ _) (Nat.lt_of_le_of_lt (Nat.succ_le_succ (put_len _ _ _)) (Nat.lt_of_le_of_lt (Nat.succ_le_succ (Nat.succ_le_succ (put_len _ _ _))) (by decide))), ?_⟩
    rw [upd_upd]
    have ne3 : ∀ {b : Addr} {o : HO}, H3 b = some o → (∀ d fs, o ≠ .ins C d fs) → b ≠ so := fun hb hn z => by
      rw [z, hs3] at hb; exact hn _ _ (Option.some.inj hb).symm
    generalize eF : putF ("kept" : Str) y (putF "taken" (.ref tt) (putF "_steps" (.ref st) (putF "_text" x []))) = F4 at *
    have lF : F4.length ≤ 4 := by
      rw [← eF]
      exact Nat.le_trans (put_len _ _ _) (Nat.succ_le_succ (Nat.le_trans (put_len _ _ _) (Nat.succ_le_succ (Nat.le_trans (put_len _ _ _) (Nat.succ_le_succ (put_len _ _ _))))))
    have kt4 : ∀ a ys, H3 a = some (.tup ys) → upd H3 so (.ins C dx F4) a = some (.tup ys) := fun a ys h => by rw [upd_ne (ne3 h (fun _ _ z => nomatch z))]; exact h
    have hst4 : upd H3 so (.ins C dx F4) st = some (.tup xs) := kt4 _ _ (s23 _ _ hst2)
    have hX4 : StepsAt (upd H3 so (.ins C dx F4)) xs ss := (hX2.to (tups_same s23)).to kt4
    have htt4 := kt4 _ _ htt
    have hs4 : upd H3 so (.ins C dx F4) so = some (.ins C dx F4) := upd_same
    have kp4 : ∀ b o, b ≠ so → H b = some o → upd H3 so (.ins C dx F4) b = some o := fun b o n h => by rw [upd_ne n]; exact s23 _ _ (kp2 b o n h)
    generalize upd H3 so (.ins C dx F4) = H4 at *
    -- names
    refine ⟨_, rfl, st, rfl, ⟨_, tofT hst4⟩, fun D4 nD4 => ?_⟩
    refine lc_tup (K := K) (a := st) (xs := xs) (fun i Hx => Same H4 Hx ∧ Hx D4 = some (.lst ((((ss.take i).filter fun s => !decide (s.1 = ("check" : Str))).map (·.2)).map V.str))) ⟨Same.new nD4, upd_same⟩ (fun i Hx _ h => tofT (h.1 _ _ hst4)) ?_ ?_
    · rintro i v Hx hi ⟨sx, hD⟩
      obtain ⟨p, wd, n, b1, b2, rfl, hp, hs'⟩ := (hX4.to (tups_same sx)).get hi
      have il := (List.getElem?_eq_some_iff.mp hs').1
      have ft := fil_take (fun s : Wn => !decide (s.1 = ("check" : Str))) hs'
      refine ⟨p, _, rfl, tofT hp, rfl, _, _, rfl, _, _, rfl, _, _, rfl, _, _, rfl, rfl, rfl, ?_⟩
      refine ⟨_, rfl, rfl, _, rfl, ?_⟩
      have ec : (!decide (V.str wd = V.str ("check" : Str))) = (fun s : Wn => !decide (s.1 = ("check" : Str))) (wd, n) := by
        show (!decide (V.str wd = V.str ("check" : Str))) = !decide (wd = ("check" : Str))
        by_cases e : wd = ("check" : Str)
        · rw [decide_eq_true e, decide_eq_true (congrArg V.str e)]
        · rw [decide_eq_false e, decide_eq_false (fun z => e (V.str.inj z))]
      rw [ec]
      refine ite2 (fun e => ?_) (fun e => ?_)
      · refine ⟨_, rfl, _, hD, ?_, ?_, ?_⟩
        · rw [List.length_map, List.length_map]; exact smallt (Nat.lt_of_le_of_lt (List.length_filter_le _ _) (by rw [List.length_take]; omega))
        · intro b o hb
          rw [upd_ne (ne_of_none hb nD4)]
          exact sx _ _ hb
        · rw [upd_same, ft, if_pos e, List.map_append]; rfl
      · refine ⟨sx, ?_⟩
        rw [ft, if_neg e, List.append_nil]
        exact hD
    rintro Hx4 ⟨sx4, hD4⟩
    rw [hX4.len, List.take_length] at hD4
    refine .inl ⟨D4, _, rfl, tofL hD4, fun tn ntn => ?_⟩
    have st4 := Same.new (o := .tup (((ss.filter fun s => !decide (s.1 = ("check" : Str))).map (·.2)).map V.str)) ntn
    have s45 := sx4.trans st4
    refine ⟨_, rfl, so, C, dx, _, rfl, s45 _ _ hs4, S.cl, S.nN, by omega, ?_⟩
    have htn : upd Hx4 tn (.tup (((ss.filter fun s => !decide (s.1 = ("check" : Str))).map (·.2)).map V.str)) tn = some (.tup ((namesOf ss).map V.str)) := upd_same
    have hs5 := s45 _ _ hs4
    have htt5 := s45 _ _ htt4
    have kp5 : ∀ b o, b ≠ so → H b = some o → upd Hx4 tn (.tup (((ss.filter fun s => !decide (s.1 = ("check" : Str))).map (·.2)).map V.str)) b = some o := fun b o n h => s45 _ _ (kp4 b o n h)
    generalize upd Hx4 tn (.tup (((ss.filter fun s => !decide (s.1 = ("check" : Str))).map (·.2)).map V.str)) = H5 at *
    have ne5 : ∀ {b : Addr} {o : HO}, H5 b = some o → (∀ d fs, o ≠ .ins C d fs) → b ≠ so := fun hb hn z => by
      rw [z, hs5] at hb; exact hn _ _ (Option.some.inj hb).symm
    refine q tt tn _ (fun b o n h => by rw [upd_ne n]; exact kp5 b o n h) ?_ ?_ ?_
    · rw [upd_same, ← eF]; rfl
    · rw [upd_ne (ne5 htt5 (fun _ _ z => nomatch z))]; exact htt5
    · rw [upd_ne (ne5 htn (fun _ _ z => nomatch z))]; exact htn
end
end KW
namespace KW
open PySem PySem.Spec PyProof.Rows L2 GL RZ TL
def modW (m : Int) : List Str := if m = 0 then [] else [("mod" : Str), sN m]
def ckW (l r : List Tm) (m : Int) : List Str := sumWs l ++ ("=" : Str) :: sumWs r ++ modW m
def OkSm (given : List Str) (ts : List Tm) : Prop := ts ≠ [] ∧ ts.length ≤ 3 ∧ ∀ t ∈ ts, OkT given t
def OkM (m : Int) : Prop := m = 0 ∨ (2 ≤ m ∧ m < 10 ^ 60)
theorem sum_not {given : List Str} {ts : List Tm} (h : OkSm given ts) : ∀ w ∈ sumWs ts, w ≠ "=" ∧ w ≠ "mod" :=
  sum_all h.2.2 ⟨by decide +kernel, by decide +kernel⟩ ⟨by decide +kernel, by decide +kernel⟩ (fun f h0 h1 => ⟨(nat_sN h0 h1).2.2.2, (nat_sN h0 h1).2.2.1⟩) fun n _ hn => ⟨(name_not hn).2.2.1, (name_not hn).2.1⟩
/-! ### the lines of a program -/
inductive Stg
  | take (n : Str)
  | lett (n : Str) (ts : List Tm)
  | check (l r : List Tm) (m : Int)
def wordOf : Stg → Str
  | .take _ => "take"
  | .lett _ _ => "let"
  | .check _ _ _ => "check"
def nameOf : Stg → Str
  | .take n => n
  | .lett n _ => n
  | .check _ _ _ => ""
def stW : Stg → List Str
  | .take n => ["take", n]
  | .lett n ts => "let" :: n :: "=" :: sumWs ts
  | .check l r m => "check" :: ckW l r m
def OkStg (given : List Str) : Stg → Prop
  | .take n => nameB n = true ∧ n ∉ given
  | .lett n ts => nameB n = true ∧ n ∉ given ∧ OkSm given ts
  | .check l r m => OkSm given l ∧ OkSm given r ∧ OkM m
theorem st_len {given : List Str} {s : Stg} (h : OkStg given s) : 2 ≤ (stW s).length ∧ (stW s).length ≤ 22 := by
  cases s with
  | take n => exact ⟨Nat.le_refl _, (by decide : 2 ≤ 22)⟩
  | lett n ts =>
    have l := Nat.le_trans (sum_len ts) (Nat.mul_le_mul_left 3 h.2.2.2.1)
    show 2 ≤ (sumWs ts).length + 1 + 1 + 1 ∧ (sumWs ts).length + 1 + 1 + 1 ≤ 22
    omega
  | check l r m =>
    have ll := Nat.le_trans (sum_len l) (Nat.mul_le_mul_left 3 h.1.2.1)
    have lr := Nat.le_trans (sum_len r) (Nat.mul_le_mul_left 3 h.2.1.2.1)
    have lm : (modW m).length ≤ 2 := by unfold modW; split <;> simp
    show 2 ≤ (ckW l r m).length + 1 ∧ (ckW l r m).length + 1 ≤ 22
    unfold ckW
    rw [List.length_append, List.length_append, List.length_cons]
    omega
end KW
namespace KW
open PySem PySem.Spec PyProof.Rows L2 GL RZ TL
theorem name_free {z : Str} (h : nameB z = true) : (32 : Nat) ∉ tl z := fun m => by
  unfold nameB at h
  rw [Bool.and_eq_true, Bool.and_eq_true] at h
  have := List.all_eq_true.mp (Bool.and_eq_true_iff.mp h.2).2 32 m
  revert this
  decide +kernel
def NoNl (z : Str) : Prop := (10 : Nat) ∉ tl z
theorem name_nl {z : Str} (h : nameB z = true) : NoNl z := fun m => by
  unfold nameB at h
  rw [Bool.and_eq_true, Bool.and_eq_true] at h
  have := List.all_eq_true.mp (Bool.and_eq_true_iff.mp h.2).2 10 m
  revert this
  decide +kernel
theorem mem_joinL {S : List Nat} {c : Nat} : ∀ ls : List (List Nat), c ∈ joinL S ls → c ∈ S ∨ ∃ l ∈ ls, c ∈ l
  | [], h => nomatch h
  | [p], h => .inr ⟨p, List.mem_cons_self, h⟩
  | p :: q :: r, h => by
    have h' : c ∈ p ++ (S ++ joinL S (q :: r)) := h
    rcases List.mem_append.mp h' with h | h
    · exact .inr ⟨p, List.mem_cons_self, h⟩
    · rcases List.mem_append.mp h with h | h
      · exact .inl h
      · rcases mem_joinL (q :: r) h with h | ⟨l, hl, hc⟩
        · exact .inl h
        · exact .inr ⟨l, List.mem_cons_of_mem _ hl, hc⟩
theorem joinL_len (S : List Nat) (B : Nat) : ∀ ps : List (List Nat), (∀ p ∈ ps, p.length ≤ B) → (joinL S ps).length ≤ ps.length * (B + S.length)
  | [], _ => Nat.zero_le _
  | [p], h => by
    have := h p List.mem_cons_self
    show p.length ≤ 1 * _
    omega
  | p :: q :: r, h => by
    have h1 := h p List.mem_cons_self
    have ih := joinL_len S B (q :: r) fun x hx => h x (List.mem_cons_of_mem _ hx)
    show (p ++ (S ++ joinL S (q :: r))).length ≤ ((q :: r).length + 1) * (B + S.length)
    rw [List.length_append, List.length_append, Nat.add_mul]
    omega
theorem joinT_len (y : Str) (B : Nat) (ws : List Str) (h : ∀ z ∈ ws, z.length ≤ B) : (Txt.join y ws).length ≤ ws.length * (B + y.length) := by
  have l1 := joinL_len (tl y) B (ws.map tl) fun p hp => by
    obtain ⟨z, hz, rfl⟩ := List.mem_map.mp hp
    rw [show (tl z).length = z.length from Array.length_toList ..]
    exact h z hz
  rw [List.length_map, show (tl y).length = y.length from Array.length_toList ..] at l1
  rw [← show (tl (Txt.join y ws)).length = (Txt.join y ws).length from Array.length_toList .., TL.join_eq, tl_join]
  exact l1

theorem ck_all {P : Str → Prop} {given : List Str} {l r : List Tm} {m : Int} (hl : OkSm given l) (hr : OkSm given r) (hM : OkM m) (hm : P "-") (hp : P "+") (he : P "=") (hd : P "mod") (pn : ∀ f : Int, 0 ≤ f → f < 10 ^ 60 → P (sN f)) (pm : ∀ n, nameB n = true → P n) : ∀ w ∈ ckW l r m, P w := fun w hw => by
  unfold ckW at hw
  rcases List.mem_append.mp hw with hw | hw
  · rcases List.mem_append.mp hw with hw | hw
    · exact sum_all hl.2.2 hm hp pn (fun n _ h => pm n h) w hw
    · rcases List.mem_cons.mp hw with rfl | hw
      · exact he
      · exact sum_all hr.2.2 hm hp pn (fun n _ h => pm n h) w hw
  · unfold modW at hw
    rcases hM with rfl | ⟨m2, mB⟩
    · rw [if_pos rfl] at hw; exact nomatch hw
    · rw [if_neg (by omega)] at hw
      rcases List.mem_cons.mp hw with rfl | hw
      · exact hd
      · rw [List.mem_singleton.mp hw]; exact pn m (by omega) mB
theorem st_all {P : Str → Prop} {given : List Str} {s : Stg} (h : OkStg given s) (ht : P "take") (hL : P "let") (hc : P "check") (hm : P "-") (hp : P "+") (he : P "=") (hd : P "mod") (pn : ∀ f : Int, 0 ≤ f → f < 10 ^ 60 → P (sN f)) (pm : ∀ n, nameB n = true → P n) : ∀ w ∈ stW s, P w := by
  cases s with
  | take n =>
    intro w hw
    rcases List.mem_cons.mp hw with rfl | hw
    · exact ht
    · rw [List.mem_singleton.mp hw]; exact pm n h.1
  | lett n ts =>
    intro w hw
    rcases List.mem_cons.mp hw with rfl | hw
    · exact hL
    rcases List.mem_cons.mp hw with rfl | hw
    · exact pm _ h.1
    rcases List.mem_cons.mp hw with rfl | hw
    · exact he
    · exact sum_all h.2.2.2.2 hm hp pn (fun n _ h => pm n h) w hw
  | check l r m =>
    intro w hw
    rcases List.mem_cons.mp hw with rfl | hw
    · exact hc
    · exact ck_all h.1 h.2.1 h.2.2 hm hp he hd pn pm w hw
def lineP (s : Stg) : Str := Txt.join " " (stW s)
def keepP (ks : List Str) : Str := Txt.join " " (("keep" : Str) :: ks)
def textP (st : List Stg) (ks : List Str) : Str := Txt.join "\n" (st.map lineP ++ [keepP ks])
def gv (st : List Stg) (i : Nat) : List Str := (st.take i).map nameOf
def wn (st : List Stg) : List Wn := st.map fun s => (wordOf s, nameOf s)
structure GoodP (st : List Stg) (ks : List Str) : Prop where
  l10 : st.length ≤ 10
  ok : ∀ (i : Nat) (s : Stg), st[i]? = some s → OkStg (gv st i) s
  k1 : 1 ≤ ks.length
  k6 : ks.length ≤ 6
  kd : ks.Nodup
  kn : ∀ z ∈ ks, nameB z = true ∧ z ∈ gv st st.length
theorem st_free {given : List Str} {s : Stg} (h : OkStg given s) : ∀ w ∈ stW s, (32 : Nat) ∉ tl w :=
  st_all h (by decide +kernel) (by decide +kernel) (by decide +kernel) (by decide +kernel) (by decide +kernel) (by decide +kernel) (by decide +kernel) (fun f _ _ => PyProof.Rows.int_text_free' 32 ⟨by decide, by decide⟩ f) fun n hn => name_free hn
theorem st_nl {given : List Str} {s : Stg} (h : OkStg given s) : ∀ w ∈ stW s, NoNl w :=
  st_all h (by unfold NoNl; decide +kernel) (by unfold NoNl; decide +kernel) (by unfold NoNl; decide +kernel) (by unfold NoNl; decide +kernel) (by unfold NoNl; decide +kernel) (by unfold NoNl; decide +kernel) (by unfold NoNl; decide +kernel) (fun f _ _ => PyProof.Rows.int_text_free' 10 ⟨by decide, by decide⟩ f) fun n hn => name_nl hn
theorem st_short {given : List Str} {s : Stg} (h : OkStg given s) : ∀ w ∈ stW s, w.cps.toList.length ≤ 61 :=
  st_all h (by decide +kernel) (by decide +kernel) (by decide +kernel) (by decide +kernel) (by decide +kernel) (by decide +kernel) (by decide +kernel) (fun f h0 h1 => sN_len h0 h1) fun n hn => Nat.le_trans (name_len8 hn).2 (by decide)
theorem nl_join {ws : List Str} (h : ∀ w ∈ ws, NoNl w) : NoNl (Txt.join " " ws) := fun m => by
  rw [tl_joinT] at m
  rcases mem_joinL _ m with m | ⟨l, hl, hc⟩
  · exact absurd m (by decide)
  · obtain ⟨z, hz, rfl⟩ := List.mem_map.mp hl
    exact h z hz hc
theorem split_line {given : List Str} {s : Stg} (h : OkStg given s) : Txt.split (lineP s) " " = stW s := by
  refine split_join (s := 32) (S := []) rfl (by decide +kernel) (fun z => ?_) (st_free h)
  have := (st_len h).1
  rw [z] at this; exact absurd this (by decide)
theorem split_keep {ks : List Str} (h : ∀ z ∈ ks, nameB z = true) : Txt.split (keepP ks) " " = ("keep" : Str) :: ks := by
  refine split_join (s := 32) (S := []) rfl (by decide +kernel) (by simp) fun z hz => ?_
  rcases List.mem_cons.mp hz with rfl | hz
  · decide +kernel
  · exact name_free (h z hz)
theorem GoodP.mem {st : List Stg} {ks : List Str} (g : GoodP st ks) {s : Stg} (h : s ∈ st) : ∃ given, OkStg given s := by
  obtain ⟨i, hi⟩ := List.getElem?_of_mem h
  exact ⟨_, g.ok i s hi⟩
theorem split_text {st : List Stg} {ks : List Str} (g : GoodP st ks) : Txt.split (textP st ks) "\n" = st.map lineP ++ [keepP ks] := by
  refine split_join (s := 10) (S := []) rfl (by decide +kernel) (by simp) fun z hz => ?_
  rcases List.mem_append.mp hz with hz | hz
  · obtain ⟨s, hs, rfl⟩ := List.mem_map.mp hz
    obtain ⟨given, ok⟩ := g.mem hs
    exact nl_join (st_nl ok)
  · rw [List.mem_singleton.mp hz]
    refine nl_join fun w hw => ?_
    rcases List.mem_cons.mp hw with rfl | hw
    · unfold NoNl; decide +kernel
    · exact name_nl (g.kn w hw).1
theorem str_len2 (z : Str) : z.length = z.cps.toList.length := (Array.length_toList ..).symm
theorem line_len {given : List Str} {s : Stg} (h : OkStg given s) : (lineP s).length ≤ 1364 := by
  have l := (st_len h).2
  have := joinT_len " " 61 (stW s) fun z hz => by rw [str_len2]; exact st_short h z hz
  have b1 : (" " : Str).length = 1 := by decide +kernel
  rw [b1] at this
  have k1 : (stW s).length * (61 + 1) ≤ 22 * 62 := Nat.mul_le_mul_right _ l
  show (Txt.join " " (stW s)).length ≤ _
  omega
theorem keep_len {ks : List Str} (h : ∀ z ∈ ks, nameB z = true) (h6 : ks.length ≤ 6) : (keepP ks).length ≤ 1364 := by
  have := joinT_len " " 61 (("keep" : Str) :: ks) fun z hz => by
    rw [str_len2]
    rcases List.mem_cons.mp hz with rfl | hz
    · decide +kernel
    · exact Nat.le_trans (name_len8 (h z hz)).2 (by decide)
  have b1 : (" " : Str).length = 1 := by decide +kernel
  rw [b1, List.length_cons] at this
  have k1 : (ks.length + 1) * (61 + 1) ≤ 7 * 62 := Nat.mul_le_mul_right _ (by omega)
  show (Txt.join " " (("keep" : Str) :: ks)).length ≤ _
  omega
theorem text_len {st : List Stg} {ks : List Str} (g : GoodP st ks) : (textP st ks).length ≤ 15015 := by
  have := joinT_len "\n" 1364 (st.map lineP ++ [keepP ks]) fun z hz => by
    rcases List.mem_append.mp hz with hz | hz
    · obtain ⟨s, hs, rfl⟩ := List.mem_map.mp hz
      obtain ⟨given, ok⟩ := g.mem hs
      exact line_len ok
    · rw [List.mem_singleton.mp hz]
      exact keep_len (fun z hz => (g.kn z hz).1) g.k6
  have c1 : ("\n" : Str).length = 1 := by decide +kernel
  rw [c1, List.length_append, List.length_map, show [keepP ks].length = 1 from rfl] at this
  have := g.l10
  have k1 : (st.length + 1) * (1364 + 1) ≤ 11 * 1365 := Nat.mul_le_mul_right _ (by omega)
  show (Txt.join "\n" (st.map lineP ++ [keepP ks])).length ≤ _
  omega
def PrgAt (C : Addr) (H : Hp) (a : Addr) (text : Str) (taken kept names : List Str) : Prop :=
  ∃ dx st tt tk tn, H a = some (.ins C dx (flds (.str text) (.ref st) (.ref tt) (.ref tk) (.ref tn))) ∧ H tt = some (.tup (taken.map V.str)) ∧ H tk = some (.tup (kept.map V.str)) ∧ H tn = some (.tup (names.map V.str))
theorem PrgAt.same {C : Addr} {H H' : Hp} {a : Addr} {text : Str} {taken kept names : List Str} (s : Same H H') (h : PrgAt C H a text taken kept names) : PrgAt C H' a text taken kept names := by
  obtain ⟨dx, st, tt, tk, tn, h1, h2, h3, h4⟩ := h
  exact ⟨dx, st, tt, tk, tn, s _ _ h1, s _ _ h2, s _ _ h3, s _ _ h4⟩
def spStr (C : Addr) : Sp := fun vs H Q _ => ∃ (a : Addr) (text : Str) (taken kept names : List Str), vs = [.ref a] ∧ PrgAt C H a text taken kept names ∧ Q (.str text) H
section
variable {P : Program} {w : World} {K : PySem.W.Frag} {mg : Str → Option Value} {base : Heap}
abbrev s_Program_str : Stmt := inClass (topS 18) 1
theorem sc_Program_str : FnScope ["self"] ["self"] (defScope s_Program_str) := ⟨rfl, rfl, rfl, by decide +kernel, rfl, by decide +kernel, by decide +kernel⟩
theorem ok_str {f C : Addr} {fd : FuncData} (F : Fun K "__str__" "Program.__str__" s_Program_str f fd) (T : Bl mg) (S : Prg K mg C) : FnG P w K mg base CX0 1 f fd ["self"] (spStr C) := by
  refine okG F sc_Program_str (fun vs H Q E h => ?_) fun cdv A outer s H vs Q E hr hc h => ?_
  · obtain ⟨a, text, taken, kept, names, rfl, _⟩ := h
    rfl
  · obtain ⟨a, text, taken, kept, names, rfl, ⟨dx, st, tt, tk, tn, h1, _⟩, q⟩ := h
    refine ⟨_, (pss_one (ps_ret (pe_callTy SkE.call_str_str (by rfl) T.str boot_str (pa_cons (pe_fld (pv 0) rfl) pa_nil)))), ?_⟩
    exact ⟨_, rfl, a, C, dx, _, _, rfl, h1, S.cl, S.nT, f_text _ _ _ _ _, text, rfl, q⟩
end
end KW
namespace KW
open PySem PySem.Spec PyProof.Rows L2 GL RZ TL GX
/-! ### a text, read line by line -/
def linesOf (tx : Str) : List Str := Txt.split tx "\n"
def wordsOf (z : Str) : List Str := Txt.split z " "
/-- the lines ahead of the last one: the number of the first one that is not as described, or what all give -/
def rdL (ss : List Wn) : List Str → Sum Nat (List Wn)
  | [] => .inr ss
  | z :: r => match stB (ss.map (·.2)) (wordsOf z) with
    | none => .inl (ss.length + 1)
    | some p => rdL (ss ++ [p]) r
def keepB (given : List Str) (ws : List Str) : Bool := decide (ws.head? = some ("keep" : Str)) && (namesB ws.tail && ws.tail.all fun z => decide (z ∈ given))
def rdK (n : Nat) (ws : List Str) : Sum Nat (List Wn) → Sum Nat (List Wn × List Str)
  | .inl k => .inl k
  | .inr ss => if keepB (ss.map (·.2)) ws = true then .inr (ss, ws.tail) else .inl n
def rdB (tx : Str) : Sum Nat (List Wn × List Str) := rdK (linesOf tx).length (wordsOf ((linesOf tx).getLastD "")) (rdL [] (linesOf tx).dropLast)
theorem rd_bad {ss : List Wn} {z : Str} {r : List Str} (h : stB (ss.map (·.2)) (wordsOf z) = none) : rdL ss (z :: r) = .inl (ss.length + 1) := by
  show (match stB (ss.map (·.2)) (wordsOf z) with | none => Sum.inl (ss.length + 1) | some p => rdL (ss ++ [p]) r) = _
  rw [h]
theorem rd_on {ss : List Wn} {z : Str} {r : List Str} {p : Wn} (h : stB (ss.map (·.2)) (wordsOf z) = some p) : rdL ss (z :: r) = rdL (ss ++ [p]) r := by
  show (match stB (ss.map (·.2)) (wordsOf z) with | none => Sum.inl (ss.length + 1) | some p => rdL (ss ++ [p]) r) = _
  rw [h]
theorem split_few (z y : Str) (h : 1 ≤ y.length) : 1 ≤ (Txt.split z y).length ∧ (Txt.split z y).length ≤ z.length + 1 ∧ ∀ w ∈ Txt.split z y, w.length ≤ z.length := by
  have a := PyProof.Rows.split_weight z y h
  have b := PyProof.Rows.split_pos z y
  refine ⟨b, by omega, fun w hw => ?_⟩
  have : ∀ l : List Str, w ∈ l → w.length ≤ (l.map (·.length)).sum := fun l => by
    induction l with
    | nil => intro h; cases h
    | cons x r ih =>
      intro h
      rw [List.map_cons, List.sum_cons]
      rcases List.mem_cons.mp h with rfl | h
      · omega
      · have := ih h; omega
  have := this _ hw
  omega
/-- what BadText(line) makes -/
def spBad (CE : Addr) : Sp := fun vs H Q _ => ∃ (a : Addr) (s : Int), vs = [.ref a, .int s] ∧ H a = some (exo a CE none) ∧ ∀ d, H d = none → d ≠ a → Q .non (upd (upd H d (exd d [(("line" : Str), .int s)])) a (exo a CE (some d)))
def spRead (K : PySem.W.Frag) (CF C : Addr) : Sp := fun vs H Q E => ∃ tx : Str, vs = [.str tx] ∧ tx.length ≤ 61000 ∧
  (∀ (k : Nat) (d : Addr) (H' : Hp), rdB tx = .inl k → Same H H' → H' d = some (.xd [(("line" : Str), .int (k : Nat))]) → E (.ref CF) (some d) H') ∧
  (∀ (ss : List Wn) (ks : List Str) (p : Addr) (H' : Hp), rdB tx = .inr (ss, ks) → Same H H' → PrgAt C H' p tx (takenOf ss) ks (namesOf ss) → Q (.ref p) H')
section
variable {P : Program} {w : World} {K : PySem.W.Frag} {mg : Str → Option Value} {base : Heap}
abbrev s_BadText_init : Stmt := inClass (topS 3) 0
theorem sc_BadText_init : FnScope ["self", "line"] ["self", "line"] (defScope s_BadText_init) := ⟨rfl, rfl, rfl, by decide +kernel, rfl, by decide +kernel, by decide +kernel⟩
theorem ok_bad {f CE BE : Addr} {fd : FuncData} (F : Fun K "__init__" "BadText.__init__" s_BadText_init f fd) (T : OexE K CE BE) (no : PySem.W.findIn K (.ref CE) "line" = some none) (gB : mg "BoxError" = some (.ref BE))
    (ga : PySem.W.specialIn K (.ref BE) "__getattribute__" = some (some (.builtin "type.__getattribute__"))) (rd : PySem.W.readsIn K BE (.type "type") = true) (fi : PySem.W.findCls K (.ref BE) (.type "type") "__init__" = some (.val (.builtin "Exception.__init__"))) :
    FnG P w K mg base CX0 1 f fd ["self", "line"] (spBad CE) := by
  refine okG F sc_BadText_init (fun vs H Q E h => ?_) fun cdv A outer s H vs Q E hr hc h => ?_
  · obtain ⟨a, s, rfl, _⟩ := h
    rfl
  · obtain ⟨a, z, rfl, ha, q⟩ := h
    have nd := sc_BadText_init.nd
    refine ⟨_, (pss_cons (ps_expr (pe_base (by rfl) gB ga rd fi (pa_cons (pv 0) (pa_cons pe_str pa_nil)))) (pss_one (ps_put (pv 0) (pv 1)))), ?_⟩
    exact ⟨_, rfl, a, CE, BE, _, rfl, (show 1 ≤ 1000 by decide), T, ha, _, rfl, _, rfl, a, CE, BE, rfl, T, no, ha, fun d nd' ne => q d nd' ne⟩
abbrev s_Program_read : Stmt := inClass (topS 18) 2
theorem sc_Program_read : FnScope ["text", "lines", "last", "steps", "given", "at", "line", "step", "first", "kept", "name"] ["text"] (defScope s_Program_read) := ⟨rfl, rfl, rfl, by decide +kernel, rfl, by decide +kernel, by decide +kernel⟩
theorem ok_read {f C fI CF BE fE : Addr} {fd fdI fdE : FuncData} (F : Fun K "read" "Program.read" s_Program_read f fd) (T : Bl mg) (S : Prg K mg C) (TE : OexE K CF BE) (gE : mg "BadText" = some (.ref CF)) (iE : PySem.W.findIn K (.ref CF) "__init__" = some (some (.ref fE))) (tE : PySem.W.typeIn K (.ref fE) = some (.type "function"))
    (FE : FnG P w K mg base CX0 1 fE fdE ["self", "line"] (spBad CF)) (BE' : Binds K fdE ["self", "line"] []) (D_are_names : DefG P w K mg base 2 "are_names" ["words"] (spNames K)) (D_read_step : DefG P w K mg base 6 "_read_step" ["words", "given"] spStep)
    (MK : Mk K C fI) (FI : FnG P w K mg base CX0 1 fI fdI ["self", "text", "steps", "kept"] (spInit C)) (BI : Binds K fdI ["self", "text", "steps", "kept"] []) : FnG P w K mg base (L2.CX P w) 7 f fd ["text"] (spRead K CF C) := by
  refine okGX F sc_Program_read (fun vs H Q E h => ?_) fun cdv A outer s H vs Q E hr hc h => ?_
  · obtain ⟨tx, rfl, _⟩ := h
    rfl
  · obtain ⟨tx, rfl, tl61, bad, fine⟩ := h
    have nd := sc_Program_read.nd
    refine ⟨_, (pss_cons (ps_asg (pe_bm PySem.F.plainAttrs_str PySem.F.slot_str_split PySem.F.type_str_split mt_split (pv 0) (pa_cons pe_str pa_nil)) (pg_starL (n := 2) (i := 0) rfl (pgs_consS (pg_name (i := 1) nd rfl (by first | exact Or.inl rfl | exact Or.inr rfl)) (pgs_cons (pg_name (i := 2) nd rfl (by first | exact Or.inl rfl | exact Or.inr rfl)) pgs_nil))))
      (pss_cons (ps_set (i := 3) nd rfl (by first | exact Or.inl rfl | exact Or.inr rfl) (pe_lst pa_nil))
      (pss_cons (ps_set (i := 4) nd rfl (by first | exact Or.inl rfl | exact Or.inr rfl) (pe_lst pa_nil))
      (pss_cons (ps_for (passes_of rfl) rfl (pi_enumS (k := 1) (by rfl) T.enumerate (pa_cons (pv 1) pa_nil) pe_int) (pg_tup rfl (pgs_cons (pg_name (i := 5) nd rfl (by first | exact Or.inl rfl | exact Or.inr rfl)) (pgs_cons (pg_name (i := 6) nd rfl (by first | exact Or.inl rfl | exact Or.inr rfl)) pgs_nil)))
        (pss_cons (ps_set (i := 7) nd rfl (by first | exact Or.inl rfl | exact Or.inr rfl) (pe_def D_read_step (hr.mono (by decide)) hc (by rfl) (pa_cons (pe_bm PySem.F.plainAttrs_str PySem.F.slot_str_split PySem.F.type_str_split mt_split (pv 6) (pa_cons pe_str pa_nil)) (pa_cons (pv 4) pa_nil))))
        (pss_cons (ps_if (pt_not (pt_truth (pv 7) (fun _ => rfl)))
          (pss_one (ps_raise rfl (takes_of rfl rfl rfl rfl) (GX.pmkE TE iE tE FE (hr.mono (by decide)) hc BE' pass0 (by rfl) gE (pa_cons (pv 5) pa_nil))))
          pss_nil)
        (pss_cons (ps_expr (pe_bm PySem.F.plainAttrs_list PySem.F.slot_list_append PySem.F.type_list_append mt_append (pv 3) (pa_cons (pv 7) pa_nil)))
        (pss_one (ps_expr (pe_bm PySem.F.plainAttrs_list PySem.F.slot_list_append PySem.F.type_list_append mt_append (pv 4) (pa_cons (pe_ix ix_tup (pv 7) pe_int (fun _ _ => rfl)) pa_nil))))))))
      (pss_cons (ps_asg (pe_bm PySem.F.plainAttrs_str PySem.F.slot_str_split PySem.F.type_str_split mt_split (pv 2) (pa_cons pe_str pa_nil)) (pg_starL (n := 2) (i := 1) rfl (pgs_cons (pg_name (i := 8) nd rfl (by first | exact Or.inl rfl | exact Or.inr rfl)) (pgs_consS (pg_name (i := 9) nd rfl (by first | exact Or.inl rfl | exact Or.inr rfl)) pgs_nil))))
      (pss_cons (ps_if (PW.pt (pw_or (pt_cmpR op_ne (pv 8) pe_str (nomark _)) (pw_or (pt_not (pt_val (pe_def D_are_names (hr.mono (by decide)) hc (by rfl) (pa_cons (pv 9) pa_nil)))) (pw_or1 (pt_not (pt_val (pe_callB (cr_all rfl) (by rfl) T.all boot_all (pa_cons (pe_lc (own := [("name", 10)]) (g := (gName 10)) (tt := tYes) rfl nd (pi_list (pv 9)) (blkOk_by (own := [("name", 10)]) (N := ["text", "lines", "last", "steps", "given", "at", "line", "step", "first", "kept", "name"]) (sc := defScope s_Program_read) (by decide +kernel)) (fun _ _ _ _ _ => (pg_name (i := 10) nd rfl (by first | exact Or.inl rfl | exact Or.inr rfl))) (fun _ _ _ _ _ => pts_nil) (fun _ _ _ _ _ => (pe_cmpR (op_inK (K := K)) (pv 10) (pv 4) (by with_unfolding_all rfl)))) pa_nil))))))))
        (pss_one (ps_raise rfl (takes_of rfl rfl rfl rfl) (GX.pmkE TE iE tE FE (hr.mono (by decide)) hc BE' pass0 (by rfl) gE (pa_cons (pe_op op_add (pe_callB call_len_seq (by rfl) T.len boot_len (pa_cons (pv 1) pa_nil)) pe_int) pa_nil))))
        pss_nil)
      (pss_one (ps_ret (pe_makeG MK FI (hr.mono (by decide)) hc (by rfl) S.mgC BI .nil pass0 (pa_cons (pv 0) (pa_cons (pe_tupleOf (by rfl) T.tuple (pv 3)) (pa_cons (pe_tupleOf (by rfl) T.tuple (pv 9)) pa_nil)))))))))))), ?_⟩
    obtain ⟨w1, w2, w3⟩ := split_few tx "\n" (by decide +kernel)
    have eB : rdB tx = rdK (linesOf tx).length (wordsOf ((linesOf tx).getLastD "")) (rdL [] (linesOf tx).dropLast) := rfl
    have eL : linesOf tx = Txt.split tx "\n" := rfl
    refine ⟨_, rfl, rfl, tx, "\n", rfl, rfl, by decide +kernel, Nat.le_trans (Nat.add_le_add_right tl61 2) (by decide), fun p1 np1 => ?_⟩
    rw [← eL] at w1 w2 w3 ⊢
    obtain ⟨ls, la, els⟩ := ends_of (linesOf tx) (fun z => by rw [z] at w1; exact absurd w1 (by decide))
    rw [els, List.dropLast_concat, List.getLastD_concat] at eB
    rw [els] at w1 w2 w3 ⊢
    rw [List.length_append] at w2 eB
    have w2 : ls.length + 1 ≤ tx.length + 1 := w2
    have eB : rdB tx = rdK (ls.length + 1) (wordsOf la) (rdL [] ls) := eB
    clear eL els
    have s1 := Same.new (o := .lst ((ls ++ [la]).map V.str)) np1
    have hp1 : upd H p1 (.lst ((ls ++ [la]).map V.str)) p1 = some (.lst ((ls ++ [la]).map V.str)) := upd_same
    generalize upd H p1 (.lst ((ls ++ [la]).map V.str)) = H1 at *
    have ll : ((ls ++ [la]).map V.str).length = ls.length + 1 := by rw [List.length_map, List.length_append]; rfl
    refine ⟨p1, _, rfl, tofL hp1, by rw [ll]; omega, by rw [ll]; omega, fun L nL => ?_⟩
    have tk : (((ls ++ [la]).map V.str).drop 0).take (((ls ++ [la]).map V.str).length + 1 - 2) = ls.map V.str := by
      rw [ll, List.drop_zero, List.map_append, show ls.length + 1 + 1 - 2 = (ls.map V.str).length by rw [List.length_map]; omega, List.take_left]
    have dp : (((ls ++ [la]).map V.str).drop 0).drop (((ls ++ [la]).map V.str).length + 1 - 2) = [V.str la] := by
      rw [ll, List.drop_zero, List.map_append, show ls.length + 1 + 1 - 2 = (ls.map V.str).length by rw [List.length_map]; omega, List.drop_left]
      rfl
    rw [tk, dp]
    have s2 := Same.new (o := .lst (ls.map V.str)) nL
    have hL : upd H1 L (.lst (ls.map V.str)) L = some (.lst (ls.map V.str)) := upd_same
    generalize upd H1 L (.lst (ls.map V.str)) = H2 at *
    rw [show List.take 0 ((ls ++ [la]).map V.str) ++ [V.ref L] ++ [V.str la] = [V.ref L, V.str la] from rfl]
    refine ⟨_, _, rfl, _, _, rfl, rfl, ?_⟩
    have s12 := s1.trans s2
    refine ⟨Nat.zero_le _, fun R nR => ?_⟩
    have nLR : L ≠ R := ne_of_none hL nR
    have s3 := Same.new (o := .lst []) nR
    have hR3 : upd H2 R (.lst []) R = some (.lst []) := upd_same
    have hL3 := s3 _ _ hL
    have s13 := s12.trans s3
    have nR0 : H R = none := by
      cases e : H R with
      | none => rfl
      | some o => rw [s12 _ _ e] at nR; cases nR
    generalize upd H2 R (.lst []) = H3 at *
    refine ⟨Nat.zero_le _, fun G nG => ?_⟩
    have nLG : L ≠ G := ne_of_none hL3 nG
    have nRG : R ≠ G := ne_of_none hR3 nG
    have s4 := Same.new (o := .lst []) nG
    have hG4 : upd H3 G (.lst []) G = some (.lst []) := upd_same
    have hR4 := s4 _ _ hR3
    have hL4 := s4 _ _ hL3
    have s14 := s13.trans s4
    have nG0 : H G = none := by
      cases e : H G with
      | none => rfl
      | some o => rw [s13 _ _ e] at nG; cases nG
    generalize upd H3 G (.lst []) = H4 at *
    refine ⟨_, rfl, L, rfl, rfl, _, tofL hL4, ?_⟩
    refine for_it (walk_enumS (K := K) (k := 1) (a := L) (xs := ls.map V.str))
      (fun i σ Hx => ∃ (ss : List Wn) (xs : List V) (v5 v6 v7 : Option V), σ = [some (.str tx), some (.ref L), some (.str la), some (.ref R), some (.ref G), v5, v6, v7, none, none, none] ∧ Same H Hx ∧ Hx L = some (.lst (ls.map V.str)) ∧
        Hx R = some (.lst xs) ∧ Hx G = some (.lst ((ss.map (·.2)).map V.str)) ∧ StepsAt Hx xs ss ∧ ss.length = i ∧ rdL ss (ls.drop i) = rdL [] ls)
      ⟨[], [], none, none, none, rfl, s14, hL4, hR4, hG4, .nil, rfl, rfl⟩ (fun i σ Hx _ ⟨_, _, _, _, _, _, _, h, _⟩ => tofL h) ?_ ?_
    · rintro i x σ Hx Ht hi ⟨ss, xs, v5, v6, v7, rfl, sx, hLx, hRx, hGx, hX, sl, er⟩ ⟨t, u, v, rfl, nt, rfl, g1, g2⟩
      have e1 : u = .int ((1 + i : Nat) : Int) := (Option.some.inj g1).symm
      subst e1
      obtain ⟨z, rfl, hz, hil⟩ := strs_at g2
      have zl : z.length ≤ tx.length := w3 z (List.mem_append_left _ (List.mem_of_getElem? hz))
      have ed : ls.drop i = z :: ls.drop (i + 1) := by
        rw [List.drop_eq_getElem_cons hil]
        rw [List.getElem?_eq_getElem hil] at hz
        rw [Option.some.inj hz]
      rw [ed] at er
      refine ⟨t, _, rfl, tofT upd_same, rfl, _, _, rfl, _, _, rfl, rfl, ?_⟩
      have su := Same.new (o := .tup [V.int ((1 + i : Nat) : Int), .str z]) nt
      have hLu := su _ _ hLx
      have hRu := su _ _ hRx
      have hGu := su _ _ hGx
      have hXu := hX.to (tups_same su)
      have sxu := sx.trans su
      generalize upd Hx t (.tup [V.int ((1 + i : Nat) : Int), .str z]) = Hu at *
      obtain ⟨u1, u2, u3⟩ := split_few z " " (by decide +kernel)
      refine ⟨_, rfl, rfl, z, " ", rfl, rfl, by decide +kernel, Nat.le_trans (Nat.add_le_add_right (Nat.le_trans zl tl61) 2) (by decide), fun p5 np5 => ?_⟩
      have ew : wordsOf z = Txt.split z " " := rfl
      rw [← ew] at u1 u2 u3 ⊢
      have s5 := Same.new (o := .lst ((wordsOf z).map V.str)) np5
      have hp5 : upd Hu p5 (.lst ((wordsOf z).map V.str)) p5 = some (.lst ((wordsOf z).map V.str)) := upd_same
      generalize upd Hu p5 (.lst ((wordsOf z).map V.str)) = H5 at *
      refine ⟨_, rfl, p5, G, ss.map (·.2), wordsOf z, rfl, hp5, s5 _ _ hGu, by rw [List.length_map]; omega, (fun e => by rw [e] at u1; exact absurd u1 (by decide)), by omega, (fun y hy => by rw [← str_len2]; have := u3 y hy; omega), fun tp Hv sv htp => ?_⟩
      have suv := s5.trans sv
      have hLv := suv _ _ hLu
      have hRv := suv _ _ hRu
      have hGv := suv _ _ hGu
      have hXv := hXu.to (tups_same suv)
      have sxv := sxu.trans suv
      cases est : stB (ss.map (·.2)) (wordsOf z) with
      | none =>
        rw [est] at htp
        have htp : Hv tp = some (.tup []) := htp
        rw [rd_bad est] at er
        refine ⟨_, rfl, _, .inr (.inl ⟨_, tofT htp, rfl⟩), iteT ?_⟩
        refine ⟨_, rfl, (show 1 ≤ 1000 by decide), fun a na => ⟨a, ((1 + i : Nat) : Int), rfl, upd_same, fun d nd' dne => ⟨rfl, d, _, upd_same, by rw [upd_ne dne, upd_same], ?_, ?_⟩⟩⟩
        · rw [upd_ne dne] at nd'
          exact nd'
        refine bad (1 + i) d _ (by rw [eB, ← er]; show Sum.inl (ss.length + 1) = _; rw [sl, Nat.add_comm i 1]) (fun q o hq => ?_) upd_same
        rw [upd_ne dne] at nd'
        have re : q ≠ a := ne_of_none (sxv _ _ hq) na
        have rd : q ≠ d := ne_of_none (sxv _ _ hq) nd'
        rw [upd_ne rd, del_ne re, upd_ne re, upd_ne rd, upd_ne re]
        exact sxv _ _ hq
      | some pr =>
      obtain ⟨wd, nm⟩ := pr
      rw [est] at htp
      obtain ⟨x1, y1, htp⟩ := htp
      rw [rd_on est] at er
      refine ⟨_, rfl, _, .inr (.inl ⟨_, tofT htp, rfl⟩), iteF ?_⟩
      have xl : xs.length = i := by rw [hX.len]; exact sl
      refine ⟨_, rfl, ty_l (tofL hRv), _, rfl, R, _, _, rfl, rfl, hRv, smallt (by omega), ?_⟩
      have hG6 : upd Hv R (.lst (xs ++ [.ref tp])) G = some (.lst ((ss.map (·.2)).map V.str)) := by rw [upd_ne nRG.symm]; exact hGv
      have htp6 : upd Hv R (.lst (xs ++ [.ref tp])) tp = some (.tup [.str wd, .str nm, x1, y1]) := by rw [upd_ne (fun z => by rw [z, hRv] at htp; cases htp)]; exact htp
      refine ⟨_, rfl, ty_l (tofL hG6), _, rfl, tp, _, 1, _, rfl, rfl, tofT htp6, atI_nat (j := 1) rfl, G, _, _, rfl, rfl, hG6, by rw [List.length_map, List.length_map]; exact smallt (by omega), ?_⟩
      have kp : ∀ a ys, Hv a = some (.tup ys) → upd (upd Hv R (.lst (xs ++ [.ref tp]))) G (.lst ((ss.map (·.2)).map V.str ++ [.str nm])) a = some (.tup ys) := fun a ys e => by
        rw [upd_ne (fun z => by rw [z, hGv] at e; cases e), upd_ne (fun z => by rw [z, hRv] at e; cases e)]; exact e
      refine ⟨ss ++ [(wd, nm)], xs ++ [.ref tp], _, _, _, rfl, ?_, ?_, ?_, ?_, ?_, by rw [List.length_append, sl]; rfl, er⟩
      · intro b o hb
        rw [upd_ne (fun e => by rw [e, nG0] at hb; cases hb), upd_ne (fun e => by rw [e, nR0] at hb; cases hb)]
        exact sxv _ _ hb
      · rw [upd_ne nLG, upd_ne nLR]; exact hLv
      · rw [upd_ne nRG]; exact upd_same
      · rw [upd_same, List.map_append, List.map_append]; rfl
      · exact (hXv.to kp).snoc (kp _ _ htp)
    rintro σ Hx ⟨ss, xs, v5, v6, v7, rfl, sx, hLx, hRx, hGx, hX, sl, er⟩
    rw [List.length_map] at sl er
    rw [List.drop_of_length_le (Nat.le_refl _)] at er
    have er : rdL [] ls = .inr ss := er.symm
    rw [er] at eB
    -- the last line
    have lal : la.length ≤ tx.length := w3 la (by simp)
    obtain ⟨u1, u2, u3⟩ := split_few la " " (by decide +kernel)
    have ew : wordsOf la = Txt.split la " " := rfl
    refine ⟨_, rfl, rfl, la, " ", rfl, rfl, by decide +kernel, Nat.le_trans (Nat.add_le_add_right (Nat.le_trans lal tl61) 2) (by decide), fun p6 np6 => ?_⟩
    rw [← ew] at u1 u2 u3 ⊢
    obtain ⟨fi, ks, ek⟩ : ∃ fi ks, wordsOf la = fi :: ks := by
      cases e : wordsOf la with
      | nil => rw [e] at u1; exact absurd u1 (by decide)
      | cons a r => exact ⟨a, r, rfl⟩
    rw [ek] at u1 u2 u3 eB ⊢
    rw [List.length_cons] at u2
    have eB : rdB tx = if (decide (some fi = some ("keep" : Str)) && (namesB ks && ks.all fun z => decide (z ∈ ss.map (·.2)))) = true then .inr (ss, ks) else .inl (ls.length + 1) := eB
    clear ek ew
    have s6 := Same.new (o := .lst ((fi :: ks).map V.str)) np6
    have hp6 : upd Hx p6 (.lst ((fi :: ks).map V.str)) p6 = some (.lst ((fi :: ks).map V.str)) := upd_same
    generalize upd Hx p6 (.lst ((fi :: ks).map V.str)) = H6 at *
    refine ⟨p6, _, rfl, tofL hp6, by simp, by rw [List.length_map, List.length_cons]; omega, fun W nW => ?_⟩
    have tk2 : (((fi :: ks).map V.str).drop 1).take (((fi :: ks).map V.str).length + 1 - 2) = ks.map V.str := by
      rw [List.map_cons, List.length_cons, List.length_map]
      show (ks.map V.str).take _ = _
      exact List.take_of_length_le (by rw [List.length_map]; omega)
    have dp2 : (((fi :: ks).map V.str).drop 1).drop (((fi :: ks).map V.str).length + 1 - 2) = [] := by
      rw [List.map_cons, List.length_cons, List.length_map]
      exact List.drop_eq_nil_of_le (by show (ks.map V.str).length ≤ _; rw [List.length_map]; omega)
    rw [tk2, dp2]
    have s7 := Same.new (o := .lst (ks.map V.str)) nW
    have hW : upd H6 W (.lst (ks.map V.str)) W = some (.lst (ks.map V.str)) := upd_same
    generalize upd H6 W (.lst (ks.map V.str)) = H7 at *
    rw [show ((fi :: ks).map V.str).take 1 ++ [V.ref W] ++ [] = [V.str fi, V.ref W] from rfl]
    refine ⟨_, _, rfl, _, _, rfl, rfl, ?_⟩
    have s67 := s6.trans s7
    have hL7 := s67 _ _ hLx
    have lsl : ((ls.map V.str).length : Int) + 1 = ((ls.length + 1 : Nat) : Int) := by rw [List.length_map]; omega
    -- the last line is not as described
    have no : (decide (some fi = some ("keep" : Str)) && (namesB ks && ks.all fun z => decide (z ∈ ss.map (·.2)))) = false → ∀ Hz, Same Hx Hz →
        tMkO CF (spBad CF) [] (tCons (tOp (rI0 fun i j => V.int (i + j)) (tCB (fun xs H Q => ∃ p ys, xs = [V.ref p] ∧ (SqL K H p ys ∨ SqT K H p ys) ∧ Q (V.int ((ys.length : Nat) : Int)) H) (tCons (tVar 1) tNil)) (tC (.int 1))) tNil) [some (.str tx), some (.ref L), some (.str la), some (.ref R), some (.ref G), v5, v6, v7, some (.str fi), some (.ref W), none] Hz (fun cls d H' => E cls d H') := fun e Hz sz => by
      rw [e] at eB
      have eB : rdB tx = .inl (ls.length + 1) := eB
      have hLz := sz _ _ hLx
      refine ⟨_, rfl, L, _, rfl, .inl (tofL hLz), _, _, rfl, rfl, ?_⟩
      refine ⟨(show 1 ≤ 1000 by decide), fun a na => ⟨a, _, rfl, upd_same, fun d nd' dne => ⟨rfl, d, _, upd_same, by rw [upd_ne dne, upd_same], ?_, ?_⟩⟩⟩
      · rw [upd_ne dne] at nd'
        exact nd'
      refine bad (ls.length + 1) d _ eB (fun q o hq => ?_) (by rw [← lsl]; exact upd_same)
      rw [upd_ne dne] at nd'
      have hqz := sz _ _ (sx _ _ hq)
      have re : q ≠ a := ne_of_none hqz na
      have rd : q ≠ d := ne_of_none hqz nd'
      rw [upd_ne rd, del_ne re, upd_ne re, upd_ne rd, upd_ne re]
      exact hqz
    refine ⟨_, rfl, rfl, _, rfl, ?_⟩
    by_cases e1 : fi = "keep"
    rotate_left
    · refine ite2 (fun _ => iteT ?_) (fun e => absurd (show (!decide (V.str fi = V.str ("keep" : Str))) = true by rw [strD, decide_eq_false e1]; rfl) e)
      exact no (by rw [decide_eq_false (fun z => e1 (Option.some.inj z)), Bool.false_and]) _ s67
    subst e1
    rw [decide_eq_true rfl, Bool.true_and] at eB no
    refine ite2 (fun e => absurd e (by simp)) fun _ => ?_
    refine ⟨_, rfl, W, ks, rfl, hW, by omega, (fun z hz => by rw [← str_len2]; have := u3 z (List.mem_cons_of_mem _ hz); omega), fun H8 s8 => ⟨_, rfl, ?_⟩⟩
    have hW8 := s8 _ _ hW
    have s68 := s67.trans s8
    cases enb : namesB ks with
    | false =>
      rw [enb, Bool.false_and] at no
      exact iteT (iteT (no rfl _ s68))
    | true =>
    rw [enb, Bool.true_and] at eB no
    refine iteF ?_
    have hG8 := s68 _ _ hGx
    have hR8 := s68 _ _ hRx
    have hX8 := hX.to (tups_same s68)
    refine ⟨_, rfl, W, rfl, ⟨_, tofL hW8⟩, fun D nD => ?_⟩
    refine lc_list (K := K) (a := W) (xs := ks.map V.str) (fun i Hy => Same H8 Hy ∧ Hy D = some (.lst (((ks.take i).map fun z => decide (z ∈ ss.map (·.2))).map V.bl))) ⟨Same.new nD, upd_same⟩ (fun i Hy _ h => tofL (h.1 _ _ hW8)) ?_ ?_
    · rintro i x Hy hi ⟨sy, hD⟩
      obtain ⟨z, rfl, hz, hil⟩ := strs_at hi
      refine ⟨rfl, _, rfl, _, rfl, G, _, rfl, .inl (tofL (sy _ _ hG8)), rfl, flat_strs _, ?_⟩
      rw [inV_strs]
      refine ⟨_, hD, ?_, ?_, ?_⟩
      · rw [List.length_map, List.length_map, List.length_take]; exact smallt (by omega)
      · intro b o hb
        rw [upd_ne (ne_of_none hb nD)]
        exact sy _ _ hb
      · rw [upd_same, List.take_add_one, hz, List.map_append, List.map_append]; rfl
    rintro Hy ⟨sy, hD⟩
    rw [List.length_map, List.take_length] at hD
    refine ⟨D, _, rfl, tofL hD, ?_⟩
    have ea : (ks.map fun z => decide (z ∈ ss.map (·.2))).all id = ks.all fun z => decide (z ∈ ss.map (·.2)) := by rw [List.all_map]; rfl
    rw [ea]
    cases eal : (ks.all fun z => decide (z ∈ ss.map (·.2))) with
    | false =>
      rw [eal] at no
      exact ⟨_, rfl, iteT (no rfl _ (s68.trans sy))⟩
    | true =>
    rw [eal] at eB
    have eB : rdB tx = .inr (ss, ks) := eB
    refine ⟨_, rfl, iteF ?_⟩
    have hWy := sy _ _ hW8
    have hRy := sy _ _ hR8
    have hXy := hX8.to (tups_same sy)
    have s1y := sx.trans (s68.trans sy)
    refine ⟨_, rfl, _, rfl, .inl ⟨R, xs, rfl, tofL hRy, fun ts nts => ?_⟩⟩
    have s9 := Same.new (o := .tup xs) nts
    have hts : upd Hy ts (.tup xs) ts = some (.tup xs) := upd_same
    have hW9 := s9 _ _ hWy
    have hX9 := hXy.to (tups_same s9)
    generalize upd Hy ts (.tup xs) = H9 at *
    refine ⟨_, rfl, .inl ⟨W, _, rfl, tofL hW9, fun tk9 ntk => ?_⟩⟩
    have s10 := Same.new (o := .tup (ks.map V.str)) ntk
    have htk : upd H9 tk9 (.tup (ks.map V.str)) tk9 = some (.tup (ks.map V.str)) := upd_same
    have hts10 := s10 _ _ hts
    have hX10 := hX9.to (tups_same s10)
    have sall := s1y.trans (s9.trans s10)
    generalize upd H9 tk9 (.tup (ks.map V.str)) = H10 at *
    refine fun x dx nx ndx ne => ?_
    have t1 : Same H10 (upd H10 dx (.own x)) := Same.new ndx
    have nx2 : upd H10 dx (.own x) x = none := by rw [upd_ne ne.symm]; exact nx
    have t2 := t1.trans (Same.new (o := .ins C dx []) nx2)
    refine ⟨x, dx, ts, _, _, xs, ss, rfl, upd_same, t2 _ _ hts10, hX10.to (tups_same t2), by omega, fun tt tn H' kp hx' htt htn => ⟨rfl, ?_⟩⟩
    have nex : ∀ b o, H10 b = some o → b ≠ x := fun b o hb z => by rw [z, nx] at hb; cases hb
    have sfin : Same H10 H' := fun b o hb => kp b o (nex b o hb) (t2 _ _ hb)
    exact fine ss ks x H' eB (sall.trans sfin) ⟨dx, ts, tt, tk9, tn, hx', htt, sfin _ _ htk, htn⟩
end
end KW
namespace KW
open PySem PySem.Spec PyProof.Rows L2 GL RZ TL
/-! ### the law's own reader: names and whole numbers -/
theorem nat_digits {u : Str} (h : natB u = true) : NumText.AllDigits u.cps.toList ∧ u.cps.toList ≠ [] ∧ u.cps.toList.length ≤ 60 := by
  unfold natB at h
  rw [Bool.and_eq_true, Bool.and_eq_true] at h
  obtain ⟨⟨h1, h2⟩, _⟩ := h
  have h1 := of_decide_eq_true h1
  refine ⟨fun c hc => ?_, fun z => by rw [z] at h1; exact absurd h1.1 (by decide), h1.2⟩
  have hc2 : c ∈ DIGITS.cps.toList := of_decide_eq_true (List.all_eq_true.mp h2 c hc)
  have ds : ∀ d ∈ DIGITS.cps.toList, 48 ≤ d ∧ d ≤ 57 := by decide +kernel
  exact ds c hc2
theorem cut1 (z : Str) : (cutS z (some 1) none).cps.toList = z.cps.toList.drop 1 := by
  unfold cutS
  show ((z.cps.toList.drop _).take _).toArray.toList = _
  have zl : z.length = z.cps.toList.length := (Array.length_toList ..).symm
  rw [List.toList_toArray, show HT.sIx z.length 0 (some 1) = min 1 z.length from HT.sIx_nat _ _ 1, HT.sIx_none, zl]
  cases z.cps.toList with
  | nil => rfl
  | cons a r =>
    rw [show min 1 (a :: r).length = 1 by rw [List.length_cons]; omega]
    show List.take ((r.length + 1) - 1) r = r
    rw [Nat.add_sub_cancel, List.take_length]
theorem ext_l {a b : Str} (h : a.cps.toList = b.cps.toList) : a = b := TL.ext_tl h
/-- the marks of a word that are not among some: an empty list or not -/
theorem marks_none {p : Nat → Bool} (cs : List Nat) : decide (((cs.filter fun c => !p c).map S1) = ([] : List Str)) = cs.all p := by
  by_cases h : cs.all p = true
  · rw [h, decide_eq_true_eq, List.map_eq_nil_iff, List.filter_eq_nil_iff]
    intro c hc
    have := List.all_eq_true.mp h c hc
    simp [this]
  · have h2 : cs.all p = false := Bool.eq_false_iff.mpr h
    rw [h2]
    refine decide_eq_false fun z => h ?_
    rw [List.map_eq_nil_iff, List.filter_eq_nil_iff] at z
    exact List.all_eq_true.mpr fun c hc => by simpa using z c hc
theorem flt_nt {p : Nat → Bool} {cs : List Nat} {i c : Nat} (h : cs[i]? = some c) : (cs.take (i + 1)).filter (fun c => !p c) = (cs.take i).filter (fun c => !p c) ++ (if p c = true then [] else [c]) := by
  rw [List.take_add_one, h, List.filter_append]
  cases e : p c <;> simp [e]
def spLName : Sp := fun vs H Q _ => ∃ z : Str, vs = [.str z] ∧ z.cps.toList.length ≤ 61001 ∧ ∀ H', Same H H' → Q (.bl (nameB z)) H'
def restS (z : Str) : Str := if z.cps.toList[0]? = some 45 then cutS z (some 1) none else z
theorem cut_minus (z : Str) : decide (V.str (cutS z none (some 1)) = V.str ("-" : Str)) = decide (z.cps.toList[0]? = some 45) := by
  have e : (cutS z none (some 1)).cps.toList = z.cps.toList.take 1 := cut_first z
  have m : ("-" : Str).cps.toList = [45] := by decide +kernel
  by_cases h : z.cps.toList[0]? = some 45
  · rw [decide_eq_true h, decide_eq_true_eq]
    congr 1
    refine ext_l ?_
    rw [e, m]
    cases ez : z.cps.toList with
    | nil => rw [ez] at h; cases h
    | cons a r => rw [ez] at h; cases h; rfl
  · rw [decide_eq_false h]
    refine decide_eq_false fun z2 => h ?_
    have z3 := congrArg (fun s : Str => s.cps.toList) (V.str.inj z2)
    simp only [e, m] at z3
    cases ez : z.cps.toList with
    | nil => rw [ez] at z3; cases z3
    | cons a r =>
      rw [ez] at z3
      have z3 : [a] = [45] := z3
      rw [(List.cons.inj z3).1]; rfl
/-- a whole number that the law reads is a natural one just where it has no sign -/
theorem whole_nat {z : Str} (h1 : 1 ≤ (restS z).cps.toList.length ∧ (restS z).cps.toList.length ≤ 60) (h2 : (restS z).cps.toList.all digB = true) (h3 : ¬ ((restS z).cps.toList[0]? = some 48 ∧ z ≠ "0")) :
    (natB z = true) ∨ (z.cps.toList[0]? = some 45 ∧ ∃ cs, z.cps.toList = 45 :: cs ∧ NumText.AllDigits cs ∧ cs ≠ [] ∧ cs.length ≤ 60) := by
  have dg : ∀ cs : List Nat, cs.all digB = true → NumText.AllDigits cs := fun cs h c hc => by
    have hc2 : c ∈ DIGITS.cps.toList := of_decide_eq_true (List.all_eq_true.mp h c hc)
    have ds : ∀ d ∈ DIGITS.cps.toList, 48 ≤ d ∧ d ≤ 57 := by decide +kernel
    exact ds c hc2
  unfold restS at h1 h2 h3
  by_cases hm : z.cps.toList[0]? = some 45
  · rw [if_pos hm] at h1 h2 h3
    rw [cut1] at h1 h2
    cases ez : z.cps.toList with
    | nil => rw [ez] at hm; cases hm
    | cons a r =>
      rw [ez] at hm h1 h2
      have ea : a = 45 := Option.some.inj hm
      subst ea
      have h1 : 1 ≤ r.length ∧ r.length ≤ 60 := h1
      exact .inr ⟨rfl, r, rfl, dg r h2, (fun e => by rw [e] at h1; exact absurd h1.1 (by decide)), h1.2⟩
  · rw [if_neg hm] at h1 h2 h3
    refine .inl ?_
    unfold natB
    rw [decide_eq_true h1, h2, Bool.true_and, Bool.true_and]
    by_cases e : z = "0"
    · rw [decide_eq_true e, Bool.true_or]
    · rw [decide_eq_false e, Bool.false_or]
      exact decide_eq_true fun q => h3 ⟨q, e⟩
theorem nat_rest {z : Str} (h : natB z = true) : z.cps.toList[0]? ≠ some 45 ∧ restS z = z := by
  have hm : z.cps.toList[0]? ≠ some 45 := fun e => by
    obtain ⟨d, _, _⟩ := nat_digits h
    have := d 45 (List.mem_of_getElem? e)
    omega
  refine ⟨hm, ?_⟩
  unfold restS
  rw [if_neg hm]
/-- what the law reads of a word as a whole number -/
def okW (z : Str) : Bool := decide (1 ≤ (restS z).cps.toList.length ∧ (restS z).cps.toList.length ≤ 60) && ((restS z).cps.toList.all digB && decide (¬ ((restS z).cps.toList[0]? = some 48 ∧ z ≠ "0")))
def wV (z : Str) : V := if okW z = true then .int ((PySem.intText? z).getD 0) else .non
theorem okW_of {z : Str} (h : okW z = true) : (natB z = true) ∨ (z.cps.toList[0]? = some 45 ∧ ∃ cs, z.cps.toList = 45 :: cs ∧ NumText.AllDigits cs ∧ cs ≠ [] ∧ cs.length ≤ 60) := by
  unfold okW at h
  rw [Bool.and_eq_true, Bool.and_eq_true] at h
  exact whole_nat (of_decide_eq_true h.1) h.2.1 (of_decide_eq_true h.2.2)
theorem nat_okW {z : Str} (h : natB z = true) : okW z = true := by
  have e := (nat_rest h).2
  unfold natB at h
  rw [Bool.and_eq_true, Bool.and_eq_true] at h
  unfold okW
  rw [e, h.1.1, h.1.2, Bool.true_and, Bool.true_and]
  refine decide_eq_true fun q => ?_
  rcases Bool.or_eq_true_iff.mp h.2 with h | h
  · exact q.2 (of_decide_eq_true h)
  · exact of_decide_eq_true h q.1
theorem wV_nat {z : Str} (h : natB z = true) : wV z = .int (valN z) := by
  unfold wV
  rw [if_pos (nat_okW h), (nat_int h).1]; rfl
theorem neg_int {z : Str} (h : okW z = true) (n : natB z = false) : ∃ v, v ≤ 0 ∧ PySem.intText? z = some v ∧ z.length ≤ 640 ∧ z.cps.toList[0]? = some 45 := by
  rcases okW_of h with W | ⟨w0, cs, ec, d1, d2, d3⟩
  · rw [n] at W; cases W
  · have zl : z.length = z.cps.toList.length := (Array.length_toList ..).symm
    have l : z.length ≤ 61 := by rw [zl, ec, List.length_cons]; omega
    exact ⟨_, (by omega), PySem.intText_neg ec d1 d2 (by omega), by omega, w0⟩
theorem wV_not {z : Str} (h : natB z = false) : wV z = .non ∨ ∃ v, v ≤ 0 ∧ z.cps.toList[0]? = some 45 ∧ wV z = .int v := by
  cases e : okW z with
  | false =>
    refine .inl ?_
    unfold wV
    rw [e]; rfl
  | true =>
    obtain ⟨v, v0, i1, _, w0⟩ := neg_int e h
    refine .inr ⟨v, v0, w0, ?_⟩
    unfold wV
    rw [if_pos e, i1]; rfl
def spLWhole : Sp := fun vs H Q _ => ∃ z : Str, vs = [.str z] ∧ z.cps.toList.length ≤ 61001 ∧ ∀ H', Same H H' → Q (wV z) H'
section
variable {P : Program} {w : World} {K : PySem.W.Frag} {mg : Str → Option Value} {base : Heap}
abbrev s_name : Stmt := topS 37
theorem sc_name : FnScope ["_law_word", "_law_kept_here", "_law_letters", "_law_mark"] ["_law_word"] (defScope s_name) := ⟨rfl, rfl, rfl, by decide +kernel, rfl, by decide +kernel, by decide +kernel⟩
theorem ok_name {f : Addr} {fd : FuncData} (F : Fun K "_law_name" "_law_name" s_name f fd) (gl : mg "_law_name" = some (.ref f)) (T : Bl mg) : DefG P w K mg base 1 "_law_name" ["_law_word"] spLName := by
  refine def_mk F gl (F.binds fun _ _ _ _ _ _ us hl => match us, hl with | [_], _ => rfl) (okG F sc_name (fun vs H Q E h => ?_) fun cdv A outer s H vs Q E hr hc h => ?_)
  · obtain ⟨z, rfl, _⟩ := h
    rfl
  · obtain ⟨z, rfl, lz, q⟩ := h
    have nd := sc_name.nd
    have hu64 := hr.units
    refine ⟨_, (pss_cons (ps_set (i := 1) nd rfl (by first | exact Or.inl rfl | exact Or.inr rfl) (pe_lst (pa_cons pe_str (pa_cons pe_str (pa_cons pe_str (pa_cons pe_str (pa_cons pe_str (pa_cons pe_str (pa_cons pe_str (pa_cons pe_str (pa_cons pe_str pa_nil)))))))))))
      (pss_cons (ps_set (i := 2) nd rfl (by first | exact Or.inl rfl | exact Or.inr rfl) pe_str)
      (pss_cons (ps_if (PW.pt (pw_or (pt_not (pt_chain op_lt op_lt pe_int (pe_callB call_len_str (by rfl) T.len boot_len (pa_cons (pv 0) pa_nil)) pe_int)) (pw_or (pt_cmpR (op_inK (K := K)) (pv 0) (pv 1) (by with_unfolding_all rfl)) (pw_or1 (pt_cmpR op_notIn_sign (pe_ix ix_str (pv 0) pe_int (fun _ _ => rfl)) (pv 2) (by with_unfolding_all rfl))))))
        (pss_one (ps_ret pe_bl))
        pss_nil)
      (pss_one (ps_ret (pe_cmpR (op_eqP (K := K) hu64) (pe_lc (own := [("_law_mark", 3)]) (g := (gName 3)) rfl nd (pi_str (pv 0)) (blkOk_by (own := [("_law_mark", 3)]) (N := ["_law_word", "_law_kept_here", "_law_letters", "_law_mark"]) (sc := defScope s_name) (by decide +kernel)) (fun _ _ _ _ _ => (pg_name (i := 3) nd rfl (by first | exact Or.inl rfl | exact Or.inr rfl))) (fun _ _ _ _ _ => (pts_one (pt_cmpR op_notIn_sign (pv 3) (pe_op op_add_str (pv 2) pe_str) (by with_unfolding_all rfl)))) (fun _ _ _ _ _ => (pv 3))) (pe_lst pa_nil) (nomark _))))))), ?_⟩
    have zl : z.length = z.cps.toList.length := (Array.length_toList ..).symm
    have lz2 : z.length ≤ sizeLine := by rw [zl]; exact small (by omega)
    refine ⟨(show 9 ≤ sizeLine from small (by decide)), fun kp nkp => ?_⟩
    have s1 := Same.new (o := .lst [.str "check", .str "input", .str "keep", .str "let", .str "mod", .str "names", .str "open", .str "self", .str "take"]) nkp
    have hk : upd H kp (.lst [.str "check", .str "input", .str "keep", .str "let", .str "mod", .str "names", .str "open", .str "self", .str "take"]) kp = some (.lst (TAKEN.map V.str)) := upd_same
    generalize upd H kp (.lst [.str "check", .str "input", .str "keep", .str "let", .str "mod", .str "names", .str "open", .str "self", .str "take"]) = H1 at *
    have no : nameB z = false → Q (.bl false) H1 := fun e => by rw [← e]; exact q H1 s1
    refine ⟨_, rfl, z, rfl, lz2, (0 : Int), (z.length : Int), rfl, rfl, _, rfl, ?_⟩
    refine ite2 (fun e1 => ⟨_, _, rfl, rfl, _, rfl, ?_⟩) (fun e1 => ⟨_, rfl, iteT (iteT (no ?_))⟩)
    rotate_left
    · have h1 : ¬ (1 ≤ z.cps.toList.length ∧ z.cps.toList.length ≤ 8) := fun h => e1 (decide_eq_true (by rw [zl]; omega))
      unfold nameB
      rw [decide_eq_false h1]; rfl
    by_cases h2 : z.cps.toList.length ≤ 8
    rotate_left
    · have e2 : decide ((z.length : Int) < 9) = false := decide_eq_false (by rw [zl]; omega)
      rw [e2]
      refine iteT (iteT (no ?_))
      have h1 : ¬ (1 ≤ z.cps.toList.length ∧ z.cps.toList.length ≤ 8) := fun h => h2 h.2
      unfold nameB
      rw [decide_eq_false h1]; rfl
    have e2 : decide ((z.length : Int) < 9) = true := decide_eq_true (by rw [zl]; omega)
    rw [e2]
    refine iteF ?_
    have h1 : 1 ≤ z.cps.toList.length ∧ z.cps.toList.length ≤ 8 := ⟨by have := of_decide_eq_true e1; rw [zl] at this; omega, h2⟩
    obtain ⟨c0, hc0⟩ : ∃ c, z.cps.toList[0]? = some c := ⟨_, List.getElem?_eq_getElem (by omega)⟩
    have g0 : z.cps.toList.getD 0 0 = c0 := by rw [List.getD_eq_getElem?_getD, hc0]; rfl
    refine ⟨_, rfl, _, rfl, kp, _, rfl, .inl (tofL hk), rfl, flat_strs TAKEN, _, rfl, ?_⟩
    rw [if_neg (show ¬ false = true by decide), inV_strs]
    cases ht : decide (z ∈ TAKEN) with
    | true =>
      refine iteT (iteT (no ?_))
      unfold nameB
      rw [ht, decide_eq_true h1]; rfl
    | false =>
      refine iteF ?_
      have fin : nameB z = (letB c0 && z.cps.toList.all bothB) := by
        unfold nameB
        rw [ht, decide_eq_true h1, g0]; rfl
      refine ⟨_, rfl, z, 0, c0, rfl, rfl, lz2, atI_nat (j := 0) hc0, _, rfl, c0, LETTERS, rfl, rfl, _, rfl, ?_⟩
      show if (!letB c0) = true then _ else _
      cases hl : letB c0 with
      | false =>
        refine iteT (no ?_)
        rw [hl, Bool.false_and] at fin
        exact fin
      | true =>
        rw [hl, Bool.true_and] at fin
        refine iteF ?_
        refine ⟨_, rfl, z, rfl, fun D nD => ?_⟩
        have toL : ∀ (i : Nat) (c : Nat), z.cps[i]? = some c → z.cps.toList[i]? = some c := fun i c h => by rw [Array.getElem?_toList]; exact h
        refine lc_it walk_str (fun i Hx => Same H1 Hx ∧ Hx D = some (.lst ((((z.cps.toList.take i).filter fun c => !bothB c).map S1).map V.str))) ⟨Same.new nD, upd_same⟩ (fun _ _ _ _ => True.intro) ?_ ?_
        · rintro i x Hx Hy hi ⟨sx, hD⟩ ⟨rfl, c, hc', rfl⟩
          have hL := toL i c hc'
          have ft := flt_nt (p := bothB) hL
          refine ⟨rfl, _, rfl, _, rfl, _, _, rfl, rfl, small (by decide +kernel), c, LETTERS ++ DIGITS, rfl, rfl, _, rfl, ?_⟩
          show if (!bothB c) = true then _ else _
          cases hb : bothB c with
          | true =>
            refine iteF ⟨sx, ?_⟩
            rw [ft, hb, if_pos rfl, List.append_nil]; exact hD
          | false =>
            refine iteT ⟨_, rfl, _, hD, ?_, ?_, ?_⟩
            · rw [List.length_map, List.length_map]; exact smallt (Nat.lt_of_le_of_lt (List.length_filter_le _ _) (by rw [List.length_take]; omega))
            · intro b u hb'
              rw [upd_ne (ne_of_none hb' nD)]
              exact sx _ _ hb'
            · rw [upd_same, ft, hb, if_neg (by decide), List.map_append, List.map_append]; rfl
        · rintro Hx ⟨sx, hD⟩
          rw [show z.cps.size = z.cps.toList.length from rfl, List.take_length] at hD
          refine ⟨Nat.zero_le _, fun o no' => ?_⟩
          have so := Same.new (o := .lst []) no'
          have ho : upd Hx o (.lst []) o = some (.lst (([] : List Str).map V.str)) := upd_same
          have hD' := so _ _ hD
          generalize upd Hx o (.lst []) = Hy at *
          refine ⟨.list ((((z.cps.toList).filter fun c => !bothB c).map S1).map PyData.str), .list (([] : List Str).map PyData.str), .lst (tofL hD') (dpa_strs _), .lst (tofL ho) (dpa_strs []), plain_strs _, plain_strs _, depth_strs _, ?_⟩
          rw [eqv_strs, marks_none, ← fin]
          exact q Hy (s1.trans (sx.trans so))
abbrev s_whole : Stmt := topS 38
theorem sc_whole : FnScope ["_law_word", "_law_rest", "_law_mark"] ["_law_word"] (defScope s_whole) := ⟨rfl, rfl, rfl, by decide +kernel, rfl, by decide +kernel, by decide +kernel⟩
theorem ok_whole {f : Addr} {fd : FuncData} (F : Fun K "_law_whole" "_law_whole" s_whole f fd) (gl : mg "_law_whole" = some (.ref f)) (T : Bl mg) : DefG P w K mg base 1 "_law_whole" ["_law_word"] spLWhole := by
  refine def_mk F gl (F.binds fun _ _ _ _ _ _ us hl => match us, hl with | [_], _ => rfl) (okG F sc_whole (fun vs H Q E h => ?_) fun cdv A outer s H vs Q E hr hc h => ?_)
  · obtain ⟨z, rfl, _⟩ := h
    rfl
  · obtain ⟨z, rfl, lz, q⟩ := h
    have nd := sc_whole.nd
    have hu64 := hr.units
    refine ⟨_, (pss_cons (ps_set (i := 1) nd rfl (by first | exact Or.inl rfl | exact Or.inr rfl) (pe_cutE (pe_ifExp (pt_cmpR op_eq (pe_slice sl_str (pv 0) po_none (po_some pe_int)) pe_str (nomark _)) (pe_slice sl_str (pv 0) (po_some pe_int) po_none) (pv 0))))
      (pss_cons (ps_if (PW.pt (pw_or (pt_cmpR op_eq (pv 1) pe_str (nomark _)) (pw_or (pt_cmpR op_gt (pe_callB call_len_str (by rfl) T.len boot_len (pa_cons (pv 1) pa_nil)) pe_int (nomark _)) (pw_or1 (pt_cmpR (op_neP (K := K) hu64) (pe_lc (own := [("_law_mark", 2)]) (g := (gName 2)) rfl nd (pi_str (pv 1)) (blkOk_by (own := [("_law_mark", 2)]) (N := ["_law_word", "_law_rest", "_law_mark"]) (sc := defScope s_whole) (by decide +kernel)) (fun _ _ _ _ _ => (pg_name (i := 2) nd rfl (by first | exact Or.inl rfl | exact Or.inr rfl))) (fun _ _ _ _ _ => (pts_one (pt_cmpR op_notIn_sign (pv 2) pe_str (by with_unfolding_all rfl)))) (fun _ _ _ _ _ => (pv 2))) (pe_lst pa_nil) (nomark _))))))
        (pss_one (ps_ret pe_non))
        pss_nil)
      (pss_cons (ps_if (PW.pt (pw_and (pt_cmpR op_eq (pe_ix ix_str (pv 1) pe_int (fun _ _ => rfl)) pe_str (nomark _)) (pw_and1 (pt_cmpR op_ne (pv 0) pe_str (nomark _)))))
        (pss_one (ps_ret pe_non))
        pss_nil)
      (pss_one (ps_ret (pe_callTy call_int_str (by rfl) T.int boot_int (pa_cons (pv 0) pa_nil))))))), ?_⟩
    have zl : ∀ z : Str, z.length = z.cps.toList.length := fun z => (Array.length_toList ..).symm
    have lz2 : z.length ≤ sizeLine := by rw [zl]; exact small (by omega)
    -- the rest behind a sign
    refine ⟨fun x H' => x = .str (restS z) ∧ H' = H, ?_, ?_⟩
    · refine ⟨_, rfl, 1, rfl, z, rfl, lz2, rfl, _, rfl, ?_⟩
      rw [cut_minus]
      refine ite2 (fun e => ?_) (fun e => ?_)
      · refine ⟨_, rfl, 1, rfl, z, rfl, lz2, ?_, rfl⟩
        unfold restS
        rw [if_pos (of_decide_eq_true e)]
      · refine ⟨_, rfl, ?_, rfl⟩
        unfold restS
        rw [if_neg (fun h => e (decide_eq_true h))]
    rintro x H' ⟨rfl, rfl⟩
    have lr : (restS z).cps.toList.length ≤ 61001 := by
      unfold restS
      split
      · exact Nat.le_trans (cut_len z _ _) lz
      · exact lz
    have lr2 : (restS z).length ≤ sizeLine := by rw [zl]; exact small (by omega)
    have out : okW z = false → ∀ Hx, Same H' Hx → Q .non Hx := fun e Hx sx => by
      have := q Hx sx
      unfold wV at this
      rw [e] at this
      exact this
    have eok : okW z = (decide (1 ≤ (restS z).cps.toList.length ∧ (restS z).cps.toList.length ≤ 60) && ((restS z).cps.toList.all digB && decide (¬ ((restS z).cps.toList[0]? = some 48 ∧ z ≠ "0")))) := rfl
    refine ⟨_, rfl, rfl, _, rfl, ?_⟩
    rw [strD]
    by_cases e1 : restS z = ""
    · rw [decide_eq_true e1]
      refine iteT (iteT (out ?_ H' (Same.refl _)))
      rw [eok, decide_eq_false (fun h => ?_), Bool.false_and]
      rw [e1] at h
      exact absurd h.1 (by decide +kernel)
    rw [decide_eq_false e1]
    refine iteF ?_
    refine ⟨_, rfl, restS z, rfl, lr2, _, 60, rfl, rfl, _, rfl, ?_⟩
    by_cases e2 : (restS z).cps.toList.length ≤ 60
    rotate_left
    · rw [decide_eq_true (show ((restS z).length : Int) > 60 by rw [zl]; omega)]
      refine iteT (iteT (out ?_ H' (Same.refl _)))
      rw [eok, decide_eq_false (fun h => e2 h.2), Bool.false_and]
    rw [decide_eq_false (show ¬ ((restS z).length : Int) > 60 by rw [zl]; omega)]
    refine iteF ?_
    have r1 : 1 ≤ (restS z).cps.toList.length ∧ (restS z).cps.toList.length ≤ 60 := ⟨Nat.one_le_iff_ne_zero.mpr fun h => e1 (ext_l (by rw [List.eq_nil_of_length_eq_zero h]; decide +kernel)), e2⟩
    refine ⟨_, rfl, restS z, rfl, fun D nD => ?_⟩
    have toL : ∀ (i : Nat) (c : Nat), (restS z).cps[i]? = some c → (restS z).cps.toList[i]? = some c := fun i c h => by rw [Array.getElem?_toList]; exact h
    refine lc_it walk_str (fun i Hx => Same H' Hx ∧ Hx D = some (.lst (((((restS z).cps.toList.take i).filter fun c => !digB c).map S1).map V.str))) ⟨Same.new nD, upd_same⟩ (fun _ _ _ _ => True.intro) ?_ ?_
    · rintro i x Hx Hy hi ⟨sx, hD⟩ ⟨rfl, c, hc', rfl⟩
      have hL := toL i c hc'
      have ft := flt_nt (p := digB) hL
      refine ⟨rfl, _, rfl, c, DIGITS, rfl, rfl, _, rfl, ?_⟩
      show if (!digB c) = true then _ else _
      cases hb : digB c with
      | true =>
        refine iteF ⟨sx, ?_⟩
        rw [ft, hb, if_pos rfl, List.append_nil]; exact hD
      | false =>
        refine iteT ⟨_, rfl, _, hD, ?_, ?_, ?_⟩
        · rw [List.length_map, List.length_map]; exact smallt (Nat.lt_of_le_of_lt (List.length_filter_le _ _) (by rw [List.length_take]; omega))
        · intro b u hb'
          rw [upd_ne (ne_of_none hb' nD)]
          exact sx _ _ hb'
        · rw [upd_same, ft, hb, if_neg (by decide), List.map_append, List.map_append]; rfl
    rintro Hx ⟨sx, hD⟩
    rw [show (restS z).cps.size = (restS z).cps.toList.length from rfl, List.take_length] at hD
    refine ⟨Nat.zero_le _, fun o no' => ?_⟩
    have so := Same.new (o := .lst []) no'
    have ho : upd Hx o (.lst []) o = some (.lst (([] : List Str).map V.str)) := upd_same
    have hD' := so _ _ hD
    have s2 := sx.trans so
    generalize upd Hx o (.lst []) = Hy at *
    refine ⟨.list (((((restS z).cps.toList).filter fun c => !digB c).map S1).map PyData.str), .list (([] : List Str).map PyData.str), .lst (tofL hD') (dpa_strs _), .lst (tofL ho) (dpa_strs []), plain_strs _, plain_strs _, depth_strs _, _, rfl, ?_⟩
    rw [eqv_strs, marks_none]
    cases r2 : (restS z).cps.toList.all digB with
    | false =>
      refine iteT (out ?_ Hy s2)
      rw [eok, r2, Bool.false_and, Bool.and_false]
    | true =>
    refine iteF ?_
    obtain ⟨c0, hc0⟩ : ∃ c, (restS z).cps.toList[0]? = some c := ⟨_, List.getElem?_eq_getElem (by omega)⟩
    have z48 : ("0" : Str) = ⟨#[48]⟩ := by decide +kernel
    have c48 : decide (V.str ({ cps := #[c0] } : Str) = V.str ("0" : Str)) = decide (c0 = 48) := by
      rw [strD, z48]
      by_cases h : c0 = 48
      · subst h; rfl
      · rw [decide_eq_false h]
        refine decide_eq_false fun e => h ?_
        have e' := congrArg (fun s : Str => s.cps.toList) e
        exact (List.cons.inj (show [c0] = [48] from e')).1
    refine ⟨_, rfl, restS z, 0, c0, rfl, rfl, lr2, atI_nat (j := 0) hc0, rfl, _, rfl, ?_⟩
    rw [c48]
    by_cases h0 : c0 = 48 ∧ z ≠ "0"
    · rw [decide_eq_true h0.1]
      refine iteT ⟨_, rfl, rfl, _, rfl, ?_⟩
      rw [strD, decide_eq_false h0.2]
      refine iteT (out ?_ Hy s2)
      rw [eok, decide_eq_false (show ¬ ¬ _ from fun h => h ⟨by rw [hc0, h0.1], h0.2⟩), Bool.and_false, Bool.and_false]
    have h3 : ¬ ((restS z).cps.toList[0]? = some 48 ∧ z ≠ "0") := fun e => h0 ⟨by have := e.1; rw [hc0] at this; exact Option.some.inj this, e.2⟩
    have ok : okW z = true := by rw [eok, decide_eq_true r1, r2, decide_eq_true h3]; rfl
    have go : ∃ v, PySem.intText? z = some v ∧ z.length ≤ 640 ∧ Q (.int v) Hy := by
      have qq := q Hy s2
      cases en : natB z with
      | true => rw [wV_nat en] at qq; exact ⟨valN z, (nat_int en).1, (nat_int en).2, qq⟩
      | false =>
        obtain ⟨v, v0, i1, i2, w0⟩ := neg_int ok en
        unfold wV at qq
        rw [if_pos ok, i1] at qq
        exact ⟨v, i1, i2, qq⟩
    obtain ⟨v, i1, i2, i3⟩ := go
    by_cases h4 : c0 = 48
    · rw [decide_eq_true h4]
      refine iteT ⟨_, rfl, rfl, _, rfl, ?_⟩
      rw [strD, decide_eq_true (Classical.byContradiction fun e => h0 ⟨h4, e⟩)]
      exact iteF ⟨_, rfl, z, v, rfl, i1, i2, i3⟩
    · rw [decide_eq_false h4]
      exact iteF (iteF ⟨_, rfl, z, v, rfl, i1, i2, i3⟩)
end
end KW
namespace KW
open PySem PySem.Spec PyProof.Rows L2 GL RZ TL
/-! ### the law's own reader: sums -/
def okP (kn : List Str) (p : List Str) : Bool := inG kn (termB p)
def FB (kn : List Str) (p ws : List Str) : Bool := (ws.foldl stepP [p]).all (okP kn)
theorem fold_app : ∀ (ws : List Str) (P : List (List Str)) (p : List Str), ws.foldl stepP (P ++ [p]) = P ++ ws.foldl stepP [p]
  | [], _, _ => rfl
  | w :: r, P, p => by
    cases h : isSg w with
    | true =>
      show r.foldl stepP (stepP (P ++ [p]) w) = P ++ r.foldl stepP (stepP [p] w)
      rw [step_sg h, step_sg h, fold_app r (P ++ [p]) [w], fold_app r [p] [w], List.append_assoc]
    | false =>
      show r.foldl stepP (stepP (P ++ [p]) w) = P ++ r.foldl stepP (stepP [p] w)
      rw [step_no h, show [p] = [] ++ [p] from rfl, step_no h, fold_app r P (p ++ [w])]
      rfl
theorem FB_nil (kn p : List Str) : FB kn p [] = okP kn p := by
  show ([p].all (okP kn)) = _
  rw [List.all_cons, List.all_nil, Bool.and_true]
theorem FB_sg {kn p r : List Str} {w : Str} (h : isSg w = true) : FB kn p (w :: r) = (okP kn p && FB kn [w] r) := by
  show (r.foldl stepP (stepP [p] w)).all (okP kn) = _
  rw [step_sg h, fold_app r [p] [w], List.all_append, List.all_cons, List.all_nil, Bool.and_true]
  rfl
theorem FB_no {kn p r : List Str} {w : Str} (h : isSg w = false) : FB kn p (w :: r) = FB kn (p ++ [w]) r := by
  show (r.foldl stepP (stepP [p] w)).all (okP kn) = _
  rw [show [p] = [] ++ [p] from rfl, step_no h]
  rfl
theorem FB_bad {kn : List Str} : ∀ (ws p : List Str), (∀ q, okP kn (p ++ q) = false) → FB kn p ws = false
  | [], p, h => by rw [FB_nil]; have := h []; rw [List.append_nil] at this; exact this
  | w :: r, p, h => by
    cases e : isSg w with
    | true => rw [FB_sg e]; have := h []; rw [List.append_nil] at this; rw [this, Bool.false_and]
    | false => rw [FB_no e]; exact FB_bad r _ fun q => by rw [List.append_assoc]; exact h _
theorem nat_name {w : Str} (h : natB w = true) : nameB w = false := Bool.eq_false_iff.mpr fun hn => by
  obtain ⟨d1, d2, _⟩ := nat_digits h
  unfold nameB at hn
  rw [Bool.and_eq_true, Bool.and_eq_true] at hn
  have l2 : letB (w.cps.toList.getD 0 0) = true := (Bool.and_eq_true_iff.mp hn.2).1
  have l3 := of_decide_eq_true l2
  have ge : ∀ c ∈ LETTERS.cps.toList, 97 ≤ c := by decide +kernel
  have g1 := ge _ l3
  cases ec : w.cps.toList with
  | nil => exact d2 ec
  | cons c rr =>
    rw [ec] at g1
    have g2 := d1 c (by rw [ec]; exact List.mem_cons_self)
    have g1 : 97 ≤ c := g1
    omega
theorem nat_sg {w : Str} (h : natB w = true) : isSg w = false := by
  cases e : isSg w with
  | false => rfl
  | true =>
    unfold isSg at e
    rcases Bool.or_eq_true_iff.mp e with e | e
    · rw [of_decide_eq_true e] at h; revert h; decide +kernel
    · rw [of_decide_eq_true e] at h; revert h; decide +kernel
section
variable {kn : List Str} (hk : ∀ z ∈ kn, nameB z = true)
include hk
theorem sg_kn {w : Str} (h : isSg w = true) : w ∉ kn := fun m => by
  have := name_sg (hk w m); rw [h] at this; cases this
theorem ok_nm (s : Str) {w : Str} (h : w ∈ kn) : okP kn [s, w] = true := by
  unfold okP
  rw [term2, if_pos (hk w h)]
  show (decide (w = "") || decide (w ∈ kn)) = true
  rw [decide_eq_true h, Bool.or_true]
theorem ok_nm_more (s : Str) {w : Str} (h : w ∈ kn) (x : Str) (q : List Str) : okP kn (s :: w :: x :: q) = false := by
  have n0 : natB w ≠ true := fun e => by have := nat_name e; rw [hk w h] at this; cases this
  unfold okP
  cases q with
  | nil => rw [term3, if_neg (fun e => n0 e.1)]; rfl
  | cons y r => rfl
omit hk in
theorem ok_nat (s : Str) {w : Str} (h : natB w = true) : okP kn [s, w] = true := by
  unfold okP
  rw [term2, if_neg (by rw [nat_name h]; decide), if_pos h]
  show (decide (("" : Str) = "") || decide (("" : Str) ∈ kn)) = true
  rw [decide_eq_true rfl, Bool.true_or]
theorem ok_nat2 (s : Str) {w : Str} (h : natB w = true) (x : Str) : okP kn [s, w, x] = decide (x ∈ kn) := by
  unfold okP
  rw [term3]
  by_cases hx : x ∈ kn
  · rw [if_pos ⟨h, hk x hx⟩, decide_eq_true hx]
    show (decide (x = "") || decide (x ∈ kn)) = true
    rw [decide_eq_true hx, Bool.or_true]
  · rw [decide_eq_false hx]
    by_cases hn : nameB x = true
    · rw [if_pos ⟨h, hn⟩]
      show (decide (x = "") || decide (x ∈ kn)) = false
      rw [decide_eq_false hx, decide_eq_false (name_not hn).2.2.2.1]; rfl
    · rw [if_neg (fun e => hn e.2)]; rfl
omit hk in
theorem ok_none (s : Str) {w : Str} (h : natB w = false) (hw : w ∉ kn) (q : List Str) : okP kn (s :: w :: q) = false := by
  unfold okP
  cases q with
  | nil =>
    rw [term2]
    by_cases hn : nameB w = true
    · rw [if_pos hn]
      show (decide (w = "") || decide (w ∈ kn)) = false
      rw [decide_eq_false hw, decide_eq_false (name_not hn).2.2.2.1]; rfl
    · rw [if_neg hn, if_neg (by rw [h]; decide)]; rfl
  | cons x r =>
    cases r with
    | nil => rw [term3, if_neg (fun e => by rw [h] at e; cases e.1)]; rfl
    | cons y t => rfl
/-- a name that is known stands behind a sign -/
theorem FB_name_end (s : Str) {w : Str} (h : w ∈ kn) : FB kn [s] [w] = true := by
  rw [FB_no (name_sg (hk w h)), FB_nil]; exact ok_nm hk s h
theorem FB_name (s : Str) {w x : Str} (h : w ∈ kn) (r : List Str) : FB kn [s] (w :: x :: r) = (isSg x && FB kn [x] r) := by
  rw [FB_no (name_sg (hk w h))]
  cases e : isSg x with
  | true => rw [FB_sg e]; rw [show okP kn ([s] ++ [w]) = true from ok_nm hk s h]
  | false =>
    rw [FB_no e, Bool.false_and]
    exact FB_bad _ _ fun q => ok_nm_more hk s h x q
omit hk in
theorem FB_nat_end (s : Str) {w : Str} (h : natB w = true) : FB kn [s] [w] = true := by
  rw [FB_no (nat_sg h), FB_nil]; exact ok_nat s h
theorem FB_nat (s : Str) {w x : Str} (h : natB w = true) (hx : x ∉ kn) (r : List Str) : FB kn [s] (w :: x :: r) = (isSg x && FB kn [x] r) := by
  rw [FB_no (nat_sg h)]
  cases e : isSg x with
  | true => rw [FB_sg e]; rw [show okP kn ([s] ++ [w]) = true from ok_nat s h]
  | false =>
    rw [FB_no e, Bool.false_and]
    refine FB_bad _ _ fun q => ?_
    cases q with
    | nil => show okP kn [s, w, x] = false; rw [ok_nat2 hk s h, decide_eq_false hx]
    | cons y t => rfl
theorem FB_nat2_end (s : Str) {w x : Str} (h : natB w = true) (hx : x ∈ kn) : FB kn [s] [w, x] = true := by
  rw [FB_no (nat_sg h), FB_no (name_sg (hk x hx)), FB_nil]
  show okP kn [s, w, x] = true
  rw [ok_nat2 hk s h, decide_eq_true hx]
theorem FB_nat2 (s : Str) {w x y : Str} (h : natB w = true) (hx : x ∈ kn) (r : List Str) : FB kn [s] (w :: x :: y :: r) = (isSg y && FB kn [y] r) := by
  rw [FB_no (nat_sg h), FB_no (name_sg (hk x hx))]
  cases e : isSg y with
  | true =>
    rw [FB_sg e, show okP kn ([s] ++ [w] ++ [x]) = true from by show okP kn [s, w, x] = true; rw [ok_nat2 hk s h, decide_eq_true hx]]
  | false =>
    rw [FB_no e, Bool.false_and]
    exact FB_bad _ _ fun q => rfl
theorem FB_not (s : Str) {w : Str} (h : natB w = false) (hw : w ∉ kn) (r : List Str) : FB kn [s] (w :: r) = false := by
  cases e : isSg w with
  | true => rw [FB_sg e]; rfl
  | false => rw [FB_no e]; exact FB_bad _ _ fun q => ok_none s h hw q
end
theorem gs_FB (kn ws : List Str) : gsB kn ws = if ws.take 1 = [("-" : Str)] then FB kn ["-"] (ws.drop 1) else FB kn ["+"] ws := by
  unfold gsB termsOf partsOf signedOf
  by_cases h : ws.take 1 = [("-" : Str)]
  · rw [if_pos h, if_pos h]
    cases ws with
    | nil => cases h
    | cons a r =>
      have ea : a = "-" := (List.cons.inj h).1
      subst ea
      rw [List.all_map]
      rfl
  · rw [if_neg h, if_neg h, List.all_map]
    rfl
/-- what the rest of the words must come to -/
def Rest (kn ws : List Str) (k : Nat) : Prop := ∃ s : Str, FB kn [s] (ws.drop k) = gsB kn ws
def spLSum : Sp := fun vs H Q _ => ∃ (l g : Addr) (ws kn : List Str), vs = [.ref l, .ref g] ∧ H l = some (.lst (ws.map V.str)) ∧ H g = some (.lst (kn.map V.str)) ∧ (∀ z ∈ kn, nameB z = true) ∧ ws.length ≤ 62000 ∧ (∀ z ∈ ws, z.cps.toList.length ≤ 61001) ∧
  ∀ H', Same H H' → Q (.bl (gsB kn ws)) H'
abbrev stK (l g : Addr) (k : Nat) : L2.St := [some (.ref l), some (.ref g), some (.int (k : Nat))]
/-- a turn of the loop is done: k words are read, and what was read is a sum so far -/
def WS (H : Hp) (l g : Addr) (kn ws : List Str) (m : Nat) (σ : L2.St) (Hx : Hp) : Prop := ∃ k, σ = stK l g k ∧ Same H Hx ∧ k ≤ ws.length ∧ Rest kn ws k ∧ m + k = ws.length
theorem drop_cons {ws : List Str} {k : Nat} {z : Str} (h : ws[k]? = some z) : ws.drop k = z :: ws.drop (k + 1) := by
  have hl := (List.getElem?_eq_some_iff.mp h).1
  rw [List.drop_eq_getElem_cons hl]
  rw [List.getElem?_eq_getElem hl] at h
  rw [Option.some.inj h]
/-- behind a term that ends at j: the words are at an end, or a sign stands there -/
def Aft (kn ws : List Str) (j : Nat) : Prop := j ≤ ws.length ∧ (j = ws.length → gsB kn ws = true) ∧ ∀ x, ws[j]? = some x → (isSg x = false → gsB kn ws = false) ∧ (isSg x = true → FB kn [x] (ws.drop (j + 1)) = gsB kn ws)
theorem aft_of {kn ws : List Str} {s : Str} {k j : Nat} {pre : List Str} (e : FB kn [s] (ws.drop k) = gsB kn ws) (ed : ws.drop k = pre ++ ws.drop j) (hj : j ≤ ws.length)
    (e0 : FB kn [s] pre = true) (e1 : ∀ x r, ws[j]? = some x → FB kn [s] (pre ++ x :: r) = (isSg x && FB kn [x] r)) : Aft kn ws j := by
  refine ⟨hj, fun h => ?_, fun x hx => ?_⟩
  · rw [ed, h, List.drop_of_length_le (Nat.le_refl _), List.append_nil, e0] at e
    exact e.symm
  · rw [ed, drop_cons hx, e1 _ _ hx] at e
    refine ⟨fun h => ?_, fun h => ?_⟩
    · rw [h, Bool.false_and] at e; exact e.symm
    · rw [h, Bool.true_and] at e; exact e
section
variable {P : Program} {w : World} {K : PySem.W.Frag} {mg : Str → Option Value} {base : Heap}
abbrev s_is_sum : Stmt := topS 39
theorem sc_is_sum : FnScope ["_law_some", "_law_known_here", "_law_k"] ["_law_some", "_law_known_here"] (defScope s_is_sum) := ⟨rfl, rfl, rfl, by decide +kernel, rfl, by decide +kernel, by decide +kernel⟩
theorem ok_is_sum {f : Addr} {fd : FuncData} (F : Fun K "_law_is_sum" "_law_is_sum" s_is_sum f fd) (gl : mg "_law_is_sum" = some (.ref f)) (T : Bl mg) (D_whole : DefG P w K mg base 1 "_law_whole" ["_law_word"] spLWhole) : DefG P w K mg base 2 "_law_is_sum" ["_law_some", "_law_known_here"] spLSum := by
  refine def_mk F gl (F.binds fun _ _ _ _ _ _ us hl => match us, hl with | [_, _], _ => rfl) (okG F sc_is_sum (fun vs H Q E h => ?_) fun cdv A outer s H vs Q E hr hc h => ?_)
  · obtain ⟨l, g, ws, kn, rfl, _⟩ := h
    rfl
  · obtain ⟨l, g, ws, kn, rfl, hl, hg, hk, w62, wl, q⟩ := h
    have nd := sc_is_sum.nd
    have hu64 := hr.units
    refine ⟨_, (pss_cons (ps_set (i := 2) nd rfl (by first | exact Or.inl rfl | exact Or.inr rfl) (pe_cutE (pe_ifExp (pt_cmpR (op_eqP (K := K) hu64) (pe_slice sl_list (pv 0) po_none (po_some pe_int)) (pe_lst (pa_cons pe_str pa_nil)) (nomark _)) pe_int pe_int)))
      (pss_cons (ps_while PassesOwn.never (pt_cmpR op_lt (pv 2) (pe_callB call_len_seq (by rfl) T.len boot_len (pa_cons (pv 0) pa_nil)) (nomark _))
        (C8.pss_cut (ps_if (pt_cmpR (op_inK (K := K)) (pe_ix ix_list (pv 0) (pv 2) (fun _ _ => rfl)) (pv 1) (by with_unfolding_all rfl))
          (pss_one (ps_set (i := 2) nd rfl (by first | exact Or.inl rfl | exact Or.inr rfl) (pe_op op_add (pv 2) pe_int)))
          (pss_one (ps_if (PW.pt (pw_and (pt_cmpR op_notN (pe_def D_whole (hr.mono (by decide)) hc (by rfl) (pa_cons (pe_ix ix_list (pv 0) (pv 2) (fun _ _ => rfl)) pa_nil)) pe_non (nomark _)) (pw_and1 (pt_cmpR op_ne (pe_ix ix_str (pe_ix ix_list (pv 0) (pv 2) (fun _ _ => rfl)) pe_int (fun _ _ => rfl)) pe_str (nomark _)))))
            (pss_one (ps_set (i := 2) nd rfl (by first | exact Or.inl rfl | exact Or.inr rfl) (pe_ifExp (PW.pt (pw_and (pt_cmpR op_lt (pe_op op_add (pv 2) pe_int) (pe_callB call_len_seq (by rfl) T.len boot_len (pa_cons (pv 0) pa_nil)) (nomark _)) (pw_and1 (pt_cmpR (op_inK (K := K)) (pe_ix ix_list (pv 0) (pe_op op_add (pv 2) pe_int) (fun _ _ => rfl)) (pv 1) (by with_unfolding_all rfl))))) (pe_op op_add (pv 2) pe_int) (pe_op op_add (pv 2) pe_int))))
            (pss_one (ps_ret pe_bl)))))
        (pss_cons (ps_if (pt_cmpR op_eq (pv 2) (pe_callB call_len_seq (by rfl) T.len boot_len (pa_cons (pv 0) pa_nil)) (nomark _))
          (pss_one (ps_ret pe_bl))
          pss_nil)
        (pss_cons (ps_if (pt_cmpR (op_notInK (K := K)) (pe_ix ix_list (pv 0) (pv 2) (fun _ _ => rfl)) (pe_tup (pa_cons pe_str (pa_cons pe_str pa_nil))) (by with_unfolding_all rfl))
          (pss_one (ps_ret pe_bl))
          pss_nil)
        (pss_one (ps_set (i := 2) nd rfl (by first | exact Or.inl rfl | exact Or.inr rfl) (pe_op op_add (pv 2) pe_int)))))))
      (pss_one (ps_ret pe_bl)))), ?_⟩
    -- the first word
    refine ⟨fun x H' => ∃ k : Nat, x = .int (k : Nat) ∧ Same H H' ∧ k ≤ ws.length ∧ Rest kn ws k, ?_, ?_⟩
    · refine ⟨_, rfl, 1, rfl, l, _, rfl, tofL hl, fun p1 np1 => ?_⟩
      have s1 := Same.new (o := .lst (cutV (ws.map V.str) none (some 1))) np1
      have e1 : cutV (ws.map V.str) none (some 1) = (ws.take 1).map V.str := by
        cases ws with
        | nil => rfl
        | cons a r => rfl
      have h1 : upd H p1 (.lst (cutV (ws.map V.str) none (some 1))) p1 = some (.lst ((ws.take 1).map V.str)) := by rw [upd_same, e1]
      generalize upd H p1 (.lst (cutV (ws.map V.str) none (some 1))) = Ha at *
      refine ⟨(show 1 ≤ sizeLine from small (by decide)), fun p2 np2 => ?_⟩
      have s2 := Same.new (o := .lst [.str "-"]) np2
      have h2 : upd Ha p2 (.lst [.str "-"]) p2 = some (.lst (([("-" : Str)]).map V.str)) := upd_same
      have h1' := s2 _ _ h1
      generalize upd Ha p2 (.lst [.str "-"]) = Hb at *
      refine ⟨.list ((ws.take 1).map PyData.str), .list (([("-" : Str)]).map PyData.str), .lst (tofL h1') (dpa_strs _), .lst (tofL h2) (dpa_strs ["-"]), plain_strs _, plain_strs _, depth_strs _, _, rfl, ?_⟩
      rw [eqv_strs]
      have gf := gs_FB kn ws
      refine ite2 (fun e => ⟨1, rfl, s1.trans s2, ?_, "-", ?_⟩) (fun e => ⟨0, rfl, s1.trans s2, Nat.zero_le _, "+", ?_⟩)
      · cases ws with
        | nil => cases (of_decide_eq_true e)
        | cons a r => exact Nat.succ_le_succ (Nat.zero_le _)
      · rw [gf, if_pos (of_decide_eq_true e)]
      · rw [gf, if_neg (fun z => e (decide_eq_true z))]; rfl
    rintro x H1 ⟨k0, rfl, s1, k0l, rest0⟩
    refine ⟨WS H l g kn ws, ⟨ws.length - k0, k0, rfl, s1, k0l, rest0, by omega⟩, ?_⟩
    rintro m σ Hx ⟨k, rfl, sx, kl, ⟨sg, rest⟩, em⟩
    have hlx := sx _ _ hl
    have hgx := sx _ _ hg
    refine ⟨_, rfl, _, rfl, l, _, rfl, .inl (tofL hlx), _, _, rfl, rfl, _, rfl, ?_⟩
    rw [List.length_map]
    refine ite2 (fun e => ?_) (fun e => ?_)
    rotate_left
    · -- no word is left
      have e0 : k = ws.length := by
        rcases Nat.lt_or_ge k ws.length with h | h
        · exact absurd (decide_eq_true (by omega)) e
        · omega
      rw [e0, List.drop_of_length_le (Nat.le_refl _)] at rest
      have r0 : gsB kn ws = false := by rw [← rest]; rfl
      rw [← r0]
      exact q Hx sx
    have hi : k < ws.length := by have := of_decide_eq_true e; omega
    obtain ⟨z, hz⟩ : ∃ z, ws[k]? = some z := ⟨_, List.getElem?_eq_getElem hi⟩
    have hzm := List.mem_of_getElem? hz
    have ed := drop_cons hz
    have atz : atI (ws.map V.str) ((k : Nat) : Int) = some (V.str z) := atI_nat (by rw [List.getElem?_map, hz]; rfl)
    have no : gsB kn ws = false → ∀ Hy, Same H Hy → Q (.bl false) Hy := fun e Hy sy => by rw [← e]; exact q Hy sy
    refine ⟨fun σ' H' => ∃ m', m' < m ∧ WS H l g kn ws m' σ' H', fun _ _ h => h, ?_⟩
    -- the term
    refine ⟨fun σ' H' => ∃ j : Nat, σ' = stK l g j ∧ Same H H' ∧ k < j ∧ Aft kn ws j, ?_, ?_⟩
    · refine ⟨_, rfl, _, rfl, l, _, (k : Nat), _, rfl, rfl, tofL hlx, atz, _, rfl, g, _, rfl, .inl (tofL hgx), rfl, flat_strs kn, _, rfl, ?_⟩
      rw [inV_strs]
      by_cases hin : z ∈ kn
      · rw [decide_eq_true hin]
        refine iteT ⟨_, rfl, _, _, rfl, rfl, k + 1, rfl, sx, Nat.lt_succ_self _, ?_⟩
        exact aft_of rest (pre := [z]) ed (by omega) (FB_name_end hk sg hin) (fun x r _ => FB_name hk sg hin r)
      rw [decide_eq_false hin]
      refine iteF ?_
      refine ⟨_, rfl, _, rfl, l, _, (k : Nat), _, rfl, rfl, tofL hlx, atz, z, rfl, wl z hzm, fun H2 s2 => ?_⟩
      have en' : natB z = true ∨ natB z = false := by cases natB z <;> simp
      rcases en' with en | en
      rotate_left
      rcases wV_not en with eW | ⟨v, v0, z45, eW⟩
      · -- no number
        rw [eW]
        refine ⟨rfl, _, rfl, iteF (iteF ?_)⟩
        have : gsB kn ws = false := by rw [← rest, ed]; exact FB_not hk sg en hin _
        exact no this H2 (sx.trans s2)
      · -- a number with a sign
        rw [eW]
        have hl2 := s2 _ _ hlx
        refine ⟨rfl, _, rfl, iteT ?_⟩
        have zl : z.length = z.cps.toList.length := (Array.length_toList ..).symm
        have z45' : ({ cps := #[45] } : Str) = "-" := by decide +kernel
        refine ⟨_, rfl, _, rfl, l, _, (k : Nat), _, rfl, rfl, tofL hl2, atz, z, 0, 45, rfl, rfl, by rw [zl]; exact small (by have := wl z hzm; omega), atI_nat (j := 0) z45, rfl, _, rfl, ?_⟩
        rw [strD, z45', decide_eq_true rfl]
        refine iteF ?_
        have : gsB kn ws = false := by rw [← rest, ed]; exact FB_not hk sg en hin _
        exact no this H2 (sx.trans s2)
      -- a natural number
      rw [wV_nat en]
      have hl2 := s2 _ _ hlx
      have hg2 := s2 _ _ hgx
      have sx2 := sx.trans s2
      refine ⟨rfl, _, rfl, iteT ?_⟩
      have zl : z.length = z.cps.toList.length := (Array.length_toList ..).symm
      obtain ⟨d1, d2, d3⟩ := nat_digits en
      obtain ⟨c0, hc0⟩ : ∃ c, z.cps.toList[0]? = some c := by
        cases ez : z.cps.toList with
        | nil => exact absurd ez d2
        | cons a r => exact ⟨a, rfl⟩
      have c48 := d1 c0 (List.mem_of_getElem? hc0)
      refine ⟨_, rfl, _, rfl, l, _, (k : Nat), _, rfl, rfl, tofL hl2, atz, z, 0, c0, rfl, rfl, by rw [zl]; exact small (by omega), atI_nat (j := 0) hc0, rfl, _, rfl, ?_⟩
      have c45 : ({ cps := #[c0] } : Str) ≠ "-" := fun e => by
        have e' := congrArg (fun s : Str => s.cps.toList) e
        have : c0 = 45 := (List.cons.inj (show [c0] = [45] from e'.trans (by decide +kernel))).1
        omega
      rw [strD, decide_eq_false c45]
      refine iteT ?_
      refine ⟨_, rfl, _, _, rfl, rfl, _, rfl, l, _, rfl, .inl (tofL hl2), _, _, rfl, rfl, _, rfl, ?_⟩
      rw [List.length_map]
      have one : (∀ x, ws[k + 1]? = some x → x ∉ kn) → Aft kn ws (k + 1) := fun hx => aft_of rest (pre := [z]) ed (by omega) (FB_nat_end sg en) (fun x r h => FB_nat hk sg en (hx x h) r)
      by_cases e2 : k + 1 < ws.length
      rotate_left
      · rw [decide_eq_false (show ¬ ((k : Nat) : Int) + 1 < ((ws.length : Nat) : Int) by omega)]
        refine iteF (iteF ⟨_, rfl, _, _, rfl, rfl, k + 1, rfl, sx2, Nat.lt_succ_self _, one fun x hx => ?_⟩)
        have := (List.getElem?_eq_some_iff.mp hx).1
        omega
      obtain ⟨x, hx⟩ : ∃ x, ws[k + 1]? = some x := ⟨_, List.getElem?_eq_getElem e2⟩
      have atx : atI (ws.map V.str) (((k : Nat) : Int) + 1) = some (V.str x) := by
        rw [show ((k : Nat) : Int) + 1 = ((k + 1 : Nat) : Int) by omega]
        exact atI_nat (by rw [List.getElem?_map, hx]; rfl)
      rw [decide_eq_true (show ((k : Nat) : Int) + 1 < ((ws.length : Nat) : Int) by omega)]
      refine iteT ⟨_, rfl, _, rfl, _, _, rfl, rfl, l, _, _, _, rfl, rfl, tofL hl2, atx, _, rfl, g, _, rfl, .inl (tofL hg2), rfl, flat_strs kn, _, rfl, ?_⟩
      rw [inV_strs]
      by_cases hin2 : x ∈ kn
      · rw [decide_eq_true hin2]
        refine iteT ⟨_, rfl, _, _, rfl, rfl, k + 2, rfl, sx2, by omega, ?_⟩
        exact aft_of rest (pre := [z, x]) (by rw [ed, drop_cons hx]; rfl) (by omega) (FB_nat2_end hk sg en hin2) (fun y r _ => FB_nat2 hk sg en hin2 r)
      · rw [decide_eq_false hin2]
        refine iteF ⟨_, rfl, _, _, rfl, rfl, k + 1, rfl, sx2, by omega, one fun y hy => ?_⟩
        rw [hx] at hy
        cases hy
        exact hin2
    rintro σ2 H2 ⟨j, rfl, s2, kj, jl, jend, jx⟩
    have hl2 := s2 _ _ hl
    refine ⟨_, rfl, _, rfl, l, _, rfl, .inl (tofL hl2), rfl, _, rfl, ?_⟩
    rw [List.length_map]
    by_cases e3 : j = ws.length
    · refine ite2 (fun _ => ?_) (fun z => absurd (decide_eq_true (by rw [e3])) z)
      have r1 := jend e3
      have := q H2 s2
      rw [r1] at this
      exact this
    refine ite2 (fun z => absurd (V.int.inj (of_decide_eq_true z)) (by omega)) (fun _ => ?_)
    obtain ⟨x, hx⟩ : ∃ x, ws[j]? = some x := ⟨_, List.getElem?_eq_getElem (by omega)⟩
    have atx : atI (ws.map V.str) ((j : Nat) : Int) = some (V.str x) := atI_nat (by rw [List.getElem?_map, hx]; rfl)
    obtain ⟨j1, j2⟩ := jx x hx
    refine ⟨_, rfl, _, rfl, l, _, _, _, rfl, rfl, tofL hl2, atx, (show 2 ≤ sizeLine from small (by decide)), fun t0 nt0 => ?_⟩
    have st := Same.new (o := .tup [.str "+", .str "-"]) nt0
    have ht : upd H2 t0 (.tup [.str "+", .str "-"]) t0 = some (.tup (([("+" : Str), "-"]).map V.str)) := upd_same
    have sy := s2.trans st
    generalize upd H2 t0 (.tup [.str "+", .str "-"]) = Hy at *
    refine ⟨t0, _, rfl, .inr (tofT ht), rfl, flat_strs ["+", "-"], _, rfl, ?_⟩
    have eb : inV (.str x) (([("+" : Str), "-"]).map V.str) = isSg x := by
      rw [inV_strs]
      unfold isSg
      by_cases h1 : x = "+"
      · simp [h1]
      · by_cases h2 : x = "-"
        · simp [h2]
        · simp [h1, h2]
    rw [eb]
    cases es : isSg x with
    | false => exact iteT (no (j1 es) Hy sy)
    | true =>
      refine iteF ⟨_, rfl, _, _, rfl, rfl, ws.length - (j + 1), by omega, j + 1, rfl, sy, by omega, ⟨x, j2 es⟩, by omega⟩
end
end KW
namespace KW
open PySem PySem.Spec PyProof.Rows L2 GL RZ TL
/-! ### the law's own reader: a line -/
theorem atI_two (init : List Str) (a x : Str) : atI ((init ++ [a, x]).map V.str) (-2) = some (V.str a) := by
  unfold atI
  have l : ((init ++ [a, x]).map V.str).length = init.length + 2 := by rw [List.length_map, List.length_append]; rfl
  have e : ixN ((init ++ [a, x]).map V.str).length (-2) = some init.length := by
    rw [l]
    unfold ixN
    simp
    omega
  rw [e]
  show ((init ++ [a, x]).map V.str)[init.length]? = _
  rw [List.getElem?_map, List.getElem?_append_right (Nat.le_refl _), Nat.sub_self]; rfl
theorem okP_mod {kn : List Str} (s : Str) {q : List Str} (h : ("mod" : Str) ∈ q) : okP kn (s :: q) = false := by
  have m1 : nameB "mod" = false := by decide +kernel
  have m2 : natB "mod" = false := by decide +kernel
  unfold okP
  match q, h with
  | [x], h =>
    have e : x = "mod" := (List.mem_singleton.mp h).symm
    subst e
    rw [term2, if_neg (by rw [m1]; decide), if_neg (by rw [m2]; decide)]; rfl
  | [a, x], h =>
    rw [term3, if_neg]
    · rfl
    · rintro ⟨h1, h2⟩
      rcases List.mem_cons.mp h with e | h
      · rw [← e, m2] at h1; cases h1
      · rw [← List.mem_singleton.mp h, m1] at h2; cases h2
  | a :: b :: c :: r, _ => rfl
theorem FB_mod {kn : List Str} : ∀ (ws : List Str) (s : Str) (q : List Str), ("mod" : Str) ∈ q ++ ws → FB kn (s :: q) ws = false
  | [], s, q, h => by rw [FB_nil]; exact okP_mod s (by rw [List.append_nil] at h; exact h)
  | w :: r, s, q, h => by
    cases e : isSg w with
    | true =>
      rw [FB_sg e]
      rcases List.mem_append.mp h with h | h
      · rw [okP_mod s h, Bool.false_and]
      · rcases List.mem_cons.mp h with h | h
        · rw [← h] at e; exact absurd e (by decide +kernel)
        · rw [FB_mod r w [] h, Bool.and_false]
    | false =>
      rw [FB_no e]
      exact FB_mod r s (q ++ [w]) (by rw [List.append_assoc]; exact h)
theorem gs_mod {kn ws : List Str} (h : ("mod" : Str) ∈ ws) : gsB kn ws = false := by
  rw [gs_FB]
  by_cases e : ws.take 1 = [("-" : Str)]
  · rw [if_pos e]
    cases ws with
    | nil => cases h
    | cons a r =>
      have ea : a = "-" := (List.cons.inj e).1
      subst ea
      rcases List.mem_cons.mp h with h | h
      · exact absurd h (by decide +kernel)
      · exact FB_mod r _ [] h
  · rw [if_neg e]; exact FB_mod ws _ [] h
theorem gs_nil (kn : List Str) : gsB kn [] = false := by rw [gs_FB]; rfl
/-- a check's words, with the modulus cut off -/
def ckW_ (kn W : List Str) : Bool := decide (cntE W = 1) && (gsB kn (W.take (eqAt W)) && gsB kn (W.drop (eqAt W + 1)))
theorem ck_eq (kn ps : List Str) : ckB kn ps = ckW_ kn (modOf ps).1 := rfl
theorem cnt_app (a b : List Str) : cntE (a ++ b) = cntE a + cntE b := List.countP_append ..
theorem cnt_pos {b : List Str} (h : ("=" : Str) ∈ b) : 1 ≤ cntE b := by
  unfold cntE
  exact List.countP_pos_iff.mpr ⟨_, h, decide_eq_true rfl⟩
theorem ckW_mod {kn W : List Str} (h : ("mod" : Str) ∈ W) : ckW_ kn W = false := by
  unfold ckW_
  by_cases c : cntE W = 1
  · obtain ⟨a, b, e, _, ej⟩ := eq_split W (by omega)
    rw [decide_eq_true c, Bool.true_and, ej]
    have t : W.take a.length = a := by rw [e, List.take_left]
    have d : W.drop (a.length + 1) = b := by rw [show W = (a ++ [("=" : Str)]) ++ b by rw [e]; simp, show a.length + 1 = (a ++ [("=" : Str)]).length by rw [List.length_append]; rfl, List.drop_left]
    rw [t, d]
    rw [e] at h
    rcases List.mem_append.mp h with h | h
    · rw [gs_mod h, Bool.false_and]
    · rcases List.mem_cons.mp h with h | h
      · exact absurd h (by decide +kernel)
      · rw [gs_mod h, Bool.and_false]
  · rw [decide_eq_false c, Bool.false_and]
/-- the one place of the equals sign -/
theorem eq_only {W : List Str} {k : Nat} (c : cntE W = 1) (h : W[k]? = some ("=" : Str)) : eqAt W = k := by
  obtain ⟨a, b, e, ha, ej⟩ := eq_split W (by omega)
  rw [ej]
  rw [e] at c h
  rw [cnt_app, show cntE (("=" : Str) :: b) = cntE b + 1 by unfold cntE; rw [List.countP_cons, decide_eq_true rfl]; rfl] at c
  rcases Nat.lt_trichotomy k a.length with lt | eq | gt
  · rw [List.getElem?_append_left lt] at h
    exact absurd rfl (ha _ (List.mem_of_getElem? h))
  · exact eq.symm
  · rw [List.getElem?_append_right (by omega), show k - a.length = (k - a.length - 1) + 1 by omega, List.getElem?_cons_succ] at h
    have := cnt_pos (List.mem_of_getElem? h)
    omega
def spLStep : Sp := fun vs H Q _ => ∃ (l g : Addr) (ws kn : List Str), vs = [.ref l, .ref g] ∧ H l = some (.lst (ws.map V.str)) ∧ H g = some (.lst (kn.map V.str)) ∧ (∀ z ∈ kn, nameB z = true) ∧ ws ≠ [] ∧ ws.length ≤ 62000 ∧ (∀ z ∈ ws, z.cps.toList.length ≤ 61001) ∧
  ∀ H', Same H H' → Q (.bl (stB kn ws).isSome) H'
section
variable {P : Program} {w : World} {K : PySem.W.Frag} {mg : Str → Option Value} {base : Heap}
abbrev s_is_step : Stmt := topS 40
theorem sc_is_step : FnScope ["_law_some", "_law_known_here", "_law_part", "_law_spots", "_law_k", "_law_word"] ["_law_some", "_law_known_here"] (defScope s_is_step) := ⟨rfl, rfl, rfl, by decide +kernel, rfl, by decide +kernel, by decide +kernel⟩
theorem ok_is_step {f : Addr} {fd : FuncData} (F : Fun K "_law_is_step" "_law_is_step" s_is_step f fd) (gl : mg "_law_is_step" = some (.ref f)) (T : Bl mg) (D_name : DefG P w K mg base 1 "_law_name" ["_law_word"] spLName) (D_whole : DefG P w K mg base 1 "_law_whole" ["_law_word"] spLWhole) (D_is_sum : DefG P w K mg base 2 "_law_is_sum" ["_law_some", "_law_known_here"] spLSum) : DefG P w K mg base 3 "_law_is_step" ["_law_some", "_law_known_here"] spLStep := by
  refine def_mk F gl (F.binds fun _ _ _ _ _ _ us hl => match us, hl with | [_, _], _ => rfl) (okG F sc_is_step (fun vs H Q E h => ?_) fun cdv A outer s H vs Q E hr hc h => ?_)
  · obtain ⟨l, g, ws, kn, rfl, _⟩ := h
    rfl
  · obtain ⟨l, g, ws, kn, rfl, hl, hg, hk, wne, w62, wl, q⟩ := h
    have nd := sc_is_step.nd
    have hu64 := hr.units
    refine ⟨_, (pss_cons (ps_if (pt_cmpR op_eq (pe_ix ix_list (pv 0) pe_int (fun _ _ => rfl)) pe_str (nomark _))
        (pss_one (ps_ret (pe_and (pe_cmpR op_eq (pe_callB call_len_seq (by rfl) T.len boot_len (pa_cons (pv 0) pa_nil)) pe_int (nomark _)) (pe_and (pe_def D_name (hr.mono (by decide)) hc (by rfl) (pa_cons (pe_ix ix_list (pv 0) pe_int (fun _ _ => rfl)) pa_nil)) (pe_one (pe_cmpR (op_notInK (K := K)) (pe_ix ix_list (pv 0) pe_int (fun _ _ => rfl)) (pv 1) (by with_unfolding_all rfl)))))))
        pss_nil)
      (pss_cons (ps_if (pt_cmpR op_eq (pe_ix ix_list (pv 0) pe_int (fun _ _ => rfl)) pe_str (nomark _))
        (pss_cons (ps_if (PW.pt (pw_or (pt_cmpR op_lt (pe_callB call_len_seq (by rfl) T.len boot_len (pa_cons (pv 0) pa_nil)) pe_int (nomark _)) (pw_or (pt_cmpR op_ne (pe_ix ix_list (pv 0) pe_int (fun _ _ => rfl)) pe_str (nomark _)) (pw_or (pt_not (pt_val (pe_def D_name (hr.mono (by decide)) hc (by rfl) (pa_cons (pe_ix ix_list (pv 0) pe_int (fun _ _ => rfl)) pa_nil)))) (pw_or1 (pt_cmpR (op_inK (K := K)) (pe_ix ix_list (pv 0) pe_int (fun _ _ => rfl)) (pv 1) (by with_unfolding_all rfl)))))))
          (pss_one (ps_ret pe_bl))
          pss_nil)
        (pss_one (ps_ret (pe_def D_is_sum (hr.mono (by decide)) hc (by rfl) (pa_cons (pe_slice sl_list (pv 0) (po_some pe_int) po_none) (pa_cons (pv 1) pa_nil))))))
        pss_nil)
      (pss_cons (ps_if (pt_cmpR op_ne (pe_ix ix_list (pv 0) pe_int (fun _ _ => rfl)) pe_str (nomark _))
        (pss_one (ps_ret pe_bl))
        pss_nil)
      (pss_cons (ps_set (i := 2) nd rfl (by first | exact Or.inl rfl | exact Or.inr rfl) (pe_slice sl_list (pv 0) (po_some pe_int) po_none))
      (C8.pss_cut (ps_if (PW.pt (pw_and (pt_cmpR op_gt (pe_callB call_len_seq (by rfl) T.len boot_len (pa_cons (pv 2) pa_nil)) pe_int (nomark _)) (pw_and (pt_cmpR op_eq (pe_ix ix_list (pv 2) (pe_un un_neg pe_int) (fun _ _ => rfl)) pe_str (nomark _)) (pw_and1 (pt_cmpR op_notN (pe_def D_whole (hr.mono (by decide)) hc (by rfl) (pa_cons (pe_ix ix_list (pv 2) (pe_un un_neg pe_int) (fun _ _ => rfl)) pa_nil)) pe_non (nomark _))))))
        (pss_cons (ps_if (pt_cmpR op_lt (pe_def D_whole (hr.mono (by decide)) hc (by rfl) (pa_cons (pe_ix ix_list (pv 2) (pe_un un_neg pe_int) (fun _ _ => rfl)) pa_nil)) pe_int (nomark _))
          (pss_one (ps_ret pe_bl))
          pss_nil)
        (pss_one (ps_set (i := 2) nd rfl (by first | exact Or.inl rfl | exact Or.inr rfl) (pe_slice sl_list (pv 2) po_none (po_some (pe_un un_neg pe_int))))))
        pss_nil)
      (pss_cons (ps_setLc (i := 3) (own := [("_law_k", 4), ("_law_word", 5)]) (g := (gTup K 2 (gCons (gName 4) (gCons (gName 5) gNil)))) rfl nd rfl rfl (sw_true rfl rfl rfl (by decide +kernel)) (pi_enum (by rfl) T.enumerate (pa_cons (pv 2) pa_nil)) (blkOk_by (own := [("_law_k", 4), ("_law_word", 5)]) (N := ["_law_some", "_law_known_here", "_law_part", "_law_spots", "_law_k", "_law_word"]) (sc := defScope s_is_step) (by decide +kernel)) (fun _ _ _ _ _ => (pg_tup rfl (pgs_cons (pg_name (i := 4) nd rfl (by first | exact Or.inl rfl | exact Or.inr rfl)) (pgs_cons (pg_name (i := 5) nd rfl (by first | exact Or.inl rfl | exact Or.inr rfl)) pgs_nil)))) (fun _ _ _ _ _ => (pts_one (pt_cmpR op_eq (pv 5) pe_str (nomark _)))) (fun _ _ _ _ _ => (pv 4)))
      (pss_one (ps_ret (pe_and (pe_cmpR op_eq (pe_callB call_len_seq (by rfl) T.len boot_len (pa_cons (pv 3) pa_nil)) pe_int (nomark _)) (pe_and (pe_def D_is_sum (hr.mono (by decide)) hc (by rfl) (pa_cons (pe_slice sl_list (pv 2) po_none (po_some (pe_ix ix_list (pv 3) pe_int (fun _ _ => rfl)))) (pa_cons (pv 1) pa_nil))) (pe_one (pe_def D_is_sum (hr.mono (by decide)) hc (by rfl) (pa_cons (pe_slice sl_list (pv 2) (po_some (pe_op op_add (pe_ix ix_list (pv 3) pe_int (fun _ _ => rfl)) pe_int)) po_none) (pa_cons (pv 1) pa_nil)))))))))))))), ?_⟩
    obtain ⟨wd, ps, rfl⟩ : ∃ wd ps, ws = wd :: ps := by
      cases ws with
      | nil => exact absurd rfl wne
      | cons a r => exact ⟨a, r, rfl⟩
    rw [List.length_cons] at w62
    have fin : ∀ b, (stB kn (wd :: ps)).isSome = b → ∀ Hy, Same H Hy → Q (.bl b) Hy := fun b e Hy sy => by rw [← e]; exact q Hy sy
    have int2 : ∀ (n : Nat), decide (V.int ((n : Nat) : Int) = V.int 2) = decide (n = 2) := fun n => by
      by_cases e : n = 2
      · rw [decide_eq_true e, decide_eq_true (by rw [e]; rfl)]
      · rw [decide_eq_false e, decide_eq_false (fun z => e (by have := V.int.inj z; omega))]
    have int1 : ∀ (n : Nat), decide (V.int ((n : Nat) : Int) = V.int 1) = decide (n = 1) := fun n => by
      by_cases e : n = 1
      · rw [decide_eq_true e, decide_eq_true (by rw [e]; rfl)]
      · rw [decide_eq_false e, decide_eq_false (fun z => e (by have := V.int.inj z; omega))]
    refine ⟨_, rfl, l, _, 0, _, rfl, rfl, tofL hl, atI_nat (j := 0) rfl, rfl, _, rfl, ?_⟩
    rw [strD]
    by_cases e1 : wd = "take"
    · -- take
      have nc : wd ≠ "check" := by rw [e1]; decide +kernel
      have nl : wd ≠ "let" := by rw [e1]; decide +kernel
      rw [decide_eq_true e1]
      refine iteT ⟨_, rfl, l, _, rfl, .inl (tofL hl), rfl, _, rfl, ?_⟩
      rw [int2, List.length_map]
      by_cases e2 : (wd :: ps).length = 2
      rotate_left
      · rw [decide_eq_false e2]
        refine iteF (fin _ ?_ H (Same.refl H))
        cases ps with
        | nil => rw [st_one nc]; rfl
        | cons n r =>
          rw [st_more nc]
          split
          · rw [if_neg (fun z => e2 (by rw [z.2]; rfl)), if_neg (fun z => nl z.1)]; rfl
          · rfl
      rw [decide_eq_true e2]
      obtain ⟨n, rfl⟩ : ∃ n, ps = [n] := by
        match ps, e2 with
        | [n], _ => exact ⟨n, rfl⟩
        | [], h => cases h
        | _ :: _ :: _, h => exact absurd h (by simp)
      have sm := st_more (given := kn) (r := []) (n := n) nc
      refine iteT ⟨_, rfl, l, _, 1, _, rfl, rfl, tofL hl, atI_nat (j := 1) rfl, n, rfl, wl n (by simp), fun H2 s2 => ⟨_, rfl, ?_⟩⟩
      cases en : nameB n with
      | false =>
        refine iteF (fin _ ?_ H2 s2)
        rw [sm, if_neg (fun z => by rw [en] at z; cases z.1)]; rfl
      | true =>
        refine iteT ⟨_, rfl, l, _, 1, _, rfl, rfl, tofL (s2 _ _ hl), atI_nat (j := 1) rfl, _, rfl, g, _, rfl, .inl (tofL (s2 _ _ hg)), rfl, flat_strs kn, ?_⟩
        rw [inV_strs]
        refine fin _ ?_ H2 s2
        rw [sm]
        by_cases hin : n ∈ kn
        · rw [if_neg (fun z => z.2 hin), decide_eq_true hin]; rfl
        · rw [if_pos ⟨en, hin⟩, if_pos ⟨e1, rfl⟩, decide_eq_false hin]; rfl
    rw [decide_eq_false e1]
    refine iteF ?_
    refine ⟨_, rfl, l, _, 0, _, rfl, rfl, tofL hl, atI_nat (j := 0) rfl, rfl, _, rfl, ?_⟩
    rw [strD]
    by_cases e2 : wd = "let"
    · -- let
      have nc : wd ≠ "check" := by rw [e2]; decide +kernel
      rw [decide_eq_true e2]
      refine iteT ⟨_, rfl, l, _, rfl, .inl (tofL hl), _, _, rfl, rfl, _, rfl, ?_⟩
      rw [List.length_map]
      by_cases e4 : (wd :: ps).length < 4
      · rw [decide_eq_true (show (((wd :: ps).length : Nat) : Int) < 4 by omega)]
        refine iteT (iteT (fin _ ?_ H (Same.refl H)))
        cases ps with
        | nil => rw [st_one nc]; rfl
        | cons n r =>
          rw [st_more nc]
          split
          · rw [if_neg (fun z => e1 z.1)]
            have rl : r.length ≤ 1 := by rw [List.length_cons, List.length_cons] at e4; omega
            rw [List.drop_of_length_le rl, gs_nil, if_neg (fun z => by cases z.2.2)]; rfl
          · rfl
      rw [decide_eq_false (show ¬ (((wd :: ps).length : Nat) : Int) < 4 by omega)]
      obtain ⟨n, a, b, r, rfl⟩ : ∃ n a b r, ps = n :: a :: b :: r := by
        match ps, e4 with
        | n :: a :: b :: r, _ => exact ⟨n, a, b, r, rfl⟩
        | [], h => exact absurd (by simp) h
        | [_], h => exact absurd (by simp) h
        | [_, _], h => exact absurd (by simp) h
      have sm := st_more (given := kn) (r := a :: b :: r) (n := n) nc
      rw [if_neg (fun z : wd = "take" ∧ (a :: b :: r) = [] => e1 z.1)] at sm
      refine iteF ⟨_, rfl, l, _, 2, _, rfl, rfl, tofL hl, atI_nat (j := 2) rfl, rfl, _, rfl, ?_⟩
      rw [strD]
      by_cases ea : a = "="
      rotate_left
      · rw [decide_eq_false ea]
        refine iteT (iteT (fin _ ?_ H (Same.refl H)))
        rw [sm]
        split
        · rw [if_neg (fun z => ea (List.cons.inj z.2.1).1)]; rfl
        · rfl
      rw [decide_eq_true ea]
      refine iteF ⟨_, rfl, l, _, 1, _, rfl, rfl, tofL hl, atI_nat (j := 1) rfl, n, rfl, wl n (by simp), fun H2 s2 => ⟨_, rfl, ?_⟩⟩
      cases en : nameB n with
      | false =>
        refine iteT (iteT (fin _ ?_ H2 s2))
        rw [sm, if_neg (fun z => by rw [en] at z; cases z.1)]; rfl
      | true =>
      refine iteF ⟨_, rfl, l, _, 1, _, rfl, rfl, tofL (s2 _ _ hl), atI_nat (j := 1) rfl, _, rfl, g, _, rfl, .inl (tofL (s2 _ _ hg)), rfl, flat_strs kn, _, rfl, ?_⟩
      rw [inV_strs]
      by_cases hin : n ∈ kn
      · rw [decide_eq_true hin]
        refine iteT (fin _ ?_ H2 s2)
        rw [sm, if_neg (fun z => z.2 hin)]; rfl
      rw [decide_eq_false hin]
      refine iteF ⟨_, rfl, 3, rfl, l, _, rfl, tofL (s2 _ _ hl), fun p3 np3 => ?_⟩
      have e3 : cutV ((wd :: n :: a :: b :: r).map V.str) (some 3) none = (b :: r).map V.str := by
        rw [cut_hi0 _ (c := 3) (by decide)]
        rfl
      rw [e3]
      have s3 := Same.new (o := .lst ((b :: r).map V.str)) np3
      refine ⟨_, rfl, p3, g, b :: r, kn, rfl, upd_same, s3 _ _ (s2 _ _ hg), hk, ?_, (fun z hz => wl z (by rcases List.mem_cons.mp hz with rfl | hz <;> simp [*])), fun H4 s4 => fin _ ?_ H4 (s2.trans (s3.trans s4))⟩
      · rw [List.length_cons, List.length_cons] at w62; omega
      · rw [sm, if_pos ⟨en, hin⟩]
        cases eg : gsB kn (b :: r) with
        | false => rw [if_neg (fun z => by have := z.2.2; rw [show (a :: b :: r).drop 1 = b :: r from rfl, eg] at this; cases this)]; rfl
        | true => rw [if_pos ⟨e2, by rw [ea]; rfl, eg⟩]; rfl
    rw [decide_eq_false e2]
    refine iteF ?_
    refine ⟨_, rfl, l, _, 0, _, rfl, rfl, tofL hl, atI_nat (j := 0) rfl, rfl, _, rfl, ?_⟩
    rw [strD]
    by_cases e3 : wd = "check"
    rotate_left
    · rw [decide_eq_false e3]
      refine iteT (fin _ ?_ H (Same.refl H))
      cases ps with
      | nil => rw [st_one e3]; rfl
      | cons n r =>
        rw [st_more e3]
        split
        · rw [if_neg (fun z => e1 z.1), if_neg (fun z => e2 z.1)]; rfl
        · rfl
    rw [decide_eq_true e3]
    refine iteF ?_
    have sc : (stB kn (wd :: ps)).isSome = ckW_ kn (modOf ps).1 := by
      rw [e3, st_check, ck_eq]
      cases ckW_ kn (modOf ps).1 <;> rfl
    rw [sc] at fin
    clear sc e1 e2
    -- the words behind the first one
    refine ⟨_, rfl, 1, rfl, l, _, rfl, tofL hl, fun p np => ?_⟩
    have e4 : cutV ((wd :: ps).map V.str) (some 1) none = ps.map V.str := by
      rw [cut_hi0 _ (c := 1) (by decide)]
      rfl
    rw [e4]
    have s1 := Same.new (o := .lst (ps.map V.str)) np
    have hp : upd H p (.lst (ps.map V.str)) p = some (.lst (ps.map V.str)) := upd_same
    generalize upd H p (.lst (ps.map V.str)) = H1 at *
    have hg1 := s1 _ _ hg
    have wlp : ∀ z ∈ ps, z.cps.toList.length ≤ 61001 := fun z hz => wl z (List.mem_cons_of_mem _ hz)
    -- what stands when the modulus is cut off
    refine ⟨fun σ' H' => ∃ (pw : Addr) (W : List Str), σ' = [some (.ref l), some (.ref g), some (.ref pw), none, none, none] ∧ Same H H' ∧ H' pw = some (.lst (W.map V.str)) ∧ W.length ≤ 62000 ∧ (∀ z ∈ W, z.cps.toList.length ≤ 61001) ∧ ckW_ kn (modOf ps).1 = ckW_ kn W, ?_, ?_⟩
    · have same : ∀ Hx, Same H1 Hx → modOf ps = (ps, 0) → ∃ (pw : Addr) (W : List Str), [some (.ref l), some (.ref g), some (.ref p), none, none, none] = [some (.ref l), some (.ref g), some (.ref pw), none, none, (none : Option V)] ∧ Same H Hx ∧ Hx pw = some (.lst (W.map V.str)) ∧ W.length ≤ 62000 ∧ (∀ z ∈ W, z.cps.toList.length ≤ 61001) ∧ ckW_ kn (modOf ps).1 = ckW_ kn W :=
        fun Hx sx e => ⟨p, ps, rfl, s1.trans sx, sx _ _ hp, by omega, wlp, by rw [e]⟩
      refine ⟨_, rfl, p, _, rfl, .inl (tofL hp), _, _, rfl, rfl, _, rfl, ?_⟩
      rw [List.length_map]
      by_cases l2 : 2 ≤ ps.length
      rotate_left
      · rw [decide_eq_false (show ¬ ((ps.length : Nat) : Int) > 1 by omega)]
        exact iteF (iteF (same H1 (Same.refl _) (if_neg fun h => l2 h.1)))
      rw [decide_eq_true (show ((ps.length : Nat) : Int) > 1 by omega)]
      obtain ⟨init, a, x, rfl⟩ := two_ends ps l2
      have hm2 : atI ((init ++ [a, x]).map V.str) (-2) = some (V.str a) := atI_two _ _ _
      have hm1 : atI ((init ++ [a, x]).map V.str) (-1) = some (V.str x) := by
        rw [show (init ++ [a, x]).map V.str = (init.map V.str ++ [V.str a]) ++ [V.str x] by simp]
        exact atI_last _ _
      refine iteT ⟨_, rfl, 2, rfl, p, _, -2, _, rfl, rfl, tofL hp, hm2, rfl, _, rfl, ?_⟩
      rw [strD]
      by_cases ea : a = "mod"
      rotate_left
      · rw [decide_eq_false ea]
        exact iteF (iteF (same H1 (Same.refl _) (by rw [modOf_app, if_neg (fun z => ea z.1)])))
      rw [decide_eq_true ea]
      refine iteT ?_
      have bad : ∀ b, ckW_ kn (modOf (init ++ [a, x])).1 = false → ∀ Hx, Same H1 Hx → b = false → Q (.bl b) Hx := fun b e Hx sx eb => by rw [eb]; exact fin _ e Hx (s1.trans sx)
      have hasmod : ¬ (natB x = true ∧ 2 ≤ valN x) → ckW_ kn (modOf (init ++ [a, x])).1 = false := fun h => by
        rw [modOf_app, if_neg (fun z => h z.2)]
        exact ckW_mod (by rw [ea]; simp)
      refine ⟨_, rfl, 1, rfl, p, _, -1, _, rfl, rfl, tofL hp, hm1, x, rfl, wlp x (by simp), fun H2 s2 => ?_⟩
      have en' : natB x = true ∨ natB x = false := by cases natB x <;> simp
      rcases en' with en | en
      rotate_left
      rcases wV_not en with eW | ⟨v, v0, z45, eW⟩
      · -- no number
        rw [eW]
        exact ⟨rfl, _, rfl, iteF (same H2 s2 (by rw [modOf_app, if_neg (fun z => by rw [en] at z; cases z.2.1)]))⟩
      · -- a number with a sign
        rw [eW]
        have wn := hasmod (fun z => by rw [en] at z; cases z.1)
        refine ⟨rfl, _, rfl, iteT ?_⟩
        refine ⟨_, rfl, 1, rfl, p, _, -1, _, rfl, rfl, tofL (s2 _ _ hp), hm1, x, rfl, wlp x (by simp), fun H3 s3 => ?_⟩
        rw [eW]
        refine ⟨_, _, rfl, rfl, _, rfl, ?_⟩
        rw [decide_eq_true (show v < 2 by omega)]
        exact iteT (bad _ wn H3 (s2.trans s3) rfl)
      -- a natural number
      rw [wV_nat en]
      refine ⟨rfl, _, rfl, iteT ?_⟩
      refine ⟨_, rfl, 1, rfl, p, _, -1, _, rfl, rfl, tofL (s2 _ _ hp), hm1, x, rfl, wlp x (by simp), fun H3 s3 => ?_⟩
      rw [wV_nat en]
      refine ⟨_, _, rfl, rfl, _, rfl, ?_⟩
      by_cases v2 : 2 ≤ valN x
      rotate_left
      · rw [decide_eq_true (show valN x < 2 by omega)]
        exact iteT (bad _ (hasmod fun z => v2 z.2) H3 (s2.trans s3) rfl)
      rw [decide_eq_false (show ¬ valN x < 2 by omega)]
      have em : modOf (init ++ [a, x]) = (init, valN x) := by rw [modOf_app, if_pos ⟨ea, en, v2⟩]
      refine iteF ⟨_, rfl, 2, rfl, -2, rfl, p, _, rfl, tofL (s3 _ _ (s2 _ _ hp)), fun p4 np4 => ?_⟩
      have s4 := Same.new (o := .lst (cutV ((init ++ [a, x]).map V.str) none (some (-2)))) np4
      refine ⟨p4, init, rfl, s1.trans (s2.trans (s3.trans s4)), ?_, ?_, (fun z hz => wlp z (List.mem_append_left _ hz)), by rw [em]⟩
      · rw [upd_same, List.map_append]
        exact congrArg (fun z => some (HO.lst z)) (cut_fore _ _ _)
      · rw [List.length_append] at w62; omega
    rintro σ2 H2 ⟨pw, W, rfl, s2, hW, W62, wlW, eW⟩
    rw [eW] at fin
    clear eW
    have hg2 := s2 _ _ hg
    -- the places of the equals sign
    refine ⟨_, rfl, pw, _, rfl, tofL hW, fun D nD => ?_⟩
    refine lc_it (walk_enum (K := K) (a := pw) (xs := W.map V.str)) (fun i Hx => Same H2 Hx ∧ ∃ ks : List Nat, Hx D = some (.lst (ks.map fun k => V.int (k : Nat))) ∧ ks.length = cntE (W.take i) ∧ ∀ k ∈ ks, W[k]? = some ("=" : Str)) ⟨Same.new nD, [], upd_same, rfl, fun k hk => nomatch hk⟩
      (fun i Hx _ h => tofL (h.1 _ _ hW)) ?_ ?_
    · rintro i y Hx Hy hi ⟨sx, ks, hD, kl, kat⟩ ⟨t, u, v, rfl, nt, rfl, f1, f2⟩
      have e1 : u = .int (i : Nat) := (Option.some.inj f1).symm
      subst e1
      obtain ⟨z, rfl, hz, hil⟩ := strs_at f2
      have nDt : D ≠ t := ne_of_none hD nt
      have su := Same.new (o := .tup [V.int ((i : Nat) : Int), .str z]) nt
      refine ⟨t, _, rfl, tofT upd_same, rfl, _, _, rfl, _, _, rfl, rfl, rfl, ?_⟩
      have hDu : upd Hx t (.tup [V.int ((i : Nat) : Int), .str z]) D = some (.lst (ks.map fun k => V.int (k : Nat))) := by rw [upd_ne nDt]; exact hD
      have sxu := sx.trans su
      generalize upd Hx t (.tup [V.int ((i : Nat) : Int), .str z]) = Hu at *
      have ct : cntE (W.take (i + 1)) = cntE (W.take i) + (if z = "=" then 1 else 0) := by
        rw [List.take_add_one, hz, cnt_app]
        congr 1
        show List.countP _ [z] = _
        rw [List.countP_singleton]
        by_cases e : z = "="
        · rw [if_pos (decide_eq_true e), if_pos e]
        · rw [if_neg (fun h => e (of_decide_eq_true h)), if_neg e]
      refine ⟨_, rfl, rfl, _, rfl, ?_⟩
      rw [strD]
      have cl : cntE (W.take i) ≤ i := Nat.le_trans (List.countP_le_length) (by rw [List.length_take]; omega)
      by_cases e : z = "="
      · rw [decide_eq_true e]
        rw [if_pos e] at ct
        refine iteT ⟨_, rfl, _, hDu, by rw [List.length_map]; exact smallt (by omega), ?_, ks ++ [i], ?_, ?_, ?_⟩
        · intro b o hb
          rw [upd_ne (ne_of_none hb nD)]
          exact sxu _ _ hb
        · rw [upd_same, List.map_append]; rfl
        · rw [List.length_append, kl, ct]; rfl
        · intro k hk
          rcases List.mem_append.mp hk with hk | hk
          · exact kat k hk
          · rw [List.mem_singleton.mp hk, hz, e]
      · rw [decide_eq_false e]
        rw [if_neg e, Nat.add_zero] at ct
        exact iteF ⟨sxu, ks, hDu, by rw [ct]; exact kl, kat⟩
    rintro Hx ⟨sx, ks, hD, kl, kat⟩
    rw [List.length_map, List.take_length] at kl
    have s2x := s2.trans sx
    have hWx := sx _ _ hW
    have hgx := sx _ _ hg2
    refine ⟨_, rfl, D, _, rfl, .inl (tofL hD), rfl, _, rfl, ?_⟩
    rw [int1, List.length_map, kl]
    have eck : ckW_ kn W = (decide (cntE W = 1) && (gsB kn (W.take (eqAt W)) && gsB kn (W.drop (eqAt W + 1)))) := rfl
    by_cases c1 : cntE W = 1
    rotate_left
    · rw [decide_eq_false c1] at eck ⊢
      exact iteF (fin _ eck Hx s2x)
    rw [decide_eq_true c1, Bool.true_and] at eck
    rw [decide_eq_true c1]
    obtain ⟨k, rfl⟩ : ∃ k, ks = [k] := by
      match ks, kl with
      | [k], _ => exact ⟨k, rfl⟩
      | [], h => rw [c1] at h; cases h
      | _ :: _ :: _, h => rw [c1] at h; exact absurd h (by simp)
    have hkk := kat k (List.mem_singleton.mpr rfl)
    have kl2 := (List.getElem?_eq_some_iff.mp hkk).1
    rw [eq_only c1 hkk] at eck
    refine iteT ⟨_, rfl, _, rfl, D, _, 0, _, rfl, rfl, tofL hD, atI_nat (j := 0) rfl, _, rfl, pw, _, rfl, tofL hWx, fun p5 np5 => ?_⟩
    rw [cut_lo W (by omega) (by omega), Int.toNat_natCast]
    have s5 := Same.new (o := .lst ((W.take k).map V.str)) np5
    refine ⟨_, rfl, p5, g, W.take k, kn, rfl, upd_same, s5 _ _ hgx, hk, by rw [List.length_take]; omega, (fun z hz => wlW z (List.mem_of_mem_take hz)), fun H6 s6 => ⟨_, rfl, ?_⟩⟩
    have s56 := s5.trans s6
    cases eL : gsB kn (W.take k) with
    | false =>
      rw [eL, Bool.false_and] at eck
      exact iteF (fin _ eck H6 (s2x.trans s56))
    | true =>
    rw [eL, Bool.true_and] at eck
    refine iteT ⟨_, rfl, _, rfl, D, _, 0, _, rfl, rfl, tofL (s56 _ _ hD), atI_nat (j := 0) rfl, _, _, rfl, rfl, _, rfl, pw, _, rfl, tofL (s56 _ _ hWx), fun p7 np7 => ?_⟩
    rw [cut_hi0 W (by omega), show (((k : Nat) : Int) + 1).toNat = k + 1 by omega]
    have s7 := Same.new (o := .lst ((W.drop (k + 1)).map V.str)) np7
    exact ⟨_, rfl, p7, g, W.drop (k + 1), kn, rfl, upd_same, s7 _ _ (s56 _ _ hgx), hk, by rw [List.length_drop]; omega, (fun z hz => wlW z (List.mem_of_mem_drop hz)), fun H8 s8 => fin _ eck H8 (s2x.trans (s56.trans (s7.trans s8)))⟩
end
end KW
namespace KW
open PySem PySem.Spec PyProof.Rows L2 GL RZ TL
/-! ### the law's own reader: a text -/
theorem inG_same {given kn : List Str} (h : ∀ n : Str, n ≠ "" → (n ∈ given ↔ n ∈ kn)) : inG given = inG kn := by
  funext t
  cases t with
  | none => rfl
  | some p =>
    obtain ⟨i, n⟩ := p
    show (decide (n = "") || decide (n ∈ given)) = (decide (n = "") || decide (n ∈ kn))
    by_cases e : n = ""
    · rw [decide_eq_true e, Bool.true_or, Bool.true_or]
    · by_cases m : n ∈ given
      · rw [decide_eq_true m, decide_eq_true ((h n e).mp m)]
      · rw [decide_eq_false m, decide_eq_false (fun z => m ((h n e).mpr z))]
theorem st_same {given kn : List Str} (h : ∀ n : Str, n ≠ "" → (n ∈ given ↔ n ∈ kn)) (ws : List Str) : stB given ws = stB kn ws := by
  have hg : ∀ w, gsB given w = gsB kn w := fun w => by unfold gsB; rw [inG_same h]
  cases ws with
  | nil => rfl
  | cons w ps =>
    by_cases e : w = "check"
    · rw [e, st_check, st_check]
      unfold ckB
      rw [hg, hg]
    · cases ps with
      | nil => rw [st_one e, st_one e]
      | cons n r =>
        rw [st_more e, st_more e, hg]
        by_cases hn : nameB n = true
        · have ne : n ≠ "" := (name_not hn).2.2.2.1
          by_cases m : n ∈ given
          · rw [if_neg (fun z => z.2 m), if_neg (fun z => z.2 ((h n ne).mp m))]
          · rw [if_pos (show nameB n = true ∧ n ∉ given from ⟨hn, m⟩), if_pos (show nameB n = true ∧ n ∉ kn from ⟨hn, fun z => m ((h n ne).mpr z)⟩)]
        · rw [if_neg (fun z => hn z.1), if_neg (fun z => hn z.1)]
theorem st_some {kn ws : List Str} {w n : Str} (h : stB kn ws = some (w, n)) : (w = "check" ∧ n = "" ∧ ∃ r, ws = w :: r) ∨ ((w = "take" ∨ w = "let") ∧ nameB n = true ∧ ∃ r, ws = w :: n :: r) := by
  cases ws with
  | nil => cases h
  | cons a ps =>
    by_cases e : a = "check"
    · rw [e, st_check] at h
      split at h
      · cases h
        exact .inl ⟨rfl, rfl, ps, by rw [e]⟩
      · cases h
    · cases ps with
      | nil => rw [st_one e] at h; cases h
      | cons b r =>
        rw [st_more e] at h
        split at h
        · rename_i hb
          split at h
          · rename_i ht
            cases h
            exact .inr ⟨.inl rfl, hb.1, r, by rw [ht.1]⟩
          · split at h
            · rename_i hl
              cases h
              exact .inr ⟨.inr rfl, hb.1, r, by rw [hl.1]⟩
            · cases h
        · cases h
def Wf (ss : List Wn) : Prop := ∀ p ∈ ss, (p.1 = ("check" : Str) ∧ p.2 = "") ∨ ((p.1 = ("take" : Str) ∨ p.1 = ("let" : Str)) ∧ nameB p.2 = true)
theorem take_snoc (ss : List Wn) (p : Wn) : takenOf (ss ++ [p]) = takenOf ss ++ (if p.1 = ("take" : Str) then [p.2] else []) := by
  unfold takenOf
  rw [List.filter_append, List.map_append]
  congr 1
  by_cases e : p.1 = ("take" : Str)
  · rw [if_pos e]; simp [e]
  · rw [if_neg e]; simp [e]
theorem name_snoc (ss : List Wn) (p : Wn) : namesOf (ss ++ [p]) = namesOf ss ++ (if p.1 = ("check" : Str) then [] else [p.2]) := by
  unfold namesOf
  rw [List.filter_append, List.map_append]
  congr 1
  by_cases e : p.1 = ("check" : Str)
  · rw [if_pos e]; simp [e]
  · rw [if_neg e]; simp [e]
theorem Wf.names {ss : List Wn} (h : Wf ss) : (∀ z ∈ namesOf ss, nameB z = true) ∧ ∀ n : Str, n ≠ "" → (n ∈ ss.map (·.2) ↔ n ∈ namesOf ss) := by
  have nc : ∀ p ∈ ss, p.1 ≠ ("check" : Str) → nameB p.2 = true := fun p hp hn => by
    rcases h p hp with z | z
    · exact absurd z.1 hn
    · exact z.2
  refine ⟨fun z hz => ?_, fun n ne => ⟨fun hm => ?_, fun hm => ?_⟩⟩
  · unfold namesOf at hz
    obtain ⟨p, hp, rfl⟩ := List.mem_map.mp hz
    obtain ⟨h1, h2⟩ := List.mem_filter.mp hp
    exact nc p h1 (by simpa using h2)
  · obtain ⟨p, hp, rfl⟩ := List.mem_map.mp hm
    unfold namesOf
    refine List.mem_map.mpr ⟨p, List.mem_filter.mpr ⟨hp, ?_⟩, rfl⟩
    rcases h p hp with z | z
    · exact absurd z.2 ne
    · have : p.1 ≠ ("check" : Str) := fun e => by
        rcases z.1 with y | y <;> (rw [e] at y; exact absurd y (by decide +kernel))
      simpa using this
  · unfold namesOf at hm
    obtain ⟨p, hp, rfl⟩ := List.mem_map.mp hm
    exact List.mem_map.mpr ⟨p, (List.mem_filter.mp hp).1, rfl⟩
theorem taken_le (ss : List Wn) : (takenOf ss).length ≤ ss.length := by
  unfold takenOf; rw [List.length_map]; exact List.length_filter_le _ _
theorem names_le (ss : List Wn) : (namesOf ss).length ≤ ss.length := by
  unfold namesOf; rw [List.length_map]; exact List.length_filter_le _ _
theorem keep_law {given kn ks : List Str} (h : ∀ n : Str, n ≠ "" → (n ∈ given ↔ n ∈ kn)) (hk : ∀ z ∈ kn, nameB z = true) :
    (namesB ks && ks.all fun z => decide (z ∈ given)) = ((ks.all fun z => decide (z ∈ kn)) && (decide (1 ≤ ks.length ∧ ks.length ≤ 6) && decide (dcnt ks = ks.length))) := by
  have e1 : (ks.all nameB && ks.all fun z => decide (z ∈ given)) = ks.all fun z => decide (z ∈ kn) := by
    cases e : ks.all fun z => decide (z ∈ kn) with
    | true =>
      have a := List.all_eq_true.mp e
      rw [List.all_eq_true.mpr fun z hz => hk z (of_decide_eq_true (a z hz)), List.all_eq_true.mpr fun z hz => ?_]
      · rfl
      · have m := of_decide_eq_true (a z hz)
        exact decide_eq_true ((h z (name_not (hk z m)).2.2.2.1).mpr m)
    | false =>
      cases e2 : (ks.all nameB && ks.all fun z => decide (z ∈ given)) with
      | false => rfl
      | true =>
        exfalso
        obtain ⟨a, b⟩ := Bool.and_eq_true_iff.mp e2
        have : (ks.all fun z => decide (z ∈ kn)) = true := List.all_eq_true.mpr fun z hz => decide_eq_true ((h z (name_not (List.all_eq_true.mp a z hz)).2.2.2.1).mp (of_decide_eq_true (List.all_eq_true.mp b z hz)))
        rw [e] at this; cases this
  unfold namesB
  rw [← e1]
  generalize decide (1 ≤ ks.length ∧ ks.length ≤ 6) = x
  generalize decide (dcnt ks = ks.length) = y
  generalize ks.all nameB = u
  generalize (ks.all fun z => decide (z ∈ given)) = v
  cases x <;> cases y <;> cases u <;> cases v <;> rfl
theorem cut_init (xs : List V) (a : V) : cutV (xs ++ [a]) none (some (-1)) = xs := by
  have l : (xs ++ [a]).length = xs.length + 1 := by rw [List.length_append]; rfl
  have e1 : HT.sIx (xs.length + 1) 0 none = 0 := rfl
  have e2 : HT.sIx (xs.length + 1) (xs.length + 1) (some (-1)) = xs.length := by
    unfold HT.sIx
    simp
    try omega
  unfold cutV
  rw [l, e1, e2, List.drop_zero, Nat.sub_zero, List.take_left]
def ResAt (H : Hp) (t : Addr) (tx : Str) : Sum Nat (List Wn × List Str) → Prop
  | .inl k => H t = some (.tup [.str "bad", .int (k : Nat)])
  | .inr p => ∃ a b c, H t = some (.tup [.str "read", .str tx, .ref a, .ref b, .ref c]) ∧ H a = some (.tup ((takenOf p.1).map V.str)) ∧ H b = some (.tup ((namesOf p.1).map V.str)) ∧ H c = some (.tup (p.2.map V.str))
theorem ResAt.same {H H' : Hp} {t : Addr} {tx : Str} (s : Same H H') : ∀ {r : Sum Nat (List Wn × List Str)}, ResAt H t tx r → ResAt H' t tx r
  | .inl k, h => s _ _ h
  | .inr p, ⟨a, b, c, h1, h2, h3, h4⟩ => ⟨a, b, c, s _ _ h1, s _ _ h2, s _ _ h3, s _ _ h4⟩
def spDue : Sp := fun vs H Q _ => ∃ tx : Str, vs = [.str tx] ∧ tx.length ≤ 61000 ∧ ∀ (t : Addr) (H' : Hp), Same H H' → ResAt H' t tx (rdB tx) → Q (.ref t) H'
section
variable {P : Program} {w : World} {K : PySem.W.Frag} {mg : Str → Option Value} {base : Heap}
abbrev s_due : Stmt := topS 41
theorem sc_due : FnScope ["_law_value_here", "_law_parts", "_law_taken", "_law_known_here", "_law_k", "_law_part", "_law_some", "_law_kept_here", "_law_strange", "_law_name_here"] ["_law_value_here"] (defScope s_due) := ⟨rfl, rfl, rfl, by decide +kernel, rfl, by decide +kernel, by decide +kernel⟩
theorem ok_due {f : Addr} {fd : FuncData} (F : Fun K "_law_due" "_law_due" s_due f fd) (gl : mg "_law_due" = some (.ref f)) (T : Bl mg) (D_is_step : DefG P w K mg base 3 "_law_is_step" ["_law_some", "_law_known_here"] spLStep) : DefG P w K mg base 4 "_law_due" ["_law_value_here"] spDue := by
  refine def_mk F gl (F.binds fun _ _ _ _ _ _ us hl => match us, hl with | [_], _ => rfl) (okG F sc_due (fun vs H Q E h => ?_) fun cdv A outer s H vs Q E hr hc h => ?_)
  · obtain ⟨tx, rfl, _⟩ := h
    rfl
  · obtain ⟨tx, rfl, tl61, q⟩ := h
    have bad : ∀ (k : Nat) (t : Addr) (H' : Hp), rdB tx = .inl k → Same H H' → H' t = some (.tup [.str "bad", .int (k : Nat)]) → Q (.ref t) H' := fun k t H' hB s ht => q t H' s (by rw [hB]; exact ht)
    have fine : ∀ (ss : List Wn) (ks : List Str) (t a b c : Addr) (H' : Hp), rdB tx = .inr (ss, ks) → Same H H' → H' t = some (.tup [.str "read", .str tx, .ref a, .ref b, .ref c]) → H' a = some (.tup ((takenOf ss).map V.str)) → H' b = some (.tup ((namesOf ss).map V.str)) → H' c = some (.tup (ks.map V.str)) → Q (.ref t) H' :=
      fun ss ks t a b c H' hB s ht ha hb hc => q t H' s (by rw [hB]; exact ⟨a, b, c, ht, ha, hb, hc⟩)
    have nd := sc_due.nd
    have hu64 := hr.units
    refine ⟨_, (pss_cons (ps_asg (pe_tup (pa_cons (pe_bm PySem.F.plainAttrs_str PySem.F.slot_str_split PySem.F.type_str_split mt_split (pv 0) (pa_cons pe_str pa_nil)) (pa_cons (pe_lst pa_nil) (pa_cons (pe_lst pa_nil) pa_nil)))) (pg_tup rfl (pgs_cons (pg_name (i := 1) nd rfl (by first | exact Or.inl rfl | exact Or.inr rfl)) (pgs_cons (pg_name (i := 2) nd rfl (by first | exact Or.inl rfl | exact Or.inr rfl)) (pgs_cons (pg_name (i := 3) nd rfl (by first | exact Or.inl rfl | exact Or.inr rfl)) pgs_nil)))))
      (pss_cons (ps_for PassesOwn.never rfl (pi_enum (by rfl) T.enumerate (pa_cons (pe_slice sl_list (pv 1) po_none (po_some (pe_un un_neg pe_int))) pa_nil)) (pg_tup rfl (pgs_cons (pg_name (i := 4) nd rfl (by first | exact Or.inl rfl | exact Or.inr rfl)) (pgs_cons (pg_name (i := 5) nd rfl (by first | exact Or.inl rfl | exact Or.inr rfl)) pgs_nil)))
        (pss_cons (ps_set (i := 6) nd rfl (by first | exact Or.inl rfl | exact Or.inr rfl) (pe_bm PySem.F.plainAttrs_str PySem.F.slot_str_split PySem.F.type_str_split mt_split (pv 5) (pa_cons pe_str pa_nil)))
        (pss_cons (ps_if (pt_not (pt_val (pe_def D_is_step (hr.mono (by decide)) hc (by rfl) (pa_cons (pv 6) (pa_cons (pv 3) pa_nil)))))
          (pss_one (ps_ret (pe_tup (pa_cons pe_str (pa_cons (pe_op op_add (pv 4) pe_int) pa_nil)))))
          pss_nil)
        (C8.pss_cut (ps_if (pt_cmpR op_eq (pe_ix ix_list (pv 6) pe_int (fun _ _ => rfl)) pe_str (nomark _))
          (pss_one (ps_expr (pe_bm PySem.F.plainAttrs_list PySem.F.slot_list_append PySem.F.type_list_append mt_append (pv 2) (pa_cons (pe_ix ix_list (pv 6) pe_int (fun _ _ => rfl)) pa_nil))))
          pss_nil)
        (pss_one (ps_if (pt_cmpR op_ne (pe_ix ix_list (pv 6) pe_int (fun _ _ => rfl)) pe_str (nomark _))
          (pss_one (ps_expr (pe_bm PySem.F.plainAttrs_list PySem.F.slot_list_append PySem.F.type_list_append mt_append (pv 3) (pa_cons (pe_ix ix_list (pv 6) pe_int (fun _ _ => rfl)) pa_nil))))
          pss_nil))))))
      (pss_cons (ps_set (i := 6) nd rfl (by first | exact Or.inl rfl | exact Or.inr rfl) (pe_bm PySem.F.plainAttrs_str PySem.F.slot_str_split PySem.F.type_str_split mt_split (pe_ix ix_list (pv 1) (pe_un un_neg pe_int) (fun _ _ => rfl)) (pa_cons pe_str pa_nil)))
      (pss_cons (ps_set (i := 7) nd rfl (by first | exact Or.inl rfl | exact Or.inr rfl) (pe_slice sl_list (pv 6) (po_some pe_int) po_none))
      (pss_cons (ps_setLc (i := 8) (own := [("_law_name_here", 9)]) (g := (gName 9)) rfl nd rfl rfl (sw_true rfl rfl rfl (by decide +kernel)) (pi_list (pv 7)) (blkOk_by (own := [("_law_name_here", 9)]) (N := ["_law_value_here", "_law_parts", "_law_taken", "_law_known_here", "_law_k", "_law_part", "_law_some", "_law_kept_here", "_law_strange", "_law_name_here"]) (sc := defScope s_due) (by decide +kernel)) (fun _ _ _ _ _ => (pg_name (i := 9) nd rfl (by first | exact Or.inl rfl | exact Or.inr rfl))) (fun _ _ _ _ _ => (pts_one (pt_cmpR (op_notInK (K := K)) (pv 9) (pv 3) (by with_unfolding_all rfl)))) (fun _ _ _ _ _ => (pv 9)))
      (pss_cons (ps_if (PW.pt (pw_or (pt_cmpR op_ne (pe_ix ix_list (pv 6) pe_int (fun _ _ => rfl)) pe_str (nomark _)) (pw_or (pt_cmpR (op_neP (K := K) hu64) (pv 8) (pe_lst pa_nil) (nomark _)) (pw_or (pt_not (pt_chain op_lt op_lt pe_int (pe_callB call_len_seq (by rfl) T.len boot_len (pa_cons (pv 7) pa_nil)) pe_int)) (pw_or1 (pt_cmpR op_ne (pe_lenSetX rfl (by rfl) T.len (by rfl) T.set (pv 7)) (pe_callB call_len_seq (by rfl) T.len boot_len (pa_cons (pv 7) pa_nil)) (nomark _)))))))
        (pss_one (ps_ret (pe_tup (pa_cons pe_str (pa_cons (pe_callB call_len_seq (by rfl) T.len boot_len (pa_cons (pv 1) pa_nil)) pa_nil)))))
        pss_nil)
      (pss_one (ps_ret (pe_tup (pa_cons pe_str (pa_cons (pv 0) (pa_cons (pe_tupleOf (by rfl) T.tuple (pv 2)) (pa_cons (pe_tupleOf (by rfl) T.tuple (pv 3)) (pa_cons (pe_tupleOf (by rfl) T.tuple (pv 7)) pa_nil)))))))))))))), ?_⟩
    obtain ⟨w1, w2, w3⟩ := split_few tx "\n" (by decide +kernel)
    have eB : rdB tx = rdK (linesOf tx).length (wordsOf ((linesOf tx).getLastD "")) (rdL [] (linesOf tx).dropLast) := rfl
    have eL : linesOf tx = Txt.split tx "\n" := rfl
    refine ⟨_, rfl, rfl, tx, "\n", rfl, rfl, by decide +kernel, Nat.le_trans (Nat.add_le_add_right tl61 2) (by decide), fun p1 np1 => ?_⟩
    rw [← eL] at w1 w2 w3 ⊢
    obtain ⟨ls, la, els⟩ := ends_of (linesOf tx) (fun z => by rw [z] at w1; exact absurd w1 (by decide))
    rw [els, List.dropLast_concat, List.getLastD_concat] at eB
    rw [els] at w1 w2 w3 ⊢
    rw [List.length_append] at w2 eB
    have w2 : ls.length + 1 ≤ tx.length + 1 := w2
    have eB : rdB tx = rdK (ls.length + 1) (wordsOf la) (rdL [] ls) := eB
    clear eL els
    have s1 := Same.new (o := .lst ((ls ++ [la]).map V.str)) np1
    have hp1 : upd H p1 (.lst ((ls ++ [la]).map V.str)) p1 = some (.lst ((ls ++ [la]).map V.str)) := upd_same
    generalize upd H p1 (.lst ((ls ++ [la]).map V.str)) = H1 at *
    refine ⟨Nat.zero_le _, fun R nR => ?_⟩
    have s2 := Same.new (o := .lst []) nR
    have hR2 : upd H1 R (.lst []) R = some (.lst (([] : List Str).map V.str)) := upd_same
    have hp2 := s2 _ _ hp1
    have s12 := s1.trans s2
    have nR0 : H R = none := by
      cases e : H R with
      | none => rfl
      | some o => rw [s1 _ _ e] at nR; cases nR
    generalize upd H1 R (.lst []) = H2 at *
    refine ⟨Nat.zero_le _, fun G nG => ?_⟩
    have nRG : R ≠ G := ne_of_none hR2 nG
    have s3 := Same.new (o := .lst []) nG
    have hG3 : upd H2 G (.lst []) G = some (.lst (([] : List Str).map V.str)) := upd_same
    have hR3 := s3 _ _ hR2
    have hp3 := s3 _ _ hp2
    have s13 := s12.trans s3
    have nG0 : H G = none := by
      cases e : H G with
      | none => rfl
      | some o => rw [s12 _ _ e] at nG; cases nG
    generalize upd H2 G (.lst []) = H3 at *
    refine ⟨(show 3 ≤ sizeLine from small (by decide)), fun t3 nt3 => ?_⟩
    have s4 := Same.new (o := .tup [.ref p1, .ref R, .ref G]) nt3
    have ht4 : upd H3 t3 (.tup [.ref p1, .ref R, .ref G]) t3 = some (.tup [.ref p1, .ref R, .ref G]) := upd_same
    have hG4 := s4 _ _ hG3
    have hR4 := s4 _ _ hR3
    have hp4 := s4 _ _ hp3
    have s14 := s13.trans s4
    generalize upd H3 t3 (.tup [.ref p1, .ref R, .ref G]) = H4 at *
    refine ⟨t3, _, rfl, tofT ht4, rfl, _, _, rfl, _, _, rfl, _, _, rfl, rfl, ?_⟩
    -- the lines ahead of the last one
    refine ⟨_, rfl, 1, rfl, -1, rfl, p1, _, rfl, tofL hp4, fun L nL => ?_⟩
    rw [List.map_append, show ([la] : List Str).map V.str = [V.str la] from rfl, cut_init]
    have s5 := Same.new (o := .lst (ls.map V.str)) nL
    have hL5 : upd H4 L (.lst (ls.map V.str)) L = some (.lst (ls.map V.str)) := upd_same
    have nLR : L ≠ R := fun z => by rw [z, hR4] at nL; cases nL
    have nLG : L ≠ G := fun z => by rw [z, hG4] at nL; cases nL
    have npR : p1 ≠ R := fun z => by rw [← z, hp1] at nR; cases nR
    have npG : p1 ≠ G := fun z => by rw [← z, hp2] at nG; cases nG
    have hG5 := s5 _ _ hG4
    have hR5 := s5 _ _ hR4
    have hp5 := s5 _ _ hp4
    have s15 := s14.trans s5
    generalize upd H4 L (.lst (ls.map V.str)) = H5 at *
    refine ⟨L, _, rfl, tofL hL5, ?_⟩
    refine for_it (walk_enum (K := K) (a := L) (xs := ls.map V.str))
      (fun i σ Hx => ∃ (ss : List Wn) (v4 v5 v6 : Option V), σ = [some (.str tx), some (.ref p1), some (.ref R), some (.ref G), v4, v5, v6, none, none, none] ∧ Same H Hx ∧ Hx L = some (.lst (ls.map V.str)) ∧ Hx p1 = some (.lst ((ls ++ [la]).map V.str)) ∧
        Hx R = some (.lst ((takenOf ss).map V.str)) ∧ Hx G = some (.lst ((namesOf ss).map V.str)) ∧ Wf ss ∧ ss.length = i ∧ rdL ss (ls.drop i) = rdL [] ls)
      ⟨[], none, none, none, rfl, s15, hL5, hp5, hR5, hG5, (fun p hp => nomatch hp), rfl, rfl⟩ (fun i σ Hx _ ⟨_, _, _, _, _, _, h, _⟩ => tofL h) ?_ ?_
    · rintro i x σ Hx Ht hi ⟨ss, v4, v5, v6, rfl, sx, hLx, hpx, hRx, hGx, wf, sl, er⟩ ⟨t, u, v, rfl, nt, rfl, g1, g2⟩
      have e1 : u = .int ((i : Nat) : Int) := (Option.some.inj g1).symm
      subst e1
      obtain ⟨z, rfl, hz, hil⟩ := strs_at g2
      have zl : z.length ≤ tx.length := w3 z (List.mem_append_left _ (List.mem_of_getElem? hz))
      rw [drop_cons hz] at er
      refine ⟨t, _, rfl, tofT upd_same, rfl, _, _, rfl, _, _, rfl, rfl, ?_⟩
      have su := Same.new (o := .tup [V.int ((i : Nat) : Int), .str z]) nt
      have hLu := su _ _ hLx
      have hpu := su _ _ hpx
      have hRu := su _ _ hRx
      have hGu := su _ _ hGx
      have sxu := sx.trans su
      generalize upd Hx t (.tup [V.int ((i : Nat) : Int), .str z]) = Hu at *
      obtain ⟨u1, u2, u3⟩ := split_few z " " (by decide +kernel)
      refine ⟨_, rfl, rfl, z, " ", rfl, rfl, by decide +kernel, Nat.le_trans (Nat.add_le_add_right (Nat.le_trans zl tl61) 2) (by decide), fun p5 np5 => ?_⟩
      have ew : wordsOf z = Txt.split z " " := rfl
      rw [← ew] at u1 u2 u3 ⊢
      have sp := Same.new (o := .lst ((wordsOf z).map V.str)) np5
      have hp5' : upd Hu p5 (.lst ((wordsOf z).map V.str)) p5 = some (.lst ((wordsOf z).map V.str)) := upd_same
      generalize upd Hu p5 (.lst ((wordsOf z).map V.str)) = Hw at *
      obtain ⟨wn1, wn2⟩ := wf.names
      have es := st_same wn2 (wordsOf z)
      refine ⟨_, rfl, _, rfl, p5, G, wordsOf z, namesOf ss, rfl, hp5', sp _ _ hGu, wn1, (fun e => by rw [e] at u1; exact absurd u1 (by decide)), by omega, (fun y hy => by rw [← str_len2]; have := u3 y hy; omega), fun Hv sv => ⟨_, rfl, ?_⟩⟩
      have suv := sp.trans sv
      have hLv := suv _ _ hLu
      have hpv := suv _ _ hpu
      have hRv := suv _ _ hRu
      have hGv := suv _ _ hGu
      have hwv := sv _ _ hp5'
      have sxv := sxu.trans suv
      rw [← es]
      cases est : stB (ss.map (·.2)) (wordsOf z) with
      | none =>
        rw [rd_bad est] at er
        refine iteT ⟨_, rfl, _, _, rfl, rfl, (show 2 ≤ sizeLine from small (by decide)), fun t nt => ?_⟩
        exact bad (i + 1) t _ (by rw [eB, ← er]; show Sum.inl (ss.length + 1) = _; rw [sl]) (sxv.trans (Same.new nt)) upd_same
      | some pr =>
      obtain ⟨wd, nm⟩ := pr
      rw [rd_on est] at er
      refine iteF ?_
      have tle := taken_le ss
      have nle := names_le ss
      have ts := take_snoc ss (wd, nm)
      have ns := name_snoc ss (wd, nm)
      have cs := st_some est
      have wf2 : Wf (ss ++ [(wd, nm)]) := fun p hp => by
        rcases List.mem_append.mp hp with hp | hp
        · exact wf p hp
        · rw [List.mem_singleton.mp hp]
          rcases cs with ⟨c1, c2, _⟩ | ⟨c1, c2, _⟩
          · exact .inl ⟨c1, c2⟩
          · exact .inr ⟨c1, c2⟩
      obtain ⟨rr, er0⟩ : ∃ rr, wordsOf z = wd :: rr := by
        rcases cs with ⟨_, _, r, e⟩ | ⟨_, _, r, e⟩ <;> exact ⟨_, e⟩
      have e1' : wd ≠ "check" → ∃ r2, rr = nm :: r2 := fun h => by
        rcases cs with ⟨c1, _, _⟩ | ⟨_, _, r, e⟩
        · exact absurd c1 h
        · rw [er0] at e
          exact ⟨r, (List.cons.inj e).2⟩
      have at0 : atI ((wordsOf z).map V.str) 0 = some (V.str wd) := by rw [er0]; exact atI_nat (j := 0) rfl
      have at1 : wd ≠ "check" → atI ((wordsOf z).map V.str) 1 = some (V.str nm) := fun h => by
        obtain ⟨r2, e⟩ := e1' h
        rw [er0, e]; exact atI_nat (j := 1) rfl
      -- taken
      refine ⟨fun σ' H' => σ' = [some (.str tx), some (.ref p1), some (.ref R), some (.ref G), some (.int ((i : Nat) : Int)), some (.str z), some (.ref p5), none, none, none] ∧ Same H H' ∧ H' L = some (.lst (ls.map V.str)) ∧ H' p1 = some (.lst ((ls ++ [la]).map V.str)) ∧ H' p5 = some (.lst ((wordsOf z).map V.str)) ∧
        H' R = some (.lst ((takenOf (ss ++ [(wd, nm)])).map V.str)) ∧ H' G = some (.lst ((namesOf ss).map V.str)), ?_, ?_⟩
      · refine ⟨_, rfl, p5, _, 0, _, rfl, rfl, tofL hwv, at0, rfl, _, rfl, ?_⟩
        rw [strD]
        by_cases et : wd = "take"
        · have nc : wd ≠ "check" := by rw [et]; decide +kernel
          rw [decide_eq_true et]
          rw [if_pos et] at ts
          have np5R : p5 ≠ R := fun e => by rw [e, hRu] at np5; cases np5
          refine iteT ⟨_, rfl, ty_l (tofL hRv), _, rfl, p5, _, 1, _, rfl, rfl, tofL hwv, at1 nc, R, _, _, rfl, rfl, hRv, by rw [List.length_map]; exact smallt (by omega), rfl, ?_, ?_, ?_, ?_, ?_, ?_⟩
          · intro b o hb
            rw [upd_ne (fun e => by rw [e, nR0] at hb; cases hb)]
            exact sxv _ _ hb
          · rw [upd_ne nLR]; exact hLv
          · rw [upd_ne npR]; exact hpv
          · rw [upd_ne np5R]; exact hwv
          · rw [upd_same, ts, List.map_append]; rfl
          · rw [upd_ne nRG.symm]; exact hGv
        · rw [decide_eq_false et]
          rw [if_neg et, List.append_nil] at ts
          exact iteF ⟨rfl, sxv, hLv, hpv, hwv, by rw [ts]; exact hRv, hGv⟩
      rintro σ2 Hy ⟨rfl, sy, hLy, hpy, hwy, hRy, hGy⟩
      refine ⟨_, rfl, p5, _, 0, _, rfl, rfl, tofL hwy, at0, rfl, _, rfl, ?_⟩
      rw [strD]
      by_cases ec : wd = "check"
      · rw [decide_eq_true ec]
        rw [if_pos ec, List.append_nil] at ns
        exact iteF ⟨ss ++ [(wd, nm)], _, _, _, rfl, sy, hLy, hpy, hRy, by rw [ns]; exact hGy, wf2, by rw [List.length_append, sl]; rfl, er⟩
      · rw [decide_eq_false ec]
        rw [if_neg ec] at ns
        refine iteT ⟨_, rfl, ty_l (tofL hGy), _, rfl, p5, _, 1, _, rfl, rfl, tofL hwy, at1 ec, G, _, _, rfl, rfl, hGy, by rw [List.length_map]; exact smallt (by omega), ss ++ [(wd, nm)], _, _, _, rfl, ?_, ?_, ?_, ?_, ?_, wf2, by rw [List.length_append, sl]; rfl, er⟩
        · intro b o hb
          rw [upd_ne (fun e => by rw [e, nG0] at hb; cases hb)]
          exact sy _ _ hb
        · rw [upd_ne nLG]; exact hLy
        · rw [upd_ne npG]; exact hpy
        · rw [upd_ne nRG]; exact hRy
        · rw [upd_same, ns, List.map_append]; rfl
    rintro σ Hx ⟨ss, v4, v5, v6, rfl, sx, hLx, hpx, hRx, hGx, wf, sl, er⟩
    rw [List.length_map] at sl er
    rw [List.drop_of_length_le (Nat.le_refl _)] at er
    have er : rdL [] ls = .inr ss := er.symm
    rw [er] at eB
    obtain ⟨wn1, wn2⟩ := wf.names
    have nle := names_le ss
    -- the last line
    have lal : la.length ≤ tx.length := w3 la (by simp)
    obtain ⟨u1, u2, u3⟩ := split_few la " " (by decide +kernel)
    have ew : wordsOf la = Txt.split la " " := rfl
    have hlast : atI ((ls ++ [la]).map V.str) (-1) = some (V.str la) := by rw [List.map_append]; exact atI_last _ _
    refine ⟨_, rfl, 1, rfl, p1, _, -1, _, rfl, rfl, tofL hpx, hlast, rfl, la, " ", rfl, rfl, by decide +kernel, Nat.le_trans (Nat.add_le_add_right (Nat.le_trans lal tl61) 2) (by decide), fun p6 np6 => ?_⟩
    rw [← ew] at u1 u2 u3 ⊢
    obtain ⟨fi, ks, ek⟩ : ∃ fi ks, wordsOf la = fi :: ks := by
      cases e : wordsOf la with
      | nil => rw [e] at u1; exact absurd u1 (by decide)
      | cons a r => exact ⟨a, r, rfl⟩
    rw [ek] at u1 u2 u3 eB ⊢
    rw [List.length_cons] at u2
    have eB : rdB tx = if (decide (some fi = some ("keep" : Str)) && (namesB ks && ks.all fun z => decide (z ∈ ss.map (·.2)))) = true then .inr (ss, ks) else .inl (ls.length + 1) := eB
    rw [keep_law wn2 wn1] at eB
    clear ek ew
    have s6 := Same.new (o := .lst ((fi :: ks).map V.str)) np6
    have hp6 : upd Hx p6 (.lst ((fi :: ks).map V.str)) p6 = some (.lst ((fi :: ks).map V.str)) := upd_same
    generalize upd Hx p6 (.lst ((fi :: ks).map V.str)) = H6 at *
    refine ⟨_, rfl, 1, rfl, p6, _, rfl, tofL hp6, fun W nW => ?_⟩
    rw [cut_hi0 (fi :: ks) (c := 1) (by decide), show (fi :: ks).drop (1 : Int).toNat = ks from rfl]
    have s7 := Same.new (o := .lst (ks.map V.str)) nW
    have hW7 : upd H6 W (.lst (ks.map V.str)) W = some (.lst (ks.map V.str)) := upd_same
    have h67 := s7 _ _ hp6
    have sx7 := sx.trans (s6.trans s7)
    have hp7 := (s6.trans s7) _ _ hpx
    have hR7 := (s6.trans s7) _ _ hRx
    have hG7 := (s6.trans s7) _ _ hGx
    generalize upd H6 W (.lst (ks.map V.str)) = H7 at *
    refine ⟨_, rfl, W, rfl, ⟨_, tofL hW7⟩, fun D nD => ?_⟩
    refine lc_list (K := K) (a := W) (xs := ks.map V.str) (fun i Hy => Same H7 Hy ∧ Hy D = some (.lst (((ks.take i).filter fun z => !decide (z ∈ namesOf ss)).map V.str))) ⟨Same.new nD, upd_same⟩ (fun i Hy _ h => tofL (h.1 _ _ hW7)) ?_ ?_
    · rintro i x Hy hi ⟨sy, hD⟩
      obtain ⟨z, rfl, hz, hil⟩ := strs_at hi
      have ft := flt_take (fun z => !decide (z ∈ namesOf ss)) hz
      refine ⟨rfl, _, rfl, _, rfl, G, _, rfl, .inl (tofL (sy _ _ hG7)), rfl, flat_strs _, _, rfl, ?_⟩
      rw [inV_strs]
      refine ite2 (fun e => ?_) (fun e => ?_)
      · refine ⟨_, rfl, _, hD, ?_, ?_, ?_⟩
        · rw [List.length_map]; exact smallt (Nat.lt_of_le_of_lt (List.length_filter_le _ _) (by rw [List.length_take]; omega))
        · intro b u hb
          rw [upd_ne (ne_of_none hb nD)]
          exact sy _ _ hb
        · rw [upd_same, ft, if_pos (show (!decide (z ∈ namesOf ss)) = true from e), List.map_append]; rfl
      · refine ⟨sy, ?_⟩
        rw [ft, if_neg (show ¬ (!decide (z ∈ namesOf ss)) = true from e), List.append_nil]
        exact hD
    rintro Hy ⟨sy, hD⟩
    rw [List.length_map, List.take_length] at hD
    have sxy := sx7.trans sy
    have hpy := sy _ _ hp7
    have hRy := sy _ _ hR7
    have hGy := sy _ _ hG7
    have hWy := sy _ _ hW7
    have h6y := sy _ _ h67
    have efl : decide ((ks.filter fun z => !decide (z ∈ namesOf ss)) = []) = ks.all fun z => decide (z ∈ namesOf ss) := by
      cases e : ks.all fun z => decide (z ∈ namesOf ss) with
      | true =>
        refine decide_eq_true (List.filter_eq_nil_iff.mpr fun z hz => ?_)
        have := List.all_eq_true.mp e z hz
        simpa using this
      | false =>
        refine decide_eq_false fun h => ?_
        have : (ks.all fun z => decide (z ∈ namesOf ss)) = true := List.all_eq_true.mpr fun z hz => by simpa using List.filter_eq_nil_iff.mp h z hz
        rw [e] at this; cases this
    have no : (decide (some fi = some ("keep" : Str)) && ((ks.all fun z => decide (z ∈ namesOf ss)) && (decide (1 ≤ ks.length ∧ ks.length ≤ 6) && decide (dcnt ks = ks.length)))) = false → ∀ Hz, Same Hy Hz → ∀ t, Hz t = none → Q (.ref t) (upd Hz t (.tup [.str "bad", .int (((ls ++ [la]).map V.str).length : Nat)])) := fun e Hz sz t nt => by
      rw [e] at eB
      have lsl : ((ls ++ [la]).map V.str).length = ls.length + 1 := by rw [List.length_map, List.length_append]; rfl
      refine bad (ls.length + 1) t _ eB (sxy.trans (sz.trans (Same.new nt))) ?_
      rw [upd_same, lsl]
    refine ⟨_, rfl, p6, _, 0, _, rfl, rfl, tofL h6y, atI_nat (j := 0) rfl, rfl, _, rfl, ?_⟩
    rw [strD]
    by_cases e1 : fi = "keep"
    rotate_left
    · rw [decide_eq_false e1]
      refine iteT (iteT ?_)
      refine ⟨_, rfl, p1, _, rfl, .inl (tofL hpy), (show 2 ≤ sizeLine from small (by decide)), fun t nt => no ?_ Hy (Same.refl _) t nt⟩
      rw [decide_eq_false (fun z => e1 (Option.some.inj z)), Bool.false_and]
    subst e1
    rw [decide_eq_true rfl, Bool.true_and] at eB no
    rw [decide_eq_true rfl]
    refine iteF ?_
    refine ⟨_, rfl, Nat.zero_le _, fun o no' => ?_⟩
    have so := Same.new (o := .lst []) no'
    have ho : upd Hy o (.lst []) o = some (.lst (([] : List Str).map V.str)) := upd_same
    have hDo := so _ _ hD
    have hpo := so _ _ hpy
    have hRo := so _ _ hRy
    have hGo := so _ _ hGy
    have hWo := so _ _ hWy
    generalize upd Hy o (.lst []) = Hz at *
    refine ⟨.list ((ks.filter fun z => !decide (z ∈ namesOf ss)).map PyData.str), .list (([] : List Str).map PyData.str), .lst (tofL hDo) (dpa_strs _), .lst (tofL ho) (dpa_strs []), plain_strs _, plain_strs _, depth_strs _, _, rfl, ?_⟩
    rw [eqv_strs, efl]
    cases ea : ks.all fun z => decide (z ∈ namesOf ss) with
    | false =>
      rw [ea] at no
      refine iteT (iteT ?_)
      exact ⟨_, rfl, p1, _, rfl, .inl (tofL hpo), (show 2 ≤ sizeLine from small (by decide)), fun t nt => no rfl Hz so t nt⟩
    | true =>
    rw [ea, Bool.true_and] at eB no
    refine iteF ?_
    refine ⟨_, rfl, W, _, rfl, .inl (tofL hWo), (0 : Int), _, rfl, rfl, _, rfl, ?_⟩
    rw [List.length_map]
    by_cases l1 : 1 ≤ ks.length
    rotate_left
    · rw [decide_eq_false (show ¬ (0 : Int) < ((ks.length : Nat) : Int) by omega)]
      refine iteF ⟨_, rfl, iteT (iteT ?_)⟩
      refine ⟨_, rfl, p1, _, rfl, .inl (tofL hpo), (show 2 ≤ sizeLine from small (by decide)), fun t nt => no ?_ Hz so t nt⟩
      rw [decide_eq_false (show ¬ (1 ≤ ks.length ∧ ks.length ≤ 6) from fun h => l1 h.1), Bool.false_and]
    rw [decide_eq_true (show (0 : Int) < ((ks.length : Nat) : Int) by omega)]
    refine iteT ⟨_, _, rfl, rfl, _, rfl, ?_⟩
    by_cases l6 : ks.length ≤ 6
    rotate_left
    · rw [decide_eq_false (show ¬ ((ks.length : Nat) : Int) < 7 by omega)]
      refine iteT (iteT ?_)
      refine ⟨_, rfl, p1, _, rfl, .inl (tofL hpo), (show 2 ≤ sizeLine from small (by decide)), fun t nt => no ?_ Hz so t nt⟩
      rw [decide_eq_false (show ¬ (1 ≤ ks.length ∧ ks.length ≤ 6) from fun h => l6 h.2), Bool.false_and]
    rw [decide_eq_true (show ((ks.length : Nat) : Int) < 7 by omega)]
    refine iteF ?_
    rw [decide_eq_true (⟨l1, l6⟩ : 1 ≤ ks.length ∧ ks.length ≤ 6), Bool.true_and] at eB no
    refine ⟨_, rfl, W, ks, rfl, tofL hWo, (by omega), _, rfl, W, _, rfl, .inl (tofL hWo), rfl, _, rfl, ?_⟩
    rw [List.length_map]
    by_cases ed : dcnt ks = ks.length
    rotate_left
    · rw [decide_eq_false (show ¬ (V.int ((dcnt ks : Nat) : Int) = V.int ((ks.length : Nat) : Int)) from fun z => ed (by have := V.int.inj z; omega))]
      refine iteT ?_
      exact ⟨_, rfl, p1, _, rfl, .inl (tofL hpo), (show 2 ≤ sizeLine from small (by decide)), fun t nt => no (decide_eq_false ed) Hz so t nt⟩
    rw [decide_eq_true (show V.int ((dcnt ks : Nat) : Int) = V.int ((ks.length : Nat) : Int) by rw [ed])]
    rw [decide_eq_true ed] at eB
    have eB : rdB tx = .inr (ss, ks) := eB
    refine iteF ?_
    refine ⟨_, rfl, _, rfl, .inl ⟨R, _, rfl, tofL hRo, fun a na => ?_⟩⟩
    have sa := Same.new (o := .tup ((takenOf ss).map V.str)) na
    have ha : upd Hz a (.tup ((takenOf ss).map V.str)) a = some (.tup ((takenOf ss).map V.str)) := upd_same
    have hGa := sa _ _ hGo
    have hWa := sa _ _ hWo
    generalize upd Hz a (.tup ((takenOf ss).map V.str)) = Ha at *
    refine ⟨_, rfl, .inl ⟨G, _, rfl, tofL hGa, fun b nb => ?_⟩⟩
    have sb := Same.new (o := .tup ((namesOf ss).map V.str)) nb
    have hb : upd Ha b (.tup ((namesOf ss).map V.str)) b = some (.tup ((namesOf ss).map V.str)) := upd_same
    have hab := sb _ _ ha
    have hWb := sb _ _ hWa
    generalize upd Ha b (.tup ((namesOf ss).map V.str)) = Hb at *
    refine ⟨_, rfl, .inl ⟨W, _, rfl, tofL hWb, fun c nc => ?_⟩⟩
    have sc := Same.new (o := .tup (ks.map V.str)) nc
    have hcc : upd Hb c (.tup (ks.map V.str)) c = some (.tup (ks.map V.str)) := upd_same
    have hac := sc _ _ hab
    have hbc := sc _ _ hb
    generalize upd Hb c (.tup (ks.map V.str)) = Hc at *
    refine ⟨(show 5 ≤ sizeLine from small (by decide)), fun t nt => ?_⟩
    have st := Same.new (o := .tup [.str "read", .str tx, .ref a, .ref b, .ref c]) nt
    exact fine ss ks t a b c _ eB (sxy.trans (so.trans (sa.trans (sb.trans (sc.trans st))))) upd_same (st _ _ hac) (st _ _ hbc) (st _ _ hcc)
end
end KW
namespace KW
open PySem PySem.Spec PyProof.Rows L2 GL RZ TL GX
section
variable {P : Program} {w : World} {K : PySem.W.Frag} {mg : Str → Option Value} {base : Heap}
abbrev s_told : Stmt := topS 42
theorem sc_told : FnScope ["_law_value_here", "_law_found", "_law_made", "e"] ["_law_value_here"] (defScope s_told) := ⟨rfl, rfl, rfl, by decide +kernel, rfl, by decide +kernel, by decide +kernel⟩
def strT (C : Addr) : List V → Hp → VK → Prop := fun xs H Q => ∃ a dx fs, xs = [V.ref a] ∧ H a = some (HO.ins C dx fs) ∧ spStr C [V.ref a] H (fun v H2 => (∃ z, v = V.str z) ∧ Q v H2) E0
theorem ok_told {f C CF fS fR : Addr} {fd fdS fdR : FuncData} (F : Fun K "_law_told" "_law_told" s_told f fd) (gl : mg "_law_told" = some (.ref f)) (T : Bl mg) (S : Prg K mg C)
    (sAt : PySem.W.findIn K (.ref C) "__str__" = some (some (.ref fS))) (sFn : PySem.W.isFn K (.ref fS) = true) (FS : FnG P w K mg base CX0 1 fS fdS ["self"] (spStr C)) (BS : Binds K fdS ["self"] [])
    (ST_read : G3.StatM K C "read" fR) (FT_read : FnG P w K mg base (L2.CX P w) 7 fR fdR ["text"] (spRead K CF C)) (BT_read : Binds K fdR ["text"] [])
    (gF : mg "BadText" = some (.ref CF)) (HE : HeldE K CF) (no : PySem.W.findIn K (.ref CF) "line" = some none) (ex : PySem.W.exmOne K (.ref CF) (.ref CF) = some true) :
    DefG P w K mg base 8 "_law_told" ["_law_value_here"] spDue := by
  refine def_mk F gl (F.binds fun _ _ _ _ _ _ us hl => match us, hl with | [_], _ => rfl) (okG F sc_told (fun vs H Q E h => ?_) fun cdv A outer s H vs Q E hr hc h => ?_)
  · obtain ⟨tx, rfl, _⟩ := h
    rfl
  · obtain ⟨tx, rfl, tl61, q⟩ := h
    have bad : ∀ (k : Nat) (t : Addr) (H' : Hp), rdB tx = .inl k → Same H H' → H' t = some (.tup [.str "bad", .int (k : Nat)]) → Q (.ref t) H' := fun k t H' hB s ht => q t H' s (by rw [hB]; exact ht)
    have fine : ∀ (ss : List Wn) (ks : List Str) (t a b c : Addr) (H' : Hp), rdB tx = .inr (ss, ks) → Same H H' → H' t = some (.tup [.str "read", .str tx, .ref a, .ref b, .ref c]) → H' a = some (.tup ((takenOf ss).map V.str)) → H' b = some (.tup ((namesOf ss).map V.str)) → H' c = some (.tup (ks.map V.str)) → Q (.ref t) H' :=
      fun ss ks t a b c H' hB s ht ha hb hc => q t H' s (by rw [hB]; exact ⟨a, b, c, ht, ha, hb, hc⟩)
    have nd := sc_told.nd
    refine ⟨_, (pss_cons (ps_set (i := 1) nd rfl (by first | exact Or.inl rfl | exact Or.inr rfl) (pe_tup (pa_cons pe_str pa_nil)))
      (pss_cons (ps_try_first (i := 3)
        (tb := fun W => tSeq (tAsg (tStatS (spRead K CF C) (WE W) (tCons (tVar 0) tNil)) (gName 2)) (tAsg (tTup (tCons (tC (.str "read")) (tCons (tCB (strT C) (tCons (tVar 2) tNil)) (tCons (tFld K (tVar 2) "taken") (tCons (tFld K (tVar 2) "names") (tCons (tFld K (tVar 2) "kept") tNil)))))) (gName 1)))
        (ts := fun a cls d => tAsg (tTup (tCons (tC (.str "bad")) (tCons (tHeld CF "line" a cls d (tVar 3)) tNil))) (gName 1))
        rfl rfl nd rfl rfl ⟨by rfl, by decide, Or.inl gF⟩
        (fun W pn xe tk _ => pss_cons (ps_set (i := 2) nd rfl (by first | exact Or.inl rfl | exact Or.inr rfl) (pe_statGS ST_read FT_read BT_read (hr.mono (by decide)) hc (fun σ => passAt tk σ) (by rfl) S.mgC (pa_cons (pv 0) pa_nil)))
          (pss_one (ps_set (i := 1) nd rfl (by first | exact Or.inl rfl | exact Or.inr rfl) (pe_tup (pa_cons pe_str (pa_cons (pe_callTy (call_strO sAt sFn FS BS (hr.mono (by decide)) hc) (by rfl) T.str boot_str (pa_cons (pv 2) pa_nil)) (pa_cons (pe_fld (pv 2) rfl) (pa_cons (pe_fld (pv 2) rfl) (pa_cons (pe_fld (pv 2) rfl) pa_nil)))))))))
        (fun a oe cls d pn hz hf => pss_one (ps_set (i := 1) nd rfl (by first | exact Or.inl rfl | exact Or.inr rfl) (by exact (pe_tup (pa_cons pe_str (pa_cons (pe_held HE no hz hf (pv 3)) pa_nil)))))))
      (pss_one (ps_ret (pv 1))))), ?_⟩
    refine ⟨(show 1 ≤ sizeLine from small (by decide)), fun t0 nt0 => ?_⟩
    have s0 := Same.new (o := .tup [.str "odd"]) nt0
    generalize upd H t0 (.tup [.str "odd"]) = H0 at *
    refine ⟨_, rfl, tx, rfl, tl61, fun k d H' hB s' hd => ?_, fun ss ks p H' hB s' hP => ?_⟩
    · refine ⟨ex, fun a ha => ?_⟩
      exact ⟨_, rfl, rfl, rfl, d, _, _, rfl, hd, rfl, (show 2 ≤ sizeLine from small (by decide)), fun t nt => ⟨_, rfl, bad k t _ hB (s0.trans (s'.trans (Same.new nt))) upd_same⟩⟩
    · obtain ⟨dx, st, tt, tk, tn, h1, h2, h3, h4⟩ := id hP
      refine ⟨_, rfl, p, dx, _, rfl, h1, p, tx, _, _, _, rfl, hP, ⟨_, rfl⟩, ?_⟩
      refine ⟨_, rfl, p, C, dx, _, _, rfl, h1, S.cl, S.nA, f_taken _ _ _ _ _, ?_⟩
      refine ⟨_, rfl, p, C, dx, _, _, rfl, h1, S.cl, S.nN, f_names _ _ _ _ _, ?_⟩
      refine ⟨_, rfl, p, C, dx, _, _, rfl, h1, S.cl, S.nK, f_kept _ _ _ _ _, ?_⟩
      refine ⟨(show 5 ≤ sizeLine from small (by decide)), fun t nt => ⟨_, rfl, ?_⟩⟩
      have st := Same.new (o := .tup [.str "read", .str tx, .ref tt, .ref tn, .ref tk]) nt
      exact fine ss ks t tt tn tk _ hB (s0.trans (s'.trans st)) upd_same (st _ _ h2) (st _ _ h4) (st _ _ h3)
end
end KW
namespace KW
open PySem PySem.Spec PyProof.Rows L2 GL RZ TL GX
/-! ### what is told of a text and what is due -/
def resD (tx : Str) : Sum Nat (List Wn × List Str) → PyData
  | .inl k => .tuple [.str "bad", .int (k : Nat)]
  | .inr p => .tuple [.str "read", .str tx, .tuple ((takenOf p.1).map PyData.str), .tuple ((namesOf p.1).map PyData.str), .tuple (p.2.map PyData.str)]
theorem ResAt.dp {K : PySem.W.Frag} {H : Hp} {t : Addr} {tx : Str} : ∀ {r : Sum Nat (List Wn × List Str)}, ResAt H t tx r → Dp K H (.ref t) (resD tx r)
  | .inl k, h => .tup (tofT h) (.cons (.str _) (.cons (.int _) .nil))
  | .inr p, ⟨a, b, c, h1, h2, h3, h4⟩ => .tup (tofT h1) (.cons (.str _) (.cons (.str _) (.cons (.tup (tofT h2) (dpa_strs _)) (.cons (.tup (tofT h3) (dpa_strs _)) (.cons (.tup (tofT h4) (dpa_strs _)) .nil)))))
theorem rd_wf : ∀ (ls : List Str) (ss ss' : List Wn), rdL ss ls = .inr ss' → Wf ss → Wf ss' ∧ ss'.length = ss.length + ls.length
  | [], ss, ss', h, w => by
    have e : ss = ss' := Sum.inr.inj h
    subst e
    exact ⟨w, rfl⟩
  | z :: r, ss, ss', h, w => by
    cases e : stB (ss.map (·.2)) (wordsOf z) with
    | none => rw [rd_bad e] at h; cases h
    | some p =>
      rw [rd_on e] at h
      obtain ⟨wd, nm⟩ := p
      have w2 : Wf (ss ++ [(wd, nm)]) := fun p hp => by
        rcases List.mem_append.mp hp with hp | hp
        · exact w p hp
        · rw [List.mem_singleton.mp hp]
          rcases st_some e with ⟨c1, c2, _⟩ | ⟨c1, c2, _⟩
          · exact .inl ⟨c1, c2⟩
          · exact .inr ⟨c1, c2⟩
      obtain ⟨i1, i2⟩ := rd_wf r _ _ h w2
      refine ⟨i1, ?_⟩
      have l : (ss ++ [(wd, nm)]).length = ss.length + 1 := by rw [List.length_append]; rfl
      have l2 : (z :: r).length = r.length + 1 := rfl
      omega
theorem rd_le : ∀ (ls : List Str) (ss : List Wn) (k : Nat), rdL ss ls = .inl k → k ≤ ss.length + ls.length
  | [], ss, k, h => by cases h
  | z :: r, ss, k, h => by
    cases e : stB (ss.map (·.2)) (wordsOf z) with
    | none =>
      rw [rd_bad e] at h
      have := Sum.inl.inj h
      rw [List.length_cons]; omega
    | some p =>
      rw [rd_on e] at h
      have := rd_le r _ _ h
      have l : (ss ++ [p]).length = ss.length + 1 := by rw [List.length_append]; rfl
      rw [List.length_cons]; omega
theorem taken_nm {ss : List Wn} (w : Wf ss) : ∀ z ∈ takenOf ss, nameB z = true := fun z hz => by
  unfold takenOf at hz
  obtain ⟨p, hp, rfl⟩ := List.mem_map.mp hz
  obtain ⟨h1, h2⟩ := List.mem_filter.mp hp
  rcases w p h1 with e | e
  · have := of_decide_eq_true h2
    rw [e.1] at this
    exact absurd this (by decide +kernel)
  · exact e.2
/-- a text such as the law looks at -/
structure OkTx (tx : Str) : Prop where
  len : tx.length ≤ 61000
  low : ∀ c ∈ tx.cps.toList, c < 128
  few : (linesOf tx).length ≤ 60
theorem names_nice {ns : List Str} (h : ∀ z ∈ ns, nameB z = true) (hl : ns.length ≤ 60) : Nice 610012 1 (.tuple (ns.map PyData.str)) := by
  have h1 : ∀ d ∈ ns.map PyData.str, Nice 82 0 d := fun d hd => by
    obtain ⟨z, hz, rfl⟩ := List.mem_map.mp hd
    refine Nice.str (n := 8) (name_len8 (h z hz)).2 fun c hc => ?_
    have hn := h z hz
    unfold nameB at hn
    rw [Bool.and_eq_true, Bool.and_eq_true] at hn
    have := of_decide_eq_true (List.all_eq_true.mp (Bool.and_eq_true_iff.mp hn.2).2 c hc)
    have a : ∀ d ∈ (LETTERS ++ DIGITS).cps.toList, d < 128 := by decide +kernel
    exact a c this
  exact (Nice.tup (n := 60) h1 (by rw [List.length_map]; exact hl)).mono (by decide) (by decide)
theorem res_nice {tx : Str} (ok : OkTx tx) : Nice 3050073 2 (resD tx (rdB tx)) := by
  have l1 : 1 ≤ (linesOf tx).length := PyProof.Rows.split_pos tx "\n"
  have few := ok.few
  have dl : (linesOf tx).dropLast.length + 1 = (linesOf tx).length := by rw [List.length_dropLast]; omega
  have nbad : ∀ k : Nat, k ≤ 60 → Nice 3050073 2 (.tuple [.str "bad", .int (k : Nat)]) := fun k hk => by
    have h : ∀ d ∈ [PyData.str "bad", .int (k : Nat)], Nice 610012 1 d := fun d hd => by
      rcases List.mem_cons.mp hd with rfl | hd
      · exact (Nice.str (n := 3) (by decide +kernel) (by decide +kernel)).mono (by decide) (by decide)
      · rw [List.mem_singleton.mp hd]
        exact (Nice.int (by omega) (by omega)).mono (by decide) (by decide)
    exact (Nice.tup (n := 2) h (Nat.le_refl _)).mono (by decide) (by decide)
  unfold rdB
  cases e : rdL [] (linesOf tx).dropLast with
  | inl k =>
    have := rd_le _ _ _ e
    exact nbad k (by have : k ≤ 0 + (linesOf tx).dropLast.length := this; omega)
  | inr ss =>
    obtain ⟨w, sl⟩ := rd_wf _ _ _ e (fun p hp => nomatch hp)
    have sl : ss.length = 0 + (linesOf tx).dropLast.length := sl
    have go : ∀ (n : Nat) (ws : List Str), n ≤ 60 → Nice 3050073 2 (resD tx (rdK n ws (.inr ss))) := fun n ws hn => by
      unfold rdK
      show Nice 3050073 2 (resD tx (if keepB (ss.map (·.2)) ws = true then .inr (ss, ws.tail) else .inl n))
      by_cases hk : keepB (ss.map (·.2)) ws = true
      · rw [if_pos hk]
        unfold keepB at hk
        rw [Bool.and_eq_true, Bool.and_eq_true] at hk
        have nb := hk.2.1
        unfold namesB at nb
        rw [Bool.and_eq_true, Bool.and_eq_true] at nb
        have k6 := (of_decide_eq_true nb.1).2
        have kn : ∀ z ∈ ws.tail, nameB z = true := fun z hz => List.all_eq_true.mp nb.2.2 z hz
        have h : ∀ d ∈ [PyData.str "read", .str tx, .tuple ((takenOf ss).map PyData.str), .tuple ((namesOf ss).map PyData.str), .tuple (ws.tail.map PyData.str)], Nice 610012 1 d := fun d hd => by
          rcases List.mem_cons.mp hd with rfl | hd
          · exact (Nice.str (n := 4) (by decide +kernel) (by decide +kernel)).mono (by decide) (by decide)
          rcases List.mem_cons.mp hd with rfl | hd
          · exact (Nice.str (n := 61000) (by rw [← str_len2]; exact ok.len) ok.low).mono (by decide) (by decide)
          rcases List.mem_cons.mp hd with rfl | hd
          · exact names_nice (taken_nm w) (by have := taken_le ss; omega)
          rcases List.mem_cons.mp hd with rfl | hd
          · exact names_nice w.names.1 (by have := names_le ss; omega)
          · rw [List.mem_singleton.mp hd]
            exact names_nice kn (by omega)
        exact (Nice.tup (n := 5) h (show 5 ≤ 5 from Nat.le_refl _)).mono (by decide) (by decide)
      · rw [if_neg hk]
        exact nbad n hn
    exact go _ _ few
def spRight : Sp := fun vs H Q _ => ∃ tx : Str, vs = [.str tx] ∧ OkTx tx ∧ ∀ H', Same H H' → Q (.bl true) H'
section
variable {X : Cx}
theorem call_reprB (hc : Calm X.A) (hu : X.A.units + 100 < cLine) : CallR X (.builtin "repr") (fun xs H Q => ∃ (a : Addr) (d : PyData), xs = [.ref a] ∧ Dp X.K H (.ref a) d ∧ Nice 6100153 3 d ∧ Q (.str d.shown) H) := by
  intro pins s σ H xs us Q I r h
  obtain ⟨a, d, e, hd, hn, q⟩ := h
  exact call_reprD hc hu pins s σ H xs us Q I r ⟨a, d, e, hd, hn.sh, hn.nd, Nat.le_trans hn.dp (by decide), Nat.le_trans hn.sz (by decide), q⟩
end
section
variable {P : Program} {w : World} {K : PySem.W.Frag} {mg : Str → Option Value} {base : Heap}
abbrev s_is_right : Stmt := topS 45
theorem sc_is_right : FnScope ["_law_value_here", "_law_due_here"] ["_law_value_here"] (defScope s_is_right) := ⟨rfl, rfl, rfl, by decide +kernel, rfl, by decide +kernel, by decide +kernel⟩
theorem ok_is_right {f : Addr} {fd : FuncData} (F : Fun K "_law_is_right" "_law_is_right" s_is_right f fd) (gl : mg "_law_is_right" = some (.ref f)) (T : Bl mg) (D_due : DefG P w K mg base 4 "_law_due" ["_law_value_here"] spDue) (D_told : DefG P w K mg base 8 "_law_told" ["_law_value_here"] spDue) : DefG P w K mg base 9 "_law_is_right" ["_law_value_here"] spRight := by
  refine def_mk F gl (F.binds fun _ _ _ _ _ _ us hl => match us, hl with | [_], _ => rfl) (okG F sc_is_right (fun vs H Q E h => ?_) fun cdv A outer s H vs Q E hr hc h => ?_)
  · obtain ⟨tx, rfl, _⟩ := h
    rfl
  · obtain ⟨tx, rfl, ok, q⟩ := h
    have nd := sc_is_right.nd
    have hu64 := hr.units
    have hu100 : (A.deeper (envOfC "_law_is_right" (defScope s_is_right) s.heap.objs.size f cdv)).units + 100 < cLine := by have := hr.un; omega
    refine ⟨_, (pss_cons (ps_set (i := 1) nd rfl (by first | exact Or.inl rfl | exact Or.inr rfl) (pe_def D_due (hr.mono (by decide)) hc (by rfl) (pa_cons (pv 0) pa_nil)))
      (pss_one (ps_ret (pe_cmpR op_eq (pe_callB (call_reprB hc hu100) (by rfl) T.repr boot_repr (pa_cons (pe_lst (pa_cons (pe_def D_told (hr.mono (by decide)) hc (by rfl) (pa_cons (pv 0) pa_nil)) (pa_cons (pe_def D_told (hr.mono (by decide)) hc (by rfl) (pa_cons (pv 0) pa_nil)) pa_nil))) pa_nil)) (pe_callB (call_reprB hc hu100) (by rfl) T.repr boot_repr (pa_cons (pe_lst (pa_cons (pv 1) (pa_cons (pv 1) pa_nil))) pa_nil)) (nomark _))))), ?_⟩
    have nice := res_nice ok
    have two : Nice 6100153 3 (.list [resD tx (rdB tx), resD tx (rdB tx)]) := by
      have h : ∀ d ∈ [resD tx (rdB tx), resD tx (rdB tx)], Nice 3050073 2 d := fun d hd => by
        rcases List.mem_cons.mp hd with rfl | hd
        · exact nice
        · rw [List.mem_singleton.mp hd]; exact nice
      exact (Nice.lst (n := 2) h (Nat.le_refl 2)).mono (by decide) (by decide)
    refine ⟨_, rfl, tx, rfl, ok.len, fun d H1 s1 hd => ?_⟩
    refine ⟨_, rfl, tx, rfl, ok.len, fun t1 H2 s2 h1 => ?_⟩
    refine ⟨_, rfl, tx, rfl, ok.len, fun t2 H3 s3 h2 => ?_⟩
    refine ⟨(show 2 ≤ sizeLine from small (by decide)), fun l nl => ?_⟩
    have s4 := Same.new (o := .lst [.ref t1, .ref t2]) nl
    have h1' := h1.same (s3.trans s4)
    have h2' := h2.same s4
    refine ⟨l, .list [resD tx (rdB tx), resD tx (rdB tx)], rfl, .lst (tofL upd_same) (.cons h1'.dp (.cons h2'.dp .nil)), two, ?_⟩
    generalize eH4 : upd H3 l (.lst [.ref t1, .ref t2]) = H4 at *
    have hd4 := hd.same (s2.trans (s3.trans s4))
    refine ⟨_, rfl, _, rfl, (show 2 ≤ sizeLine from small (by decide)), fun l2 nl2 => ?_⟩
    have s5 := Same.new (o := .lst [.ref d, .ref d]) nl2
    have hd5 := hd4.same s5
    refine ⟨l2, .list [resD tx (rdB tx), resD tx (rdB tx)], rfl, .lst (tofL upd_same) (.cons hd5.dp (.cons hd5.dp .nil)), two, rfl, ?_⟩
    rw [strD, decide_eq_true rfl]
    exact q _ (s1.trans (s2.trans (s3.trans (s4.trans s5))))
end
end KW
namespace KW
open PySem PySem.Spec PyProof.Rows L2 GL RZ TL GX
/-! ### what bending adds, sign by sign -/
def mz (f : Nat → Nat) (z : Str) : Nat := ((tl z).map f).sum
def wt (f : Nat → Nat) (y : Str) (ws : List Str) : Nat := (ws.map fun w => mz f w + mz f y).sum
theorem mz_app (f : Nat → Nat) (a b : Str) : mz f (a ++ b) = mz f a + mz f b := by
  unfold mz
  rw [tl_append, List.map_append, List.sum_append]
theorem wt_cons (f : Nat → Nat) (y w : Str) (r : List Str) : wt f y (w :: r) = mz f w + mz f y + wt f y r := rfl
theorem wt_app (f : Nat → Nat) (y : Str) (a b : List Str) : wt f y (a ++ b) = wt f y a + wt f y b := by
  unfold wt
  rw [List.map_append, List.sum_append]
theorem mz_join (f : Nat → Nat) (y : Str) : ∀ ws : List Str, ws ≠ [] → mz f (Txt.join y ws) + mz f y = wt f y ws := fun ws h => by
  have go : ∀ ls : List Str, ls ≠ [] → ((joinL (tl y) (ls.map tl)).map f).sum + mz f y = wt f y ls := fun ls => by
    induction ls with
    | nil => intro h; exact absurd rfl h
    | cons a r ih =>
      intro _
      cases r with
      | nil => rfl
      | cons b r' =>
        have i := ih (fun z => nomatch z)
        show ((tl a ++ (tl y ++ joinL (tl y) ((b :: r').map tl))).map f).sum + mz f y = mz f a + mz f y + wt f y (b :: r')
        rw [← i, List.map_append, List.map_append, List.sum_append, List.sum_append]
        show mz f a + (mz f y + _) + mz f y = mz f a + mz f y + (_ + mz f y)
        omega
  unfold mz
  rw [TL.join_eq, tl_join]
  exact go ws h
theorem mz_join_le (f : Nat → Nat) (y : Str) (ws : List Str) : mz f (Txt.join y ws) ≤ wt f y ws := by
  cases ws with
  | nil => unfold mz; rw [TL.join_eq, tl_join]; exact Nat.zero_le _
  | cons a r => have := mz_join f y (a :: r) (fun z => nomatch z); omega
theorem wt_split (f : Nat → Nat) (z y : Str) : wt f y (Txt.split z y) = mz f z + mz f y := by
  have n : Txt.split z y ≠ [] := fun e => by have := PyProof.Rows.split_pos z y; rw [e] at this; exact absurd this (by decide)
  have := mz_join f y _ n
  rw [show Txt.join y (Txt.split z y) = z by rw [TL.join_eq]; exact PySem.StrLaws.join_split z y] at this
  exact this.symm
theorem wt_mem {f : Nat → Nat} {y w : Str} : ∀ {ws : List Str}, w ∈ ws → mz f w + mz f y ≤ wt f y ws
  | [], h => nomatch h
  | a :: r, h => by
    rw [wt_cons]
    rcases List.mem_cons.mp h with rfl | h
    · omega
    · have := wt_mem (f := f) (y := y) h; omega
theorem wt_cut (f : Nat → Nat) (y : Str) (ws : List Str) (p : Nat) : wt f y (ws.take p) + wt f y (ws.drop p) = wt f y ws := by
  rw [← wt_app, List.take_append_drop]
theorem wt_drop_le (f : Nat → Nat) (y : Str) (ws : List Str) (p : Nat) : wt f y (ws.drop (p + 1)) ≤ wt f y (ws.drop p) := by
  have := wt_cut f y (ws.drop p) 1
  rw [List.drop_drop] at this
  omega
theorem wt_set (f : Nat → Nat) (y x : Str) : ∀ (ws : List Str) (i : Nat) (v : Str), ws[i]? = some v → wt f y (ws.set i x) + (mz f v + mz f y) = wt f y ws + (mz f x + mz f y)
  | [], i, v, h => by cases h
  | a :: r, 0, v, h => by
    cases h
    show mz f x + mz f y + wt f y r + _ = mz f a + mz f y + wt f y r + _
    omega
  | a :: r, i + 1, v, h => by
    have ih := wt_set f y x r i v (by simpa using h)
    show mz f a + mz f y + wt f y (r.set i x) + _ = mz f a + mz f y + wt f y r + _
    omega
/-- a row bent once: taken from a row and from what is odd -/
def BentR (odd ws : List Str) (y : Str) (found : List Str) : Prop := ∀ f M, (∀ o ∈ odd, mz f o ≤ M) → wt f y found ≤ 2 * wt f y ws + M + mz f y
theorem bent_less {odd ws : List Str} {y : Str} (p : Nat) : BentR odd ws y (ws.take p ++ ws.drop (p + 1)) := fun f M _ => by
  rw [wt_app]
  have := wt_cut f y ws p
  have := wt_drop_le f y ws p
  omega
theorem bent_put {odd ws : List Str} {y : Str} (p : Nat) {x : Str} (hx : x ∈ ws ∨ x ∈ odd) : BentR odd ws y (ws.take p ++ [x] ++ ws.drop p) := fun f M h => by
  rw [wt_app, wt_app]
  have c := wt_cut f y ws p
  have e : wt f y [x] = mz f x + mz f y := by unfold wt; simp
  rcases hx with hx | hx
  · have := wt_mem (f := f) (y := y) hx
    omega
  · have := h x hx
    omega
theorem bent_odd {odd ws : List Str} {y : Str} {p : Nat} {x v : Str} (hv : ws[p]? = some v) (hx : x ∈ odd) : BentR odd ws y (ws.set p x) := fun f M h => by
  have := wt_set f y x ws p v hv
  have := h x hx
  omega
theorem bent_swap {odd ws : List Str} {y : Str} {p q : Nat} {u v : Str} (hu : ws[p]? = some u) (hv : ws[q]? = some v) : BentR odd ws y ((ws.set p v).set q u) := fun f M _ => by
  have e1 := wt_set f y v ws p u hu
  have h2 : (ws.set p v)[q]? = some v := by
    by_cases e : p = q
    · subst e
      have := (List.getElem?_eq_some_iff.mp hu).1
      rw [List.getElem?_set_self (by omega)]
    · rw [List.getElem?_set_ne e]; exact hv
  have e2 := wt_set f y u (ws.set p v) q v h2
  omega
theorem mz_one (z : Str) : mz (fun _ => 1) z = z.length := by
  unfold mz
  have : ∀ l : List Nat, (l.map fun _ => 1).sum = l.length := fun l => by
    induction l with
    | nil => rfl
    | cons a r ih => rw [List.map_cons, List.sum_cons, ih, List.length_cons]; omega
  rw [this, show (tl z).length = z.length from Array.length_toList ..]
theorem wt_one (y : Str) (ws : List Str) : wt (fun _ => 1) y ws = (ws.map (·.length)).sum + ws.length * y.length := by
  induction ws with
  | nil => simp [wt]
  | cons a r ih =>
    rw [wt_cons, ih, mz_one, mz_one, List.map_cons, List.sum_cons, List.length_cons, Nat.succ_mul]
    omega
def spBentRow : Sp := fun vs H Q _ => ∃ (d g l o : Addr) (ws odd : List Str) (y : Str), vs = [.ref d, .ref l, .ref o, .str y] ∧ Deck H d g ∧ H l = some (.lst (ws.map V.str)) ∧ l ≠ g ∧ ws ≠ [] ∧ ws.length ≤ 62000 ∧ wt (fun _ => 1) y ws ≤ 62000 ∧
  H o = some (.lst (odd.map V.str)) ∧ o ≠ g ∧ odd ≠ [] ∧ odd.length ≤ 1000 ∧ (∀ z ∈ odd, z.length ≤ 100) ∧ y.length ≤ 1 ∧
  ∀ (found : List Str) (H' : Hp), Deck H' d g → Mv d g H H' → BentR odd ws y found → Q (.str (Txt.join y found)) H'
section
variable {P : Program} {w : World} {K : PySem.W.Frag} {mg : Str → Option Value} {base : Heap}
abbrev s_bent_row : Stmt := topS 43
theorem sc_bent_row : FnScope ["_law_deck_here", "_law_some", "_law_odd", "_law_joint", "_law_way", "_law_p", "_law_q", "_law_found"] ["_law_deck_here", "_law_some", "_law_odd", "_law_joint"] (defScope s_bent_row) := ⟨rfl, rfl, rfl, by decide +kernel, rfl, by decide +kernel, by decide +kernel⟩
theorem ok_bent_row {f : Addr} {fd : FuncData} (F : Fun K "_law_bent_row" "_law_bent_row" s_bent_row f fd) (gl : mg "_law_bent_row" = some (.ref f)) (T : Bl mg) (Tlist : mg "list" = none) (D_draw : DefG P w K mg base 1 "_law_draw" ["_law_deck_here", "_law_many"] spDraw) (D_pick : DefG P w K mg base 2 "_law_pick" ["_law_deck_here", "_law_some"] spPickL) :
    DefG P w K mg base 3 "_law_bent_row" ["_law_deck_here", "_law_some", "_law_odd", "_law_joint"] spBentRow := by
  refine def_mk F gl (F.binds fun _ _ _ _ _ _ us hl => match us, hl with | [_, _, _, _], _ => rfl) (okG F sc_bent_row (fun vs H Q E h => ?_) fun cdv A outer s H vs Q E hr hc h => ?_)
  · obtain ⟨d, g, l, o, ws, odd, y, rfl, _⟩ := h
    rfl
  · obtain ⟨d, g, l, o, ws, odd, y, rfl, D, hl, nlg, wne, w62, wt62, ho, nog, one, o1000, oB, y1, q⟩ := h
    have nd := sc_bent_row.nd
    have hu64 := hr.units
    refine ⟨_, (pss_cons (ps_par3 (i := 4) (j := 5) (l := 6) rfl nd rfl rfl rfl (by decide) (by decide) (by decide) rfl rfl rfl (pa_cons (pe_def D_draw (hr.mono (by decide)) hc (by rfl) (pa_cons (pv 0) (pa_cons pe_int pa_nil))) (pa_cons (pe_def D_draw (hr.mono (by decide)) hc (by rfl) (pa_cons (pv 0) (pa_cons (pe_callB call_len_seq (by rfl) T.len boot_len (pa_cons (pv 1) pa_nil)) pa_nil))) (pa_cons (pe_def D_draw (hr.mono (by decide)) hc (by rfl) (pa_cons (pv 0) (pa_cons (pe_callB call_len_seq (by rfl) T.len boot_len (pa_cons (pv 1) pa_nil)) pa_nil))) pa_nil))) rfl)
      (pss_cons (ps_set (i := 7) nd rfl (by first | exact Or.inl rfl | exact Or.inr rfl) (pe_callTy call_list_of (by rfl) Tlist boot_list (pa_cons (pv 1) pa_nil)))
      (C8.pss_cut (ps_if (pt_cmpR op_eq (pv 4) pe_int (nomark _))
        (pss_one (ps_set (i := 7) nd rfl (by first | exact Or.inl rfl | exact Or.inr rfl) (pe_op op_cat (pe_slice sl_list (pv 7) po_none (po_some (pv 5))) (pe_slice sl_list (pv 7) (po_some (pe_op op_add (pv 5) pe_int)) po_none))))
        (pss_one (ps_if (pt_cmpR op_eq (pv 4) pe_int (nomark _))
          (pss_one (ps_set (i := 7) nd rfl (by first | exact Or.inl rfl | exact Or.inr rfl) (pe_op op_cat (pe_op op_cat (pe_slice sl_list (pv 7) po_none (po_some (pv 5))) (pe_lst (pa_cons (pe_ix ix_list (pv 7) (pv 6) (fun _ _ => rfl)) pa_nil))) (pe_slice sl_list (pv 7) (po_some (pv 5)) po_none))))
          (pss_one (ps_if (pt_cmpR op_eq (pv 4) pe_int (nomark _))
            (pss_one (ps_asg (pe_tup (pa_cons (pe_ix ix_list (pv 1) (pv 6) (fun _ _ => rfl)) (pa_cons (pe_ix ix_list (pv 1) (pv 5) (fun _ _ => rfl)) pa_nil))) (pg_tup rfl (pgs_cons (pg_sub (pv 7) (pv 5) set_list) (pgs_cons (pg_sub (pv 7) (pv 6) set_list) pgs_nil)))))
            (pss_one (ps_if (pt_cmpR op_eq (pv 4) pe_int (nomark _))
              (pss_one (ps_asg (pe_def D_pick (hr.mono (by decide)) hc (by rfl) (pa_cons (pv 0) (pa_cons (pv 2) pa_nil))) (pg_sub (pv 7) (pv 5) set_list)))
              (pss_one (ps_set (i := 7) nd rfl (by first | exact Or.inl rfl | exact Or.inr rfl) (pe_op op_cat (pe_op op_cat (pe_slice sl_list (pv 7) po_none (po_some (pv 5))) (pe_lst (pa_cons (pe_def D_pick (hr.mono (by decide)) hc (by rfl) (pa_cons (pv 0) (pa_cons (pv 2) pa_nil))) pa_nil))) (pe_slice sl_list (pv 7) (po_some (pv 5)) po_none)))))))))))
      (pss_one (ps_ret (pe_join (pv 3) (pv 7))))))), ?_⟩
    have offl : l ≠ d ∧ l ≠ g := ⟨by obtain ⟨m, L, e1, _⟩ := D.ex; exact (ne_of e1 hl (fun z => nomatch z)).symm, nlg⟩
    have offo : o ≠ d ∧ o ≠ g := ⟨by obtain ⟨m, L, e1, _⟩ := D.ex; exact (ne_of e1 ho (fun z => nomatch z)).symm, nog⟩
    have w1 : 1 ≤ ws.length := List.length_pos_iff.mpr wne
    refine ⟨_, rfl, d, g, 6, rfl, D, by decide, by decide, fun way H1 _ _ D1 M1 => ?_⟩
    refine ⟨_, rfl, _, rfl, l, _, rfl, .inl (tofL (M1.at hl offl)), d, g, _, rfl, D1, by rw [List.length_map]; omega, by rw [List.length_map]; omega, fun p H2 p0 p1 D2 M2 => ?_⟩
    have M02 := M1.trans M2
    refine ⟨_, rfl, _, rfl, l, _, rfl, .inl (tofL (M02.at hl offl)), d, g, _, rfl, D2, by rw [List.length_map]; omega, by rw [List.length_map]; omega, fun qq H3 q0 q1 D3 M3 => ?_⟩
    have M03 := M02.trans M3
    have hl3 := M03.at hl offl
    have ho3 := M03.at ho offo
    rw [List.length_map] at p1 q1
    refine ⟨_, _, _, rfl, ?_⟩
    obtain ⟨pn, rfl⟩ : ∃ n : Nat, p = (n : Int) := ⟨p.toNat, by omega⟩
    obtain ⟨qn, rfl⟩ : ∃ n : Nat, qq = (n : Int) := ⟨qq.toNat, by omega⟩
    obtain ⟨u, hu⟩ : ∃ u, ws[pn]? = some u := ⟨_, List.getElem?_eq_getElem (by omega)⟩
    obtain ⟨v, hv⟩ : ∃ v, ws[qn]? = some v := ⟨_, List.getElem?_eq_getElem (by omega)⟩
    refine ⟨_, rfl, l, _, rfl, .inl (tofL hl3), fun fa nfa => ?_⟩
    have offa := D3.off nfa
    have nfH : H fa = none := M03.free D D3 nfa
    have s4 := Same.new (o := .lst (ws.map V.str)) nfa
    have hf4 : upd H3 fa (.lst (ws.map V.str)) fa = some (.lst (ws.map V.str)) := upd_same
    have D4 := D3.new (o := .lst (ws.map V.str)) nfa
    have M04 := M03.trans (Mv.of s4)
    have hl4 := s4 _ _ hl3
    have ho4 := s4 _ _ ho3
    generalize upd H3 fa (.lst (ws.map V.str)) = H4 at *
    refine ⟨fun σ' H' => ∃ (fb : Addr) (found : List Str), σ' = [some (.ref d), some (.ref l), some (.ref o), some (.str y), some (.int way), some (.int (pn : Nat)), some (.int (qn : Nat)), some (.ref fb)] ∧ Deck H' d g ∧ Mv d g H H' ∧ H' fb = some (.lst (found.map V.str)) ∧ BentR odd ws y found, ?_, ?_⟩
    · have cut : ∀ (n : Nat), cutV (ws.map V.str) none (some (n : Int)) = (ws.take n).map V.str ∨ ¬ n ≤ ws.length := fun n => by
        by_cases h : n ≤ ws.length
        · exact .inl (by rw [cut_lo ws (by omega) (by omega), Int.toNat_natCast])
        · exact .inr h
      have cutP : cutV (ws.map V.str) none (some ((pn : Nat) : Int)) = (ws.take pn).map V.str := (cut pn).resolve_right (fun h => h (by omega))
      have atP : atI (ws.map V.str) ((pn : Nat) : Int) = some (V.str u) := atI_nat (by rw [List.getElem?_map, hu]; rfl)
      have atQ : atI (ws.map V.str) ((qn : Nat) : Int) = some (V.str v) := atI_nat (by rw [List.getElem?_map, hv]; rfl)
      refine ⟨_, rfl, rfl, _, rfl, ite2 (fun _ => ?_) (fun _ => ?_)⟩
      · -- one left out
        refine ⟨_, rfl, _, rfl, _, rfl, fa, _, rfl, tofL hf4, fun a na => ?_⟩
        rw [cutP]
        have sa := Same.new (o := .lst ((ws.take pn).map V.str)) na
        have ha : upd H4 a (.lst ((ws.take pn).map V.str)) a = some (.lst ((ws.take pn).map V.str)) := upd_same
        have hfa := sa _ _ hf4
        have Da := D4.same sa
        have Ma := M04.trans (Mv.of sa)
        generalize upd H4 a (.lst ((ws.take pn).map V.str)) = Ha at *
        refine ⟨_, rfl, _, rfl, _, _, rfl, rfl, _, rfl, fa, _, rfl, tofL hfa, fun b nb => ?_⟩
        rw [cut_hi0 ws (by omega), show (((pn : Nat) : Int) + 1).toNat = pn + 1 by omega]
        have sb := Same.new (o := .lst ((ws.drop (pn + 1)).map V.str)) nb
        have hb : upd Ha b (.lst ((ws.drop (pn + 1)).map V.str)) b = some (.lst ((ws.drop (pn + 1)).map V.str)) := upd_same
        have hab := sb _ _ ha
        have Db := Da.same sb
        have Mb := Ma.trans (Mv.of sb)
        generalize upd Ha b (.lst ((ws.drop (pn + 1)).map V.str)) = Hb at *
        refine ⟨a, b, _, _, rfl, rfl, hab, hb, small (by rw [List.length_map, List.length_map, List.length_take, List.length_drop]; omega), fun c nc => ⟨c, _, rfl, Db.new nc, Mb.trans (Mv.of (Same.new nc)), ?_, bent_less pn⟩⟩
        rw [upd_same, List.map_append]
      refine ⟨_, rfl, rfl, _, rfl, ite2 (fun _ => ?_) (fun _ => ?_)⟩
      · -- one twice
        refine ⟨_, rfl, _, rfl, _, rfl, fa, _, rfl, tofL hf4, fun a na => ?_⟩
        rw [cutP]
        have sa := Same.new (o := .lst ((ws.take pn).map V.str)) na
        have ha : upd H4 a (.lst ((ws.take pn).map V.str)) a = some (.lst ((ws.take pn).map V.str)) := upd_same
        have hfa := sa _ _ hf4
        have Da := D4.same sa
        have Ma := M04.trans (Mv.of sa)
        generalize upd H4 a (.lst ((ws.take pn).map V.str)) = Ha at *
        refine ⟨_, rfl, _, rfl, fa, _, _, _, rfl, rfl, tofL hfa, atQ, (show 1 ≤ sizeLine from small (by decide)), fun b nb => ?_⟩
        have sb := Same.new (o := .lst [.str v]) nb
        have hb : upd Ha b (.lst [.str v]) b = some (.lst (([v] : List Str).map V.str)) := upd_same
        have hab := sb _ _ ha
        have hfb := sb _ _ hfa
        have Db := Da.same sb
        have Mb := Ma.trans (Mv.of sb)
        generalize upd Ha b (.lst [.str v]) = Hb at *
        refine ⟨a, b, _, _, rfl, rfl, hab, hb, small (by rw [List.length_map, List.length_map, List.length_take]; show _ + 1 ≤ _; omega), fun c nc => ?_⟩
        rw [← List.map_append]
        have sc := Same.new (o := .lst ((ws.take pn ++ [v]).map V.str)) nc
        have hcc : upd Hb c (.lst ((ws.take pn ++ [v]).map V.str)) c = some (.lst ((ws.take pn ++ [v]).map V.str)) := upd_same
        have hfc := sc _ _ hfb
        have Dc := Db.same sc
        have Mc := Mb.trans (Mv.of sc)
        generalize upd Hb c (.lst ((ws.take pn ++ [v]).map V.str)) = Hc at *
        refine ⟨_, rfl, _, rfl, _, rfl, fa, _, rfl, tofL hfc, fun e ne => ?_⟩
        rw [cut_hi0 ws (by omega), Int.toNat_natCast]
        have se := Same.new (o := .lst ((ws.drop pn).map V.str)) ne
        have he : upd Hc e (.lst ((ws.drop pn).map V.str)) e = some (.lst ((ws.drop pn).map V.str)) := upd_same
        have hce := se _ _ hcc
        have De := Dc.same se
        have Me := Mc.trans (Mv.of se)
        generalize upd Hc e (.lst ((ws.drop pn).map V.str)) = He at *
        refine ⟨c, e, _, _, rfl, rfl, hce, he, small (by rw [List.length_map, List.length_map, List.length_append, List.length_take, List.length_drop]; show _ + 1 + _ ≤ _; omega), fun i ni => ⟨i, _, rfl, De.new ni, Me.trans (Mv.of (Same.new ni)), ?_, bent_put pn (.inl (List.mem_of_getElem? hv))⟩⟩
        rw [upd_same, ← List.map_append]
      refine ⟨_, rfl, rfl, _, rfl, ite2 (fun _ => ?_) (fun _ => ?_)⟩
      · -- two exchanged
        refine ⟨_, rfl, _, rfl, l, _, _, _, rfl, rfl, tofL hl4, atQ, _, rfl, _, rfl, l, _, _, _, rfl, rfl, tofL hl4, atP, (show 2 ≤ sizeLine from small (by decide)), fun t nt => ?_⟩
        have st := Same.new (o := .tup [.str v, .str u]) nt
        have htt : upd H4 t (.tup [.str v, .str u]) t = some (.tup [.str v, .str u]) := upd_same
        have hft := st _ _ hf4
        have Dt := D4.same st
        have Mt := M04.trans (Mv.of st)
        generalize upd H4 t (.tup [.str v, .str u]) = Ht at *
        refine ⟨t, _, rfl, tofT htt, rfl, _, _, rfl, _, rfl, _, rfl, fa, _, _, pn, rfl, rfl, hft, ixN_of (by omega) (by rw [List.length_map]; omega), ?_⟩
        rw [show (ws.map V.str).set pn (V.str v) = (ws.set pn v).map V.str from List.map_set.symm]
        refine ⟨_, _, rfl, _, rfl, _, rfl, fa, _, _, qn, rfl, rfl, upd_same, ixN_of (by omega) (by rw [List.length_map, List.length_set]; omega), rfl, fa, (ws.set pn v).set qn u, rfl, (Dt.mut offa).mut offa, (Mt.mut nfH).mut nfH, ?_, bent_swap hu hv⟩
        rw [upd_same]
        congr 2
        simp only [List.map_set]
      refine ⟨_, rfl, rfl, _, rfl, ite2 (fun _ => ?_) (fun _ => ?_)⟩
      · -- an odd one for one
        refine ⟨_, rfl, _, rfl, d, g, o, _, rfl, D4, ho4, nog, (by simpa using one), by rw [List.length_map]; exact o1000, fun x H5 hx D5 M5 => ?_⟩
        obtain ⟨z, hz, rfl⟩ := List.mem_map.mp hx
        have offf : fa ≠ d ∧ fa ≠ g := offa
        have hf5 := M5.at hf4 offf
        refine ⟨_, rfl, _, rfl, fa, _, _, pn, rfl, rfl, hf5, ixN_of (by omega) (by rw [List.length_map]; omega), fa, ws.set pn z, rfl, D5.mut offa, (M04.trans M5).mut nfH, ?_, bent_odd hu hz⟩
        rw [upd_same, List.map_set]
      · -- an odd one between
        refine ⟨_, rfl, _, rfl, _, rfl, fa, _, rfl, tofL hf4, fun a na => ?_⟩
        rw [cutP]
        have sa := Same.new (o := .lst ((ws.take pn).map V.str)) na
        have ha : upd H4 a (.lst ((ws.take pn).map V.str)) a = some (.lst ((ws.take pn).map V.str)) := upd_same
        have hfa := sa _ _ hf4
        have hoa := sa _ _ ho4
        have offa' := D4.off na
        have Da := D4.same sa
        have Ma := M04.trans (Mv.of sa)
        generalize upd H4 a (.lst ((ws.take pn).map V.str)) = Ha at *
        refine ⟨_, rfl, _, rfl, d, g, o, _, rfl, Da, hoa, nog, (by simpa using one), by rw [List.length_map]; exact o1000, fun x H5 hx D5 M5 => ?_⟩
        obtain ⟨z, hz, rfl⟩ := List.mem_map.mp hx
        have ha5 := M5.at ha offa'
        have hf5 := M5.at hfa offa
        have M05 := Ma.trans M5
        refine ⟨(show 1 ≤ sizeLine from small (by decide)), fun b nb => ?_⟩
        have sb := Same.new (o := .lst [.str z]) nb
        have hb : upd H5 b (.lst [.str z]) b = some (.lst (([z] : List Str).map V.str)) := upd_same
        have hab := sb _ _ ha5
        have hfb := sb _ _ hf5
        have Db := D5.same sb
        have Mb := M05.trans (Mv.of sb)
        generalize upd H5 b (.lst [.str z]) = Hb at *
        refine ⟨a, b, _, _, rfl, rfl, hab, hb, small (by rw [List.length_map, List.length_map, List.length_take]; show _ + 1 ≤ _; omega), fun c nc => ?_⟩
        rw [← List.map_append]
        have sc := Same.new (o := .lst ((ws.take pn ++ [z]).map V.str)) nc
        have hcc : upd Hb c (.lst ((ws.take pn ++ [z]).map V.str)) c = some (.lst ((ws.take pn ++ [z]).map V.str)) := upd_same
        have hfc := sc _ _ hfb
        have Dc := Db.same sc
        have Mc := Mb.trans (Mv.of sc)
        generalize upd Hb c (.lst ((ws.take pn ++ [z]).map V.str)) = Hc at *
        refine ⟨_, rfl, _, rfl, _, rfl, fa, _, rfl, tofL hfc, fun e ne => ?_⟩
        rw [cut_hi0 ws (by omega), Int.toNat_natCast]
        have se := Same.new (o := .lst ((ws.drop pn).map V.str)) ne
        have he : upd Hc e (.lst ((ws.drop pn).map V.str)) e = some (.lst ((ws.drop pn).map V.str)) := upd_same
        have hce := se _ _ hcc
        have De := Dc.same se
        have Me := Mc.trans (Mv.of se)
        generalize upd Hc e (.lst ((ws.drop pn).map V.str)) = He at *
        refine ⟨c, e, _, _, rfl, rfl, hce, he, small (by rw [List.length_map, List.length_map, List.length_append, List.length_take, List.length_drop]; show _ + 1 + _ ≤ _; omega), fun i ni => ⟨i, _, rfl, De.new ni, Me.trans (Mv.of (Same.new ni)), ?_, bent_put pn (.inr hz)⟩⟩
        rw [upd_same, ← List.map_append]
    rintro σ' H' ⟨fb, found, rfl, D', M', hf', bf⟩
    have lb := bf (fun _ => 1) 100 (fun z hz => by rw [mz_one]; exact oB z hz)
    rw [wt_one, mz_one] at lb
    refine ⟨_, rfl, ⟨_, rfl⟩, _, rfl, y, fb, found, rfl, rfl, .inl (tofL hf'), by omega, q found H' D' M' bf⟩
end
end KW
namespace KW
open PySem PySem.Spec PyProof.Rows L2 GL RZ TL GX
/-! ### a text bent -/
def cO : List Str := ["0", "1", "-", "+", " ", "\n", "=", "k", "x", "_", "A", "  "]
def lO : List Str := ["keep a", "take a", "take mod", "let q = 1", "check 0 = 1", "check 0 = 1 mod 1", "", "keep"]
def wO : List Str := ["0", "1", "-1", "00", "-0", "+1", "+", "-", "=", "mod", "a", "x1", "q", "", "2", repS "9" 60, repS "9" 61, "keep"]
def BentOf (z z' : Str) : Prop := ∀ f M, (∀ o ∈ cO ++ (lO ++ wO), mz f o ≤ M) → mz f z' ≤ 2 * mz f z + (M + 3 * mz f "\n" + 3 * mz f " ")
theorem cutS_lo (z : Str) (n : Nat) : (cutS z none (some (n : Int))).cps.toList = z.cps.toList.take n := by
  have zl : z.length = z.cps.toList.length := (Array.length_toList ..).symm
  unfold cutS
  show ((z.cps.toList.drop _).take _).toArray.toList = _
  rw [List.toList_toArray, show HT.sIx z.length 0 none = 0 from rfl, show HT.sIx z.length z.length (some (n : Int)) = min n z.length from HT.sIx_nat _ _ n, List.drop_zero, Nat.sub_zero, zl]
  by_cases h : n ≤ z.cps.toList.length
  · rw [Nat.min_eq_left h]
  · rw [Nat.min_eq_right (by omega), List.take_of_length_le (Nat.le_refl _), List.take_of_length_le (by omega)]
theorem cutS_hi (z : Str) (n : Nat) : (cutS z (some (n : Int)) none).cps.toList = z.cps.toList.drop n := by
  have zl : z.length = z.cps.toList.length := (Array.length_toList ..).symm
  unfold cutS
  show ((z.cps.toList.drop _).take _).toArray.toList = _
  rw [List.toList_toArray, show HT.sIx z.length 0 (some (n : Int)) = min n z.length from HT.sIx_nat _ _ n, HT.sIx_none, zl]
  rw [List.take_of_length_le (by rw [List.length_drop]; omega)]
  by_cases h : n ≤ z.cps.toList.length
  · rw [Nat.min_eq_left h]
  · rw [Nat.min_eq_right (by omega), List.drop_of_length_le (Nat.le_refl _), List.drop_of_length_le (by omega)]
theorem sum_cut (f : Nat → Nat) (l : List Nat) {n m : Nat} (h : n ≤ m) : ((l.take n).map f).sum + ((l.drop m).map f).sum ≤ (l.map f).sum := by
  have e1 : (l.map f).sum = ((l.take n).map f).sum + ((l.drop n).map f).sum := by rw [← List.sum_append, ← List.map_append, List.take_append_drop]
  have e2 : ((l.drop n).map f).sum = (((l.drop n).take (m - n)).map f).sum + (((l.drop n).drop (m - n)).map f).sum := by rw [← List.sum_append, ← List.map_append, List.take_append_drop]
  rw [List.drop_drop, show n + (m - n) = m by omega] at e2
  omega
theorem mz_cut (f : Nat → Nat) (z : Str) {n m : Nat} (h : n ≤ m) : mz f (cutS z none (some (n : Int))) + mz f (cutS z (some (m : Int)) none) ≤ mz f z := by
  unfold mz
  rw [show tl (cutS z none (some (n : Int))) = (tl z).take n from cutS_lo z n, show tl (cutS z (some (m : Int)) none) = (tl z).drop m from cutS_hi z m]
  exact sum_cut f _ h
theorem mz_rep (f : Nat → Nat) (z : Str) {r : Int} (h0 : 0 ≤ r) (h1 : r < 2) : mz f (repS z r) ≤ mz f z := by
  unfold mz
  rw [show tl (repS z r) = (List.replicate r.toNat (tl z)).flatten from repS_list z r]
  rcases (show r = 0 ∨ r = 1 by omega) with rfl | rfl
  · exact Nat.zero_le _
  · show ((tl z ++ []).map f).sum ≤ _
    rw [List.append_nil]
    exact Nat.le_refl _
theorem odd_len : ∀ o ∈ cO ++ (lO ++ wO), o.length ≤ 100 := fun o ho => by
  have h : ∀ o ∈ cO ++ (lO ++ wO), o.length ≤ 100 := by decide +kernel
  exact h o ho
def spBent : Sp := fun vs H Q _ => ∃ (d g : Addr) (z : Str), vs = [.ref d, .str z] ∧ Deck H d g ∧ z.length ≤ 31000 ∧ ∀ (z' : Str) (H' : Hp), Deck H' d g → Mv d g H H' → BentOf z z' → Q (.str z') H'
section
variable {P : Program} {w : World} {K : PySem.W.Frag} {mg : Str → Option Value} {base : Heap}
abbrev s_bent : Stmt := topS 44
theorem sc_bent : FnScope ["_law_deck_here", "_law_value_here", "_law_way", "_law_at", "_law_parts", "_law_more", "_law_odd", "_law_spot"] ["_law_deck_here", "_law_value_here"] (defScope s_bent) := ⟨rfl, rfl, rfl, by decide +kernel, rfl, by decide +kernel, by decide +kernel⟩
theorem ok_bent {f : Addr} {fd : FuncData} (F : Fun K "_law_bent" "_law_bent" s_bent f fd) (gl : mg "_law_bent" = some (.ref f)) (T : Bl mg) (D_draw : DefG P w K mg base 1 "_law_draw" ["_law_deck_here", "_law_many"] spDraw) (D_pick : DefG P w K mg base 2 "_law_pick" ["_law_deck_here", "_law_some"] spPickL)
    (D_bent_row : DefG P w K mg base 3 "_law_bent_row" ["_law_deck_here", "_law_some", "_law_odd", "_law_joint"] spBentRow) : DefG P w K mg base 4 "_law_bent" ["_law_deck_here", "_law_value_here"] spBent := by
  refine def_mk F gl (F.binds fun _ _ _ _ _ _ us hl => match us, hl with | [_, _], _ => rfl) (okG F sc_bent (fun vs H Q E h => ?_) fun cdv A outer s H vs Q E hr hc h => ?_)
  · obtain ⟨d, g, z, rfl, _⟩ := h
    rfl
  · obtain ⟨d, g, z, rfl, D, zl, q⟩ := h
    have nd := sc_bent.nd
    refine ⟨_, (pss_cons (ps_par3 (i := 2) (j := 3) (l := 4) rfl nd rfl rfl rfl (by decide) (by decide) (by decide) rfl rfl rfl (pa_cons (pe_def D_draw (hr.mono (by decide)) hc (by rfl) (pa_cons (pv 0) (pa_cons pe_int pa_nil))) (pa_cons (pe_def D_draw (hr.mono (by decide)) hc (by rfl) (pa_cons (pv 0) (pa_cons (pe_op op_add (pe_callB call_len_str (by rfl) T.len boot_len (pa_cons (pv 1) pa_nil)) pe_int) pa_nil))) (pa_cons (pe_bm PySem.F.plainAttrs_str PySem.F.slot_str_split PySem.F.type_str_split mt_split (pv 1) (pa_cons pe_str pa_nil)) pa_nil))) rfl)
      (pss_cons (ps_if (pt_cmpR op_eq (pv 2) pe_int (nomark _))
        (pss_cons (ps_set (i := 5) nd rfl (by first | exact Or.inl rfl | exact Or.inr rfl) (pe_def D_pick (hr.mono (by decide)) hc (by rfl) (pa_cons (pv 0) (pa_cons (pe_lst (pa_cons pe_str (pa_cons pe_str (pa_cons pe_str (pa_cons pe_str (pa_cons pe_str (pa_cons pe_str (pa_cons pe_str (pa_cons pe_str (pa_cons pe_str (pa_cons pe_str (pa_cons pe_str (pa_cons pe_str pa_nil))))))))))))) pa_nil))))
        (pss_one (ps_ret (pe_op op_add_str (pe_op op_add_str (pe_slice sl_str (pv 1) po_none (po_some (pv 3))) (pe_op op_repS (pv 5) (pe_def D_draw (hr.mono (by decide)) hc (by rfl) (pa_cons (pv 0) (pa_cons pe_int pa_nil))))) (pe_slice sl_str (pv 1) (po_some (pe_op op_add (pv 3) (pe_def D_draw (hr.mono (by decide)) hc (by rfl) (pa_cons (pv 0) (pa_cons pe_int pa_nil))))) po_none)))))
        pss_nil)
      (pss_cons (ps_if (pt_cmpR op_eq (pv 2) pe_int (nomark _))
        (pss_cons (ps_set (i := 6) nd rfl (by first | exact Or.inl rfl | exact Or.inr rfl) (pe_lst (pa_cons pe_str (pa_cons pe_str (pa_cons pe_str (pa_cons pe_str (pa_cons pe_str (pa_cons pe_str (pa_cons pe_str (pa_cons pe_str pa_nil))))))))))
        (pss_one (ps_ret (pe_def D_bent_row (hr.mono (by decide)) hc (by rfl) (pa_cons (pv 0) (pa_cons (pv 4) (pa_cons (pv 6) (pa_cons pe_str pa_nil))))))))
        pss_nil)
      (pss_cons (ps_set (i := 7) nd rfl (by first | exact Or.inl rfl | exact Or.inr rfl) (pe_def D_draw (hr.mono (by decide)) hc (by rfl) (pa_cons (pv 0) (pa_cons (pe_callB call_len_seq (by rfl) T.len boot_len (pa_cons (pv 4) pa_nil)) pa_nil))))
      (pss_cons (ps_set (i := 6) nd rfl (by first | exact Or.inl rfl | exact Or.inr rfl) (pe_lst (pa_cons pe_str (pa_cons pe_str (pa_cons pe_str (pa_cons pe_str (pa_cons pe_str (pa_cons pe_str (pa_cons pe_str (pa_cons pe_str (pa_cons pe_str (pa_cons pe_str (pa_cons pe_str (pa_cons pe_str (pa_cons pe_str (pa_cons pe_str (pa_cons pe_str (pa_cons (pe_op op_repS pe_str pe_int) (pa_cons (pe_op op_repS pe_str pe_int) (pa_cons pe_str pa_nil))))))))))))))))))))
      (pss_cons (ps_asg (pe_def D_bent_row (hr.mono (by decide)) hc (by rfl) (pa_cons (pv 0) (pa_cons (pe_bm PySem.F.plainAttrs_str PySem.F.slot_str_split PySem.F.type_str_split mt_split (pe_ix ix_list (pv 4) (pv 7) (fun _ _ => rfl)) (pa_cons pe_str pa_nil)) (pa_cons (pv 6) (pa_cons pe_str pa_nil))))) (pg_sub (pv 4) (pv 7) set_list))
      (pss_one (ps_ret (pe_join pe_str (pv 4)))))))))), ?_⟩
    have zs : z.length ≤ sizeLine := small (by omega)
    have big : ∀ {n : Nat}, n ≤ 16777216 → n ≤ sizeLine := fun {n} h => by rw [sizeLine_eq]; exact h
    refine ⟨_, rfl, d, g, 4, rfl, D, by decide, by decide, fun way H1 _ _ D1 M1 => ?_⟩
    refine ⟨_, rfl, _, rfl, z, rfl, zs, _, _, rfl, rfl, d, g, _, rfl, D1, by omega, by omega, fun at_ H2 a0 a1 D2 M2 => ?_⟩
    have M02 := M1.trans M2
    obtain ⟨an, rfl⟩ : ∃ n : Nat, at_ = (n : Int) := ⟨at_.toNat, by omega⟩
    refine ⟨_, rfl, rfl, z, "\n", rfl, rfl, by decide +kernel, Nat.le_trans (Nat.add_le_add_right zl 2) (by decide), fun L nL => ?_⟩
    obtain ⟨u1, u2, u3⟩ := split_few z "\n" (by decide +kernel)
    have wl : ∀ f, wt f "\n" (Txt.split z "\n") = mz f z + mz f "\n" := fun f => wt_split f z "\n"
    generalize Txt.split z "\n" = ls at *
    have offL := D2.off nL
    have nLH : H L = none := M02.free D D2 nL
    have sL := Same.new (o := .lst (ls.map V.str)) nL
    have hL : upd H2 L (.lst (ls.map V.str)) L = some (.lst (ls.map V.str)) := upd_same
    have D3 := D2.same sL
    have M03 := M02.trans (Mv.of sL)
    generalize upd H2 L (.lst (ls.map V.str)) = H3 at *
    have lne : ls ≠ [] := fun e => by rw [e] at u1; exact absurd u1 (by decide)
    have one : mz (fun _ => 1) ("\n" : Str) = 1 := by decide +kernel
    have ones : mz (fun _ => 1) (" " : Str) = 1 := by decide +kernel
    have l1 : ("\n" : Str).length ≤ 1 := by decide +kernel
    have l1s : (" " : Str).length ≤ 1 := by decide +kernel
    refine ⟨_, _, _, rfl, ?_⟩
    refine ⟨_, rfl, rfl, _, rfl, ite2 (fun _ => ?_) (fun _ => ?_)⟩
    · -- signs put in, one left out
      refine ⟨_, rfl, (show 12 ≤ sizeLine from small (by decide)), fun a na => ?_⟩
      refine ⟨d, g, a, cO.map V.str, rfl, D3.new na, upd_same, (D3.off na).2, by decide, by decide, fun x H5 hx D5 M5 => ?_⟩
      obtain ⟨m, hm, rfl⟩ := List.mem_map.mp hx
      have M05 := M03.trans ((Mv.of (Same.new na)).trans M5)
      have ml : m.length ≤ 100 := odd_len m (List.mem_append_left _ hm)
      refine ⟨_, rfl, _, rfl, _, rfl, z, rfl, zs, _, rfl, _, rfl, d, g, 2, rfl, D5, by decide, by decide, fun r H6 r0 r1 D6 M6 => ?_⟩
      refine ⟨m, r, rfl, rfl, r0, by omega, by omega, ?_⟩
      have k1 : (cutS z none (some ((an : Nat) : Int))).length ≤ z.length := by rw [str_len2, str_len2]; exact cut_len z _ _
      have k2 : (repS m r).length ≤ 100 := by
        have := mz_rep (fun _ => 1) m r0 r1
        rw [mz_one, mz_one] at this
        omega
      refine ⟨_, _, rfl, rfl, small (by omega), ?_⟩
      refine ⟨_, rfl, _, rfl, _, rfl, d, g, 2, rfl, D6, by decide, by decide, fun r2 H7 s0 s1 D7 M7 => ?_⟩
      refine ⟨_, _, rfl, rfl, _, rfl, z, rfl, zs, ?_⟩
      obtain ⟨rn, rfl⟩ : ∃ n : Nat, r2 = (n : Int) := ⟨r2.toNat, by omega⟩
      rw [show ((an : Nat) : Int) + ((rn : Nat) : Int) = ((an + rn : Nat) : Int) by omega]
      have k3 : (cutS z (some ((an + rn : Nat) : Int)) none).length ≤ z.length := by rw [str_len2, str_len2]; exact cut_len z _ _
      have k4 : (cutS z none (some ((an : Nat) : Int)) ++ repS m r).length ≤ 32000 := by
        have := mz_app (fun _ => 1) (cutS z none (some ((an : Nat) : Int))) (repS m r)
        rw [mz_one, mz_one, mz_one] at this
        omega
      refine ⟨_, _, rfl, rfl, small (by omega), ?_⟩
      refine q _ H7 D7 (M05.trans (M6.trans M7)) fun f M h => ?_
      rw [mz_app, mz_app]
      have c1 := mz_cut f z (n := an) (m := an + rn) (by omega)
      have c2 := mz_rep f m r0 r1
      have c3 := h m (List.mem_append_left _ hm)
      omega
    refine ⟨_, rfl, rfl, _, rfl, ite2 (fun _ => ?_) (fun _ => ?_)⟩
    · -- lines
      refine ⟨(show 8 ≤ sizeLine from small (by decide)), fun a na => ?_⟩
      have sa := Same.new (o := .lst [.str "keep a", .str "take a", .str "take mod", .str "let q = 1", .str "check 0 = 1", .str "check 0 = 1 mod 1", .str "", .str "keep"]) na
      have offa := D3.off na
      refine ⟨_, rfl, _, rfl, _, rfl, d, g, L, a, ls, lO, "\n", rfl, D3.same sa, sa _ _ hL, offL.2, lne, by omega, by rw [wl, mz_one, one]; omega, upd_same, offa.2, by decide, by decide, (fun z hz => odd_len z (List.mem_append_right _ (List.mem_append_left _ hz))), l1, fun found H' D' M' bf => ?_⟩
      refine q _ H' D' (M03.trans ((Mv.of sa).trans M')) fun f M h => ?_
      have b1 := bf f M fun o ho => h o (List.mem_append_right _ (List.mem_append_left _ ho))
      have b2 := mz_join_le f "\n" found
      rw [wl] at b1
      omega
    -- words of a line
    refine ⟨_, rfl, _, rfl, L, _, rfl, .inl (tofL hL), d, g, _, rfl, D3, by rw [List.length_map]; omega, by rw [List.length_map]; omega, fun sp H4 s0 s1 D4 M4 => ?_⟩
    rw [List.length_map] at s1
    obtain ⟨sn, rfl⟩ : ∃ n : Nat, sp = (n : Int) := ⟨sp.toNat, by omega⟩
    obtain ⟨ln, hln⟩ : ∃ u, ls[sn]? = some u := ⟨_, List.getElem?_eq_getElem (by omega)⟩
    have hL4 := M4.at hL offL
    have M04 := M03.trans M4
    refine ⟨_, _, rfl, rfl, by decide, by decide, by decide +kernel, _, _, rfl, rfl, by decide, by decide, by decide +kernel, (show 18 ≤ sizeLine from small (by decide)), fun a na => ?_⟩
    have offa := D4.off na
    have sa := Same.new (o := .lst (wO.map V.str)) na
    have ha : upd H4 a (.lst (wO.map V.str)) a = some (.lst (wO.map V.str)) := upd_same
    have hLa := sa _ _ hL4
    have Da := D4.same sa
    have Ma := M04.trans (Mv.of sa)
    have eO : (HO.lst (wO.map V.str)) = .lst [.str "0", .str "1", .str "-1", .str "00", .str "-0", .str "+1", .str "+", .str "-", .str "=", .str "mod", .str "a", .str "x1", .str "q", .str "", .str "2", .str (repS "9" 60), .str (repS "9" 61), .str "keep"] := rfl
    rw [eO] at ha hLa Da Ma sa
    generalize upd H4 a (.lst [.str "0", .str "1", .str "-1", .str "00", .str "-0", .str "+1", .str "+", .str "-", .str "=", .str "mod", .str "a", .str "x1", .str "q", .str "", .str "2", .str (repS "9" 60), .str (repS "9" 61), .str "keep"]) = Ha at *
    rw [← eO] at ha
    have ats : atI (ls.map V.str) ((sn : Nat) : Int) = some (V.str ln) := atI_nat (by rw [List.getElem?_map, hln]; rfl)
    have lnl : ln.length ≤ z.length := u3 ln (List.mem_of_getElem? hln)
    refine ⟨_, rfl, _, rfl, _, rfl, L, _, _, _, rfl, rfl, tofL hLa, ats, rfl, ln, " ", rfl, rfl, by decide +kernel, Nat.le_trans (Nat.add_le_add_right (Nat.le_trans lnl zl) 2) (by decide), fun W nW => ?_⟩
    obtain ⟨v1, v2, v3⟩ := split_few ln " " (by decide +kernel)
    have wl2 : ∀ f, wt f " " (Txt.split ln " ") = mz f ln + mz f " " := fun f => wt_split f ln " "
    generalize Txt.split ln " " = ws at *
    have offW := Da.off nW
    have sW := Same.new (o := .lst (ws.map V.str)) nW
    have hW : upd Ha W (.lst (ws.map V.str)) W = some (.lst (ws.map V.str)) := upd_same
    have haW := sW _ _ ha
    have hLW := sW _ _ hLa
    have DW := Da.same sW
    have MW := Ma.trans (Mv.of sW)
    generalize upd Ha W (.lst (ws.map V.str)) = HW at *
    have wne : ws ≠ [] := fun e => by rw [e] at v1; exact absurd v1 (by decide)
    refine ⟨_, rfl, d, g, W, a, ws, wO, " ", rfl, DW, hW, offW.2, wne, by omega, by rw [wl2, mz_one, ones]; omega, haW, offa.2, by decide, by decide, (fun z hz => odd_len z (List.mem_append_right _ (List.mem_append_right _ hz))), l1s, fun found H5 D5 M5 bf => ?_⟩
    have hL5 := M5.at hLW offL
    have M05 := MW.trans M5
    refine ⟨_, rfl, _, rfl, L, _, _, sn, rfl, rfl, hL5, ixN_of (by omega) (by rw [List.length_map]; omega), ?_⟩
    have fin : ∀ f M, (∀ o ∈ cO ++ (lO ++ wO), mz f o ≤ M) → wt f "\n" (ls.set sn (Txt.join " " found)) ≤ 2 * mz f z + (M + mz f "\n" + mz f "\n" + 3 * mz f " ") := fun f M h => by
      have b1 := bf f M fun o ho => h o (List.mem_append_right _ (List.mem_append_right _ ho))
      have b2 := mz_join_le f " " found
      have b3 := wt_set f "\n" (Txt.join " " found) ls sn ln hln
      have b4 := wt_mem (f := f) (y := "\n") (List.mem_of_getElem? hln)
      rw [wl2] at b1
      rw [wl] at b3 b4
      omega
    have lb := fin (fun _ => 1) 100 (fun o ho => by rw [mz_one]; exact odd_len o ho)
    rw [wt_one, mz_one, one, ones] at lb
    have e5 : (ls.map V.str).set sn (V.str (Txt.join " " found)) = (ls.set sn (Txt.join " " found)).map V.str := List.map_set.symm
    refine ⟨⟨_, rfl⟩, _, rfl, "\n", L, ls.set sn (Txt.join " " found), rfl, rfl, .inl (tofL (by rw [upd_same]; exact congrArg (fun x => some (HO.lst x)) e5)), by omega, ?_⟩
    refine q _ _ (D5.mut offL) (M05.mut nLH) fun f M h => ?_
    have b1 := fin f M h
    have b2 := mz_join_le f "\n" (ls.set sn (Txt.join " " found))
    omega
end
end KW
namespace KW
open PySem PySem.Spec PyProof.Rows L2 GL RZ TL
theorem tups_mv {H H' : Hp} {d g : Addr} (D : Deck H d g) (m : Mv d g H H') : ∀ a xs, H a = some (.tup xs) → H' a = some (.tup xs) := fun a xs h => by
  obtain ⟨k, L, h1, h2, _⟩ := D.ex
  exact m.keep _ _ h (ne_of h h1 (fun z => nomatch z)) (ne_of h h2 (fun z => nomatch z))

/-! ### terms and lines as they lie -/
def nmV : Option Str → V
  | none => .non
  | some n => .str n
def tmV (t : Tm) : List V := [.int t.1, .int t.2.1, nmV t.2.2.1, .bl t.2.2.2]
inductive TmAt (H : Hp) : List V → List Tm → Prop
  | nil : TmAt H [] []
  | cons {p : Addr} {t : Tm} {xs : List V} {ts : List Tm} : H p = some (.tup (tmV t)) → TmAt H xs ts → TmAt H (.ref p :: xs) (t :: ts)
theorem TmAt.len {H : Hp} : ∀ {xs : List V} {ts : List Tm}, TmAt H xs ts → xs.length = ts.length
  | _, _, .nil => rfl
  | _, _, .cons _ t => congrArg Nat.succ t.len
theorem TmAt.to {H H' : Hp} (k : ∀ a xs, H a = some (.tup xs) → H' a = some (.tup xs)) : ∀ {xs : List V} {ts : List Tm}, TmAt H xs ts → TmAt H' xs ts
  | _, _, .nil => .nil
  | _, _, .cons a t => .cons (k _ _ a) (t.to k)
theorem TmAt.snoc {H : Hp} {p : Addr} {t : Tm} (h : H p = some (.tup (tmV t))) : ∀ {xs : List V} {ts : List Tm}, TmAt H xs ts → TmAt H (xs ++ [.ref p]) (ts ++ [t])
  | _, _, .nil => .cons h .nil
  | _, _, .cons a r => .cons a (r.snoc h)
theorem TmAt.app {H : Hp} : ∀ {xs ys : List V} {ts us : List Tm}, TmAt H xs ts → TmAt H ys us → TmAt H (xs ++ ys) (ts ++ us)
  | _, _, _, _, .nil, h => h
  | _, _, _, _, .cons a r, h => .cons a (r.app h)
theorem TmAt.rev {H : Hp} : ∀ {xs : List V} {ts : List Tm}, TmAt H xs ts → TmAt H xs.reverse ts.reverse
  | _, _, .nil => .nil
  | _, _, .cons a r => by
    rw [List.reverse_cons, List.reverse_cons]
    exact r.rev.snoc a
theorem TmAt.get {H : Hp} : ∀ {xs : List V} {ts : List Tm} {i : Nat} {v : V}, TmAt H xs ts → xs[i]? = some v → ∃ p t, v = .ref p ∧ H p = some (.tup (tmV t)) ∧ ts[i]? = some t
  | _, _, _, _, .nil, e => by cases e
  | _, _, 0, _, .cons a t, e => by cases e; exact ⟨_, _, rfl, a, rfl⟩
  | _, _, i + 1, _, .cons a t, e => TmAt.get (i := i) t (by simpa using e)
def Sml (t : Tm) : Prop := (-1 ≤ t.1 ∧ t.1 ≤ 1) ∧ -100 < t.2.1 ∧ t.2.1 < 100
def SumAt (H : Hp) (l : Addr) (ts : List Tm) : Prop := ∃ xs, H l = some (.lst xs) ∧ TmAt H xs ts ∧ ∀ t ∈ ts, Sml t
def Known (kn : List Str) : Prop := kn.length ≤ 20 ∧ ∀ z ∈ kn, nameB z = true
def spSum : Sp := fun vs H Q _ => ∃ (d g k : Addr) (kn : List Str), vs = [.ref d, .ref k] ∧ Deck H d g ∧ H k = some (.lst (kn.map V.str)) ∧ k ≠ g ∧ Known kn ∧
  ∀ (l : Addr) (ts : List Tm) (H' : Hp), Deck H' d g → Mv d g H H' → H l = none → l ≠ g → SumAt H' l ts → OkSm kn ts → Q (.ref l) H'
section
variable {P : Program} {w : World} {K : PySem.W.Frag} {mg : Str → Option Value} {base : Heap}
abbrev s_sum : Stmt := topS 27
theorem sc_sum : FnScope ["_law_deck_here", "_law_known_here", "_law_found", "_law_k", "_law_kind", "_law_sign"] ["_law_deck_here", "_law_known_here"] (defScope s_sum) := ⟨rfl, rfl, rfl, by decide +kernel, rfl, by decide +kernel, by decide +kernel⟩
theorem ok_lsum {f : Addr} {fd : FuncData} (F : Fun K "_law_sum" "_law_sum" s_sum f fd) (gl : mg "_law_sum" = some (.ref f)) (T : Bl mg) (D_draw : DefG P w K mg base 1 "_law_draw" ["_law_deck_here", "_law_many"] spDraw) (D_pick : DefG P w K mg base 2 "_law_pick" ["_law_deck_here", "_law_some"] spPickL) :
    DefG P w K mg base 3 "_law_sum" ["_law_deck_here", "_law_known_here"] spSum := by
  refine def_mk F gl (F.binds fun _ _ _ _ _ _ us hl => match us, hl with | [_, _], _ => rfl) (okG F sc_sum (fun vs H Q E h => ?_) fun cdv A outer s H vs Q E hr hc h => ?_)
  · obtain ⟨d, g, k, kn, rfl, _⟩ := h
    rfl
  · obtain ⟨d, g, k, kn, rfl, D, hk, nkg, ⟨k20, knm⟩, q⟩ := h
    have nd := sc_sum.nd
    have hu64 := hr.units
    refine ⟨_, (pss_cons (ps_set (i := 2) nd rfl (by first | exact Or.inl rfl | exact Or.inr rfl) (pe_lst pa_nil))
      (pss_cons (ps_for PassesOwn.never rfl (pi_range1 (by rfl) T.range (pa_cons (pe_op op_add pe_int (pe_def D_draw (hr.mono (by decide)) hc (by rfl) (pa_cons (pv 0) (pa_cons pe_int pa_nil)))) pa_nil)) (pg_name (i := 3) nd rfl (by first | exact Or.inl rfl | exact Or.inr rfl))
        (pss_cons (ps_par (i := 4) (j := 5) rfl nd rfl rfl (by decide) rfl rfl (pa_cons (pe_def D_draw (hr.mono (by decide)) hc (by rfl) (pa_cons (pv 0) (pa_cons pe_int pa_nil))) (pa_cons (pe_def D_pick (hr.mono (by decide)) hc (by rfl) (pa_cons (pv 0) (pa_cons (pe_lst (pa_cons pe_int (pa_cons pe_int (pa_cons (pe_un un_neg pe_int) pa_nil)))) pa_nil))) pa_nil)) rfl)
        (pss_one (ps_if (PW.pt (pw_or (pt_cmpR (op_eqP (K := K) hu64) (pv 1) (pe_lst pa_nil) (nomark _)) (pw_or1 (pt_cmpR op_eq (pv 4) pe_int (nomark _)))))
          (pss_one (ps_expr (pe_bm PySem.F.plainAttrs_list PySem.F.slot_list_append PySem.F.type_list_append mt_append (pv 2) (pa_cons (pe_tup (pa_cons (pv 5) (pa_cons (pe_def D_draw (hr.mono (by decide)) hc (by rfl) (pa_cons (pv 0) (pa_cons pe_int pa_nil))) (pa_cons pe_non (pa_cons pe_bl pa_nil))))) pa_nil))))
          (pss_one (ps_if (pt_cmpR op_lt (pv 4) pe_int (nomark _))
            (pss_one (ps_expr (pe_bm PySem.F.plainAttrs_list PySem.F.slot_list_append PySem.F.type_list_append mt_append (pv 2) (pa_cons (pe_tup (pa_cons (pv 5) (pa_cons pe_int (pa_cons (pe_def D_pick (hr.mono (by decide)) hc (by rfl) (pa_cons (pv 0) (pa_cons (pv 1) pa_nil))) (pa_cons pe_bl pa_nil))))) pa_nil))))
            (pss_one (ps_expr (pe_bm PySem.F.plainAttrs_list PySem.F.slot_list_append PySem.F.type_list_append mt_append (pv 2) (pa_cons (pe_tup (pa_cons (pv 5) (pa_cons (pe_def D_draw (hr.mono (by decide)) hc (by rfl) (pa_cons (pv 0) (pa_cons pe_int pa_nil))) (pa_cons (pe_def D_pick (hr.mono (by decide)) hc (by rfl) (pa_cons (pv 0) (pa_cons (pv 1) pa_nil))) (pa_cons pe_bl pa_nil))))) pa_nil))))))))))
      (pss_one (ps_ret (pv 2))))), ?_⟩
    have nkd : k ≠ d := by obtain ⟨m, L, h1, _⟩ := D.ex; exact (ne_of h1 hk (fun z => nomatch z)).symm
    refine ⟨Nat.zero_le _, fun p np => ?_⟩
    have offp := D.off np
    have D1 := D.new (o := .lst []) np
    have hp1 : upd H p (.lst []) p = some (.lst []) := upd_same
    have s1 := Same.new (o := .lst []) np
    have nkp : k ≠ p := ne_of_none hk np
    have hk1 := s1 _ _ hk
    generalize upd H p (.lst []) = H1 at *
    refine ⟨_, rfl, d, g, 3, rfl, D1, by decide, by decide, fun r3 H2 r30 r31 D2 M2 => ⟨1, r3, rfl, rfl, 1 + r3, rfl, by omega, by omega, ?_⟩⟩
    have M02 : Mv d g H H2 := (Mv.of s1).trans M2
    refine for_range (fun i σ Hx => Deck Hx d g ∧ Mv d g H Hx ∧ ∃ (xs : List V) (ts : List Tm) (v3 v4 v5 : Option V), σ = [some (.ref d), some (.ref k), some (.ref p), v3, v4, v5] ∧ Hx k = some (.lst (kn.map V.str)) ∧ Hx p = some (.lst xs) ∧ TmAt Hx xs ts ∧ ts.length = i ∧ ∀ t ∈ ts, OkT kn t ∧ Sml t)
      ⟨D2, M02, [], [], none, none, none, rfl, M2.at hk1 ⟨nkd, nkg⟩, M2.at hp1 offp, .nil, rfl, fun t ht => nomatch ht⟩ ?_ ?_
    · rintro i σ Hx hi ⟨Dx, Mx, xs, ts, v3, v4, v5, rfl, hkx, hpx, hT, hl, hok⟩
      refine ⟨_, rfl, d, g, 5, rfl, Dx, by decide, by decide, fun kind Ha a0 a1 Da Ma => ⟨_, rfl, 1, rfl, (show 3 ≤ sizeLine from small (by decide)), fun pc npc => ?_⟩⟩
      have offc := Da.off npc
      refine ⟨d, g, pc, _, rfl, Da.new npc, upd_same, offc.2, (fun z => nomatch z), (show 3 ≤ 1000 by decide), fun sgv Hb hsg Db Mb => ?_⟩
      have hsgn : ∃ sg : Int, sgv = .int sg ∧ -1 ≤ sg ∧ sg ≤ 1 := by
        rcases List.mem_cons.mp hsg with rfl | hsg
        · exact ⟨_, rfl, by decide, by decide⟩
        rcases List.mem_cons.mp hsg with rfl | hsg
        · exact ⟨_, rfl, by decide, by decide⟩
        rcases List.mem_cons.mp hsg with rfl | hsg
        · exact ⟨_, rfl, by decide, by decide⟩
        · cases hsg
      obtain ⟨sg, rfl, sg0, sg1⟩ := hsgn
      refine ⟨_, _, rfl, ?_⟩
      have Mxb : Mv d g Hx Hb := Ma.trans ((Mv.of (Same.new npc)).trans Mb)
      have hkb : Hb k = some (.lst (kn.map V.str)) := Mxb.at hkx ⟨nkd, nkg⟩
      have hpb : Hb p = some (.lst xs) := Mxb.at hpx offp
      have hTb := hT.to (tups_mv Dx Mxb)
      have MHb := Mx.trans Mxb
      have fin : ∀ (Hc : Hp) (t : Tm) (tp : Addr), Deck Hc d g → Mv d g Hb Hc → OkT kn t ∧ Sml t → Hc tp = none → upd Hc tp (.tup (tmV t)) p = some (.lst xs) ∧ (xs.length < sizeLine) ∧ Deck (upd (upd Hc tp (.tup (tmV t))) p (.lst (xs ++ [.ref tp]))) d g ∧ Mv d g H (upd (upd Hc tp (.tup (tmV t))) p (.lst (xs ++ [.ref tp]))) ∧
          ∃ (xs' : List V) (ts' : List Tm) (v3' v4' v5' : Option V), [some (.ref d), some (.ref k), some (.ref p), some (.int (0 + (i : Nat))), some (.int kind), some (.int sg)] = [some (.ref d), some (.ref k), some (.ref p), v3', v4', v5'] ∧ upd (upd Hc tp (.tup (tmV t))) p (.lst (xs ++ [.ref tp])) k = some (.lst (kn.map V.str)) ∧ upd (upd Hc tp (.tup (tmV t))) p (.lst (xs ++ [.ref tp])) p = some (.lst xs') ∧ TmAt (upd (upd Hc tp (.tup (tmV t))) p (.lst (xs ++ [.ref tp]))) xs' ts' ∧ ts'.length = i + 1 ∧ ∀ t ∈ ts', OkT kn t ∧ Sml t := fun Hc t tp Dc Mc ok ntp => by
        have hpc : Hc p = some (.lst xs) := Mc.at hpb offp
        have hkc : Hc k = some (.lst (kn.map V.str)) := Mc.at hkb ⟨nkd, nkg⟩
        have npt : p ≠ tp := ne_of_none hpc ntp
        have nkt : k ≠ tp := ne_of_none hkc ntp
        have st := Same.new (o := .tup (tmV t)) ntp
        have kt : ∀ a ys, Hb a = some (.tup ys) → upd (upd Hc tp (.tup (tmV t))) p (.lst (xs ++ [.ref tp])) a = some (.tup ys) := fun a ys ha => by
          rw [upd_ne (ne_of ha hpb (fun z => nomatch z))]
          exact st _ _ (tups_mv Db Mc _ _ ha)
        refine ⟨by rw [upd_ne npt]; exact hpc, by rw [hT.len]; exact smallt (by omega), (Dc.new ntp).mut offp, ((MHb.trans Mc).trans (Mv.of st)).mut np, xs ++ [.ref tp], ts ++ [t], _, _, _, rfl, ?_, upd_same, ?_, by rw [List.length_append, hl]; rfl, ?_⟩
        · rw [upd_ne nkp, upd_ne nkt]; exact hkc
        · exact (hTb.to kt).snoc (by rw [upd_ne npt.symm]; exact upd_same)
        · intro y hy
          rcases List.mem_append.mp hy with hy | hy
          · exact hok y hy
          · rw [List.mem_singleton.mp hy]; exact ok
      have pk : ∀ {Hc : Hp}, Deck Hc d g → Mv d g Hb Hc → kn ≠ [] → ∀ (Qq : VK), (∀ (n : Str) (H' : Hp), n ∈ kn → Deck H' d g → Mv d g Hb H' → Qq (.str n) H') → spPickL [.ref d, .ref k] Hc Qq E0 := fun {Hc} Dc Mc hne Qq qq => by
        refine ⟨d, g, k, _, rfl, Dc, Mc.at hkb ⟨nkd, nkg⟩, nkg, (fun z => hne (List.map_eq_nil_iff.mp z)), by rw [List.length_map]; omega, fun x H' hx D' M' => ?_⟩
        obtain ⟨n, hn, rfl⟩ := List.mem_map.mp hx
        exact qq n H' hn D' (Mc.trans M')
      have okN : ∀ f : Int, 0 ≤ f → f < 10 → OkT kn (sg, f, none, false) ∧ Sml (sg, f, none, false) := fun f h0 h1 => ⟨⟨⟨h0, by show f < 10 ^ 60; omega⟩, fun n e => nomatch e⟩, ⟨sg0, sg1⟩, by show -100 < f; omega, by show f < 100; omega⟩
      have okS : ∀ (f : Int) (n : Str) (b : Bool), 0 ≤ f → f < 10 → n ∈ kn → OkT kn (sg, f, some n, b) ∧ Sml (sg, f, some n, b) := fun f n b h0 h1 hn => ⟨⟨⟨h0, by show f < 10 ^ 60; omega⟩, fun m e => by cases e; exact ⟨hn, knm n hn⟩⟩, ⟨sg0, sg1⟩, by show -100 < f; omega, by show f < 100; omega⟩
      refine ⟨_, rfl, Nat.zero_le _, fun o no => ?_⟩
      have so := Same.new (o := .lst []) no
      have Do := Db.new (o := .lst []) no
      have Mo : Mv d g Hb (upd Hb o (.lst [])) := Mv.of so
      refine ⟨.list (kn.map PyData.str), .list (([] : List Str).map PyData.str), .lst (tofL (so _ _ hkb)) (dpa_strs _), .lst (tofL upd_same) (dpa_strs []), plain_strs _, plain_strs _, depth_strs _, _, rfl, ?_⟩
      rw [eqv_strs]
      generalize upd Hb o (.lst []) = Ho at *
      have hpo : Ho p = some (.lst xs) := Mo.at hpb offp
      refine ite2 (fun e => ?_) (fun e => ?_)
      · refine ⟨_, rfl, ty_l (tofL hpo), _, rfl, _, rfl, d, g, 10, rfl, Do, by decide, by decide, fun f Hc f0 f1 Dc Mc => ⟨(show 4 ≤ sizeLine from small (by decide)), fun tp ntp => ?_⟩⟩
        obtain ⟨a1, a2, a3⟩ := fin Hc (sg, f, none, false) tp Dc (Mo.trans Mc) (okN f f0 f1) ntp
        exact ⟨p, _, _, rfl, rfl, a1, a2, a3⟩
      · have hne : kn ≠ [] := fun z => e (decide_eq_true z)
        refine ⟨_, rfl, rfl, _, rfl, ite2 (fun e2 => ?_) (fun e2 => ?_)⟩
        · refine ⟨_, rfl, ty_l (tofL hpo), _, rfl, _, rfl, d, g, 10, rfl, Do, by decide, by decide, fun f Hc f0 f1 Dc Mc => ⟨(show 4 ≤ sizeLine from small (by decide)), fun tp ntp => ?_⟩⟩
          obtain ⟨a1, a2, a3⟩ := fin Hc (sg, f, none, false) tp Dc (Mo.trans Mc) (okN f f0 f1) ntp
          exact ⟨p, _, _, rfl, rfl, a1, a2, a3⟩
        refine ⟨_, rfl, kind, 3, rfl, rfl, _, rfl, ite2 (fun e3 => ?_) (fun e3 => ?_)⟩
        · refine ⟨_, rfl, ty_l (tofL hpo), _, rfl, _, rfl, _, rfl, ?_⟩
          refine pk Do Mo hne _ fun n Hc hn Dc Mc => ⟨(show 4 ≤ sizeLine from small (by decide)), fun tp ntp => ?_⟩
          obtain ⟨a1, a2, a3⟩ := fin Hc (sg, 1, some n, true) tp Dc Mc (okS 1 n true (by decide) (by decide) hn) ntp
          exact ⟨p, _, _, rfl, rfl, a1, a2, a3⟩
        · refine ⟨_, rfl, ty_l (tofL hpo), _, rfl, _, rfl, d, g, 10, rfl, Do, by decide, by decide, fun f Hc f0 f1 Dc Mc => ⟨_, rfl, _, rfl, ?_⟩⟩
          refine pk Dc (Mo.trans Mc) hne _ fun n Hd hn Dd Md => ⟨(show 4 ≤ sizeLine from small (by decide)), fun tp ntp => ?_⟩
          obtain ⟨a1, a2, a3⟩ := fin Hd (sg, f, some n, false) tp Dd Md (okS f n false f0 f1 hn) ntp
          exact ⟨p, _, _, rfl, rfl, a1, a2, a3⟩
    · rintro σ Hx ⟨Dx, Mx, xs, ts, v3, v4, v5, rfl, hkx, hpx, hT, hl, hok⟩
      exact ⟨_, rfl, q p ts Hx Dx Mx np offp.2 ⟨xs, hpx, hT, fun t ht => (hok t ht).2⟩ ⟨fun z => by rw [z] at hl; have : ([] : List Tm).length = 0 := rfl; omega, by omega, fun t ht => (hok t ht).1⟩⟩
end
end KW
namespace KW
open PySem PySem.Spec PyProof.Rows L2 GL RZ TL
/-! ### the law's own text of a sum -/
def partT (t : Tm) : Str := match t.2.2.1 with
  | none => sN t.2.1
  | some n => if t.2.2.2 = true then n else sN t.2.1 ++ " " ++ n
def mkT (b : Bool) (t : Tm) : Str := if t.1 < 0 then "- " else if b = true then "+ " else ""
def linT : List Tm → List Str
  | [] => []
  | t :: r => (mkT false t ++ partT t) :: r.map fun t => mkT true t ++ partT t
theorem lin_get {ts : List Tm} {i : Nat} {t : Tm} (h : ts[i]? = some t) : (linT ts)[i]? = some (mkT (decide (0 < i)) t ++ partT t) := by
  cases ts with
  | nil => cases h
  | cons u r =>
    cases i with
    | zero => cases h; rfl
    | succ i =>
      have h : r[i]? = some t := by simpa using h
      show (r.map fun t => mkT true t ++ partT t)[i]? = _
      rw [List.getElem?_map, h]
      rfl
theorem lin_len (ts : List Tm) : (linT ts).length = ts.length := by
  cases ts with
  | nil => rfl
  | cons u r => show (r.map _).length + 1 = r.length + 1; rw [List.length_map]
theorem part_tl (t : Tm) : tl (partT t) = joinL [32] ((bodyW t).map tl) := by
  unfold partT bodyW
  cases t.2.2.1 with
  | none => rfl
  | some n =>
    show tl (if t.2.2.2 = true then n else sN t.2.1 ++ " " ++ n) = joinL [32] ((if t.2.2.2 = true then [n] else [sN t.2.1, n]).map tl)
    split
    · rfl
    · rw [tl_append, tl_append]
      show tl (sN t.2.1) ++ [32] ++ tl n = tl (sN t.2.1) ++ ([32] ++ tl n)
      rw [List.append_assoc]
theorem full_tl (t : Tm) : tl (mkT true t ++ partT t) = joinL [32] ((pcT t).map tl) := by
  have ne : (bodyW t).map tl ≠ [] := fun z => body_ne t (List.map_eq_nil_iff.mp z)
  have a : tl ("- " : Str) = [45, 32] := by decide +kernel
  have b : tl ("+ " : Str) = [43, 32] := by decide +kernel
  have a1 : tl ("-" : Str) = [45] := by decide +kernel
  have b1 : tl ("+" : Str) = [43] := by decide +kernel
  rw [tl_append, part_tl]
  unfold mkT pcT sgT
  by_cases h : t.1 < 0
  · rw [if_pos h, if_pos h, a, List.map_cons, a1]
    cases e : (bodyW t).map tl with
    | nil => exact absurd e ne
    | cons x r => rfl
  · rw [if_neg h, if_neg h, if_pos rfl, b, List.map_cons, b1]
    cases e : (bodyW t).map tl with
    | nil => exact absurd e ne
    | cons x r => rfl
theorem first_tl (t : Tm) : tl (mkT false t ++ partT t) = joinL [32] ((firstW t).map tl) := by
  by_cases h : t.1 < 0
  · have e : firstW t = pcT t := by unfold firstW pcT sgT; rw [if_pos h, if_pos h]; rfl
    have e2 : mkT false t = mkT true t := by unfold mkT; rw [if_pos h, if_pos h]
    rw [e, e2, full_tl]
  · have e : firstW t = bodyW t := by unfold firstW; rw [if_neg h]; rfl
    have e2 : mkT false t = "" := by unfold mkT; rw [if_neg h, if_neg (by decide)]
    rw [e, e2, tl_append, part_tl]; rfl
theorem rest_tl : ∀ (r : List Tm) (t : Tm), joinL [32] (((t :: r).map fun t => mkT true t ++ partT t).map tl) = joinL [32] ((((t :: r).map pcT).flatten).map tl)
  | [], t => by
    show tl (mkT true t ++ partT t) = joinL [32] ((pcT t ++ []).map tl)
    rw [full_tl, List.append_nil]
  | u :: r, t => by
    have ih := rest_tl r u
    show tl (mkT true t ++ partT t) ++ ([32] ++ joinL [32] (((u :: r).map fun t => mkT true t ++ partT t).map tl)) = joinL [32] ((pcT t ++ ((u :: r).map pcT).flatten).map tl)
    rw [List.map_append, joinL_app _ _ _ (by unfold pcT; simp) (by rw [List.map_cons, List.flatten_cons]; unfold pcT; simp), ih, full_tl]
theorem sum_text {ts : List Tm} (h : ts ≠ []) : Txt.join " " (linT ts) = Txt.join " " (sumWs ts) := by
  refine TL.ext_tl ?_
  rw [tl_joinT, tl_joinT]
  cases ts with
  | nil => exact absurd rfl h
  | cons t r =>
    have fne : (firstW t).map tl ≠ [] := fun z => by
      have := List.map_eq_nil_iff.mp z
      unfold firstW at this
      exact body_ne t (List.append_eq_nil_iff.mp this).2
    cases r with
    | nil =>
      show tl (mkT false t ++ partT t) = joinL [32] ((firstW t ++ []).map tl)
      rw [first_tl, List.append_nil]
    | cons u r =>
      show tl (mkT false t ++ partT t) ++ ([32] ++ joinL [32] (((u :: r).map fun t => mkT true t ++ partT t).map tl)) = joinL [32] ((firstW t ++ ((u :: r).map pcT).flatten).map tl)
      rw [List.map_append, joinL_app _ _ _ fne (by rw [List.map_cons, List.flatten_cons]; unfold pcT; simp), rest_tl, first_tl]
theorem app_len (x y : Str) : (x ++ y).length = x.length + y.length := by
  show (x ++ y).cps.size = x.cps.size + y.cps.size
  exact Array.size_append ..
theorem part_len {given : List Str} {t : Tm} (h : OkT given t) : (partT t).length ≤ 80 ∧ (sN t.2.1).length ≤ 61 := by
  have l1 : (sN t.2.1).length ≤ 61 := by rw [str_len2]; exact sN_len h.1.1 h.1.2
  have b1 : (" " : Str).length = 1 := by decide +kernel
  refine ⟨?_, l1⟩
  unfold partT
  cases e : t.2.2.1 with
  | none => exact Nat.le_trans l1 (by decide)
  | some n =>
    have l2 : n.length ≤ 8 := by rw [str_len2]; exact (name_len8 (h.2 n e).2).2
    show (if t.2.2.2 = true then n else sN t.2.1 ++ " " ++ n).length ≤ 80
    split
    · omega
    · rw [app_len, app_len, b1]; omega
theorem mk_len (b : Bool) (t : Tm) : (mkT b t).length ≤ 2 := by
  unfold mkT
  split
  · decide +kernel
  · split <;> decide +kernel
def spSumT : Sp := fun vs H Q _ => ∃ (l : Addr) (given : List Str) (ts : List Tm), vs = [.ref l] ∧ SumAt H l ts ∧ OkSm given ts ∧ ∀ H', Same H H' → Q (.str (Txt.join " " (sumWs ts))) H'
section
variable {P : Program} {w : World} {K : PySem.W.Frag} {mg : Str → Option Value} {base : Heap}
abbrev s_sum_text : Stmt := topS 28
theorem sc_sum_text : FnScope ["_law_terms", "_law_parts", "_law_k", "_law_sign", "_law_factor", "_law_name_here", "_law_is_bare", "_law_part", "_law_mark"] ["_law_terms"] (defScope s_sum_text) := ⟨rfl, rfl, rfl, by decide +kernel, rfl, by decide +kernel, by decide +kernel⟩
theorem ok_sum_text {f : Addr} {fd : FuncData} (F : Fun K "_law_sum_text" "_law_sum_text" s_sum_text f fd) (gl : mg "_law_sum_text" = some (.ref f)) (T : Bl mg) : DefG P w K mg base 1 "_law_sum_text" ["_law_terms"] spSumT := by
  refine def_mk F gl (F.binds fun _ _ _ _ _ _ us hl => match us, hl with | [_], _ => rfl) (okG F sc_sum_text (fun vs H Q E h => ?_) fun cdv A outer s H vs Q E hr hc h => ?_)
  · obtain ⟨l, given, ts, rfl, _⟩ := h
    rfl
  · obtain ⟨l, given, ts, rfl, ⟨xs, hl, hT, _⟩, ok, q⟩ := h
    have nd := sc_sum_text.nd
    refine ⟨_, (pss_cons (ps_set (i := 1) nd rfl (by first | exact Or.inl rfl | exact Or.inr rfl) (pe_lst pa_nil))
      (pss_cons (ps_for PassesOwn.never rfl (pi_enum (by rfl) T.enumerate (pa_cons (pv 0) pa_nil)) (pg_tup rfl (pgs_cons (pg_name (i := 2) nd rfl (by first | exact Or.inl rfl | exact Or.inr rfl)) (pgs_cons (pg_tup rfl (pgs_cons (pg_name (i := 3) nd rfl (by first | exact Or.inl rfl | exact Or.inr rfl)) (pgs_cons (pg_name (i := 4) nd rfl (by first | exact Or.inl rfl | exact Or.inr rfl)) (pgs_cons (pg_name (i := 5) nd rfl (by first | exact Or.inl rfl | exact Or.inr rfl)) (pgs_cons (pg_name (i := 6) nd rfl (by first | exact Or.inl rfl | exact Or.inr rfl)) pgs_nil))))) pgs_nil)))
        (pss_cons (ps_set (i := 7) nd rfl (by first | exact Or.inl rfl | exact Or.inr rfl) (pe_cutE (pe_ifExp (pt_cmpR op_isN (pv 5) pe_non (nomark _)) (pe_callTy call_str_int (by rfl) T.str boot_str (pa_cons (pv 4) pa_nil)) (pe_ifExp (pt_truth (pv 6) (fun _ => rfl)) (pv 5) (pe_op op_add_str (pe_op op_add_str (pe_callTy call_str_int (by rfl) T.str boot_str (pa_cons (pv 4) pa_nil)) pe_str) (pv 5))))))
        (pss_cons (ps_set (i := 8) nd rfl (by first | exact Or.inl rfl | exact Or.inr rfl) (pe_cutE (pe_ifExp (pt_cmpR op_lt (pv 3) pe_int (nomark _)) pe_str (pe_ifExp (pt_cmpR op_gt (pv 2) pe_int (nomark _)) pe_str pe_str))))
        (pss_one (ps_expr (pe_bm PySem.F.plainAttrs_list PySem.F.slot_list_append PySem.F.type_list_append mt_append (pv 1) (pa_cons (pe_op op_add_str (pv 8) (pv 7)) pa_nil)))))))
      (pss_one (ps_ret (pe_join pe_str (pv 1)))))), ?_⟩
    have xl := hT.len
    have l3 := ok.2.1
    refine ⟨Nat.zero_le _, fun p np => ?_⟩
    have s1 := Same.new (o := .lst []) np
    refine ⟨_, rfl, l, xs, rfl, tofL (s1 _ _ hl), ?_⟩
    refine for_it (walk_enum (K := K) (a := l) (xs := xs)) (fun i σ Hx => ∃ (v2 v3 v4 v5 v6 v7 v8 : Option V), σ = [some (.ref l), some (.ref p), v2, v3, v4, v5, v6, v7, v8] ∧ Same H Hx ∧ Hx p = some (.lst (((linT ts).take i).map V.str)))
      ⟨none, none, none, none, none, none, none, rfl, s1, upd_same⟩ (fun i σ Hx _ ⟨_, _, _, _, _, _, _, _, sx, _⟩ => tofL (sx _ _ hl)) ?_ ?_
    · rintro i x σ Hx Ht hi ⟨v2, v3, v4, v5, v6, v7, v8, rfl, sx, hpx⟩ ⟨tu, u, v, rfl, nt, rfl, g1, g2⟩
      have e1 : u = .int (i : Nat) := (Option.some.inj g1).symm
      subst e1
      have su := Same.new (o := .tup [V.int (i : Nat), v]) nt
      obtain ⟨pt, t, rfl, hpt, htt⟩ := (hT.to (fun a ys h => (sx.trans su) _ _ h)).get g2
      have okt := ok.2.2 t (List.mem_of_getElem? htt)
      obtain ⟨pl, sl⟩ := part_len okt
      have ml := mk_len (decide (0 < i)) t
      have npu : p ≠ tu := ne_of_none hpx nt
      have hpu := su _ _ hpx
      have sxu := sx.trans su
      refine ⟨tu, _, rfl, tofT upd_same, rfl, _, _, rfl, _, _, rfl, ⟨pt, _, rfl, tofT hpt, rfl, _, _, rfl, _, _, rfl, _, _, rfl, _, _, rfl, rfl, rfl, ?_⟩⟩
      have hpu' : upd Hx tu (.tup [V.int (i : Nat), .ref pt]) p = some (.lst (((linT ts).take i).map V.str)) := hpu
      generalize upd Hx tu (.tup [V.int (i : Nat), .ref pt]) = Hu at *
      have lgf : t.2.1.natAbs.log2 < 1920 := PySem.Flt.log2_lt_of (by decide) (Nat.lt_trans (show t.2.1.natAbs < 10 ^ 60 by have := okt.1.1; have := okt.1.2; omega) (by decide +kernel))
      have b1 : (" " : Str).length = 1 := by decide +kernel
      -- the part
      refine ⟨fun x H' => x = .str (partT t) ∧ H' = Hu, ?_, ?_⟩
      · obtain ⟨sg, f, nm, ba⟩ := t
        cases nm with
        | none =>
          refine ⟨_, rfl, rfl, _, rfl, iteT ⟨_, rfl, f, rfl, lgf, rfl, rfl⟩⟩
        | some n =>
          refine ⟨_, rfl, rfl, _, rfl, ite2 (fun e => absurd (of_decide_eq_true e) (fun z => nomatch z)) fun _ => ?_⟩
          have nl : n.length ≤ 8 := by rw [str_len2]; exact (name_len8 (okt.2 n rfl).2).2
          refine ⟨_, rfl, ba, tru_bl ba, ?_⟩
          cases ba with
          | true => exact iteT ⟨_, rfl, rfl, rfl⟩
          | false =>
            refine iteF ⟨_, rfl, f, rfl, lgf, _, _, rfl, rfl, small (show (sN f).length + (" " : Str).length ≤ 100000 by rw [b1]; have : (sN f).length ≤ 61 := sl; omega), _, rfl, _, _, rfl, rfl, small (show (sN f ++ (" " : Str)).length + n.length ≤ 100000 by rw [app_len, b1]; have : (sN f).length ≤ 61 := sl; omega), rfl, rfl⟩
      rintro x H' ⟨rfl, rfl⟩
      -- the mark
      refine ⟨fun x H2 => x = .str (mkT (decide (0 < i)) t) ∧ H2 = H', ?_, ?_⟩
      · refine ⟨_, rfl, t.1, 0, rfl, rfl, _, rfl, ite2 (fun e => ?_) (fun e => ?_)⟩
        · exact ⟨by unfold mkT; rw [if_pos (of_decide_eq_true e)], rfl⟩
        · have e0 : ¬ t.1 < 0 := fun z => e (decide_eq_true z)
          refine ⟨_, rfl, (i : Int), 0, rfl, rfl, _, rfl, ite2 (fun e2 => ?_) (fun e2 => ?_)⟩
          · have : 0 < i := by have := of_decide_eq_true e2; omega
            exact ⟨by unfold mkT; rw [if_neg e0, if_pos (decide_eq_true this)], rfl⟩
          · have : ¬ 0 < i := fun z => e2 (decide_eq_true (by omega))
            exact ⟨by unfold mkT; rw [if_neg e0, if_neg (fun z => this (of_decide_eq_true z))], rfl⟩
      rintro x H2 ⟨rfl, rfl⟩
      refine ⟨_, rfl, ty_l (tofL hpu'), _, rfl, _, rfl, _, _, rfl, rfl, small (by omega), p, _, _, rfl, rfl, hpu', ?_, ?_⟩
      · rw [List.length_map, List.length_take]; exact smallt (by have := lin_len ts; omega)
      refine ⟨_, _, _, _, _, _, _, rfl, ?_, ?_⟩
      · intro b o hb
        rw [upd_ne (ne_of_none hb np)]
        exact sxu _ _ hb
      · rw [upd_same, List.take_add_one, lin_get htt, List.map_append]; rfl
    · rintro σ Hx ⟨v2, v3, v4, v5, v6, v7, v8, rfl, sx, hpx⟩
      rw [List.take_of_length_le (by rw [lin_len, xl]; exact Nat.le_refl _)] at hpx
      refine ⟨⟨_, rfl⟩, _, rfl, " ", p, linT ts, rfl, rfl, .inl (tofL hpx), ?_, ?_⟩
      · have hall : ∀ z ∈ linT ts, z.length ≤ 82 := fun z hz => by
          obtain ⟨i, hi⟩ := List.getElem?_of_mem hz
          have il := (List.getElem?_eq_some_iff.mp hi).1
          rw [lin_len] at il
          have ht := List.getElem?_eq_getElem il
          rw [lin_get ht] at hi
          cases hi
          have h1 := (part_len (ok.2.2 _ (List.mem_of_getElem? ht))).1
          have h2 := mk_len (decide (0 < i)) ts[i]
          rw [app_len]; omega
        have sm : ∀ l : List Str, (∀ z ∈ l, z.length ≤ 82) → (l.map (·.length)).sum ≤ l.length * 82 := fun l => by
          induction l with
          | nil => intro _; exact Nat.le_refl _
          | cons x r ih =>
            intro h
            have i1 := h x List.mem_cons_self
            have i2 := ih fun z hz => h z (List.mem_cons_of_mem _ hz)
            show x.length + (r.map (·.length)).sum ≤ (r.length + 1) * 82
            omega
        have h1 := sm _ hall
        have h3 : (" " : Str).length = 1 := by decide +kernel
        rw [lin_len] at h1
        rw [h3, lin_len]
        omega
      · rw [sum_text ok.1]
        exact q Hx sx
end
end KW
namespace KW
open PySem PySem.Spec PyProof.Rows L2 GL RZ TL
/-! ### values of names -/
def ValsAt (H : Hp) (vd : Addr) (kn : List Str) : Prop := ∃ kvs : List (Key × V), H vd = some (.dK kvs) ∧ kvs.length ≤ 100 ∧ ∀ n ∈ kn, ∃ i : Int, valV kvs (Sum.inr n : Key) = some (.int i)
theorem ValsAt.less {H : Hp} {vd : Addr} {kn kn' : List Str} (h : ValsAt H vd kn) (s : ∀ n ∈ kn', n ∈ kn) : ValsAt H vd kn' := by
  obtain ⟨kvs, h1, h2, h3⟩ := h
  exact ⟨kvs, h1, h2, fun n hn => h3 n (s n hn)⟩
theorem SumAt.same {H H' : Hp} {l : Addr} {ts : List Tm} (s : Same H H') (h : SumAt H l ts) : SumAt H' l ts := by
  obtain ⟨xs, h1, h2, h3⟩ := h
  exact ⟨xs, s _ _ h1, h2.to fun a ys e => s _ _ e, h3⟩
theorem SumAt.mv {H H' : Hp} {d g l : Addr} {ts : List Tm} (D : Deck H d g) (m : Mv d g H H') (hg : l ≠ g) (h : SumAt H l ts) : SumAt H' l ts := by
  obtain ⟨xs, h1, h2, h3⟩ := h
  have nd : l ≠ d := by obtain ⟨k, L, e1, _⟩ := D.ex; exact (ne_of e1 h1 (fun z => nomatch z)).symm
  exact ⟨xs, m.at h1 ⟨nd, hg⟩, h2.to (tups_mv D m), h3⟩
def spValue : Sp := fun vs H Q _ => ∃ (l vd : Addr) (kn : List Str) (ts : List Tm), vs = [.ref l, .ref vd] ∧ SumAt H l ts ∧ OkSm kn ts ∧ ValsAt H vd kn ∧ ∀ i : Int, Q (.int i) H
section
variable {P : Program} {w : World} {K : PySem.W.Frag} {mg : Str → Option Value} {base : Heap}
abbrev s_value : Stmt := topS 29
theorem sc_value : FnScope ["_law_terms", "_law_values", "_law_found", "_law_sign", "_law_factor", "_law_name_here", "_law_is_bare"] ["_law_terms", "_law_values"] (defScope s_value) := ⟨rfl, rfl, rfl, by decide +kernel, rfl, by decide +kernel, by decide +kernel⟩
theorem ok_value {f : Addr} {fd : FuncData} (F : Fun K "_law_value" "_law_value" s_value f fd) (gl : mg "_law_value" = some (.ref f)) (T : Bl mg) : DefG P w K mg base 1 "_law_value" ["_law_terms", "_law_values"] spValue := by
  refine def_mk F gl (F.binds fun _ _ _ _ _ _ us hl => match us, hl with | [_, _], _ => rfl) (okG F sc_value (fun vs H Q E h => ?_) fun cdv A outer s H vs Q E hr hc h => ?_)
  · obtain ⟨l, vd, kn, ts, rfl, _⟩ := h
    rfl
  · obtain ⟨l, vd, kn, ts, rfl, ⟨xs, hl, hT, hS⟩, ok, ⟨kvs, hv, _, hkn⟩, q⟩ := h
    have nd := sc_value.nd
    have hu := hu_of hr
    refine ⟨_, (pss_cons (ps_set (i := 2) nd rfl (by first | exact Or.inl rfl | exact Or.inr rfl) pe_int)
      (pss_cons (ps_for PassesOwn.never rfl (pi_list (pv 0)) (pg_tup rfl (pgs_cons (pg_name (i := 3) nd rfl (by first | exact Or.inl rfl | exact Or.inr rfl)) (pgs_cons (pg_name (i := 4) nd rfl (by first | exact Or.inl rfl | exact Or.inr rfl)) (pgs_cons (pg_name (i := 5) nd rfl (by first | exact Or.inl rfl | exact Or.inr rfl)) (pgs_cons (pg_name (i := 6) nd rfl (by first | exact Or.inl rfl | exact Or.inr rfl)) pgs_nil)))))
        (pss_one (ps_set (i := 2) nd rfl (by first | exact Or.inl rfl | exact Or.inr rfl) (pe_op op_add (pv 2) (pe_op op_mul (pe_op op_mul (pv 3) (pv 4)) (pe_ifExp (pt_cmpR op_isN (pv 5) pe_non (nomark _)) pe_int (pe_dget hu (pv 1) (pv 5) (fun _ _ => rfl))))))))
      (pss_one (ps_ret (pv 2))))), ?_⟩
    refine ⟨_, rfl, l, rfl, ⟨_, tofL hl⟩, ?_⟩
    refine for_list (K := K) (a := l) (xs := xs) (fun i σ Hx => ∃ (v : Int) (v3 v4 v5 v6 : Option V), σ = [some (.ref l), some (.ref vd), some (.int v), v3, v4, v5, v6] ∧ Hx = H)
      ⟨0, none, none, none, none, rfl, rfl⟩ (fun i σ Hx _ ⟨_, _, _, _, _, _, e⟩ => e ▸ tofL hl) ?_ ?_
    · rintro i x σ Hx hi ⟨v, v3, v4, v5, v6, rfl, rfl⟩
      obtain ⟨pt, t, rfl, hpt, htt⟩ := hT.get hi
      have okt := ok.2.2 t (List.mem_of_getElem? htt)
      have l3 := ok.2.1
      obtain ⟨sg, f, nm, ba⟩ := t
      refine ⟨pt, _, rfl, tofT hpt, rfl, _, _, rfl, _, _, rfl, _, _, rfl, _, _, rfl, rfl, ?_⟩
      obtain ⟨⟨f0, fB⟩, hn⟩ := okt
      obtain ⟨⟨s0, s1⟩, f1, f2⟩ := hS _ (List.mem_of_getElem? htt)
      have s0 : -1 ≤ sg := s0
      have s1 : sg ≤ 1 := s1
      have f1 : -100 < f := f1
      have f2 : f < 100 := f2
      have ab : (sg * f).natAbs ≤ 100 := by
        rw [Int.natAbs_mul]
        have h1 : sg.natAbs ≤ 1 := by omega
        have h2 : f.natAbs ≤ 100 := by omega
        exact Nat.mul_le_mul h1 h2
      refine ⟨_, rfl, _, rfl, _, rfl, sg, f, rfl, rfl, .inl ⟨by omega, by omega⟩, ?_⟩
      have fin : ∀ u : Int, CMul (sg * f) u := fun u => .inl ⟨by omega, by omega⟩
      cases nm with
      | none => exact ⟨_, rfl, rfl, _, rfl, iteT ⟨_, _, rfl, rfl, fin _, _, _, rfl, rfl, _, _, _, _, _, rfl, rfl⟩⟩
      | some n =>
        obtain ⟨u, hu'⟩ := hkn n (hn n rfl).1
        refine ⟨_, rfl, rfl, _, rfl, ite2 (fun e => absurd (of_decide_eq_true e) (fun z => nomatch z)) fun _ => ?_⟩
        exact ⟨_, rfl, _, rfl, vd, _, rfl, hu' ▸ DGet.k (k := Sum.inr n) hv, _, _, rfl, rfl, fin u, _, _, rfl, rfl, _, _, _, _, _, rfl, rfl⟩
    · rintro σ Hx ⟨v, v3, v4, v5, v6, rfl, rfl⟩
      exact ⟨_, rfl, q v⟩
end
end KW
namespace KW
open PySem PySem.Spec PyProof.Rows L2 GL RZ TL
theorem ValsAt.same {H H' : Hp} {vd : Addr} {kn : List Str} (s : Same H H') (h : ValsAt H vd kn) : ValsAt H' vd kn := by
  obtain ⟨kvs, h1, h2, h3⟩ := h
  exact ⟨kvs, s _ _ h1, h2, h3⟩
theorem ValsAt.mv {H H' : Hp} {d g vd : Addr} {kn : List Str} (D : Deck H d g) (m : Mv d g H H') (nd : vd ≠ d) (h : ValsAt H vd kn) : ValsAt H' vd kn := by
  obtain ⟨kvs, h1, h2, h3⟩ := h
  have ng : vd ≠ g := by obtain ⟨k, L, _, e2, _⟩ := D.ex; exact (ne_of e2 h1 (fun z => nomatch z)).symm
  exact ⟨kvs, m.at h1 ⟨nd, ng⟩, h2, h3⟩
def spCheckL : Sp := fun vs H Q _ => ∃ (d g k vd : Addr) (kn : List Str), vs = [.ref d, .ref k, .ref vd] ∧ Deck H d g ∧ H k = some (.lst (kn.map V.str)) ∧ k ≠ g ∧ Known kn ∧ ValsAt H vd kn ∧ vd ≠ d ∧
  ∀ (p l r : Addr) (m : Int) (L R : List Tm) (H' : Hp), Deck H' d g → Mv d g H H' → H' p = some (.tup [.str "check", .ref l, .ref r, .int m]) → H l = none → H r = none → SumAt H' l L → SumAt H' r R → OkSm kn L → OkSm kn R → OkM m → Q (.ref p) H'
section
variable {P : Program} {w : World} {K : PySem.W.Frag} {mg : Str → Option Value} {base : Heap}
abbrev s_check : Stmt := topS 30
theorem sc_check : FnScope ["_law_deck_here", "_law_known_here", "_law_values", "_law_left", "_law_kind", "_law_worth", "_law_by", "_law_rest"] ["_law_deck_here", "_law_known_here", "_law_values"] (defScope s_check) := ⟨rfl, rfl, rfl, by decide +kernel, rfl, by decide +kernel, by decide +kernel⟩
theorem ok_lcheck {f : Addr} {fd : FuncData} (F : Fun K "_law_check" "_law_check" s_check f fd) (gl : mg "_law_check" = some (.ref f)) (T : Bl mg) (D_draw : DefG P w K mg base 1 "_law_draw" ["_law_deck_here", "_law_many"] spDraw) (D_sum : DefG P w K mg base 3 "_law_sum" ["_law_deck_here", "_law_known_here"] spSum)
    (D_value : DefG P w K mg base 1 "_law_value" ["_law_terms", "_law_values"] spValue) : DefG P w K mg base 4 "_law_check" ["_law_deck_here", "_law_known_here", "_law_values"] spCheckL := by
  refine def_mk F gl (F.binds fun _ _ _ _ _ _ us hl => match us, hl with | [_, _, _], _ => rfl) (okG F sc_check (fun vs H Q E h => ?_) fun cdv A outer s H vs Q E hr hc h => ?_)
  · obtain ⟨d, g, k, vd, kn, rfl, _⟩ := h
    rfl
  · obtain ⟨d, g, k, vd, kn, rfl, D, hk, nkg, known, hv, nvd, q⟩ := h
    have nd := sc_check.nd
    have nkd : k ≠ d := by obtain ⟨m, L, h1, _⟩ := D.ex; exact (ne_of h1 hk (fun z => nomatch z)).symm
    refine ⟨_, (pss_cons (ps_par (i := 3) (j := 4) rfl nd rfl rfl (by decide) rfl rfl (pa_cons (pe_def D_sum (hr.mono (by decide)) hc (by rfl) (pa_cons (pv 0) (pa_cons (pv 1) pa_nil))) (pa_cons (pe_def D_draw (hr.mono (by decide)) hc (by rfl) (pa_cons (pv 0) (pa_cons pe_int pa_nil))) pa_nil)) rfl)
      (pss_cons (ps_set (i := 5) nd rfl (by first | exact Or.inl rfl | exact Or.inr rfl) (pe_def D_value (hr.mono (by decide)) hc (by rfl) (pa_cons (pv 3) (pa_cons (pv 2) pa_nil))))
      (pss_cons (ps_if (pt_cmpR op_eq (pv 4) pe_int (nomark _))
        (pss_one (ps_ret (pe_tup (pa_cons pe_str (pa_cons (pv 3) (pa_cons (pe_def D_sum (hr.mono (by decide)) hc (by rfl) (pa_cons (pv 0) (pa_cons (pv 1) pa_nil))) (pa_cons pe_int pa_nil)))))))
        pss_nil)
      (pss_cons (ps_if (pt_cmpR op_eq (pv 4) pe_int (nomark _))
        (pss_one (ps_ret (pe_tup (pa_cons pe_str (pa_cons (pv 3) (pa_cons (pe_revL (pv 3)) (pa_cons pe_int pa_nil)))))))
        pss_nil)
      (pss_cons (ps_if (PW.pt (pw_and (pt_cmpR op_eq (pv 4) pe_int (nomark _)) (pw_and1 (pt_cmpR op_lt (pe_callB call_abs (by rfl) T.abs boot_abs (pa_cons (pv 5) pa_nil)) pe_int (nomark _)))))
        (pss_one (ps_ret (pe_tup (pa_cons pe_str (pa_cons (pv 3) (pa_cons (pe_lst (pa_cons (pe_tup (pa_cons (pe_cutE (pe_ifExp (pt_cmpR op_ge (pv 5) pe_int (nomark _)) pe_int (pe_un un_neg pe_int))) (pa_cons (pe_callB call_abs (by rfl) T.abs boot_abs (pa_cons (pv 5) pa_nil)) (pa_cons pe_non (pa_cons pe_bl pa_nil))))) pa_nil)) (pa_cons pe_int pa_nil)))))))
        pss_nil)
      (pss_cons (ps_set (i := 6) nd rfl (by first | exact Or.inl rfl | exact Or.inr rfl) (pe_op op_add pe_int (pe_def D_draw (hr.mono (by decide)) hc (by rfl) (pa_cons (pv 0) (pa_cons pe_int pa_nil)))))
      (pss_cons (ps_set (i := 7) nd rfl (by first | exact Or.inl rfl | exact Or.inr rfl) (pe_op op_mod (pe_callTy call_int1 (by rfl) T.int boot_int (pa_cons (pv 5) pa_nil)) (pv 6)))
      (pss_one (ps_ret (pe_tup (pa_cons pe_str (pa_cons (pv 3) (pa_cons (pe_lst (pa_cons (pe_tup (pa_cons pe_int (pa_cons (pv 7) (pa_cons pe_non (pa_cons pe_bl pa_nil))))) pa_nil)) (pa_cons (pv 6) pa_nil)))))))))))))), ?_⟩
    refine ⟨_, rfl, _, rfl, d, g, k, kn, rfl, D, hk, nkg, known, fun l L H1 D1 M1 nl lg sL okL => ?_⟩
    refine ⟨_, rfl, d, g, 5, rfl, D1, by decide, by decide, fun kd H2 k0 k1 D2 M2 => ⟨_, _, rfl, ?_⟩⟩
    have M02 := M1.trans M2
    have sL2 := sL.mv D1 M2 lg
    have hv2 := hv.mv D M02 nvd
    have hk2 : H2 k = some (.lst (kn.map V.str)) := M02.at hk ⟨nkd, nkg⟩
    refine ⟨_, rfl, _, rfl, l, vd, kn, L, rfl, sL2, okL, hv2, fun wv => ?_⟩
    have frH : ∀ {b : Addr}, H2 b = none → H b = none := fun {b} hb => M02.free D D2 hb
    refine ⟨_, rfl, rfl, _, rfl, ite2 (fun _ => ?_) (fun _ => ?_)⟩
    · refine ⟨_, rfl, _, rfl, _, rfl, d, g, k, kn, rfl, D2, hk2, nkg, known, fun r R H3 D3 M3 nr rg sR okR => ⟨(show 4 ≤ sizeLine from small (by decide)), fun p np => ?_⟩⟩
      have st := Same.new (o := .tup [.str "check", .ref l, .ref r, .int 0]) np
      exact q p l r 0 L R _ (D3.new np) (M02.trans (M3.trans (Mv.of st))) upd_same nl (frH nr) ((sL2.mv D2 M3 lg).same st) (sR.same st) okL okR (.inl rfl)
    refine ⟨_, rfl, rfl, _, rfl, ite2 (fun _ => ?_) (fun _ => ?_)⟩
    · obtain ⟨xs, hx, hT, hS⟩ := id sL2
      refine ⟨_, rfl, _, rfl, l, xs, rfl, tofL hx, fun r nr => ⟨(show 4 ≤ sizeLine from small (by decide)), fun p np => ?_⟩⟩
      have s3 := Same.new (o := .lst xs.reverse) nr
      have st := Same.new (o := .tup [.str "check", .ref l, .ref r, .int 0]) np
      have okR : OkSm kn L.reverse := ⟨fun z => okL.1 (List.reverse_eq_nil_iff.mp z), by rw [List.length_reverse]; exact okL.2.1, fun t ht => okL.2.2 t (List.mem_reverse.mp ht)⟩
      exact q p l r 0 L L.reverse _ ((D2.new nr).new np) (M02.trans (Mv.of (s3.trans st))) upd_same nl (frH nr) (sL2.same (s3.trans st))
        ⟨xs.reverse, st _ _ upd_same, (hT.rev).to fun a ys e => (s3.trans st) _ _ e, fun t ht => hS t (List.mem_reverse.mp ht)⟩ okL okR (.inl rfl)
    have one : ∀ (sg f : Int) (Hc : Hp) (l9 p9 : Addr), -1 ≤ sg → sg ≤ 1 → 0 ≤ f → f < 100 → Hc l9 = some (.lst [.ref p9]) → Hc p9 = some (.tup (tmV (sg, f, none, false))) → SumAt Hc l9 [(sg, f, none, false)] ∧ OkSm kn [(sg, f, none, false)] := fun sg f Hc l9 p9 h0 h1 h2 h3 hl hp =>
      ⟨⟨_, hl, .cons hp .nil, fun t ht => by rw [List.mem_singleton.mp ht]; exact ⟨⟨h0, h1⟩, by show -100 < f; omega, h3⟩⟩, by simp, by simp, fun t ht => by rw [List.mem_singleton.mp ht]; exact ⟨⟨h2, by show f < 10 ^ 60; omega⟩, fun n e => nomatch e⟩⟩
    have last : ∀ (H3 : Hp), Deck H3 d g → Mv d g H2 H3 → ∀ (sg f m : Int), -1 ≤ sg → sg ≤ 1 → 0 ≤ f → f < 100 → OkM m → ∀ (p9 l9 p : Addr), H3 p9 = none → upd H3 p9 (.tup (tmV (sg, f, none, false))) l9 = none → upd (upd H3 p9 (.tup (tmV (sg, f, none, false)))) l9 (.lst [.ref p9]) p = none →
        Q (.ref p) (upd (upd (upd H3 p9 (.tup (tmV (sg, f, none, false)))) l9 (.lst [.ref p9])) p (.tup [.str "check", .ref l, .ref l9, .int m])) := fun H3 D3 s3 sg f m h0 h1 h2 h3 hm p9 l9 p n1 n2 n3 => by
      have t1 := Same.new (o := .tup (tmV (sg, f, none, false))) n1
      have t2 := Same.new (o := .lst [.ref p9]) n2
      have t3 := Same.new (o := .tup [.str "check", .ref l, .ref l9, .int m]) n3
      obtain ⟨b1, b2⟩ := one sg f _ l9 p9 h0 h1 h2 h3 (t3 _ _ upd_same) (t3 _ _ (t2 _ _ upd_same))
      have sa := t1.trans (t2.trans t3)
      have nl9 : H3 l9 = none := by
        cases e : H3 l9 with
        | none => rfl
        | some o => rw [t1 _ _ e] at n2; cases n2
      exact q p l l9 m L _ _ (((D3.new n1).new n2).new n3) (M02.trans (s3.trans (Mv.of sa))) upd_same nl (frH (s3.free D2 D3 nl9)) ((sL2.mv D2 s3 lg).same sa) b1 okL b2 hm
    refine ⟨_, rfl, rfl, _, rfl, ite2 (fun _ => ?_) (fun _ => ?_)⟩
    rotate_left
    · refine ⟨_, rfl, d, g, 8, rfl, D2, by decide, by decide, fun r8 H3 r80 r81 D3 M3 => ⟨2, r8, rfl, rfl, _, rfl, .inl ⟨wv, rfl, _, rfl, wv, 2 + r8, rfl, rfl, by omega, ?_⟩⟩⟩
      have m0 : 0 ≤ wv % (2 + r8) := Int.emod_nonneg _ (by omega)
      have m1 : wv % (2 + r8) < 2 + r8 := Int.emod_lt_of_pos _ (by omega)
      refine ⟨_, rfl, _, rfl, (show 4 ≤ sizeLine from small (by decide)), fun p9 n1 => ⟨(show 1 ≤ sizeLine from small (by decide)), fun l9 n2 => ⟨_, rfl, (show 4 ≤ sizeLine from small (by decide)), fun p n3 => ?_⟩⟩⟩
      exact last H3 D3 M3 1 (wv % (2 + r8)) (2 + r8) (by decide) (by decide) m0 (by omega) (.inr ⟨by omega, by omega⟩) p9 l9 p n1 n2 n3
    refine ⟨_, rfl, wv, rfl, _, _, rfl, rfl, _, rfl, ite2 (fun e => ?_) (fun _ => ?_)⟩
    rotate_left
    · refine ⟨_, rfl, d, g, 8, rfl, D2, by decide, by decide, fun r8 H3 r80 r81 D3 M3 => ⟨2, r8, rfl, rfl, _, rfl, .inl ⟨wv, rfl, _, rfl, wv, 2 + r8, rfl, rfl, by omega, ?_⟩⟩⟩
      have m0 : 0 ≤ wv % (2 + r8) := Int.emod_nonneg _ (by omega)
      have m1 : wv % (2 + r8) < 2 + r8 := Int.emod_lt_of_pos _ (by omega)
      refine ⟨_, rfl, _, rfl, (show 4 ≤ sizeLine from small (by decide)), fun p9 n1 => ⟨(show 1 ≤ sizeLine from small (by decide)), fun l9 n2 => ⟨_, rfl, (show 4 ≤ sizeLine from small (by decide)), fun p n3 => ?_⟩⟩⟩
      exact last H3 D3 M3 1 (wv % (2 + r8)) (2 + r8) (by decide) (by decide) m0 (by omega) (.inr ⟨by omega, by omega⟩) p9 l9 p n1 n2 n3
    have e : (if wv < 0 then -wv else wv) < 10 := of_decide_eq_true e
    refine ⟨_, rfl, fun x H' => (∃ sg : Int, x = .int sg ∧ -1 ≤ sg ∧ sg ≤ 1) ∧ H' = H2, ?_, ?_⟩
    · exact ⟨_, rfl, wv, 0, rfl, rfl, _, rfl, ite2 (fun _ => ⟨⟨1, rfl, by decide, by decide⟩, rfl⟩) (fun _ => ⟨1, rfl, ⟨-1, rfl, by decide, by decide⟩, rfl⟩)⟩
    rintro x H' ⟨⟨sg, rfl, sg0, sg1⟩, rfl⟩
    refine ⟨_, rfl, wv, rfl, (show 4 ≤ sizeLine from small (by decide)), fun p9 n1 => ⟨(show 1 ≤ sizeLine from small (by decide)), fun l9 n2 => ⟨(show 4 ≤ sizeLine from small (by decide)), fun p n3 => ?_⟩⟩⟩
    exact last H' D2 (Mv.of (Same.refl _)) sg (if wv < 0 then -wv else wv) 0 sg0 sg1 (by split <;> omega) (by omega) (.inl rfl) p9 l9 p n1 n2 n3
end
end KW
namespace KW
open PySem PySem.Spec PyProof.Rows L2 GL RZ TL
/-! ### the lines of a program, drawn: what stays true of them -/
def OkAll (sts : List Stg) : Prop := ∀ (i : Nat) (s : Stg), sts[i]? = some s → OkStg (gv sts i) s
def allN (sts : List Stg) : List Str := sts.map nameOf
def knOf (sts : List Stg) : List Str := (allN sts).filter fun n => !decide (n = "")
theorem kn_mem {sts : List Stg} {n : Str} : n ∈ allN sts → n ∈ knOf sts ∨ n = "" := fun h => by
  by_cases e : n = ""
  · exact .inr e
  · exact .inl (List.mem_filter.mpr ⟨h, by rw [decide_eq_false e]; rfl⟩)
theorem mem_kn {sts : List Stg} {n : Str} (h : n ∈ knOf sts) : n ∈ allN sts := (List.mem_filter.mp h).1
theorem all_snoc {sts : List Stg} {s : Stg} (h : OkAll sts) (hs : OkStg (allN sts) s) : OkAll (sts ++ [s]) := fun i x hx => by
  rcases Nat.lt_or_ge i sts.length with lt | ge
  · rw [List.getElem?_append_left lt] at hx
    have := h i x hx
    unfold gv at *
    rw [List.take_append_of_le_length (by omega)]
    exact this
  · rw [List.getElem?_append_right ge] at hx
    have e0 : i - sts.length = 0 := by
      rcases Nat.eq_zero_or_pos (i - sts.length) with z | z
      · exact z
      · rw [List.getElem?_eq_none (by show 1 ≤ _; omega)] at hx; cases hx
    rw [e0] at hx
    cases hx
    unfold gv
    rw [show i = sts.length by omega, List.take_left]
    exact hs
theorem kn_snoc (sts : List Stg) (s : Stg) : knOf (sts ++ [s]) = knOf sts ++ (if nameOf s = "" then [] else [nameOf s]) := by
  unfold knOf allN
  rw [List.map_append, List.filter_append]
  congr 1
  by_cases e : nameOf s = ""
  · rw [if_pos e]; simp [e]
  · rw [if_neg e]; simp [e]
theorem OkT.mono {a b : List Str} {t : Tm} (s : ∀ n ∈ a, n ∈ b) (h : OkT a t) : OkT b t := ⟨h.1, fun n e => ⟨s n (h.2 n e).1, (h.2 n e).2⟩⟩
theorem OkSm.mono {a b : List Str} {ts : List Tm} (s : ∀ n ∈ a, n ∈ b) (h : OkSm a ts) : OkSm b ts := ⟨h.1, h.2.1, fun t ht => (h.2.2 t ht).mono s⟩
theorem not_all {sts : List Stg} {n : Str} (hn : nameB n = true) (h : n ∉ knOf sts) : n ∉ allN sts := fun m => (kn_mem m).elim h (name_not hn).2.2.2.1
/-! ### names that are spare -/
theorem eq_le {a : Str} : ∀ {l : List Str}, l.Nodup → (l.filter fun n => decide (n = a)).length ≤ 1
  | [], _ => Nat.zero_le _
  | b :: r, h => by
    obtain ⟨h1, h2⟩ := List.nodup_cons.mp h
    have ih := eq_le (a := a) h2
    by_cases e : b = a
    · have z : (r.filter fun n => decide (n = a)) = [] := List.filter_eq_nil_iff.mpr fun x hx => by
        rw [decide_eq_true_eq]
        intro q
        exact h1 (by rw [e, ← q]; exact hx)
      rw [List.filter_cons, if_pos (decide_eq_true e), z]; exact Nat.le_refl _
    · rw [List.filter_cons, if_neg (by rw [decide_eq_false e]; decide)]; exact ih
theorem in_le {l : List Str} (h : l.Nodup) : ∀ p : List Str, (l.filter fun n => decide (n ∈ p)).length ≤ p.length
  | [] => by
    have : (l.filter fun n => decide (n ∈ ([] : List Str))) = [] := List.filter_eq_nil_iff.mpr fun x _ => by simp
    rw [this]; exact Nat.le_refl _
  | a :: p => by
    have ih := in_le h p
    have e1 := eq_le (a := a) h
    have split : ∀ l : List Str, (l.filter fun n => decide (n ∈ a :: p)).length ≤ (l.filter fun n => decide (n = a)).length + (l.filter fun n => decide (n ∈ p)).length := fun l => by
      induction l with
      | nil => exact Nat.zero_le _
      | cons b r ih =>
        have c1 : decide (b ∈ a :: p) = (decide (b = a) || decide (b ∈ p)) := by
          by_cases h1 : b = a
          · rw [decide_eq_true h1, decide_eq_true (by rw [h1]; exact List.mem_cons_self)]; rfl
          · by_cases h2 : b ∈ p
            · rw [decide_eq_true h2, decide_eq_true (List.mem_cons_of_mem _ h2), Bool.or_true]
            · rw [decide_eq_false h1, decide_eq_false h2, decide_eq_false (fun m => (List.mem_cons.mp m).elim h1 h2)]; rfl
        rw [List.filter_cons, List.filter_cons, List.filter_cons, c1]
        generalize (List.filter (fun n => decide (n ∈ a :: p)) r) = F1 at *
        generalize (List.filter (fun n => decide (n = a)) r) = F2 at *
        generalize (List.filter (fun n => decide (n ∈ p)) r) = F3 at *
        cases decide (b = a) <;> cases decide (b ∈ p) <;> simp <;> omega
    have := split l
    rw [List.length_cons]; omega
theorem spare_len {l p : List Str} (h : l.Nodup) : l.length ≤ (l.filter fun n => !decide (n ∈ p)).length + p.length := by
  have h1 := in_le h p
  have h2 : ∀ l : List Str, l.length = (l.filter fun n => decide (n ∈ p)).length + (l.filter fun n => !decide (n ∈ p)).length := fun l => by
    induction l with
    | nil => rfl
    | cons b r ih =>
      rw [List.filter_cons, List.filter_cons, List.length_cons]
      by_cases e : b ∈ p
      · rw [if_pos (decide_eq_true e), if_neg (by rw [decide_eq_true e]; decide), List.length_cons]; omega
      · rw [if_neg (by rw [decide_eq_false e]; decide), if_pos (by rw [decide_eq_false e]; rfl), List.length_cons]; omega
  have := h2 l
  omega
/-- the names that are taken or given, those of the pool that are left, those that are spare -/
structure Nms (kn lf sp : List Str) : Prop where
  nd : (kn ++ (lf ++ sp)).Nodup
  ok : ∀ n ∈ kn ++ (lf ++ sp), nameB n = true
theorem Nms.perm {kn lf sp kn' lf' sp' : List Str} (h : Nms kn lf sp) (p : (kn' ++ (lf' ++ sp')).Perm (kn ++ (lf ++ sp))) : Nms kn' lf' sp' := ⟨p.nodup_iff.mpr h.nd, fun n hn => h.ok n (p.mem_iff.mp hn)⟩
theorem Nms.take {kn lf sp : List Str} (h : Nms kn lf sp) {j : Nat} {n : Str} (e : lf[j]? = some n) : Nms (kn ++ [n]) (lf.eraseIdx j) sp := by
  refine h.perm ?_
  obtain ⟨lt, en⟩ := List.getElem?_eq_some_iff.mp e
  have p1 : (n :: lf.eraseIdx j).Perm lf := by
    rw [List.eraseIdx_eq_take_drop_succ]
    have e2 : lf = lf.take j ++ n :: lf.drop (j + 1) := by
      rw [← en, List.getElem_cons_drop, List.take_append_drop]
    conv => rhs; rw [e2]
    exact (List.perm_middle).symm
  rw [List.append_assoc]
  exact List.Perm.append_left kn (p1.append_right sp)
theorem Nms.lett {kn lf sp : List Str} (h : Nms kn lf sp) {n : Str} {sp' : List Str} (e : sp = sp' ++ [n]) : Nms (kn ++ [n]) lf sp' := by
  refine h.perm ?_
  rw [e, List.append_assoc]
  refine List.Perm.append_left kn ?_
  show (n :: (lf ++ sp')).Perm (lf ++ (sp' ++ [n]))
  rw [← List.append_assoc]
  exact List.perm_append_comm (l₁ := [n])
theorem Nms.fresh {kn lf sp : List Str} (h : Nms kn lf sp) {n : Str} (hn : n ∈ lf ++ sp) : n ∉ kn ∧ nameB n = true := by
  obtain ⟨_, _, dj⟩ := List.nodup_append.mp h.nd
  exact ⟨fun m => dj n m n hn rfl, h.ok n (List.mem_append_right _ hn)⟩
end KW
namespace KW
open PySem PySem.Spec PyProof.Rows L2 GL RZ TL
inductive StgAt (av : List Addr) (H : Hp) : V → Stg → Prop
  | take {p : Addr} {n : Str} : H p = some (.tup [.str "take", .str n]) → StgAt av H (.ref p) (.take n)
  | lett {p l : Addr} {n : Str} {ts : List Tm} : H p = some (.tup [.str "let", .str n, .ref l]) → l ∉ av → SumAt H l ts → StgAt av H (.ref p) (.lett n ts)
  | check {p l r : Addr} {L R : List Tm} {m : Int} : H p = some (.tup [.str "check", .ref l, .ref r, .int m]) → l ∉ av → r ∉ av → SumAt H l L → SumAt H r R → StgAt av H (.ref p) (.check L R m)
theorem SumAt.to {H H' : Hp} {l : Addr} {ts : List Tm} (kt : ∀ a xs, H a = some (.tup xs) → H' a = some (.tup xs)) (kl : ∀ xs, H l = some (.lst xs) → H' l = some (.lst xs)) (h : SumAt H l ts) : SumAt H' l ts := by
  obtain ⟨xs, h1, h2, h3⟩ := h
  exact ⟨xs, kl _ h1, h2.to kt, h3⟩
theorem StgAt.to {av : List Addr} {H H' : Hp} {v : V} {s : Stg} (kt : ∀ a xs, H a = some (.tup xs) → H' a = some (.tup xs)) (kl : ∀ a xs, a ∉ av → H a = some (.lst xs) → H' a = some (.lst xs)) (h : StgAt av H v s) : StgAt av H' v s := by
  cases h with
  | take a => exact .take (kt _ _ a)
  | lett a b c => exact .lett (kt _ _ a) b (c.to kt fun xs => kl _ xs b)
  | check a b c e f => exact .check (kt _ _ a) b c (e.to kt fun xs => kl _ xs b) (f.to kt fun xs => kl _ xs c)
theorem StgAt.less {av av' : List Addr} {H : Hp} {v : V} {s : Stg} (k : ∀ a, a ∈ av' → a ∈ av) (h : StgAt av H v s) : StgAt av' H v s := by
  cases h with
  | take a => exact .take a
  | lett a b c => exact .lett a (fun m => b (k _ m)) c
  | check a b c e f => exact .check a (fun m => b (k _ m)) (fun m => c (k _ m)) e f
inductive StAt (av : List Addr) (H : Hp) : List V → List Stg → Prop
  | nil : StAt av H [] []
  | cons {v : V} {s : Stg} {xs : List V} {ss : List Stg} : StgAt av H v s → StAt av H xs ss → StAt av H (v :: xs) (s :: ss)
theorem StAt.len {av : List Addr} {H : Hp} : ∀ {xs : List V} {ss : List Stg}, StAt av H xs ss → xs.length = ss.length
  | _, _, .nil => rfl
  | _, _, .cons _ t => congrArg Nat.succ t.len
theorem StAt.to {av : List Addr} {H H' : Hp} (kt : ∀ a xs, H a = some (.tup xs) → H' a = some (.tup xs)) (kl : ∀ a xs, a ∉ av → H a = some (.lst xs) → H' a = some (.lst xs)) : ∀ {xs : List V} {ss : List Stg}, StAt av H xs ss → StAt av H' xs ss
  | _, _, .nil => .nil
  | _, _, .cons a t => .cons (a.to kt kl) (t.to kt kl)
theorem StAt.less {av av' : List Addr} {H : Hp} (k : ∀ a, a ∈ av' → a ∈ av) : ∀ {xs : List V} {ss : List Stg}, StAt av H xs ss → StAt av' H xs ss
  | _, _, .nil => .nil
  | _, _, .cons a t => .cons (a.less k) (t.less k)
theorem StAt.snoc {av : List Addr} {H : Hp} {v : V} {s : Stg} (h : StgAt av H v s) : ∀ {xs : List V} {ss : List Stg}, StAt av H xs ss → StAt av H (xs ++ [v]) (ss ++ [s])
  | _, _, .nil => .cons h .nil
  | _, _, .cons a t => .cons a (t.snoc h)
theorem StAt.get {av : List Addr} {H : Hp} : ∀ {xs : List V} {ss : List Stg} {i : Nat} {v : V}, StAt av H xs ss → xs[i]? = some v → ∃ s, StgAt av H v s ∧ ss[i]? = some s
  | _, _, _, _, .nil, e => by cases e
  | _, _, 0, _, .cons a t, e => by cases e; exact ⟨_, a, rfl⟩
  | _, _, i + 1, _, .cons a t, e => StAt.get (i := i) t (by simpa using e)
def ValsN (H : Hp) (vd : Addr) (kn : List Str) (N : Nat) : Prop := ∃ kvs : List (Key × V), H vd = some (.dK kvs) ∧ kvs.length ≤ N ∧ ∀ n ∈ kn, ∃ i : Int, valV kvs (Sum.inr n : Key) = some (.int i)
theorem ValsN.at {H : Hp} {vd : Addr} {kn : List Str} {N : Nat} (h : ValsN H vd kn N) (l : N ≤ 100) : ValsAt H vd kn := by
  obtain ⟨kvs, h1, h2, h3⟩ := h
  exact ⟨kvs, h1, Nat.le_trans h2 l, h3⟩
theorem ValsN.to {H H' : Hp} {vd : Addr} {kn kn' : List Str} {N : Nat} (k : ∀ kvs, H vd = some (.dK kvs) → H' vd = some (.dK kvs)) (s : ∀ n ∈ kn', n ∈ kn) (h : ValsN H vd kn N) : ValsN H' vd kn' N := by
  obtain ⟨kvs, h1, h2, h3⟩ := h
  exact ⟨kvs, k _ h1, h2, fun n hn => h3 n (s n hn)⟩
theorem put_le (k : Key) (v : V) (kvs : List (Key × V)) : (putK kvs k v).length ≤ kvs.length + 1 := by
  unfold putK
  split
  · rw [List.length_map]; omega
  · rw [List.length_append]; exact Nat.le_refl _
theorem ValsN.put {H : Hp} {vd : Addr} {kvs : List (Key × V)} {kn kn' : List Str} {N : Nat} {n : Str} {i : Int} (l : kvs.length ≤ N) (h3 : ∀ m ∈ kn, ∃ i : Int, valV kvs (Sum.inr m : Key) = some (.int i)) (hv : H vd = some (.dK (putK kvs (Sum.inr n) (.int i)))) (s : ∀ m ∈ kn', m ∈ kn ∨ m = n) : ValsN H vd kn' (N + 1) := by
  refine ⟨_, hv, Nat.le_trans (put_le _ _ _) (Nat.succ_le_succ l), fun m hm => ?_⟩
  rw [valV_put]
  by_cases e : (Sum.inr m : Key) = Sum.inr n
  · rw [if_pos e]; exact ⟨i, rfl⟩
  · rw [if_neg e]
    exact h3 m ((s m hm).resolve_right fun z => e (by rw [z]))
/-- the places of the lists that are worked on -/
structure Pl (g Lf Kn F Sp : Addr) : Prop where
  lg : Lf ≠ g
  kg : Kn ≠ g
  fg : F ≠ g
  sg : Sp ≠ g
  lk : Lf ≠ Kn
  lf : Lf ≠ F
  ls : Lf ≠ Sp
  kf : Kn ≠ F
  ks : Kn ≠ Sp
  fs : F ≠ Sp
abbrev avs (g Lf Kn F Sp : Addr) : List Addr := [g, Lf, Kn, F, Sp]
structure SIn (d g vd pt Lf Kn F Sp : Addr) (pool : List Str) (i : Nat) (H : Hp) (xs : List V) (sts : List Stg) (lf sp : List Str) : Prop where
  hD : Deck H d g
  hpt : H pt = some (.tup (pool.map V.str))
  hF : H F = some (.lst xs)
  hS : StAt (avs g Lf Kn F Sp) H xs sts
  hok : OkAll sts
  hKn : H Kn = some (.lst ((knOf sts).map V.str))
  hLf : H Lf = some (.lst (lf.map V.str))
  hSp : H Sp = some (.lst (sp.map V.str))
  hnm : Nms (knOf sts) lf sp
  hvals : ValsN H vd (knOf sts ++ lf) (10 + i)
  hlen : sts.length = i
  hvdd : vd ≠ d
theorem SIn.mv {d g vd pt Lf Kn F Sp : Addr} {pool : List Str} {i : Nat} {H H' : Hp} {xs : List V} {sts : List Stg} {lf sp : List Str} (P : Pl g Lf Kn F Sp) (h : SIn d g vd pt Lf Kn F Sp pool i H xs sts lf sp) (D' : Deck H' d g) (m : Mv d g H H') : SIn d g vd pt Lf Kn F Sp pool i H' xs sts lf sp := by
  have kt := tups_mv h.hD m
  have kl : ∀ a xs, a ≠ g → H a = some (.lst xs) → H' a = some (.lst xs) := fun a xs ng ha => by
    obtain ⟨k, L, e1, _⟩ := h.hD.ex
    exact m.at ha ⟨(ne_of e1 ha (fun z => nomatch z)).symm, ng⟩
  refine ⟨D', kt _ _ h.hpt, kl _ _ P.fg h.hF, h.hS.to kt fun a xs na => kl a xs fun z => na (by rw [z]; exact List.mem_cons_self), h.hok, kl _ _ P.kg h.hKn, kl _ _ P.lg h.hLf, kl _ _ P.sg h.hSp, h.hnm, h.hvals.to (fun kvs hv => ?_) (fun _ q => q), h.hlen, h.hvdd⟩
  obtain ⟨k, L, _, e2, _⟩ := h.hD.ex
  exact m.at hv ⟨h.hvdd, (ne_of e2 hv (fun z => nomatch z)).symm⟩
theorem SIn.same {d g vd pt Lf Kn F Sp : Addr} {pool : List Str} {i : Nat} {H H' : Hp} {xs : List V} {sts : List Stg} {lf sp : List Str} (h : SIn d g vd pt Lf Kn F Sp pool i H xs sts lf sp) (s : Same H H') : SIn d g vd pt Lf Kn F Sp pool i H' xs sts lf sp :=
  ⟨h.hD.same s, s _ _ h.hpt, s _ _ h.hF, h.hS.to (fun _ _ e => s _ _ e) (fun _ _ _ e => s _ _ e), h.hok, s _ _ h.hKn, s _ _ h.hLf, s _ _ h.hSp, h.hnm, h.hvals.to (fun _ e => s _ _ e) (fun _ q => q), h.hlen, h.hvdd⟩
theorem erase_mapS : ∀ (l : List Str) (j : Nat), (l.eraseIdx j).map V.str = (l.map V.str).eraseIdx j
  | [], j => by simp
  | a :: r, 0 => by simp
  | a :: r, j + 1 => by
    have ih := erase_mapS r j
    simp [ih]
theorem ne_set {H : Hp} {a b : Addr} {o u : HO} (ha : H a = some o) (hb : H b = some u) (ne : o ≠ u) : a ≠ b := fun z => by
  rw [z, hb] at ha; exact ne (Option.some.inj ha).symm
theorem SIn.take {d g vd pt Lf Kn F Sp : Addr} {pool : List Str} {i : Nat} {H : Hp} {xs : List V} {sts : List Stg} {lf sp : List Str} (P : Pl g Lf Kn F Sp) (h : SIn d g vd pt Lf Kn F Sp pool i H xs sts lf sp) {j : Nat} {n : Str} (e : lf[j]? = some n) {p : Addr} (np : upd H Lf (.lst ((lf.map V.str).eraseIdx j)) p = none) :
    SIn d g vd pt Lf Kn F Sp pool (i + 1) (upd (upd (upd (upd H Lf (.lst ((lf.map V.str).eraseIdx j))) p (.tup [.str "take", .str n])) F (.lst (xs ++ [.ref p]))) Kn (.lst ((knOf sts).map V.str ++ [.str n]))) (xs ++ [.ref p]) (sts ++ [.take n]) (lf.eraseIdx j) sp := by
  have nLp : Lf ≠ p := fun z => by rw [← z, upd_same] at np; cases np
  have np0 : H p = none := by rw [upd_ne nLp.symm] at np; exact np
  have npF : F ≠ p := ne_of_none h.hF np0
  have npK : Kn ≠ p := ne_of_none h.hKn np0
  have npS : Sp ≠ p := ne_of_none h.hSp np0
  have kt : ∀ a ys, H a = some (.tup ys) → (upd (upd (upd (upd H Lf (.lst ((lf.map V.str).eraseIdx j))) p (.tup [.str "take", .str n])) F (.lst (xs ++ [.ref p]))) Kn (.lst ((knOf sts).map V.str ++ [.str n]))) a = some (.tup ys) := fun a ys ha => by
    rw [upd_ne (ne_set ha h.hKn (fun z => nomatch z)), upd_ne (ne_set ha h.hF (fun z => nomatch z)), upd_ne (ne_of_none ha np0), upd_ne (ne_set ha h.hLf (fun z => nomatch z))]; exact ha
  have kl : ∀ a ys, a ∉ avs g Lf Kn F Sp → H a = some (.lst ys) → (upd (upd (upd (upd H Lf (.lst ((lf.map V.str).eraseIdx j))) p (.tup [.str "take", .str n])) F (.lst (xs ++ [.ref p]))) Kn (.lst ((knOf sts).map V.str ++ [.str n]))) a = some (.lst ys) := fun a ys na ha => by
    rw [upd_ne (fun z => na (by rw [z]; simp)), upd_ne (fun z => na (by rw [z]; simp)), upd_ne (ne_of_none ha np0), upd_ne (fun z => na (by rw [z]; simp))]; exact ha
  have offL : Lf ≠ d ∧ Lf ≠ g := ⟨by obtain ⟨k, L, e1, _⟩ := h.hD.ex; exact (ne_of e1 h.hLf (fun z => nomatch z)).symm, P.lg⟩
  have offF : F ≠ d ∧ F ≠ g := ⟨by obtain ⟨k, L, e1, _⟩ := h.hD.ex; exact (ne_of e1 h.hF (fun z => nomatch z)).symm, P.fg⟩
  have offK : Kn ≠ d ∧ Kn ≠ g := ⟨by obtain ⟨k, L, e1, _⟩ := h.hD.ex; exact (ne_of e1 h.hKn (fun z => nomatch z)).symm, P.kg⟩
  have hn := h.hnm.fresh (List.mem_append_left sp (List.mem_of_getElem? e))
  have en : n ≠ "" := (name_not hn.2).2.2.2.1
  have ek : knOf (sts ++ [.take n]) = knOf sts ++ [n] := by rw [kn_snoc]; show _ ++ (if n = "" then [] else [n]) = _; rw [if_neg en]
  refine ⟨(((h.hD.mut offL).new np).mut offF).mut offK, kt _ _ h.hpt, ?_, ?_, all_snoc h.hok ⟨hn.2, not_all hn.2 hn.1⟩, ?_, ?_, ?_, by rw [ek]; exact h.hnm.take e, ?_, by rw [List.length_append, h.hlen]; rfl, h.hvdd⟩
  · rw [upd_ne P.kf.symm, upd_same]
  · refine (h.hS.to kt kl).snoc (.take ?_)
    rw [upd_ne npK.symm, upd_ne npF.symm, upd_same]
  · rw [upd_same, ek, List.map_append]; rfl
  · rw [upd_ne P.lk, upd_ne P.lf, upd_ne nLp, upd_same]
    exact congrArg (fun z => some (HO.lst z)) (erase_mapS _ _).symm
  · rw [upd_ne P.ks.symm, upd_ne P.fs.symm, upd_ne npS, upd_ne P.ls.symm]; exact h.hSp
  · rw [ek]
    refine ValsN.to (fun kvs hv => ?_) (fun m hm => ?_) (show ValsN H vd (knOf sts ++ lf) (10 + (i + 1)) from by obtain ⟨kvs, a, b, c⟩ := h.hvals; exact ⟨kvs, a, by omega, c⟩)
    · rw [upd_ne (ne_set hv h.hKn (fun z => nomatch z)), upd_ne (ne_set hv h.hF (fun z => nomatch z)), upd_ne (ne_of_none hv np0), upd_ne (ne_set hv h.hLf (fun z => nomatch z))]; exact hv
    · rcases List.mem_append.mp hm with hm | hm
      · rcases List.mem_append.mp hm with hm | hm
        · exact List.mem_append_left _ hm
        · rw [List.mem_singleton.mp hm]; exact List.mem_append_right _ (List.mem_of_getElem? e)
      · exact List.mem_append_right _ (List.mem_of_mem_eraseIdx hm)
theorem SIn.pop {d g vd pt Lf Kn F Sp : Addr} {pool : List Str} {i : Nat} {H : Hp} {xs : List V} {sts : List Stg} {lf sp' : List Str} {n : Str} (P : Pl g Lf Kn F Sp) (h : SIn d g vd pt Lf Kn F Sp pool i H xs sts lf (sp' ++ [n])) :
    SIn d g vd pt Lf Kn F Sp pool i (upd H Sp (.lst (sp'.map V.str))) xs sts lf sp' := by
  have kt : ∀ a ys, H a = some (.tup ys) → upd H Sp (.lst (sp'.map V.str)) a = some (.tup ys) := fun a ys ha => by rw [upd_ne (ne_set ha h.hSp (fun z => nomatch z))]; exact ha
  have offS : Sp ≠ d ∧ Sp ≠ g := ⟨by obtain ⟨k, L, e1, _⟩ := h.hD.ex; exact (ne_of e1 h.hSp (fun z => nomatch z)).symm, P.sg⟩
  refine ⟨h.hD.mut offS, kt _ _ h.hpt, by rw [upd_ne P.fs]; exact h.hF, h.hS.to kt (fun a ys na ha => by rw [upd_ne (fun z => na (by rw [z]; simp))]; exact ha), h.hok, by rw [upd_ne P.ks]; exact h.hKn, by rw [upd_ne P.ls]; exact h.hLf, upd_same, ?_, h.hvals.to (fun kvs hv => by rw [upd_ne (ne_set hv h.hSp (fun z => nomatch z))]; exact hv) (fun _ q => q), h.hlen, h.hvdd⟩
  have sub : (knOf sts ++ (lf ++ sp')).Sublist (knOf sts ++ (lf ++ (sp' ++ [n]))) := List.Sublist.append_left (List.Sublist.append_left (List.sublist_append_left _ _) _) _
  exact ⟨h.hnm.nd.sublist sub, fun m hm => h.hnm.ok m (sub.subset hm)⟩
theorem SIn.lett {d g vd pt Lf Kn F Sp : Addr} {pool : List Str} {i : Nat} {H : Hp} {xs : List V} {sts : List Stg} {lf sp : List Str} {n : Str} {ts : List Tm} {l p : Addr} {v : Int} {kvs : List (Key × V)} (P : Pl g Lf Kn F Sp) (h : SIn d g vd pt Lf Kn F Sp pool i H xs sts lf sp) (nm : Nms (knOf sts ++ [n]) lf sp)
    (hk : n ∉ knOf sts) (hn : nameB n = true) (okt : OkSm (knOf sts) ts) (hsum : SumAt H l ts) (hl : l ∉ avs g Lf Kn F Sp) (np : H p = none) (hv : H vd = some (.dK kvs)) :
    SIn d g vd pt Lf Kn F Sp pool (i + 1) (upd (upd (upd (upd H p (.tup [.str "let", .str n, .ref l])) F (.lst (xs ++ [.ref p]))) vd (.dK (putK kvs (Sum.inr n) (.int v)))) Kn (.lst ((knOf sts).map V.str ++ [.str n]))) (xs ++ [.ref p]) (sts ++ [.lett n ts]) lf sp := by
  have npF : F ≠ p := ne_of_none h.hF np
  have npK : Kn ≠ p := ne_of_none h.hKn np
  have npL : Lf ≠ p := ne_of_none h.hLf np
  have npS : Sp ≠ p := ne_of_none h.hSp np
  have npV : vd ≠ p := ne_of_none hv np
  have nVF : vd ≠ F := ne_set hv h.hF (fun z => nomatch z)
  have nVK : vd ≠ Kn := ne_set hv h.hKn (fun z => nomatch z)
  have kt : ∀ a ys, H a = some (.tup ys) → (upd (upd (upd (upd H p (.tup [.str "let", .str n, .ref l])) F (.lst (xs ++ [.ref p]))) vd (.dK (putK kvs (Sum.inr n) (.int v)))) Kn (.lst ((knOf sts).map V.str ++ [.str n]))) a = some (.tup ys) := fun a ys ha => by
    rw [upd_ne (ne_set ha h.hKn (fun z => nomatch z)), upd_ne (ne_set ha hv (fun z => nomatch z)), upd_ne (ne_set ha h.hF (fun z => nomatch z)), upd_ne (ne_of_none ha np)]; exact ha
  have kl : ∀ a ys, a ∉ avs g Lf Kn F Sp → H a = some (.lst ys) → (upd (upd (upd (upd H p (.tup [.str "let", .str n, .ref l])) F (.lst (xs ++ [.ref p]))) vd (.dK (putK kvs (Sum.inr n) (.int v)))) Kn (.lst ((knOf sts).map V.str ++ [.str n]))) a = some (.lst ys) := fun a ys na ha => by
    rw [upd_ne (fun z => na (by rw [z]; simp)), upd_ne (ne_set ha hv (fun z => nomatch z)), upd_ne (fun z => na (by rw [z]; simp)), upd_ne (ne_of_none ha np)]; exact ha
  have offF : F ≠ d ∧ F ≠ g := ⟨by obtain ⟨k, L, e1, _⟩ := h.hD.ex; exact (ne_of e1 h.hF (fun z => nomatch z)).symm, P.fg⟩
  have offK : Kn ≠ d ∧ Kn ≠ g := ⟨by obtain ⟨k, L, e1, _⟩ := h.hD.ex; exact (ne_of e1 h.hKn (fun z => nomatch z)).symm, P.kg⟩
  have offV : vd ≠ d ∧ vd ≠ g := ⟨h.hvdd, by obtain ⟨k, L, _, e2, _⟩ := h.hD.ex; exact (ne_of e2 hv (fun z => nomatch z)).symm⟩
  have en : n ≠ "" := (name_not hn).2.2.2.1
  have ek : knOf (sts ++ [.lett n ts]) = knOf sts ++ [n] := by rw [kn_snoc]; show _ ++ (if n = "" then [] else [n]) = _; rw [if_neg en]
  refine ⟨(((h.hD.new np).mut offF).mut offV).mut offK, kt _ _ h.hpt, ?_, ?_, all_snoc h.hok ⟨hn, not_all hn hk, okt.mono fun m hm => mem_kn hm⟩, ?_, ?_, ?_, by rw [ek]; exact nm, ?_, by rw [List.length_append, h.hlen]; rfl, h.hvdd⟩
  · rw [upd_ne P.kf.symm, upd_ne nVF.symm, upd_same]
  · refine (h.hS.to kt kl).snoc (.lett ?_ hl (hsum.to kt fun ys e => kl _ ys hl e))
    rw [upd_ne npK.symm, upd_ne npV.symm, upd_ne npF.symm, upd_same]
  · rw [upd_same, ek, List.map_append]; rfl
  · rw [upd_ne P.lk, upd_ne (ne_set h.hLf hv (fun z => nomatch z)), upd_ne P.lf, upd_ne npL]; exact h.hLf
  · rw [upd_ne P.ks.symm, upd_ne (ne_set h.hSp hv (fun z => nomatch z)), upd_ne P.fs.symm, upd_ne npS]; exact h.hSp
  · rw [ek]
    obtain ⟨kvs', hv', l', c'⟩ := h.hvals
    rw [hv] at hv'
    cases hv'
    refine ValsN.put (kn := knOf sts ++ lf) l' c' (by rw [upd_ne nVK, upd_same]) fun m hm => ?_
    rcases List.mem_append.mp hm with hm | hm
    · rcases List.mem_append.mp hm with hm | hm
      · exact .inl (List.mem_append_left _ hm)
      · exact .inr (List.mem_singleton.mp hm)
    · exact .inl (List.mem_append_right _ hm)
theorem SIn.check {d g vd pt Lf Kn F Sp : Addr} {pool : List Str} {i : Nat} {H : Hp} {xs : List V} {sts : List Stg} {lf sp : List Str} {L R : List Tm} {m : Int} {l r p : Addr} (P : Pl g Lf Kn F Sp) (h : SIn d g vd pt Lf Kn F Sp pool i H xs sts lf sp)
    (hp : H p = some (.tup [.str "check", .ref l, .ref r, .int m])) (hl : l ∉ avs g Lf Kn F Sp) (hr : r ∉ avs g Lf Kn F Sp) (sL : SumAt H l L) (sR : SumAt H r R) (oL : OkSm (knOf sts) L) (oR : OkSm (knOf sts) R) (oM : OkM m) :
    SIn d g vd pt Lf Kn F Sp pool (i + 1) (upd H F (.lst (xs ++ [.ref p]))) (xs ++ [.ref p]) (sts ++ [.check L R m]) lf sp := by
  have kt : ∀ a ys, H a = some (.tup ys) → upd H F (.lst (xs ++ [.ref p])) a = some (.tup ys) := fun a ys ha => by rw [upd_ne (ne_set ha h.hF (fun z => nomatch z))]; exact ha
  have kl : ∀ a ys, a ∉ avs g Lf Kn F Sp → H a = some (.lst ys) → upd H F (.lst (xs ++ [.ref p])) a = some (.lst ys) := fun a ys na ha => by rw [upd_ne (fun z => na (by rw [z]; simp))]; exact ha
  have offF : F ≠ d ∧ F ≠ g := ⟨by obtain ⟨k, L, e1, _⟩ := h.hD.ex; exact (ne_of e1 h.hF (fun z => nomatch z)).symm, P.fg⟩
  have ek : knOf (sts ++ [.check L R m]) = knOf sts := by rw [kn_snoc]; show _ ++ (if ("" : Str) = "" then [] else [_]) = _; rw [if_pos rfl, List.append_nil]
  refine ⟨h.hD.mut offF, kt _ _ h.hpt, upd_same, ?_, all_snoc h.hok ⟨oL.mono fun m hm => mem_kn hm, oR.mono fun m hm => mem_kn hm, oM⟩, ?_, ?_, ?_, by rw [ek]; exact h.hnm, ?_, by rw [List.length_append, h.hlen]; rfl, h.hvdd⟩
  · exact (h.hS.to kt kl).snoc (.check (kt _ _ hp) hl hr (sL.to kt fun ys e => kl _ ys hl e) (sR.to kt fun ys e => kl _ ys hr e))
  · rw [upd_ne P.kf, ek]; exact h.hKn
  · rw [upd_ne P.lf]; exact h.hLf
  · rw [upd_ne P.fs.symm]; exact h.hSp
  · rw [ek]
    exact ValsN.to (fun kvs hv => by rw [upd_ne (ne_set hv h.hF (fun z => nomatch z))]; exact hv) (fun _ q => q) (show ValsN H vd (knOf sts ++ lf) (10 + (i + 1)) from by obtain ⟨kvs, a, b, c⟩ := h.hvals; exact ⟨kvs, a, by omega, c⟩)
end KW
namespace KW
open PySem PySem.Spec PyProof.Rows L2 GL RZ TL
/-- a test, told only by what its answer must be -/
def tCutT (t : TT) : TT := fun σ H Q => ∃ R : Bool → Hp → Prop, t σ H R ∧ ∀ b H', R b H' → Q b H'
theorem pt_cutT {X : Cx} {e : Expr} {t : TT} (h : PT X e t) : PT X e (tCutT t) := ⟨fun pins s σ H Q I ⟨R, hw, m⟩ => thn (h.run pins s σ H R I hw) fun _ _ ⟨H1, I1, q⟩ => ⟨H1, I1, m _ H1 q⟩⟩
def spStages (K : PySem.W.Frag) : Sp := fun vs H Q _ => ∃ (d g pt vd st : Addr) (pool ps : List Str), vs = [.ref d, .ref pt, .ref vd, .ref st] ∧ Deck H d g ∧ H pt = some (.tup (pool.map V.str)) ∧ SqT K H st (ps.map V.str) ∧ ValsN H vd pool 10 ∧ vd ≠ d ∧ pool.length ≤ 3 ∧ pool.Nodup ∧ (∀ n ∈ pool, nameB n = true) ∧ ps.Nodup ∧ ps.length = 9 ∧ (∀ n ∈ ps, nameB n = true) ∧
  ∀ (F : Addr) (xs : List V) (sts : List Stg) (H' : Hp), Deck H' d g → H' F = some (.lst xs) → F ≠ g → StAt [g] H' xs sts → OkAll sts → sts.length ≤ 10 → knOf sts ≠ [] → (knOf sts).Nodup → (∀ n ∈ knOf sts, nameB n = true) → Q (.ref F) H'
section
variable {P : Program} {w : World} {K : PySem.W.Frag} {mg : Str → Option Value} {base : Heap}
abbrev s_stages : Stmt := topS 31
theorem sc_stages : FnScope ["_law_deck_here", "_law_pool_here", "_law_values", "_law_passing", "_law_left", "_law_more", "_law_known_here", "_law_found", "_law_spare", "_law_name_here", "_law_k", "_law_turn"] ["_law_deck_here", "_law_pool_here", "_law_values", "_law_passing"] (defScope s_stages) := ⟨rfl, rfl, rfl, by decide +kernel, rfl, by decide +kernel, by decide +kernel⟩
theorem ok_stages {f : Addr} {fd : FuncData} (F : Fun K "_law_stages" "_law_stages" s_stages f fd) (gl : mg "_law_stages" = some (.ref f)) (T : Bl mg) (Tlist : mg "list" = none) (D_draw : DefG P w K mg base 1 "_law_draw" ["_law_deck_here", "_law_many"] spDraw) (D_sum : DefG P w K mg base 3 "_law_sum" ["_law_deck_here", "_law_known_here"] spSum)
    (D_value : DefG P w K mg base 1 "_law_value" ["_law_terms", "_law_values"] spValue) (D_check : DefG P w K mg base 4 "_law_check" ["_law_deck_here", "_law_known_here", "_law_values"] spCheckL) : DefG P w K mg base 5 "_law_stages" ["_law_deck_here", "_law_pool_here", "_law_values", "_law_passing"] (spStages K) := by
  refine def_mk F gl (F.binds fun _ _ _ _ _ _ us hl => match us, hl with | [_, _, _, _], _ => rfl) (okG F sc_stages (fun vs H Q E h => ?_) fun cdv A outer s H vs Q E hr hc h => ?_)
  · obtain ⟨d, g, pt, vd, st, pool, ps, rfl, _⟩ := h
    rfl
  · obtain ⟨d, g, pt, vd, st, pool, ps, rfl, D, hpt, hst, hvals, nvd, p3, pnd, pok, snd, s9, sok, q⟩ := h
    have nd := sc_stages.nd
    have hu := hu_of hr
    have hu64 := hr.units
    refine ⟨_, (pss_cons (ps_asg (pe_tup (pa_cons (pe_callTy call_list_of (by rfl) Tlist boot_list (pa_cons (pv 1) pa_nil)) (pa_cons (pe_def D_draw (hr.mono (by decide)) hc (by rfl) (pa_cons (pv 0) (pa_cons pe_int pa_nil))) (pa_cons (pe_lst pa_nil) (pa_cons (pe_lst pa_nil) pa_nil))))) (pg_tup rfl (pgs_cons (pg_name (i := 4) nd rfl (by first | exact Or.inl rfl | exact Or.inr rfl)) (pgs_cons (pg_name (i := 5) nd rfl (by first | exact Or.inl rfl | exact Or.inr rfl)) (pgs_cons (pg_name (i := 6) nd rfl (by first | exact Or.inl rfl | exact Or.inr rfl)) (pgs_cons (pg_name (i := 7) nd rfl (by first | exact Or.inl rfl | exact Or.inr rfl)) pgs_nil))))))
      (pss_cons (ps_setLc (i := 8) (own := [("_law_name_here", 9)]) (g := (gName 9)) rfl nd rfl rfl (sw_true rfl rfl rfl (by decide +kernel)) (pi_tup (pv 3)) (blkOk_by (own := [("_law_name_here", 9)]) (N := ["_law_deck_here", "_law_pool_here", "_law_values", "_law_passing", "_law_left", "_law_more", "_law_known_here", "_law_found", "_law_spare", "_law_name_here", "_law_k", "_law_turn"]) (sc := defScope s_stages) (by decide +kernel)) (fun _ _ _ _ _ => (pg_name (i := 9) nd rfl (by first | exact Or.inl rfl | exact Or.inr rfl))) (fun _ _ _ _ _ => (pts_one (pt_cmpR (op_notInK (K := K)) (pv 9) (pv 1) (by with_unfolding_all rfl)))) (fun _ _ _ _ _ => (pv 9)))
      (pss_cons (ps_for PassesOwn.never rfl (pi_range1 (by rfl) T.range (pa_cons (pe_op op_add (pe_callB call_len_seq (by rfl) T.len boot_len (pa_cons (pv 1) pa_nil)) (pv 5)) pa_nil)) (pg_name (i := 10) nd rfl (by first | exact Or.inl rfl | exact Or.inr rfl))
        (pss_cons (ps_set (i := 11) nd rfl (by first | exact Or.inl rfl | exact Or.inr rfl) (pe_def D_draw (hr.mono (by decide)) hc (by rfl) (pa_cons (pv 0) (pa_cons pe_int pa_nil))))
        (pss_one (ps_if (pt_cutT (PW.pt (pw_and (pt_cmpR (op_neP (K := K) hu64) (pv 4) (pe_lst pa_nil) (nomark _)) (pw_and1 (PW.pt (pw_or (pt_cmpR op_eq (pv 11) pe_int (nomark _)) (pw_or1 (pt_cmpR op_eq (pe_op op_add (pe_op op_sub (pe_callB call_len_seq (by rfl) T.len boot_len (pa_cons (pv 7) pa_nil)) (pe_callB call_len_seq (by rfl) T.len boot_len (pa_cons (pv 1) pa_nil))) (pe_callB call_len_seq (by rfl) T.len boot_len (pa_cons (pv 4) pa_nil))) (pv 5) (nomark _)))))))))
          (pss_cons (ps_expr (pe_bm PySem.F.plainAttrs_list PySem.F.slot_list_append PySem.F.type_list_append mt_append (pv 7) (pa_cons (pe_tup (pa_cons pe_str (pa_cons (pe_bm PySem.F.plainAttrs_list PySem.F.slot_list_pop PySem.F.type_list_pop mt_popAt (pv 4) (pa_cons (pe_def D_draw (hr.mono (by decide)) hc (by rfl) (pa_cons (pv 0) (pa_cons (pe_callB call_len_seq (by rfl) T.len boot_len (pa_cons (pv 4) pa_nil)) pa_nil))) pa_nil)) pa_nil))) pa_nil)))
          (pss_one (ps_expr (pe_bm PySem.F.plainAttrs_list PySem.F.slot_list_append PySem.F.type_list_append mt_append (pv 6) (pa_cons (pe_ix ix_tup (pe_ix ix_list (pv 7) (pe_un un_neg pe_int) (fun _ _ => rfl)) pe_int (fun _ _ => rfl)) pa_nil)))))
          (pss_one (ps_if (pt_cmpR op_lt (pv 11) pe_int (nomark _))
            (pss_cons (ps_expr (pe_bm PySem.F.plainAttrs_list PySem.F.slot_list_append PySem.F.type_list_append mt_append (pv 7) (pa_cons (pe_tup (pa_cons pe_str (pa_cons (pe_bm0 PySem.F.plainAttrs_list PySem.F.slot_list_pop PySem.F.type_list_pop mt_pop (pv 8)) (pa_cons (pe_def D_sum (hr.mono (by decide)) hc (by rfl) (pa_cons (pv 0) (pa_cons (pv 6) pa_nil))) pa_nil)))) pa_nil)))
            (pss_cons (ps_dput hu (pv 2) (pe_ix ix_tup (pe_ix ix_list (pv 7) (pe_un un_neg pe_int) (fun _ _ => rfl)) pe_int (fun _ _ => rfl)) (pe_def D_value (hr.mono (by decide)) hc (by rfl) (pa_cons (pe_ix ix_tup (pe_ix ix_list (pv 7) (pe_un un_neg pe_int) (fun _ _ => rfl)) pe_int (fun _ _ => rfl)) (pa_cons (pv 2) pa_nil))) rfl)
            (pss_one (ps_expr (pe_bm PySem.F.plainAttrs_list PySem.F.slot_list_append PySem.F.type_list_append mt_append (pv 6) (pa_cons (pe_ix ix_tup (pe_ix ix_list (pv 7) (pe_un un_neg pe_int) (fun _ _ => rfl)) pe_int (fun _ _ => rfl)) pa_nil))))))
            (pss_one (ps_expr (pe_bm PySem.F.plainAttrs_list PySem.F.slot_list_append PySem.F.type_list_append mt_append (pv 7) (pa_cons (pe_def D_check (hr.mono (by decide)) hc (by rfl) (pa_cons (pv 0) (pa_cons (pv 6) (pa_cons (pv 2) pa_nil)))) pa_nil))))))))))
      (pss_cons (ps_if (pt_cmpR (op_eqP (K := K) hu64) (pv 6) (pe_lst pa_nil) (nomark _))
        (pss_cons (ps_set (i := 7) nd rfl (by first | exact Or.inl rfl | exact Or.inr rfl) (pe_lst (pa_cons (pe_tup (pa_cons pe_str (pa_cons (pe_ix ix_list (pv 8) pe_int (fun _ _ => rfl)) (pa_cons (pe_def D_sum (hr.mono (by decide)) hc (by rfl) (pa_cons (pv 0) (pa_cons (pe_lst pa_nil) pa_nil))) pa_nil)))) pa_nil)))
        (pss_one (ps_dput hu (pv 2) (pe_ix ix_list (pv 8) pe_int (fun _ _ => rfl)) (pe_def D_value (hr.mono (by decide)) hc (by rfl) (pa_cons (pe_ix ix_tup (pe_ix ix_list (pv 7) pe_int (fun _ _ => rfl)) pe_int (fun _ _ => rfl)) (pa_cons (pv 2) pa_nil))) rfl)))
        pss_nil)
      (pss_one (ps_ret (pv 7))))))), ?_⟩
    refine ⟨_, rfl, pt, _, rfl, .inr (tofT hpt), fun Lf nLf => ?_⟩
    have offL := D.off nLf
    have sLf := Same.new (o := .lst (pool.map V.str)) nLf
    have D0 := D.new (o := .lst (pool.map V.str)) nLf
    refine ⟨_, rfl, d, g, 6, rfl, D0, by decide, by decide, fun more H1 m0 m1 D1 M1 => ?_⟩
    have hLf1 : H1 Lf = some (.lst (pool.map V.str)) := M1.at upd_same offL
    have hpt1 : H1 pt = some (.tup (pool.map V.str)) := tups_mv D0 M1 _ _ (sLf _ _ hpt)
    have hst1 : SqT K H1 st (ps.map V.str) := sq_mv D0 M1 (Same.tup sLf hst)
    have hv1 : ValsN H1 vd pool 10 := hvals.to (fun kvs hv => by
      obtain ⟨k, L, _, e2, _⟩ := D.ex
      exact M1.at (sLf _ _ hv) ⟨nvd, (ne_of e2 hv (fun z => nomatch z)).symm⟩) (fun _ q => q)
    refine ⟨Nat.zero_le _, fun Kn nKn => ?_⟩
    have nLK : Lf ≠ Kn := ne_of_none hLf1 nKn
    have offK := D1.off nKn
    have sK := Same.new (o := .lst []) nKn
    have hKn2 : upd H1 Kn (.lst []) Kn = some (.lst []) := upd_same
    have hLf2 := sK _ _ hLf1
    have D2 := D1.new (o := .lst []) nKn
    generalize upd H1 Kn (.lst []) = H2 at *
    refine ⟨Nat.zero_le _, fun F nF => ?_⟩
    have nLF : Lf ≠ F := ne_of_none hLf2 nF
    have nKF : Kn ≠ F := ne_of_none hKn2 nF
    have offF := D2.off nF
    have sF := Same.new (o := .lst []) nF
    have hF3 : upd H2 F (.lst []) F = some (.lst []) := upd_same
    have hKn3 := sF _ _ hKn2
    have hLf3 := sF _ _ hLf2
    have D3 := D2.new (o := .lst []) nF
    generalize upd H2 F (.lst []) = H3 at *
    refine ⟨(show 4 ≤ sizeLine from small (by decide)), fun tq ntq => ?_⟩
    have sT := Same.new (o := .tup [.ref Lf, .int more, .ref Kn, .ref F]) ntq
    refine ⟨tq, _, rfl, tofT upd_same, rfl, _, _, rfl, _, _, rfl, _, _, rfl, _, _, rfl, rfl, ?_⟩
    have D4 := D3.new (o := .tup [.ref Lf, .int more, .ref Kn, .ref F]) ntq
    have s14 := sK.trans (sF.trans sT)
    generalize upd H3 tq (.tup [.ref Lf, .int more, .ref Kn, .ref F]) = H4 at *
    have hF4 := sT _ _ hF3
    have hKn4 := sT _ _ hKn3
    have hLf4 := sT _ _ hLf3
    have hpt4 := s14 _ _ hpt1
    have hst4 := Same.tup s14 hst1
    have hv4 := hv1.to (fun _ e => s14 _ _ e) (fun _ q => q)
    -- spare
    refine ⟨_, rfl, st, rfl, ⟨_, hst4⟩, fun Sp nSp => ?_⟩
    have nLS : Lf ≠ Sp := ne_of_none hLf4 nSp
    have nKS : Kn ≠ Sp := ne_of_none hKn4 nSp
    have nFS : F ≠ Sp := ne_of_none hF4 nSp
    have offS := D4.off nSp
    refine lc_tup (K := K) (a := st) (xs := ps.map V.str) (fun i Hx => Same H4 Hx ∧ Hx Sp = some (.lst (((ps.take i).filter fun z => !decide (z ∈ pool)).map V.str))) ⟨Same.new nSp, upd_same⟩ (fun i Hx _ h => Same.tup h.1 hst4) ?_ ?_
    · rintro i x Hx hi ⟨sx, hD⟩
      obtain ⟨z, rfl, hz, hil⟩ := strs_at hi
      have ft := flt_take (fun z => !decide (z ∈ pool)) hz
      refine ⟨rfl, _, rfl, _, rfl, pt, _, rfl, .inr (tofT (sx _ _ hpt4)), rfl, flat_strs pool, _, rfl, ?_⟩
      rw [if_pos rfl, inV_strs]
      refine ite2 (fun e => ?_) (fun e => ?_)
      · refine ⟨_, rfl, _, hD, ?_, ?_, ?_⟩
        · rw [List.length_map]; exact smallt (Nat.lt_of_le_of_lt (List.length_filter_le _ _) (by rw [List.length_take]; omega))
        · intro b u hb
          rw [upd_ne (ne_of_none hb nSp)]
          exact sx _ _ hb
        · rw [upd_same, ft, if_pos e, List.map_append]; rfl
      · refine ⟨sx, ?_⟩
        rw [ft, if_neg e, List.append_nil]
        exact hD
    rintro H5 ⟨s5, hSp5⟩
    rw [List.length_map, List.take_length] at hSp5
    have slen := spare_len (p := pool) snd
    have snd' : (ps.filter fun z => !decide (z ∈ pool)).Nodup := snd.filter _
    have sdis : ∀ z ∈ (ps.filter fun z => !decide (z ∈ pool)), z ∉ pool := fun z hz => by
      have := (List.mem_filter.mp hz).2
      intro m
      rw [decide_eq_true m] at this
      exact absurd this (by decide)
    have sok' : ∀ z ∈ (ps.filter fun z => !decide (z ∈ pool)), nameB z = true := fun z hz => sok z (List.mem_filter.mp hz).1
    generalize eSp : (ps.filter fun z => !decide (z ∈ pool)) = sp0 at *
    have PL : Pl g Lf Kn F Sp := ⟨offL.2, offK.2, offF.2, offS.2, nLK, nLF, nLS, nKF, nKS, nFS⟩
    have nm0 : Nms (knOf []) pool sp0 := ⟨by
      show ([] ++ (pool ++ sp0)).Nodup
      rw [List.nil_append]
      exact List.nodup_append.mpr ⟨pnd, snd', fun a ha b hb e => sdis b hb (e ▸ ha)⟩, fun n hn => by
      have hn : n ∈ pool ++ sp0 := hn
      exact (List.mem_append.mp hn).elim (pok n) (sok' n)⟩
    have I0 : SIn d g vd pt Lf Kn F Sp pool 0 H5 [] [] pool sp0 := ⟨D4.same s5, s5 _ _ hpt4, s5 _ _ hF4, .nil, fun i s e => (by cases e), s5 _ _ hKn4, s5 _ _ hLf4, hSp5, nm0, hv4.to (fun _ e => s5 _ _ e) (fun n hn => hn), rfl, nvd⟩
    -- the laps
    refine ⟨_, rfl, pt, _, rfl, .inr (tofT (s5 _ _ hpt4)), _, rfl, _, _, rfl, rfl, _, rfl, ?_⟩
    rw [List.length_map]
    refine ⟨by omega, by omega, ?_⟩
    refine for_range (fun i σ Hx => ∃ (xs : List V) (sts : List Stg) (lf sp : List Str) (v9 v10 v11 : Option V), σ = [some (.ref d), some (.ref pt), some (.ref vd), some (.ref st), some (.ref Lf), some (.int more), some (.ref Kn), some (.ref F), some (.ref Sp), v9, v10, v11] ∧ SIn d g vd pt Lf Kn F Sp pool i Hx xs sts lf sp ∧
        lf.length ≤ pool.length ∧ ((i : Int) + lf.length ≤ pool.length + more) ∧ pool.length ≤ i + lf.length ∧ 6 + pool.length ≤ sp.length + (i + lf.length))
      ⟨[], [], pool, sp0, none, none, none, rfl, I0, Nat.le_refl _, by omega, by omega, by omega⟩ ?_ ?_
    · rintro i σ Hx hi ⟨xs, sts, lf, sp, v9, v10, v11, rfl, I, c1, c2, c3, c4⟩
      refine ⟨_, rfl, d, g, 3, rfl, I.hD, by decide, by decide, fun turn Ha t0 t1 Da Ma => ?_⟩
      have Ia := I.mv PL Da Ma
      have xl : xs.length = i := by rw [Ia.hS.len, Ia.hlen]
      have l9 : ∀ n : Nat, n ≤ 100 → n < sizeLine := fun n hn => smallt (by omega)
      refine ⟨fun b H' => Same Ha H' ∧ ((b = true ∧ lf ≠ []) ∨ (b = false ∧ (lf = [] ∨ ((i : Int) - pool.length + lf.length ≠ more)))), ?_, ?_⟩
      · refine ⟨_, rfl, Nat.zero_le _, fun o no => ?_⟩
        have so := Same.new (o := .lst []) no
        refine ⟨.list (lf.map PyData.str), .list (([] : List Str).map PyData.str), .lst (tofL (so _ _ Ia.hLf)) (dpa_strs _), .lst (tofL upd_same) (dpa_strs []), plain_strs _, plain_strs _, depth_strs _, _, rfl, ?_⟩
        rw [eqv_strs]
        have Io := Ia.same so
        generalize upd Ha o (.lst []) = Ho at *
        refine ite2 (fun e => ?_) (fun e => ?_)
        · have hne : lf ≠ [] := fun z => by rw [z] at e; exact absurd e (by simp)
          refine ⟨_, rfl, rfl, _, rfl, ite2 (fun e2 => ⟨so, .inl ⟨rfl, hne⟩⟩) (fun e2 => ?_)⟩
          refine ⟨_, rfl, F, _, rfl, .inl (tofL Io.hF), _, rfl, pt, _, rfl, .inr (tofT Io.hpt), _, _, rfl, rfl, _, rfl, Lf, _, rfl, .inl (tofL Io.hLf), _, _, rfl, rfl, _, rfl, rfl, _, rfl, ?_⟩
          refine ⟨so, ?_⟩
          by_cases e3 : (V.int (((xs.length : Int) - ((pool.map V.str).length : Int)) + ((lf.map V.str).length : Int))) = V.int more
          · exact .inl ⟨decide_eq_true e3, hne⟩
          · refine .inr ⟨decide_eq_false e3, .inr fun z => e3 ?_⟩
            rw [List.length_map, List.length_map, xl]; exact congrArg V.int z
        · exact ⟨so, .inr ⟨rfl, .inl (by
            cases lf with
            | nil => rfl
            | cons y r => exact absurd (by simp) e)⟩⟩
      rintro b Hb ⟨sb, hb⟩
      have Ib := Ia.same sb
      rcases hb with ⟨rfl, hne⟩ | ⟨rfl, hno⟩
      · refine iteT ?_
        have lfp : 0 < lf.length := by
          cases lf with
          | nil => exact absurd rfl hne
          | cons y r => exact Nat.succ_pos _
        refine ⟨_, rfl, ty_l (tofL Ib.hF), _, rfl, ty_l (tofL Ib.hLf), _, rfl, _, rfl, Lf, _, rfl, .inl (tofL Ib.hLf), ?_⟩
        rw [List.length_map]
        refine ⟨d, g, _, rfl, Ib.hD, by omega, by omega, fun j Hc j0 j1 Dc Mc => ?_⟩
        have Ic := Ib.mv PL Dc Mc
        obtain ⟨jn, rfl⟩ : ∃ jn : Nat, j = jn := ⟨j.toNat, by omega⟩
        have jl : jn < lf.length := by omega
        have ej : lf[jn]? = some lf[jn] := List.getElem?_eq_getElem jl
        generalize lf[jn] = n at ej
        refine ⟨Lf, _, (jn : Int), jn, V.str n, rfl, rfl, Ic.hLf, by omega, by omega, ?_, ?_, ?_⟩
        · rw [List.length_map]; exact seqIndex_of (by omega) (by omega)
        · rw [List.getElem?_map, ej]; rfl
        refine ⟨(show 2 ≤ sizeLine from small (by decide)), fun p np => ?_⟩
        have Id := Ic.take PL ej np
        have i6 : i ≤ 10 := by omega
        have nLp : Lf ≠ p := fun z => by rw [← z, upd_same] at np; cases np
        have np0 : Hc p = none := by rw [upd_ne nLp.symm] at np; exact np
        have npF : F ≠ p := ne_of_none Ic.hF np0
        have npK : Kn ≠ p := ne_of_none Ic.hKn np0
        have h1 : upd (upd Hc Lf (.lst ((lf.map V.str).eraseIdx jn))) p (.tup [.str "take", .str n]) F = some (.lst xs) := by
          rw [upd_ne npF, upd_ne nLF.symm]; exact Ic.hF
        have h2 : upd (upd (upd Hc Lf (.lst ((lf.map V.str).eraseIdx jn))) p (.tup [.str "take", .str n])) F (.lst (xs ++ [.ref p])) p = some (.tup [.str "take", .str n]) := by
          rw [upd_ne npF.symm, upd_same]
        have h3 : upd (upd (upd Hc Lf (.lst ((lf.map V.str).eraseIdx jn))) p (.tup [.str "take", .str n])) F (.lst (xs ++ [.ref p])) Kn = some (.lst ((knOf sts).map V.str)) := by
          rw [upd_ne nKF, upd_ne npK, upd_ne nLK.symm]; exact Ic.hKn
        have k10 : (knOf sts).length ≤ 20 := Nat.le_trans (List.length_filter_le _ _) (by rw [allN, List.length_map, Ic.hlen]; omega)
        refine ⟨F, xs, _, rfl, rfl, h1, smallt (by omega), ?_⟩
        refine ⟨_, rfl, ty_l (tofL h3), _, rfl, _, rfl, F, _, _, _, rfl, rfl, tofL upd_same, atI_last _ _, p, _, _, _, rfl, rfl, tofT h2, rfl, ?_⟩
        refine ⟨Kn, _, _, rfl, rfl, h3, by rw [List.length_map]; exact smallt (by omega), ?_⟩
        refine ⟨xs ++ [.ref p], sts ++ [.take n], lf.eraseIdx jn, sp, _, _, _, rfl, Id, ?_⟩
        rw [List.length_eraseIdx_of_lt jl]
        exact ⟨by omega, by omega, by omega, by omega⟩
      · refine iteF ⟨_, rfl, turn, 2, rfl, rfl, _, rfl, ite2 (fun e3 => ?_) (fun e3 => ?_)⟩
        · have hsp : sp ≠ [] := fun z => by
            rw [z] at c4
            have : ([] : List Str).length = 0 := rfl
            omega
          obtain ⟨sp', n, rfl⟩ : ∃ sp' n, sp = sp' ++ [n] := ⟨sp.dropLast, sp.getLast hsp, (List.dropLast_concat_getLast hsp).symm⟩
          have hfr := Ib.hnm.fresh (n := n) (List.mem_append_right _ (List.mem_append_right _ List.mem_cons_self))
          refine ⟨_, rfl, ty_l (tofL Ib.hF), _, rfl, ty_l (tofL Ib.hSp), Sp, _, V.str n, rfl, rfl, Ib.hSp, ?_, ?_⟩
          · rw [List.map_append, List.length_append]
            exact (List.getElem?_append_right (by simp)).trans (by simp)
          rw [List.map_append, show (sp'.map V.str ++ [n].map V.str).dropLast = sp'.map V.str from List.dropLast_concat]
          have Ic := Ib.pop PL
          have k10 : (knOf sts).length ≤ 20 := Nat.le_trans (List.length_filter_le _ _) (by rw [allN, List.length_map, Ic.hlen]; omega)
          refine ⟨_, rfl, _, rfl, d, g, Kn, knOf sts, rfl, Ic.hD, Ic.hKn, PL.kg, ⟨k10, fun z hz => Ic.hnm.ok z (List.mem_append_left _ hz)⟩, fun l ts Hc Dc Mc nl lg hs oks => ⟨(show 3 ≤ sizeLine from small (by decide)), fun p np => ?_⟩⟩
          have Id := Ic.mv PL Dc Mc
          obtain ⟨kvs, hv, lv, cv⟩ := Id.hvals
          have hl : l ∉ avs g Lf Kn F Sp := fun m => by
            rcases List.mem_cons.mp m with e | m
            · exact lg e
            rcases List.mem_cons.mp m with e | m
            · exact ne_of_none Ic.hLf nl e.symm
            rcases List.mem_cons.mp m with e | m
            · exact ne_of_none Ic.hKn nl e.symm
            rcases List.mem_cons.mp m with e | m
            · exact ne_of_none Ic.hF nl e.symm
            rcases List.mem_cons.mp m with e | m
            · exact ne_of_none Ic.hSp nl e.symm
            · cases m
          have nlF : l ≠ F := (ne_of_none Ic.hF nl).symm
          have npF : F ≠ p := ne_of_none Id.hF np
          have npK : Kn ≠ p := ne_of_none Id.hKn np
          have npV : vd ≠ p := ne_of_none hv np
          have nVF : vd ≠ F := ne_set hv Id.hF (fun z => nomatch z)
          have nVK : vd ≠ Kn := ne_set hv Id.hKn (fun z => nomatch z)
          have h1 : upd Hc p (.tup [.str "let", .str n, .ref l]) F = some (.lst xs) := by rw [upd_ne npF]; exact Id.hF
          have h2 : upd (upd Hc p (.tup [.str "let", .str n, .ref l])) F (.lst (xs ++ [.ref p])) p = some (.tup [.str "let", .str n, .ref l]) := by rw [upd_ne npF.symm, upd_same]
          have h3 : upd (upd Hc p (.tup [.str "let", .str n, .ref l])) F (.lst (xs ++ [.ref p])) vd = some (.dK kvs) := by rw [upd_ne nVF, upd_ne npV]; exact hv
          have hs2 : SumAt (upd (upd Hc p (.tup [.str "let", .str n, .ref l])) F (.lst (xs ++ [.ref p]))) l ts := hs.to (fun a ys ha => by rw [upd_ne (ne_set ha Id.hF (fun z => nomatch z)), upd_ne (ne_of_none ha np)]; exact ha) (fun ys ha => by rw [upd_ne nlF, upd_ne (ne_of_none ha np)]; exact ha)
          refine ⟨F, xs, _, rfl, rfl, h1, smallt (by omega), ?_⟩
          refine ⟨_, rfl, _, rfl, F, _, _, _, rfl, rfl, tofL upd_same, atI_last _ _, p, _, _, _, rfl, rfl, tofT h2, rfl, _, rfl, l, vd, knOf sts, ts, rfl, hs2, oks, ⟨kvs, h3, by omega, fun m hm => cv m (List.mem_append_left _ hm)⟩, fun v => ?_⟩
          refine ⟨_, rfl, _, rfl, _, rfl, F, _, _, _, rfl, rfl, tofL upd_same, atI_last _ _, p, _, _, _, rfl, rfl, tofT h2, rfl, vd, _, rfl, DPut.k (k := Sum.inr n) h3 (smallt (by omega)), ?_⟩
          have h4 : upd (upd (upd Hc p (.tup [.str "let", .str n, .ref l])) F (.lst (xs ++ [.ref p]))) vd (.dK (putK kvs (Sum.inr n) (.int v))) Kn = some (.lst ((knOf sts).map V.str)) := by rw [upd_ne nVK.symm, upd_ne nKF, upd_ne npK]; exact Id.hKn
          have h5 : upd (upd (upd Hc p (.tup [.str "let", .str n, .ref l])) F (.lst (xs ++ [.ref p]))) vd (.dK (putK kvs (Sum.inr n) (.int v))) F = some (.lst (xs ++ [.ref p])) := by rw [upd_ne nVF.symm, upd_same]
          have h6 : upd (upd (upd Hc p (.tup [.str "let", .str n, .ref l])) F (.lst (xs ++ [.ref p]))) vd (.dK (putK kvs (Sum.inr n) (.int v))) p = some (.tup [.str "let", .str n, .ref l]) := by rw [upd_ne npV.symm]; exact h2
          refine ⟨_, rfl, ty_l (tofL h4), _, rfl, _, rfl, F, _, _, _, rfl, rfl, tofL h5, atI_last _ _, p, _, _, _, rfl, rfl, tofT h6, rfl, ?_⟩
          refine ⟨Kn, _, _, rfl, rfl, h4, by rw [List.length_map]; exact smallt (by omega), ?_⟩
          have Ie := Id.lett (v := v) PL (Ib.hnm.lett rfl) hfr.1 hfr.2 oks hs hl np hv
          refine ⟨xs ++ [.ref p], sts ++ [.lett n ts], lf, sp', _, _, _, rfl, Ie, c1, ?_, by omega, ?_⟩
          · rcases hno with z | z
            · rw [z] at c2 ⊢
              have : ([] : List Str).length = 0 := rfl
              omega
            · omega
          · rw [List.length_append] at c4
            have : [n].length = 1 := rfl
            omega
        · have k10 : (knOf sts).length ≤ 20 := Nat.le_trans (List.length_filter_le _ _) (by rw [allN, List.length_map, Ib.hlen]; omega)
          have okK : ∀ z ∈ knOf sts, nameB z = true := fun z hz => Ib.hnm.ok z (List.mem_append_left _ hz)
          refine ⟨_, rfl, ty_l (tofL Ib.hF), _, rfl, _, rfl, _, rfl, d, g, Kn, vd, knOf sts, rfl, Ib.hD, Ib.hKn, PL.kg, ⟨k10, okK⟩, (Ib.hvals.to (kn' := knOf sts) (fun _ e => e) (fun m hm => List.mem_append_left _ hm)).at (by omega), nvd, fun p l r m L R Hc Dc Mc hp nl nr sL sR oL oR oM => ?_⟩
          have Id := Ib.mv PL Dc Mc
          have no : ∀ a, Hb a = none → a ∉ avs g Lf Kn F Sp := fun a na m => by
            rcases List.mem_cons.mp m with e | m
            · obtain ⟨k, L, _, e2, _⟩ := Ib.hD.ex
              rw [e, e2] at na; cases na
            rcases List.mem_cons.mp m with e | m
            · exact ne_of_none Ib.hLf na e.symm
            rcases List.mem_cons.mp m with e | m
            · exact ne_of_none Ib.hKn na e.symm
            rcases List.mem_cons.mp m with e | m
            · exact ne_of_none Ib.hF na e.symm
            rcases List.mem_cons.mp m with e | m
            · exact ne_of_none Ib.hSp na e.symm
            · cases m
          have Ie := Id.check PL hp (no l nl) (no r nr) sL sR oL oR oM
          refine ⟨F, xs, _, rfl, rfl, Id.hF, smallt (by omega), ?_⟩
          refine ⟨xs ++ [.ref p], sts ++ [.check L R m], lf, sp, _, _, _, rfl, Ie, c1, ?_, by omega, by omega⟩
          rcases hno with z | z
          · rw [z] at c2 ⊢
            have : ([] : List Str).length = 0 := rfl
            omega
          · omega
    · rintro σ Hx ⟨xs, sts, lf, sp, v9, v10, v11, rfl, I, c1, c2, c3, c4⟩
      have okK : ∀ z ∈ knOf sts, nameB z = true := fun z hz => I.hnm.ok z (List.mem_append_left _ hz)
      refine ⟨_, rfl, Nat.zero_le _, fun o no => ?_⟩
      have so := Same.new (o := .lst []) no
      refine ⟨.list ((knOf sts).map PyData.str), .list (([] : List Str).map PyData.str), .lst (tofL (so _ _ I.hKn)) (dpa_strs _), .lst (tofL upd_same) (dpa_strs []), plain_strs _, plain_strs _, depth_strs _, _, rfl, ?_⟩
      rw [eqv_strs]
      have Io := I.same so
      generalize upd Hx o (.lst []) = Ho at *
      refine ite2 (fun e => ?_) (fun e => ?_)
      · have hsp : 0 < sp.length := by omega
        obtain ⟨n, rest, rfl⟩ : ∃ n rest, sp = n :: rest := by
          cases sp with
          | nil => exact absurd hsp (Nat.lt_irrefl 0)
          | cons n rest => exact ⟨n, rest, rfl⟩
        have hn : nameB n = true := (Io.hnm.fresh (n := n) (List.mem_append_right _ List.mem_cons_self)).2
        refine ⟨_, rfl, Sp, _, _, _, rfl, rfl, tofL Io.hSp, atI_nat (j := 0) rfl, _, rfl, Nat.zero_le _, fun k nk => ?_⟩
        have offk := Io.hD.off nk
        have sk := Same.new (o := .lst []) nk
        have Ik := Io.same sk
        refine ⟨d, g, k, [], rfl, Ik.hD, upd_same, offk.2, ⟨Nat.zero_le _, fun z hz => nomatch hz⟩, fun l ts Hc Dc Mc nl lg hs oks => ⟨(show 3 ≤ sizeLine from small (by decide)), fun p np => ⟨(show 1 ≤ sizeLine from small (by decide)), fun F2 nF2 => ?_⟩⟩⟩
        have Id := Ik.mv PL Dc Mc
        obtain ⟨kvs, hv, lv, cv⟩ := Id.hvals
        have sp1 := Same.new (o := .tup [.str "let", .str n, .ref l]) np
        have hp1 : upd Hc p (.tup [.str "let", .str n, .ref l]) p = some (.tup [.str "let", .str n, .ref l]) := upd_same
        have I1 := Id.same sp1
        have hs1 := hs.to (fun _ _ ha => sp1 _ _ ha) (fun _ ha => sp1 _ _ ha)
        have hv1 := sp1 _ _ hv
        generalize upd Hc p (.tup [.str "let", .str n, .ref l]) = H1' at *
        have sF2 := Same.new (o := .lst [.ref p]) nF2
        have hF2 : upd H1' F2 (.lst [.ref p]) F2 = some (.lst [.ref p]) := upd_same
        have offF2 := I1.hD.off nF2
        have I2 := I1.same sF2
        have hp2 := sF2 _ _ hp1
        have hs2 := hs1.to (fun _ _ ha => sF2 _ _ ha) (fun _ ha => sF2 _ _ ha)
        have hv2 := sF2 _ _ hv1
        generalize upd H1' F2 (.lst [.ref p]) = H2' at *
        refine ⟨_, rfl, F2, _, _, _, rfl, rfl, tofL hF2, rfl, p, _, _, _, rfl, rfl, tofT hp2, rfl, _, rfl, l, vd, [], ts, rfl, hs2, oks, ⟨kvs, hv2, by omega, fun m hm => nomatch hm⟩, fun v => ?_⟩
        refine ⟨_, rfl, _, rfl, Sp, _, _, _, rfl, rfl, tofL I2.hSp, atI_nat (j := 0) rfl, vd, _, rfl, DPut.k (k := Sum.inr n) hv2 (smallt (by omega)), ?_⟩
        have nVF : vd ≠ F2 := ne_set hv2 hF2 (fun z => nomatch z)
        have offV : vd ≠ d ∧ vd ≠ g := ⟨nvd, by obtain ⟨k, L, _, e2, _⟩ := I2.hD.ex; exact (ne_of e2 hv2 (fun z => nomatch z)).symm⟩
        have kt : ∀ a ys, H2' a = some (.tup ys) → upd H2' vd (.dK (putK kvs (Sum.inr n) (.int v))) a = some (.tup ys) := fun a ys ha => by rw [upd_ne (ne_set ha hv2 (fun z => nomatch z))]; exact ha
        have kl : ∀ a ys, H2' a = some (.lst ys) → upd H2' vd (.dK (putK kvs (Sum.inr n) (.int v))) a = some (.lst ys) := fun a ys ha => by rw [upd_ne (ne_set ha hv2 (fun z => nomatch z))]; exact ha
        have en : n ≠ "" := (name_not hn).2.2.2.1
        have ek : knOf [Stg.lett n ts] = [n] := by
          have := kn_snoc [] (Stg.lett n ts)
          rw [List.nil_append] at this
          rw [this]
          show ([] : List Str) ++ (if n = "" then [] else [n]) = _
          rw [if_neg en]; rfl
        refine ⟨_, rfl, q F2 [.ref p] [.lett n ts] _ (I2.hD.mut offV) (kl _ _ hF2) offF2.2 (.cons (.lett (kt _ _ hp2) (fun m => lg (List.mem_singleton.mp m)) (hs2.to kt (kl _)))   .nil) ?_ (show 1 ≤ 10 by decide) (by rw [ek]; exact fun z => nomatch z) (by rw [ek]; exact List.pairwise_singleton _ _) (fun m hm => by rw [ek] at hm; rw [List.mem_singleton.mp hm]; exact hn)⟩
        have := all_snoc (sts := []) (s := .lett n ts) (fun i s e => by cases e) ⟨hn, (fun m => nomatch m), oks⟩
        exact this
      · refine ⟨_, rfl, q F xs sts Ho Io.hD Io.hF PL.fg (Io.hS.less fun a m => by rw [List.mem_singleton.mp m]; exact List.mem_cons_self) Io.hok (by rw [Io.hlen]; omega) (fun z => e (decide_eq_true z)) (List.nodup_append.mp Io.hnm.nd).1 okK⟩
end
end KW
namespace KW
open PySem PySem.Spec PyProof.Rows L2 GL RZ TL
/-! ### the law's own text of a line -/
theorem cons_tl (x : List Nat) {r : List (List Nat)} (h : r ≠ []) : joinL [32] (x :: r) = x ++ ([32] ++ joinL [32] r) := by
  cases r with
  | nil => exact absurd rfl h
  | cons y r => rfl
theorem mapne {α β : Type} {f : α → β} {l : List α} (h : l ≠ []) : l.map f ≠ [] := fun z => h (List.map_eq_nil_iff.mp z)
theorem take_text (n : Str) : ("take " : Str) ++ n = lineP (.take n) := by
  refine TL.ext_tl ?_
  unfold lineP
  rw [tl_joinT, tl_append]
  show tl ("take " : Str) ++ tl n = tl ("take" : Str) ++ ([32] ++ tl n)
  have a : tl ("take " : Str) = tl ("take" : Str) ++ [32] := by decide +kernel
  rw [a, List.append_assoc]
theorem let_text (n : Str) {ts : List Tm} (h : sumWs ts ≠ []) : ("let " : Str) ++ n ++ " = " ++ Txt.join " " (sumWs ts) = lineP (.lett n ts) := by
  refine TL.ext_tl ?_
  unfold lineP stW
  rw [tl_joinT, tl_append, tl_append, tl_append, tl_joinT, List.map_cons, List.map_cons, List.map_cons, cons_tl _ (by simp), cons_tl _ (by simp), cons_tl _ (mapne h)]
  have a : tl ("let " : Str) = tl ("let" : Str) ++ [32] := by decide +kernel
  have b : tl (" = " : Str) = [32] ++ (tl ("=" : Str) ++ [32]) := by decide +kernel
  rw [a, b]
  simp only [List.append_assoc]
def tailT (m : Int) : Str := if m = 0 then "" else " mod " ++ sN m
theorem check_text {l r : List Tm} (m : Int) (hl : sumWs l ≠ []) (hr : sumWs r ≠ []) : ("check " : Str) ++ Txt.join " " (sumWs l) ++ " = " ++ Txt.join " " (sumWs r) ++ tailT m = lineP (.check l r m) := by
  refine TL.ext_tl ?_
  unfold lineP stW ckW
  have a : tl ("check " : Str) = tl ("check" : Str) ++ [32] := by decide +kernel
  have b : tl (" = " : Str) = [32] ++ (tl ("=" : Str) ++ [32]) := by decide +kernel
  have c : tl (" mod " : Str) = [32] ++ (tl ("mod" : Str) ++ [32]) := by decide +kernel
  rw [tl_joinT, tl_append, tl_append, tl_append, tl_append, tl_joinT, tl_joinT, List.map_cons, cons_tl _ (by simp), a, b]
  by_cases e : m = 0
  · have e1 : tailT m = "" := by unfold tailT; rw [if_pos e]
    have e2 : modW m = [] := by unfold modW; rw [if_pos e]
    have e3 : tl ("" : Str) = [] := rfl
    rw [e1, e2, e3, List.append_nil, List.append_nil, List.map_append, joinL_app _ _ _ (mapne hl) (by simp), List.map_cons, cons_tl _ (mapne hr)]
    simp only [List.append_assoc]
  · have e1 : tailT m = " mod " ++ sN m := by unfold tailT; rw [if_neg e]
    have e2 : modW m = [("mod" : Str), sN m] := by unfold modW; rw [if_neg e]
    rw [e1, e2, tl_append, c, List.map_append, joinL_app _ _ _ (by simp) (by simp), List.map_append, joinL_app _ _ _ (mapne hl) (by simp), List.map_cons, cons_tl _ (mapne hr)]
    show _ = tl ("check" : Str) ++ ([32] ++ (joinL [32] ((sumWs l).map tl) ++ ([32] ++ (tl ("=" : Str) ++ ([32] ++ joinL [32] ((sumWs r).map tl)))) ++ ([32] ++ (tl ("mod" : Str) ++ ([32] ++ tl (sN m))))))
    simp only [List.append_assoc]
theorem sumj_len {given : List Str} {ts : List Tm} (h : OkSm given ts) : sumWs ts ≠ [] ∧ (Txt.join " " (sumWs ts)).length ≤ 1364 := by
  have ok : OkStg given (.check ts ts 0) := ⟨h, h, .inl rfl⟩
  have sh := st_short ok
  have ln := (st_len ok).2
  have mem : ∀ w ∈ sumWs ts, w ∈ stW (.check ts ts 0) := fun w hw => List.mem_cons_of_mem _ (List.mem_append_left _ (List.mem_append_left _ hw))
  have ll : (sumWs ts).length ≤ 22 := by
    refine Nat.le_trans ?_ ln
    show _ ≤ (("check" : Str) :: (sumWs ts ++ ("=" : Str) :: sumWs ts ++ modW 0)).length
    rw [List.length_cons, List.length_append, List.length_append]
    omega
  refine ⟨sum_ne h.1, ?_⟩
  have := joinT_len " " 61 (sumWs ts) fun z hz => by rw [str_len2]; exact sh z (mem z hz)
  have b1 : (" " : Str).length = 1 := by decide +kernel
  rw [b1] at this
  have k1 : (sumWs ts).length * (61 + 1) ≤ 22 * 62 := Nat.mul_le_mul_right _ ll
  omega
theorem keep_text (ks : List Str) (h : ks ≠ []) : ("keep " : Str) ++ Txt.join " " ks = keepP ks := by
  refine TL.ext_tl ?_
  unfold keepP
  rw [tl_joinT, tl_append, tl_joinT, List.map_cons, cons_tl _ (mapne h)]
  have a : tl ("keep " : Str) = tl ("keep" : Str) ++ [32] := by decide +kernel
  rw [a, List.append_assoc]
def spStepT : Sp := fun vs H Q _ => ∃ (av : List Addr) (v : V) (given : List Str) (s : Stg), vs = [v] ∧ StgAt av H v s ∧ OkStg given s ∧ ∀ H', Same H H' → Q (.str (lineP s)) H'
section
variable {P : Program} {w : World} {K : PySem.W.Frag} {mg : Str → Option Value} {base : Heap}
abbrev s_step_text : Stmt := topS 32
theorem sc_step_text : FnScope ["_law_step", "_law_tail"] ["_law_step"] (defScope s_step_text) := ⟨rfl, rfl, rfl, by decide +kernel, rfl, by decide +kernel, by decide +kernel⟩
theorem ok_step_text {f : Addr} {fd : FuncData} (F : Fun K "_law_step_text" "_law_step_text" s_step_text f fd) (gl : mg "_law_step_text" = some (.ref f)) (T : Bl mg) (D_sum_text : DefG P w K mg base 1 "_law_sum_text" ["_law_terms"] spSumT) : DefG P w K mg base 2 "_law_step_text" ["_law_step"] spStepT := by
  refine def_mk F gl (F.binds fun _ _ _ _ _ _ us hl => match us, hl with | [_], _ => rfl) (okG F sc_step_text (fun vs H Q E h => ?_) fun cdv A outer s H vs Q E hr hc h => ?_)
  · obtain ⟨av, v, given, st, rfl, _⟩ := h
    rfl
  · obtain ⟨av, v, given, st, rfl, hs, ok, q⟩ := h
    have nd := sc_step_text.nd
    refine ⟨_, (pss_cons (ps_if (pt_cmpR op_eq (pe_ix ix_tup (pv 0) pe_int (fun _ _ => rfl)) pe_str (nomark _))
        (pss_one (ps_ret (pe_op op_add_str pe_str (pe_ix ix_tup (pv 0) pe_int (fun _ _ => rfl)))))
        pss_nil)
      (pss_cons (ps_if (pt_cmpR op_eq (pe_ix ix_tup (pv 0) pe_int (fun _ _ => rfl)) pe_str (nomark _))
        (pss_one (ps_ret (pe_op op_add_str (pe_op op_add_str (pe_op op_add_str pe_str (pe_ix ix_tup (pv 0) pe_int (fun _ _ => rfl))) pe_str) (pe_def D_sum_text (hr.mono (by decide)) hc (by rfl) (pa_cons (pe_ix ix_tup (pv 0) pe_int (fun _ _ => rfl)) pa_nil)))))
        pss_nil)
      (pss_cons (ps_set (i := 1) nd rfl (by first | exact Or.inl rfl | exact Or.inr rfl) (pe_cutE (pe_ifExp (pt_cmpR op_eq (pe_ix ix_tup (pv 0) pe_int (fun _ _ => rfl)) pe_int (nomark _)) pe_str (pe_op op_add_str pe_str (pe_callTy call_str_int (by rfl) T.str boot_str (pa_cons (pe_ix ix_tup (pv 0) pe_int (fun _ _ => rfl)) pa_nil))))))
      (pss_one (ps_ret (pe_op op_add_str (pe_op op_add_str (pe_op op_add_str (pe_op op_add_str pe_str (pe_def D_sum_text (hr.mono (by decide)) hc (by rfl) (pa_cons (pe_ix ix_tup (pv 0) pe_int (fun _ _ => rfl)) pa_nil))) pe_str) (pe_def D_sum_text (hr.mono (by decide)) hc (by rfl) (pa_cons (pe_ix ix_tup (pv 0) pe_int (fun _ _ => rfl)) pa_nil))) (pv 1))))))), ?_⟩
    have b4 : ("let " : Str).length = 4 := by decide +kernel
    have b5 : ("take " : Str).length = 5 := by decide +kernel
    have b6 : ("check " : Str).length = 6 := by decide +kernel
    have b3 : (" = " : Str).length = 3 := by decide +kernel
    have bm : (" mod " : Str).length = 5 := by decide +kernel
    cases hs with
    | @take p n hp =>
      have nl : n.length ≤ 8 := by rw [str_len2]; exact (name_len8 ok.1).2
      refine ⟨_, rfl, p, _, _, _, rfl, rfl, tofT hp, rfl, rfl, _, rfl, ite2 (fun _ => ?_) (fun e => absurd (decide_eq_true rfl) e)⟩
      refine ⟨_, rfl, p, _, _, _, rfl, rfl, tofT hp, rfl, _, _, rfl, rfl, small (by rw [b5]; omega), ?_⟩
      rw [take_text]
      exact q _ (fun _ _ h => h)
    | @lett p l n ts hp hl hsum =>
      have nl : n.length ≤ 8 := by rw [str_len2]; exact (name_len8 ok.1).2
      obtain ⟨sne, sl⟩ := sumj_len ok.2.2
      refine ⟨_, rfl, p, _, _, _, rfl, rfl, tofT hp, rfl, rfl, _, rfl, ite2 (fun e => absurd e (by decide +kernel)) (fun _ => ?_)⟩
      refine ⟨_, rfl, p, _, _, _, rfl, rfl, tofT hp, rfl, rfl, _, rfl, ite2 (fun _ => ?_) (fun e => absurd (decide_eq_true rfl) e)⟩
      refine ⟨_, rfl, p, _, _, _, rfl, rfl, tofT hp, rfl, _, _, rfl, rfl, small (by rw [b4]; omega), _, _, rfl, rfl, small (by rw [app_len, b4, b3]; omega), ?_⟩
      refine ⟨_, rfl, p, _, _, _, rfl, rfl, tofT hp, rfl, l, given, ts, rfl, hsum, ok.2.2, fun H' s' => ⟨_, _, rfl, rfl, small (by rw [app_len, app_len, b4, b3]; omega), ?_⟩⟩
      rw [let_text n sne]
      exact q _ s'
    | @check p l r L R m hp hl hr' hL hR =>
      obtain ⟨sneL, slL⟩ := sumj_len ok.1
      obtain ⟨sneR, slR⟩ := sumj_len ok.2.1
      refine ⟨_, rfl, p, _, _, _, rfl, rfl, tofT hp, rfl, rfl, _, rfl, ite2 (fun e => absurd e (by decide +kernel)) (fun _ => ?_)⟩
      refine ⟨_, rfl, p, _, _, _, rfl, rfl, tofT hp, rfl, rfl, _, rfl, ite2 (fun e => absurd e (by decide +kernel)) (fun _ => ?_)⟩
      have mB : m.natAbs < 10 ^ 60 := by
        rcases ok.2.2 with rfl | ⟨a, b⟩
        · decide +kernel
        · omega
      have lgm : m.natAbs.log2 < 1920 := PySem.Flt.log2_lt_of (by decide) (Nat.lt_trans mB (by decide +kernel))
      have lm : (sN m).length ≤ 61 := by
        rcases ok.2.2 with rfl | ⟨a, b⟩
        · decide +kernel
        · rw [str_len2]; exact sN_len (by omega) b
      have lt : (tailT m).length ≤ 66 := by
        unfold tailT
        split
        · decide +kernel
        · rw [app_len, bm]; omega
      refine ⟨fun x H' => x = .str (tailT m) ∧ H' = H, ?_, ?_⟩
      · refine ⟨_, rfl, p, _, _, _, rfl, rfl, tofT hp, rfl, rfl, _, rfl, ite2 (fun e => ?_) (fun e => ?_)⟩
        · have e0 : m = 0 := by have := of_decide_eq_true e; cases this; rfl
          exact ⟨by unfold tailT; rw [if_pos e0], rfl⟩
        · have e0 : ¬ m = 0 := fun z => e (by rw [z]; exact decide_eq_true rfl)
          refine ⟨_, rfl, p, _, _, _, rfl, rfl, tofT hp, rfl, m, rfl, lgm, _, _, rfl, rfl, small (by rw [bm]; have : (sN m).length ≤ 61 := lm; exact Nat.le_trans (Nat.add_le_add_left this 5) (by decide)), ?_, rfl⟩
          unfold tailT; rw [if_neg e0]; rfl
      rintro x H' ⟨rfl, rfl⟩
      refine ⟨_, rfl, p, _, _, _, rfl, rfl, tofT hp, rfl, l, given, L, rfl, hL, ok.1, fun H1 s1 => ⟨_, _, rfl, rfl, small (by rw [b6]; omega), _, _, rfl, rfl, small (by rw [app_len, b6, b3]; omega), ?_⟩⟩
      refine ⟨_, rfl, p, _, _, _, rfl, rfl, tofT (s1 _ _ hp), rfl, r, given, R, rfl, hR.to (fun _ _ h => s1 _ _ h) (fun _ h => s1 _ _ h), ok.2.1, fun H2 s2 => ⟨_, _, rfl, rfl, small (by rw [app_len, app_len, b6, b3]; omega), ?_⟩⟩
      refine ⟨_, rfl, _, _, rfl, rfl, small (by rw [app_len, app_len, app_len, b6, b3]; omega), ?_⟩
      rw [check_text m sneL sneR]
      exact q _ (s1.trans s2)
end
end KW
namespace KW
open PySem PySem.Spec PyProof.Rows L2 GL RZ TL
theorem StgAt.head {av : List Addr} {H : Hp} {v : V} {s : Stg} (h : StgAt av H v s) : ∃ p x r, v = .ref p ∧ H p = some (.tup (.str (wordOf s) :: x :: r)) ∧ (wordOf s ≠ "check" → x = .str (nameOf s)) := by
  cases h with
  | take a => exact ⟨_, _, _, rfl, a, fun _ => rfl⟩
  | lett a _ _ => exact ⟨_, _, _, rfl, a, fun _ => rfl⟩
  | check a _ _ _ _ => exact ⟨_, _, _, rfl, a, fun z => absurd rfl z⟩
theorem wn_take (sts : List Stg) (i : Nat) : wn (sts.take i) = (wn sts).take i := by unfold wn; rw [List.map_take]
theorem wn_at {sts : List Stg} {i : Nat} {s : Stg} (h : sts[i]? = some s) : (wn sts)[i]? = some (wordOf s, nameOf s) := by unfold wn; rw [List.getElem?_map, h]; rfl
theorem wn_len (sts : List Stg) : (wn sts).length = sts.length := by unfold wn; rw [List.length_map]
theorem kn_names {sts : List Stg} (h : OkAll sts) : namesOf (wn sts) = knOf sts := by
  unfold namesOf knOf allN wn
  rw [List.filter_map, List.map_map, List.filter_map]
  show ((sts.filter _).map nameOf) = ((sts.filter _).map nameOf)
  congr 1
  refine List.filter_congr fun s hs => ?_
  obtain ⟨i, hi⟩ := List.getElem?_of_mem hs
  have ok := h i s hi
  cases s with
  | take n =>
    have en : n ≠ "" := (name_not ok.1).2.2.2.1
    show (!decide (("take" : Str) = "check")) = (!decide (n = ""))
    rw [decide_eq_false en]; decide +kernel
  | lett n ts =>
    have en : n ≠ "" := (name_not ok.1).2.2.2.1
    show (!decide (("let" : Str) = "check")) = (!decide (n = ""))
    rw [decide_eq_false en]; decide +kernel
  | check l r m => rfl
def spKnown : Sp := fun vs H Q _ => ∃ (F : Addr) (av : List Addr) (xs : List V) (sts : List Stg), vs = [.ref F] ∧ H F = some (.lst xs) ∧ StAt av H xs sts ∧ sts.length ≤ 10 ∧ ∀ (p : Addr) (H' : Hp), Same H H' → H p = none → H' p = some (.lst ((namesOf (wn sts)).map V.str)) → Q (.ref p) H'
section
variable {P : Program} {w : World} {K : PySem.W.Frag} {mg : Str → Option Value} {base : Heap}
abbrev s_known : Stmt := topS 34
theorem sc_known : FnScope ["_law_stages_here", "_law_step"] ["_law_stages_here"] (defScope s_known) := ⟨rfl, rfl, rfl, by decide +kernel, rfl, by decide +kernel, by decide +kernel⟩
theorem ok_known {f : Addr} {fd : FuncData} (F : Fun K "_law_known" "_law_known" s_known f fd) (gl : mg "_law_known" = some (.ref f)) (T : Bl mg) : DefG P w K mg base 1 "_law_known" ["_law_stages_here"] spKnown := by
  refine def_mk F gl (F.binds fun _ _ _ _ _ _ us hl => match us, hl with | [_], _ => rfl) (okG F sc_known (fun vs H Q E h => ?_) fun cdv A outer s H vs Q E hr hc h => ?_)
  · obtain ⟨F, av, xs, sts, rfl, _⟩ := h
    rfl
  · obtain ⟨F, av, xs, sts, rfl, hF, hS, l10, q⟩ := h
    have nd := sc_known.nd
    refine ⟨_, (pss_one (ps_ret (pe_lc (own := [("_law_step", 1)]) (g := (gName 1)) rfl nd (pi_list (pv 0)) (blkOk_by (own := [("_law_step", 1)]) (N := ["_law_stages_here", "_law_step"]) (sc := defScope s_known) (by decide +kernel)) (fun _ _ _ _ _ => (pg_name (i := 1) nd rfl (by first | exact Or.inl rfl | exact Or.inr rfl))) (fun _ _ _ _ _ => (pts_one (pt_cmpR op_ne (pe_ix (G3.ix_tupK (K := K)) (pv 1) pe_int (fun _ _ => rfl)) pe_str (nomark _)))) (fun _ _ _ _ _ => (pe_ix (G3.ix_tupK (K := K)) (pv 1) pe_int (fun _ _ => rfl)))))), ?_⟩
    have xl := hS.len
    refine ⟨_, rfl, F, rfl, ⟨_, tofL hF⟩, fun D nD => ?_⟩
    refine lc_list (K := K) (a := F) (xs := xs) (fun i Hx => Same H Hx ∧ Hx D = some (.lst ((namesOf (wn (sts.take i))).map V.str))) ⟨Same.new nD, upd_same⟩ (fun i Hx _ h => tofL (h.1 _ _ hF)) ?_ ?_
    · rintro i v Hx hi ⟨sx, hD⟩
      obtain ⟨s, hs, hsi⟩ := hS.get hi
      obtain ⟨p, x, r, rfl, hp, hx⟩ := hs.head
      have hpx := sx _ _ hp
      have ft := fil_take (ss := wn sts) (fun s => !decide (s.1 = ("check" : Str))) (wn_at hsi)
      rw [← wn_take, ← wn_take] at ft
      have il : i < sts.length := by have := (List.getElem?_eq_some_iff.mp hsi).1; exact this
      refine ⟨rfl, _, rfl, p, _, _, _, rfl, rfl, tofT hpx, atI_nat (j := 0) rfl, rfl, _, rfl, ?_⟩
      have ec : (!decide (V.str (wordOf s) = V.str ("check" : Str))) = (fun s : Wn => !decide (s.1 = ("check" : Str))) (wordOf s, nameOf s) := by
        show (!decide (V.str (wordOf s) = V.str ("check" : Str))) = !decide (wordOf s = ("check" : Str))
        by_cases e : wordOf s = ("check" : Str)
        · rw [decide_eq_true e, decide_eq_true (congrArg V.str e)]
        · rw [decide_eq_false e, decide_eq_false (fun z => e (V.str.inj z))]
      rw [ec]
      refine ite2 (fun e => ?_) (fun e => ?_)
      · have nc : wordOf s ≠ "check" := fun z => by
          have e : (!decide (wordOf s = ("check" : Str))) = true := e
          rw [decide_eq_true z] at e; exact absurd e (by decide)
        have := hx nc
        subst this
        refine ⟨_, rfl, p, _, _, _, rfl, rfl, tofT hpx, atI_nat (j := 1) rfl, _, hD, ?_, ?_, ?_⟩
        · rw [List.length_map]
          unfold namesOf
          rw [List.length_map]
          exact smallt (Nat.lt_of_le_of_lt (List.length_filter_le _ _) (by rw [wn_len, List.length_take]; omega))
        · intro b o hb
          rw [upd_ne (ne_of_none hb nD)]
          exact sx _ _ hb
        · rw [upd_same]
          unfold namesOf at *
          rw [ft, if_pos e, List.map_append]; rfl
      · refine ⟨sx, ?_⟩
        unfold namesOf at *
        rw [ft, if_neg e, List.append_nil]
        exact hD
    · rintro Hx ⟨sx, hD⟩
      rw [xl, List.take_length] at hD
      exact q D Hx sx nD hD
end
end KW
namespace KW
open PySem PySem.Spec PyProof.Rows L2 GL RZ TL
def spWritten : Sp := fun vs H Q _ => ∃ (F kt : Addr) (av : List Addr) (xs : List V) (sts : List Stg) (ks : List Str), vs = [.ref F, .ref kt] ∧ H F = some (.lst xs) ∧ StAt av H xs sts ∧ F ∉ av ∧ H kt = some (.tup (ks.map V.str)) ∧ GoodP sts ks ∧ ∀ (H' : Hp), Same H H' → Q (.str (textP sts ks)) H'
section
variable {P : Program} {w : World} {K : PySem.W.Frag} {mg : Str → Option Value} {base : Heap}
abbrev s_written : Stmt := topS 35
theorem sc_written : FnScope ["_law_stages_here", "_law_kept_here", "_law_step"] ["_law_stages_here", "_law_kept_here"] (defScope s_written) := ⟨rfl, rfl, rfl, by decide +kernel, rfl, by decide +kernel, by decide +kernel⟩
theorem ok_written {f : Addr} {fd : FuncData} (F : Fun K "_law_written" "_law_written" s_written f fd) (gl : mg "_law_written" = some (.ref f)) (T : Bl mg) (D_step_text : DefG P w K mg base 2 "_law_step_text" ["_law_step"] spStepT) : DefG P w K mg base 3 "_law_written" ["_law_stages_here", "_law_kept_here"] spWritten := by
  refine def_mk F gl (F.binds fun _ _ _ _ _ _ us hl => match us, hl with | [_, _], _ => rfl) (okG F sc_written (fun vs H Q E h => ?_) fun cdv A outer s H vs Q E hr hc h => ?_)
  · obtain ⟨F, kt, av, xs, sts, ks, rfl, _⟩ := h
    rfl
  · obtain ⟨F, kt, av, xs, sts, ks, rfl, hF, hS, hFa, hk, gd, q⟩ := h
    have nd := sc_written.nd
    refine ⟨_, (pss_one (ps_ret (pe_join pe_str (pe_op op_cat (pe_lc (own := [("_law_step", 2)]) (g := (gName 2)) (tt := tYes) rfl nd (pi_list (pv 0)) (blkOk_by (own := [("_law_step", 2)]) (N := ["_law_stages_here", "_law_kept_here", "_law_step"]) (sc := defScope s_written) (by decide +kernel)) (fun _ _ _ _ _ => (pg_name (i := 2) nd rfl (by first | exact Or.inl rfl | exact Or.inr rfl))) (fun _ _ _ _ _ => pts_nil) (fun _ _ _ _ _ => (pe_def D_step_text (hr.mono (by decide)) hc (by rfl) (pa_cons (pv 2) pa_nil)))) (pe_lst (pa_cons (pe_op op_add_str pe_str (pe_join pe_str (pv 1))) pa_nil)))))), ?_⟩
    have xl := hS.len
    have l10 := gd.l10
    refine ⟨⟨_, rfl⟩, _, rfl, F, rfl, ⟨_, tofL hF⟩, fun D nD => ?_⟩
    refine lc_list (K := K) (a := F) (xs := xs) (fun i Hx => Same H Hx ∧ Hx D = some (.lst (((sts.take i).map lineP).map V.str))) ⟨Same.new nD, upd_same⟩ (fun i Hx _ h => tofL (h.1 _ _ hF)) ?_ ?_
    · rintro i v Hx hi ⟨sx, hD⟩
      obtain ⟨s, hs, hsi⟩ := hS.get hi
      have il : i < sts.length := (List.getElem?_eq_some_iff.mp hsi).1
      refine ⟨rfl, _, rfl, av, v, _, s, rfl, hs.to (fun _ _ e => sx _ _ e) (fun _ _ _ e => sx _ _ e), gd.ok i s hsi, fun H' s' => ⟨_, s' _ _ hD, ?_, ?_, ?_⟩⟩
      · rw [List.length_map, List.length_map, List.length_take]; exact smallt (by omega)
      · intro b o hb
        rw [upd_ne (ne_of_none hb nD)]
        exact s' _ _ (sx _ _ hb)
      · rw [upd_same, List.take_add_one, hsi, List.map_append, List.map_append]; rfl
    rintro Hx ⟨sx, hD⟩
    rw [xl, List.take_length] at hD
    have b5 : ("keep " : Str).length = 5 := by decide +kernel
    have b1 : (" " : Str).length = 1 := by decide +kernel
    have c1 : ("\n" : Str).length = 1 := by decide +kernel
    have kne : ks ≠ [] := fun z => by have := gd.k1; rw [z] at this; exact absurd this (by decide)
    have k8 : ∀ z ∈ ks, z.length ≤ 8 := fun z hz => by rw [str_len2]; exact (name_len8 (gd.kn z hz).1).2
    have sm : ∀ (b : Nat) (l : List Str), (∀ z ∈ l, z.length ≤ b) → (l.map (·.length)).sum ≤ l.length * b := fun b l => by
      induction l with
      | nil => intro _; simp
      | cons x r ih =>
        intro h
        have i1 := h x List.mem_cons_self
        have i2 := ih fun z hz => h z (List.mem_cons_of_mem _ hz)
        show x.length + (r.map (·.length)).sum ≤ (r.length + 1) * b
        rw [Nat.add_mul, Nat.one_mul]; omega
    have k6 := gd.k6
    have kl := keep_len (fun z hz => (gd.kn z hz).1) k6
    have jl : (Txt.join " " ks).length ≤ 60 := by
      have := joinT_len " " 8 ks k8
      rw [b1] at this
      have k1 : ks.length * (8 + 1) ≤ 6 * 9 := Nat.mul_le_mul_right _ k6
      omega
    refine ⟨⟨_, rfl⟩, _, rfl, _, kt, ks, rfl, rfl, .inr (tofT (sx _ _ hk)), ?_, ?_⟩
    · have h1 := sm 8 ks k8
      rw [b1]; omega
    refine ⟨_, _, rfl, rfl, small (by rw [b5]; omega), (show 1 ≤ sizeLine from small (by decide)), fun z nz => ?_⟩
    rw [keep_text ks kne]
    have sz := Same.new (o := .lst [.str (keepP ks)]) nz
    refine ⟨D, z, _, _, rfl, rfl, sz _ _ hD, upd_same, ?_, fun y ny => ?_⟩
    · rw [List.length_map, List.length_map]; exact small (by have : [V.str (keepP ks)].length = 1 := rfl; omega)
    have eL : ((sts.map lineP).map V.str) ++ [.str (keepP ks)] = (sts.map lineP ++ [keepP ks]).map V.str := by rw [List.map_append]; rfl
    rw [eL]
    have sy := Same.new (o := .lst ((sts.map lineP ++ [keepP ks]).map V.str)) ny
    refine ⟨_, y, sts.map lineP ++ [keepP ks], rfl, rfl, .inl (tofL upd_same), ?_, q _ (sx.trans (sz.trans sy))⟩
    have h1 := sm 1364 (sts.map lineP ++ [keepP ks]) fun u hu => by
      rcases List.mem_append.mp hu with hu | hu
      · obtain ⟨s, hs, rfl⟩ := List.mem_map.mp hu
        obtain ⟨given, ok⟩ := gd.mem hs
        exact line_len ok
      · rw [List.mem_singleton.mp hu]; exact kl
    rw [c1]
    rw [List.length_append, List.length_map, show [keepP ks].length = 1 from rfl] at h1 ⊢
    have k1 : (sts.length + 1) * 1364 ≤ 11 * 1364 := Nat.mul_le_mul_right _ (by omega)
    omega
end
end KW
namespace KW
open PySem PySem.Spec PyProof.Rows L2 GL RZ TL
def spKept : Sp := fun vs H Q _ => ∃ (d g k : Addr) (kn : List Str), vs = [.ref d, .ref k, .int 6] ∧ Deck H d g ∧ H k = some (.lst (kn.map V.str)) ∧ k ≠ g ∧ kn ≠ [] ∧ kn.length ≤ 20 ∧ kn.Nodup ∧
  ∀ (t : Addr) (ks : List Str) (H' : Hp), Deck H' d g → Mv d g H H' → H' t = some (.tup (ks.map V.str)) → 1 ≤ ks.length → ks.length ≤ 6 → ks.Nodup → (∀ z ∈ ks, z ∈ kn) → Q (.ref t) H'
theorem pick_perm {α : Type} {l : List α} {j : Nat} {n : α} (e : l[j]? = some n) : (n :: l.eraseIdx j).Perm l := by
  obtain ⟨lt, en⟩ := List.getElem?_eq_some_iff.mp e
  rw [List.eraseIdx_eq_take_drop_succ]
  have e2 : l = l.take j ++ n :: l.drop (j + 1) := by
    rw [← en, List.getElem_cons_drop, List.take_append_drop]
  conv => rhs; rw [e2]
  exact (List.perm_middle).symm
section
variable {P : Program} {w : World} {K : PySem.W.Frag} {mg : Str → Option Value} {base : Heap}
abbrev s_kept : Stmt := topS 33
theorem sc_kept : FnScope ["_law_deck_here", "_law_known_here", "_law_top", "_law_left", "_law_k"] ["_law_deck_here", "_law_known_here", "_law_top"] (defScope s_kept) := ⟨rfl, rfl, rfl, by decide +kernel, rfl, by decide +kernel, by decide +kernel⟩
theorem ok_kept {f : Addr} {fd : FuncData} (F : Fun K "_law_kept" "_law_kept" s_kept f fd) (gl : mg "_law_kept" = some (.ref f)) (T : Bl mg) (Tlist : mg "list" = none) (Tmin : mg "min" = none) (D_draw : DefG P w K mg base 1 "_law_draw" ["_law_deck_here", "_law_many"] spDraw) :
    DefG P w K mg base 2 "_law_kept" ["_law_deck_here", "_law_known_here", "_law_top"] spKept := by
  refine def_mk F gl (F.binds fun _ _ _ _ _ _ us hl => match us, hl with | [_, _, _], _ => rfl) (okG F sc_kept (fun vs H Q E h => ?_) fun cdv A outer s H vs Q E hr hc h => ?_)
  · obtain ⟨d, g, k, kn, rfl, _⟩ := h
    rfl
  · obtain ⟨d, g, k, kn, rfl, D, hk, nkg, kne, k20, knd, q⟩ := h
    have nd := sc_kept.nd
    refine ⟨_, (pss_cons (ps_set (i := 3) nd rfl (by first | exact Or.inl rfl | exact Or.inr rfl) (pe_callTy call_list_of (by rfl) Tlist boot_list (pa_cons (pv 1) pa_nil)))
      (pss_one (ps_ret (pe_tupleOf (by rfl) T.tuple (pe_lc (own := [("_law_k", 4)]) (g := (gName 4)) (tt := tYes) rfl nd (pi_range1 (by rfl) T.range (pa_cons (pe_op op_add pe_int (pe_def D_draw (hr.mono (by decide)) hc (by rfl) (pa_cons (pv 0) (pa_cons (pe_callB (call_min2 rfl) (by rfl) Tmin boot_min (pa_cons (pv 2) (pa_cons (pe_callB call_len_seq (by rfl) T.len boot_len (pa_cons (pv 1) pa_nil)) pa_nil))) pa_nil)))) pa_nil)) (blkOk_by (own := [("_law_k", 4)]) (N := ["_law_deck_here", "_law_known_here", "_law_top", "_law_left", "_law_k"]) (sc := defScope s_kept) (by decide +kernel)) (fun _ _ _ _ _ => (pg_name (i := 4) nd rfl (by first | exact Or.inl rfl | exact Or.inr rfl))) (fun _ _ _ _ _ => pts_nil) (fun _ _ _ _ _ => (pe_bmK (K := K) PySem.F.plainAttrs_list PySem.F.slot_list_pop PySem.F.type_list_pop mt_popAt (pv 3) (pa_cons (pe_def D_draw (hr.mono (by decide)) hc (by rfl) (pa_cons (pv 0) (pa_cons (pe_callB (G3.call_len_seqK (K := K)) (by rfl) T.len boot_len (pa_cons (pv 3) pa_nil)) pa_nil))) pa_nil)))))))), ?_⟩
    have offk : k ≠ d ∧ k ≠ g := ⟨by obtain ⟨m, L, e1, _⟩ := D.ex; exact (ne_of e1 hk (fun z => nomatch z)).symm, nkg⟩
    have k1 : 1 ≤ kn.length := by
      cases kn with
      | nil => exact absurd rfl kne
      | cons x r => exact Nat.succ_le_succ (Nat.zero_le _)
    refine ⟨_, rfl, k, _, rfl, .inl (tofL hk), fun p np => ?_⟩
    have offp := D.off np
    have s1 := Same.new (o := .lst (kn.map V.str)) np
    have M1 : Mv d g H (upd H p (.lst (kn.map V.str))) := Mv.of s1
    have D1 := D.new (o := .lst (kn.map V.str)) np
    have hp1 : upd H p (.lst (kn.map V.str)) p = some (.lst (kn.map V.str)) := upd_same
    have hk1 := s1 _ _ hk
    generalize upd H p (.lst (kn.map V.str)) = H1 at *
    refine ⟨_, rfl, _, rfl, _, rfl, k, _, rfl, .inl (tofL hk1), 6, _, rfl, ?_⟩
    rw [List.length_map]
    obtain ⟨m, em, m1, m6, ml⟩ : ∃ m : Int, (if (kn.length : Int) < 6 then (kn.length : Int) else 6) = m ∧ 1 ≤ m ∧ m ≤ 6 ∧ m ≤ kn.length := by
      by_cases e : (kn.length : Int) < 6
      · exact ⟨kn.length, if_pos e, by omega, by omega, by omega⟩
      · exact ⟨6, if_neg e, by omega, by omega, by omega⟩
    rw [em]
    refine ⟨d, g, m, rfl, D1, by omega, by omega, fun r H2 r0 r1 D2 M2 => ⟨1, r, rfl, rfl, 1 + r, rfl, by omega, by omega, fun C nC => ?_⟩⟩
    obtain ⟨n, en⟩ : ∃ n : Nat, 1 + r = n := ⟨(1 + r).toNat, by omega⟩
    rw [en, Int.toNat_natCast]
    have hp2 := M2.at hp1 offp
    have offC := D2.off nC
    have npC : p ≠ C := ne_of_none hp2 nC
    have MH2 : Mv d g H H2 := M1.trans M2
    have nCH : H C = none := by
      cases e : H C with
      | none => rfl
      | some o => have := MH2.at e offC; rw [nC] at this; cases this
    refine lc_range (fun j Hy => ∃ (left ns : List Str), Hy p = some (.lst (left.map V.str)) ∧ left.length + j = kn.length ∧ Hy C = some (.lst (ns.map V.str)) ∧ ns.length = j ∧ (left ++ ns).Perm kn ∧ Deck Hy d g ∧ Mv d g H Hy) ⟨kn, [], by rw [upd_ne npC]; exact hp2, rfl, upd_same, rfl, by rw [List.append_nil], D2.new nC, MH2.trans (Mv.of (Same.new nC))⟩ ?_ ?_
    · rintro j Hy hj ⟨left, ns, hp, ll, hC, nl, pm, Dy, My⟩
      refine ⟨rfl, _, rfl, ty_l (tofL hp), _, rfl, _, rfl, p, _, rfl, .inl (tofL hp), d, g, _, rfl, Dy, by rw [List.length_map]; omega, by rw [List.length_map]; omega, fun r Hz r0 r1 Dz Mz => ?_⟩
      rw [List.length_map] at r1
      obtain ⟨q', rfl⟩ : ∃ q' : Nat, r = (q' : Int) := ⟨r.toNat, by omega⟩
      have kl : q' < left.length := by omega
      have ej : left[q']? = some left[q'] := List.getElem?_eq_getElem kl
      generalize left[q'] = z at ej
      have hpz := Mz.at hp offp
      have hCz := Mz.at hC offC
      refine ⟨p, _, (q' : Int), q', .str z, rfl, rfl, hpz, by omega, by omega, ?_, ?_, ?_⟩
      · rw [List.length_map]; exact seqIndex_of (by omega) (by omega)
      · rw [List.getElem?_map, ej]; rfl
      · rw [← erase_mapS]
        refine ⟨_, by rw [upd_ne npC.symm]; exact hCz, by rw [List.length_map]; exact smallt (by omega), left.eraseIdx q', ns ++ [z], ?_, ?_, ?_, ?_, ?_, (Dz.mut offp).mut offC, ((My.trans Mz).mut np).mut nCH⟩
        · rw [upd_ne npC, upd_same]
        · rw [List.length_eraseIdx_of_lt kl]; omega
        · rw [upd_same, List.map_append]; rfl
        · rw [List.length_append, nl]; rfl
        · refine List.Perm.trans ?_ pm
          have h1 := pick_perm ej
          have h2 : (left.eraseIdx q' ++ (ns ++ [z])).Perm (z :: left.eraseIdx q' ++ ns) := by
            rw [← List.append_assoc]
            exact List.perm_append_comm (l₂ := [z])
          exact h2.trans (h1.append_right ns)
    · rintro Hy ⟨left, ns, hp, ll, hC, nl, pm, Dy, My⟩
      refine .inl ⟨C, _, rfl, tofL hC, fun t nt => ?_⟩
      have ndn : (left ++ ns).Nodup := pm.nodup_iff.mpr knd
      exact q t ns _ (Dy.new nt) (My.trans (Mv.of (Same.new nt))) upd_same (by omega) (by omega) (List.nodup_append.mp ndn).2.1 (fun z hz => pm.mem_iff.mp (List.mem_append_right _ hz))
/-! ### the pool of names -/
def poolsL : List (List Str) := [[], ["a"], ["a", "b"], ["a", "b", "c"], ["x1"], ["longname", "x1"], ["longname", "x1", "z9"]]
def spPool : Sp := fun vs H Q _ => ∃ (d g : Addr), vs = [.ref d] ∧ Deck H d g ∧ ∀ (p : Addr) (ns : List Str) (H' : Hp), Deck H' d g → Mv d g H H' → H' p = some (.tup (ns.map V.str)) → ns ∈ poolsL → Q (.ref p) H'
theorem pools_ok : ∀ ns ∈ poolsL, ns.length ≤ 3 ∧ ns.Nodup ∧ ∀ z ∈ ns, nameB z = true := by decide +kernel
abbrev s_pool : Stmt := topS 36
theorem sc_pool : FnScope ["_law_deck_here", "_law_some"] ["_law_deck_here"] (defScope s_pool) := ⟨rfl, rfl, rfl, by decide +kernel, rfl, by decide +kernel, by decide +kernel⟩
theorem ok_pool {f : Addr} {fd : FuncData} (F : Fun K "_law_pool" "_law_pool" s_pool f fd) (gl : mg "_law_pool" = some (.ref f)) (T : Bl mg) (D_pick : DefG P w K mg base 2 "_law_pick" ["_law_deck_here", "_law_some"] spPickL) : DefG P w K mg base 3 "_law_pool" ["_law_deck_here"] spPool := by
  refine def_mk F gl (F.binds fun _ _ _ _ _ _ us hl => match us, hl with | [_], _ => rfl) (okG F sc_pool (fun vs H Q E h => ?_) fun cdv A outer s H vs Q E hr hc h => ?_)
  · obtain ⟨d, g, rfl, _⟩ := h
    rfl
  · obtain ⟨d, g, rfl, D, q⟩ := h
    have nd := sc_pool.nd
    refine ⟨_, (pss_cons (ps_set (i := 1) nd rfl (by first | exact Or.inl rfl | exact Or.inr rfl) (pe_lst (pa_cons (pe_tup pa_nil) (pa_cons (pe_tup (pa_cons pe_str pa_nil)) (pa_cons (pe_tup (pa_cons pe_str (pa_cons pe_str pa_nil))) (pa_cons (pe_tup (pa_cons pe_str (pa_cons pe_str (pa_cons pe_str pa_nil)))) (pa_cons (pe_tup (pa_cons pe_str pa_nil)) (pa_cons (pe_tup (pa_cons pe_str (pa_cons pe_str pa_nil))) (pa_cons (pe_tup (pa_cons pe_str (pa_cons pe_str (pa_cons pe_str pa_nil)))) pa_nil)))))))))
      (pss_one (ps_ret (pe_def D_pick (hr.mono (by decide)) hc (by rfl) (pa_cons (pv 0) (pa_cons (pv 1) pa_nil)))))), ?_⟩
    have S0 : Same H H := fun _ _ h => h
    refine ⟨(show 0 ≤ sizeLine from small (by decide)), fun p0 n0 => ?_⟩
    have s0 := Same.new (o := .tup []) n0
    have S1 := S0.trans s0
    have D1 := D.new (o := .tup []) n0
    have h0 : upd H p0 (.tup []) p0 = some (.tup []) := upd_same
    generalize upd H p0 (.tup []) = H1 at *
    refine ⟨(show 1 ≤ sizeLine from small (by decide)), fun p1 n1 => ?_⟩
    have s1 := Same.new (o := .tup [.str "a"]) n1
    have S2 := S1.trans s1
    have D2 := D1.new (o := .tup [.str "a"]) n1
    have h1 : upd H1 p1 (.tup [.str "a"]) p1 = some (.tup [.str "a"]) := upd_same
    have h0 := s1 _ _ h0
    generalize upd H1 p1 (.tup [.str "a"]) = H2 at *
    refine ⟨(show 2 ≤ sizeLine from small (by decide)), fun p2 n2 => ?_⟩
    have s2 := Same.new (o := .tup [.str "a", .str "b"]) n2
    have S3 := S2.trans s2
    have D3 := D2.new (o := .tup [.str "a", .str "b"]) n2
    have h2 : upd H2 p2 (.tup [.str "a", .str "b"]) p2 = some (.tup [.str "a", .str "b"]) := upd_same
    have h0 := s2 _ _ h0
    have h1 := s2 _ _ h1
    generalize upd H2 p2 (.tup [.str "a", .str "b"]) = H3 at *
    refine ⟨(show 3 ≤ sizeLine from small (by decide)), fun p3 n3 => ?_⟩
    have s3 := Same.new (o := .tup [.str "a", .str "b", .str "c"]) n3
    have S4 := S3.trans s3
    have D4 := D3.new (o := .tup [.str "a", .str "b", .str "c"]) n3
    have h3 : upd H3 p3 (.tup [.str "a", .str "b", .str "c"]) p3 = some (.tup [.str "a", .str "b", .str "c"]) := upd_same
    have h0 := s3 _ _ h0
    have h1 := s3 _ _ h1
    have h2 := s3 _ _ h2
    generalize upd H3 p3 (.tup [.str "a", .str "b", .str "c"]) = H4 at *
    refine ⟨(show 1 ≤ sizeLine from small (by decide)), fun p4 n4 => ?_⟩
    have s4 := Same.new (o := .tup [.str "x1"]) n4
    have S5 := S4.trans s4
    have D5 := D4.new (o := .tup [.str "x1"]) n4
    have h4 : upd H4 p4 (.tup [.str "x1"]) p4 = some (.tup [.str "x1"]) := upd_same
    have h0 := s4 _ _ h0
    have h1 := s4 _ _ h1
    have h2 := s4 _ _ h2
    have h3 := s4 _ _ h3
    generalize upd H4 p4 (.tup [.str "x1"]) = H5 at *
    refine ⟨(show 2 ≤ sizeLine from small (by decide)), fun p5 n5 => ?_⟩
    have s5 := Same.new (o := .tup [.str "longname", .str "x1"]) n5
    have S6 := S5.trans s5
    have D6 := D5.new (o := .tup [.str "longname", .str "x1"]) n5
    have h5 : upd H5 p5 (.tup [.str "longname", .str "x1"]) p5 = some (.tup [.str "longname", .str "x1"]) := upd_same
    have h0 := s5 _ _ h0
    have h1 := s5 _ _ h1
    have h2 := s5 _ _ h2
    have h3 := s5 _ _ h3
    have h4 := s5 _ _ h4
    generalize upd H5 p5 (.tup [.str "longname", .str "x1"]) = H6 at *
    refine ⟨(show 3 ≤ sizeLine from small (by decide)), fun p6 n6 => ?_⟩
    have s6 := Same.new (o := .tup [.str "longname", .str "x1", .str "z9"]) n6
    have S7 := S6.trans s6
    have D7 := D6.new (o := .tup [.str "longname", .str "x1", .str "z9"]) n6
    have h6 : upd H6 p6 (.tup [.str "longname", .str "x1", .str "z9"]) p6 = some (.tup [.str "longname", .str "x1", .str "z9"]) := upd_same
    have h0 := s6 _ _ h0
    have h1 := s6 _ _ h1
    have h2 := s6 _ _ h2
    have h3 := s6 _ _ h3
    have h4 := s6 _ _ h4
    have h5 := s6 _ _ h5
    generalize upd H6 p6 (.tup [.str "longname", .str "x1", .str "z9"]) = H7 at *
    refine ⟨(show 7 ≤ sizeLine from small (by decide)), fun L nL => ?_⟩
    have sL := Same.new (o := .lst [.ref p0, .ref p1, .ref p2, .ref p3, .ref p4, .ref p5, .ref p6]) nL
    have hL : upd H7 L (.lst [.ref p0, .ref p1, .ref p2, .ref p3, .ref p4, .ref p5, .ref p6]) L = some (.lst [.ref p0, .ref p1, .ref p2, .ref p3, .ref p4, .ref p5, .ref p6]) := upd_same
    have DL := D7.new (o := .lst [.ref p0, .ref p1, .ref p2, .ref p3, .ref p4, .ref p5, .ref p6]) nL
    have oL := D7.off nL
    have h0 := sL _ _ h0
    have h1 := sL _ _ h1
    have h2 := sL _ _ h2
    have h3 := sL _ _ h3
    have h4 := sL _ _ h4
    have h5 := sL _ _ h5
    have h6 := sL _ _ h6
    have SL := S7.trans sL
    generalize upd H7 L (.lst [.ref p0, .ref p1, .ref p2, .ref p3, .ref p4, .ref p5, .ref p6]) = H8 at *
    refine ⟨_, rfl, _, rfl, d, g, L, _, rfl, DL, hL, oL.2, (fun z => nomatch z), (show 7 ≤ 1000 by decide), fun x H' hx D' M' => ?_⟩
    have tm := tups_mv DL M'
    have M0 : Mv d g H H' := (Mv.of SL).trans M'
    rcases List.mem_cons.mp hx with rfl | hx
    · exact q p0 [] H' D' M0 (tm _ _ h0) (by decide +kernel)
    rcases List.mem_cons.mp hx with rfl | hx
    · exact q p1 ["a"] H' D' M0 (tm _ _ h1) (by decide +kernel)
    rcases List.mem_cons.mp hx with rfl | hx
    · exact q p2 ["a", "b"] H' D' M0 (tm _ _ h2) (by decide +kernel)
    rcases List.mem_cons.mp hx with rfl | hx
    · exact q p3 ["a", "b", "c"] H' D' M0 (tm _ _ h3) (by decide +kernel)
    rcases List.mem_cons.mp hx with rfl | hx
    · exact q p4 ["x1"] H' D' M0 (tm _ _ h4) (by decide +kernel)
    rcases List.mem_cons.mp hx with rfl | hx
    · exact q p5 ["longname", "x1"] H' D' M0 (tm _ _ h5) (by decide +kernel)
    rcases List.mem_cons.mp hx with rfl | hx
    · exact q p6 ["longname", "x1", "z9"] H' D' M0 (tm _ _ h6) (by decide +kernel)
    cases hx
end
end KW
namespace KW
open PySem PySem.Spec PyProof.Rows L2 GL RZ TL
/-! ### what is shown of a program -/
def Low (z : Str) : Prop := ∀ c ∈ tl z, c < 128
theorem name_low {z : Str} (h : nameB z = true) : Low z := fun c hc => by
  unfold nameB at h
  rw [Bool.and_eq_true, Bool.and_eq_true] at h
  have := of_decide_eq_true (List.all_eq_true.mp (Bool.and_eq_true_iff.mp h.2).2 c hc)
  have a : ∀ d ∈ (LETTERS ++ DIGITS).cps.toList, d < 128 := by decide +kernel
  exact a c this
theorem low_join {y : Str} {ws : List Str} (hy : ∀ c ∈ tl y, c < 128) (h : ∀ w ∈ ws, Low w) : Low (Txt.join y ws) := fun c hc => by
  rw [TL.join_eq, tl_join] at hc
  rcases mem_joinL _ hc with hc | ⟨l, hl, hc⟩
  · exact hy c hc
  · obtain ⟨z, hz, rfl⟩ := List.mem_map.mp hl
    exact h z hz c hc
theorem st_low {given : List Str} {s : Stg} (h : OkStg given s) : ∀ w ∈ stW s, Low w :=
  st_all h (by unfold Low; decide +kernel) (by unfold Low; decide +kernel) (by unfold Low; decide +kernel) (by unfold Low; decide +kernel) (by unfold Low; decide +kernel) (by unfold Low; decide +kernel) (by unfold Low; decide +kernel) (fun f _ _ c hc => by
    refine Classical.byContradiction fun h => ?_
    exact PyProof.Rows.int_text_free' c ⟨by omega, by omega⟩ f hc) fun n hn => name_low hn
theorem text_low {st : List Stg} {ks : List Str} (g : GoodP st ks) : Low (textP st ks) := by
  refine low_join (by decide +kernel) fun z hz => ?_
  rcases List.mem_append.mp hz with hz | hz
  · obtain ⟨s, hs, rfl⟩ := List.mem_map.mp hz
    obtain ⟨given, ok⟩ := g.mem hs
    exact low_join (by decide +kernel) (st_low ok)
  · rw [List.mem_singleton.mp hz]
    refine low_join (by decide +kernel) fun w hw => ?_
    rcases List.mem_cons.mp hw with rfl | hw
    · unfold Low; decide +kernel
    · exact name_low (g.kn w hw).1
theorem nice_names {ns : List Str} (h : ∀ z ∈ ns, nameB z = true) (hl : ns.length ≤ 20) : Nice 300002 1 (.tuple (ns.map PyData.str)) := by
  have h1 : ∀ d ∈ ns.map PyData.str, Nice 82 0 d := fun d hd => by
    obtain ⟨z, hz, rfl⟩ := List.mem_map.mp hd
    exact Nice.str (n := 8) (name_len8 (h z hz)).2 (name_low (h z hz))
  exact (Nice.tup (n := 20) h1 (by rw [List.length_map]; exact hl)).mono (by decide) (by decide)
def prgD (text : Str) (taken names kept : List Str) : PyData := .list [.str text, .tuple (taken.map PyData.str), .tuple (names.map PyData.str), .tuple (kept.map PyData.str)]
theorem nice_prg {text : Str} {taken names kept : List Str} (hl : text.length ≤ 30000) (hw : Low text) (h1 : ∀ z ∈ taken, nameB z = true) (h2 : ∀ z ∈ names, nameB z = true) (h3 : ∀ z ∈ kept, nameB z = true) (l1 : taken.length ≤ 20) (l2 : names.length ≤ 20) (l3 : kept.length ≤ 20) : Nice 1200100 2 (prgD text taken names kept) := by
  have h : ∀ d ∈ [PyData.str text, .tuple (taken.map PyData.str), .tuple (names.map PyData.str), .tuple (kept.map PyData.str)], Nice 300002 1 d := fun d hd => by
    rcases List.mem_cons.mp hd with rfl | hd
    · exact (Nice.str (n := 30000) (by rw [← str_len2]; exact hl) hw).mono (by decide) (by decide)
    rcases List.mem_cons.mp hd with rfl | hd
    · exact nice_names h1 l1
    rcases List.mem_cons.mp hd with rfl | hd
    · exact nice_names h2 l2
    rcases List.mem_cons.mp hd with rfl | hd
    · exact nice_names h3 l3
    · cases hd
  exact (Nice.lst (n := 4) h (show 4 ≤ 4 from Nat.le_refl _)).mono (by decide) (by decide)
theorem dp_prg {K : PySem.W.Frag} {H : Hp} {l tt tn tk : Addr} {text : Str} {taken names kept : List Str} (h : H l = some (.lst [.str text, .ref tt, .ref tn, .ref tk])) (h1 : H tt = some (.tup (taken.map V.str))) (h2 : H tn = some (.tup (names.map V.str))) (h3 : H tk = some (.tup (kept.map V.str))) : Dp K H (.ref l) (prgD text taken names kept) :=
  .lst (tofL h) (.cons (.str _) (.cons (.tup (tofT h1) (dpa_strs _)) (.cons (.tup (tofT h2) (dpa_strs _)) (.cons (.tup (tofT h3) (dpa_strs _)) .nil))))
section
variable {X : Cx}
theorem call_reprM (hc : Calm X.A) (hu : X.A.units + 100 < cLine) : CallR X (.builtin "repr") (fun xs H Q => ∃ (a : Addr) (d : PyData), xs = [.ref a] ∧ Dp X.K H (.ref a) d ∧ Nice 1200100 2 d ∧ Q (.str d.shown) H) := by
  intro pins s σ H xs us Q I r h
  obtain ⟨a, d, e, hd, hn, q⟩ := h
  exact call_reprD hc hu pins s σ H xs us Q I r ⟨a, d, e, hd, hn.sh, hn.nd, Nat.le_trans hn.dp (by decide), Nat.le_trans hn.sz (by decide), q⟩
end
/-! ### a dict of pairs -/
theorem merge_vals : ∀ (more kvs : List (Key × V)), (∀ k v, valV kvs k = some v → ∃ i, v = V.int i) → (∀ kv ∈ more, ∃ i, kv.2 = V.int i) → (∀ k v, valV (mergeK kvs more) k = some v → ∃ i, v = V.int i) ∧ ∀ k, ((valV kvs k).isSome ∨ k ∈ more.map (·.1)) → (valV (mergeK kvs more) k).isSome
  | [], kvs, h, _ => ⟨h, fun k hk => hk.elim id fun m => nomatch m⟩
  | kv :: r, kvs, h, hm => by
    obtain ⟨i, hi⟩ := hm kv List.mem_cons_self
    have ih := merge_vals r (putK kvs kv.1 kv.2) (fun k v hv => by
      rw [valV_put] at hv
      by_cases e : k = kv.1
      · rw [if_pos e] at hv; exact ⟨i, by rw [← Option.some.inj hv]; exact hi⟩
      · rw [if_neg e] at hv; exact h k v hv) fun x hx => hm x (List.mem_cons_of_mem _ hx)
    refine ⟨ih.1, fun k hk => ih.2 k ?_⟩
    by_cases e : k = kv.1
    · exact .inl (by rw [valV_put, if_pos e]; rfl)
    · rcases hk with hk | hk
      · exact .inl (by rw [valV_put, if_neg e]; exact hk)
      · rcases List.mem_cons.mp hk with hk | hk
        · exact absurd hk e
        · exact .inr hk
theorem ValsN.merge {H : Hp} {vd : Addr} {kvs : List (Key × V)} {ns : List Str} (h : H vd = some (.dK (mergeK [] kvs))) (hk : kvs.map (·.1) = ns.map fun n => (Sum.inr n : Key)) (hi : ∀ kv ∈ kvs, ∃ i, kv.2 = V.int i) (l : ns.length ≤ 10) : ValsN H vd ns 10 := by
  obtain ⟨a, b⟩ := merge_vals kvs [] (fun k v hv => nomatch hv) hi
  have ll : kvs.length = ns.length := by have := congrArg List.length hk; rw [List.length_map, List.length_map] at this; exact this
  refine ⟨_, h, ?_, fun n hn => ?_⟩
  · have := length_mergeK kvs []
    rw [show ([] : List (Key × V)).length = 0 from rfl] at this
    omega
  · have := b (Sum.inr n) (.inr (by rw [hk]; exact List.mem_map.mpr ⟨n, hn, rfl⟩))
    obtain ⟨v, hv⟩ := Option.isSome_iff_exists.mp this
    obtain ⟨i, rfl⟩ := a _ _ hv
    exact ⟨i, hv⟩
/-! ### the names that are taken and given -/
theorem taken_ok {sts : List Stg} (h : OkAll sts) : ∀ z ∈ takenOf (wn sts), nameB z = true := fun z hz => by
  unfold takenOf wn at hz
  obtain ⟨p, hp, rfl⟩ := List.mem_map.mp hz
  obtain ⟨hp, ht⟩ := List.mem_filter.mp hp
  obtain ⟨s, hs, rfl⟩ := List.mem_map.mp hp
  obtain ⟨i, hi⟩ := List.getElem?_of_mem hs
  have ok := h i s hi
  cases s with
  | take n => exact ok.1
  | lett n ts => exact ok.1
  | check l r m =>
    have ht : decide (("check" : Str) = "take") = true := ht
    exact absurd ht (by decide +kernel)
theorem taken_len (sts : List Stg) : (takenOf (wn sts)).length ≤ sts.length := by
  unfold takenOf
  rw [List.length_map]
  exact Nat.le_trans (List.length_filter_le _ _) (by rw [wn_len]; exact Nat.le_refl _)
theorem kn_len (sts : List Stg) : (knOf sts).length ≤ sts.length := Nat.le_trans (List.length_filter_le _ _) (by rw [allN, List.length_map]; exact Nat.le_refl _)
theorem good_of {sts : List Stg} {ks : List Str} (l : sts.length ≤ 10) (h : OkAll sts) (hk : ∀ n ∈ knOf sts, nameB n = true) (k1 : 1 ≤ ks.length) (k6 : ks.length ≤ 6) (kd : ks.Nodup) (kn : ∀ z ∈ ks, z ∈ knOf sts) : GoodP sts ks := by
  refine ⟨l, h, k1, k6, kd, fun z hz => ⟨hk z (kn z hz), ?_⟩⟩
  unfold gv
  rw [List.take_length]
  exact mem_kn (kn z hz)
end KW
namespace KW
open PySem PySem.Spec PyProof.Rows L2 GL RZ TL GX
/-! ### texts that the law looks at -/
def nlF (c : Nat) : Nat := if c = 10 then 1 else 0
def hiF (c : Nat) : Nat := if c < 128 then 0 else 1
theorem mz_zero {f : Nat → Nat} {z : Str} (h : ∀ c ∈ tl z, f c = 0) : mz f z = 0 := by
  unfold mz
  have : ∀ l : List Nat, (∀ c ∈ l, f c = 0) → (l.map f).sum = 0 := fun l => by
    induction l with
    | nil => intro _; rfl
    | cons a r ih =>
      intro h
      rw [List.map_cons, List.sum_cons, h a List.mem_cons_self, ih fun c hc => h c (List.mem_cons_of_mem _ hc)]
  exact this _ h
theorem zero_of {f : Nat → Nat} {z : Str} (h : mz f z = 0) : ∀ c ∈ tl z, f c = 0 := by
  unfold mz at h
  have : ∀ l : List Nat, (l.map f).sum = 0 → ∀ c ∈ l, f c = 0 := fun l => by
    induction l with
    | nil => intro _ c hc; cases hc
    | cons a r ih =>
      intro h c hc
      rw [List.map_cons, List.sum_cons] at h
      rcases List.mem_cons.mp hc with rfl | hc
      · omega
      · exact ih (by omega) c hc
  exact this _ h
theorem wt_few {f : Nat → Nat} {y : Str} (hy : 1 ≤ mz f y) : ∀ ws : List Str, ws.length ≤ wt f y ws
  | [] => Nat.le_refl _
  | a :: r => by
    have := wt_few hy r
    rw [wt_cons, List.length_cons]; omega
theorem ok_tx {tx : Str} (h1 : tx.length ≤ 61000) (h2 : mz nlF tx ≤ 59) (h3 : mz hiF tx = 0) : OkTx tx where
  len := h1
  low := fun c hc => by
    have := zero_of h3 c hc
    unfold hiF at this
    split at this
    · assumption
    · cases this
  few := by
    have e1 : mz nlF ("\n" : Str) = 1 := by decide +kernel
    have := wt_few (f := nlF) (y := "\n") (by rw [e1]; exact Nat.le_refl _) (linesOf tx)
    have e := wt_split nlF tx "\n"
    have : (linesOf tx).length ≤ mz nlF tx + mz nlF "\n" := by rw [← e]; exact this
    omega
/-- the measures of a text and what bending does to them -/
def Me (a b : Nat) (tx : Str) : Prop := tx.length ≤ a ∧ mz nlF tx ≤ b ∧ mz hiF tx = 0
theorem Me.ok {a b : Nat} {tx : Str} (h : Me a b tx) (ha : a ≤ 61000) (hb : b ≤ 59) : OkTx tx := ok_tx (Nat.le_trans h.1 ha) (Nat.le_trans h.2.1 hb) h.2.2
theorem odd_nl : ∀ o ∈ cO ++ (lO ++ wO), mz nlF o ≤ 1 := by decide +kernel
theorem odd_hi : ∀ o ∈ cO ++ (lO ++ wO), mz hiF o ≤ 0 := by decide +kernel
theorem Me.bent {a b : Nat} {z z' : Str} (h : Me a b z) (bo : BentOf z z') : Me (2 * a + 106) (2 * b + 4) z' := by
  have b1 := bo (fun _ => 1) 100 (fun o ho => by rw [mz_one]; exact odd_len o ho)
  have b2 := bo nlF 1 odd_nl
  have b3 := bo hiF 0 odd_hi
  rw [mz_one, mz_one] at b1
  have e1 : mz (fun _ => 1) ("\n" : Str) = 1 := by decide +kernel
  have e2 : mz (fun _ => 1) (" " : Str) = 1 := by decide +kernel
  have e3 : mz nlF ("\n" : Str) = 1 := by decide +kernel
  have e4 : mz nlF (" " : Str) = 0 := by decide +kernel
  have e5 : mz hiF ("\n" : Str) = 0 := by decide +kernel
  have e6 : mz hiF (" " : Str) = 0 := by decide +kernel
  obtain ⟨h1, h2, h3⟩ := h
  exact ⟨by omega, by omega, by omega⟩
theorem nl_zero {z : Str} (h : NoNl z) : mz nlF z = 0 := mz_zero fun c hc => by
  unfold nlF
  rw [if_neg]
  rintro rfl
  exact h hc
theorem text_me {st : List Stg} {ks : List Str} (g : GoodP st ks) : Me 15015 11 (textP st ks) := by
  have low := text_low g
  refine ⟨text_len g, ?_, mz_zero fun c hc => by unfold hiF; rw [if_pos (low c hc)]⟩
  have all : ∀ z ∈ st.map lineP ++ [keepP ks], NoNl z := fun z hz => by
    rcases List.mem_append.mp hz with hz | hz
    · obtain ⟨s, hs, rfl⟩ := List.mem_map.mp hz
      obtain ⟨given, ok⟩ := g.mem hs
      exact nl_join (st_nl ok)
    · rw [List.mem_singleton.mp hz]
      refine nl_join fun w hw => ?_
      rcases List.mem_cons.mp hw with rfl | hw
      · unfold NoNl; decide +kernel
      · exact name_nl (g.kn w hw).1
  have e1 : mz nlF ("\n" : Str) = 1 := by decide +kernel
  have w : ∀ ws : List Str, (∀ z ∈ ws, NoNl z) → wt nlF "\n" ws = ws.length := fun ws => by
    induction ws with
    | nil => intro _; rfl
    | cons a r ih =>
      intro h
      rw [wt_cons, ih fun z hz => h z (List.mem_cons_of_mem _ hz), nl_zero (h a List.mem_cons_self), e1, List.length_cons]
      omega
  have j := mz_join_le nlF "\n" (st.map lineP ++ [keepP ks])
  rw [w _ all, List.length_append, List.length_map] at j
  have := g.l10
  have : mz nlF (textP st ks) ≤ st.length + 1 := j
  omega
theorem mz_rep_eq (f : Nat → Nat) (z : Str) (n : Int) : mz f (repS z n) = n.toNat * mz f z := by
  unfold mz
  rw [show tl (repS z n) = (List.replicate n.toNat (tl z)).flatten from repS_list z n]
  induction n.toNat with
  | zero => simp
  | succ k ih =>
    rw [List.replicate_succ, List.flatten_cons, List.map_append, List.sum_append, ih, Nat.succ_mul]
    omega
theorem me_app {a b c e : Nat} {x y : Str} (h : Me a b x) (k : Me c e y) : Me (a + c) (b + e) (x ++ y) := by
  have l := mz_app (fun _ => 1) x y
  rw [mz_one, mz_one, mz_one] at l
  obtain ⟨h1, h2, h3⟩ := h
  obtain ⟨k1, k2, k3⟩ := k
  exact ⟨by omega, by rw [mz_app]; omega, by rw [mz_app]; omega⟩
theorem me_rep {a b : Nat} {x : Str} (h : Me a b x) (n : Nat) : Me (n * a) (n * b) (repS x (n : Int)) := by
  obtain ⟨h1, h2, h3⟩ := h
  refine ⟨by rw [repS_len]; exact Nat.mul_le_mul_left _ h1, by rw [mz_rep_eq]; exact Nat.mul_le_mul_left _ h2, by rw [mz_rep_eq, h3, Nat.mul_zero]⟩
theorem Me.mono {a b c e : Nat} {x : Str} (h : Me a b x) (l : a ≤ c) (m : b ≤ e) : Me c e x := ⟨Nat.le_trans h.1 l, Nat.le_trans h.2.1 m, h.2.2⟩
instance {a b : Nat} {x : Str} : Decidable (Me a b x) := by unfold Me; infer_instance
/-- a word between, and behind, what is written -/
def frame (x y w z : Str) : Str := x ++ w ++ y ++ z
def e1L : List Str := ["", "keep", "keep a", "take a", "take a\nkeep a\n", "take a\nkeep a a", "take a\nkeep a\nkeep a"]
def e2L : List Str := ["let a = a\nkeep a", "take a\ntake a\nkeep a", "take a\nlet a = 1\nkeep a", "take self\nkeep self"]
def e3L : List Str := [("let a = " : Str) ++ repS "7" 60 ++ "\nkeep a", ("let a = " : Str) ++ repS "7" 5000 ++ "\nkeep a", "let a = -1\nkeep a"]
def e4L : List Str := ["take a\ncheck a = 1 mod 0\nkeep a", "take a\ncheck a = a mod mod 2\nkeep a"]
def e6L : List Str := ["take a\ncheck - 0 a + 1 = 2 mod 2\nkeep a", "take a\ncheck a = 0 = 0\nkeep a", "take\nkeep a"]
def e7L : List Str := ["let\nkeep a", "let a = - - 1\nkeep a", "let a = 1 +\nkeep a", "let a = 1 1\nkeep a"]
theorem e1_ok : ∀ z ∈ e1L, Me 100 9 z := by decide +kernel
theorem e2_ok : ∀ z ∈ e2L, Me 100 9 z := by decide +kernel
theorem e4_ok : ∀ z ∈ e4L, Me 100 9 z := by decide +kernel
theorem e6_ok : ∀ z ∈ e6L, Me 100 9 z := by decide +kernel
theorem e7_ok : ∀ z ∈ e7L, Me 100 9 z := by decide +kernel
theorem e3_ok : ∀ z ∈ e3L, Me 6000 9 z := fun z hz => by
  have a : Me 20 1 ("let a = " : Str) := by decide +kernel
  have b : Me 20 1 ("\nkeep a" : Str) := by decide +kernel
  have s : Me 1 0 ("7" : Str) := by decide +kernel
  rcases List.mem_cons.mp hz with rfl | hz
  · exact (me_app (me_app a (me_rep s 60)) b).mono (by decide) (by decide)
  rcases List.mem_cons.mp hz with rfl | hz
  · exact (me_app (me_app a (me_rep s 5000)) b).mono (by decide) (by decide)
  · rw [List.mem_singleton.mp hz]
    have : Me 100 9 ("let a = -1\nkeep a" : Str) := by decide +kernel
    exact this.mono (by decide) (by decide)
theorem taken_me : ∀ w ∈ TAKEN, Me 20 1 w := by decide +kernel
theorem e9_ok {w : Str} (h : w ∈ TAKEN) : Me 100 9 (("take " : Str) ++ w ++ "\nkeep " ++ w) := by
  have a : Me 20 1 ("take " : Str) := by decide +kernel
  have b : Me 20 1 ("\nkeep " : Str) := by decide +kernel
  have c := taken_me w h
  exact (me_app (me_app (me_app a c) b) c).mono (by decide) (by decide)
theorem e10_ok {w : Str} (h : w ∈ TAKEN) : Me 100 9 (("let " : Str) ++ w ++ " = 1\nkeep " ++ w) := by
  have a : Me 20 1 ("let " : Str) := by decide +kernel
  have b : Me 20 1 (" = 1\nkeep " : Str) := by decide +kernel
  have c := taken_me w h
  exact (me_app (me_app (me_app a c) b) c).mono (by decide) (by decide)
theorem e11_ok : Me 1000 30 (("take a\n" : Str) ++ repS "check a = 0\n" 20 ++ "keep a") := by
  have a : Me 20 1 ("take a\n" : Str) := by decide +kernel
  have b : Me 20 1 ("keep a" : Str) := by decide +kernel
  have s : Me 20 1 ("check a = 0\n" : Str) := by decide +kernel
  exact (me_app (me_app a (me_rep s 20)) b).mono (by decide) (by decide)
def abt : Str := "abcdefghijklmnopqrst"
def takesL : List Str := abt.cps.toList.map fun c => ("take " : Str) ++ S1 c
theorem e12_ok : Me 1000 30 (Txt.join "\n" takesL ++ "\nkeep t c a f e b") := by decide +kernel
theorem takes_sum : (takesL.map (·.length)).sum + takesL.length * ("\n" : Str).length ≤ 1000 := by decide +kernel
theorem abt_len : abt.cps.toList.length = 20 := by decide +kernel
end KW
namespace KW
open PySem PySem.Spec PyProof.Rows L2 GL RZ TL GX
def spLaw (K : PySem.W.Frag) : Sp := fun vs H Q _ => ∃ (a : Addr) (ns : List Int), vs = [.ref a] ∧ SqL K H a (ns.map V.int) ∧ ns.length ≤ 63 ∧ ∀ H', Q (.bl true) H'
/-- the texts at the end, as far as they are gathered -/
def LM (a d : Addr) (n : Nat) (σ : L2.St) (Hx : Hp) : Prop := ∃ (p : Addr) (L : List Str) (v2 v3 v4 v6 v7 v8 v9 v11 : Option V), σ = [some (.ref a), some (.ref d), v2, v3, v4, none, v6, v7, v8, v9, some (.ref p), v11, none] ∧ Hx p = some (.lst (L.map V.str)) ∧ (∀ z ∈ L, OkTx z) ∧ L.length ≤ n
def LK (a d : Addr) (n : Nat) (σ : L2.St) (Hx : Hp) : Prop := ∃ (p kp : Addr) (L : List Str) (v2 v3 v4 v6 v7 v8 v9 : Option V), σ = [some (.ref a), some (.ref d), v2, v3, v4, none, v6, v7, v8, v9, some (.ref p), some (.ref kp), none] ∧ Hx p = some (.lst (L.map V.str)) ∧ (∀ z ∈ L, OkTx z) ∧ L.length ≤ n ∧ Hx kp = some (.lst (TAKEN.map V.str)) ∧ p ≠ kp
theorem ok_app {L M : List Str} (h : ∀ z ∈ L, OkTx z) (k : ∀ z ∈ M, OkTx z) : ∀ z ∈ L ++ M, OkTx z := fun z hz => (List.mem_append.mp hz).elim (h z) (k z)
section
variable {P : Program} {w : World} {K : PySem.W.Frag} {mg : Str → Option Value} {base : Heap}
abbrev s_law : Stmt := topS 46
theorem sc_law : FnScope ["_law_script", "_law_deck_here", "_law_lap", "_law_pool_here", "_law_values", "_law_name_here", "_law_stages_here", "_law_value_here", "_law_k", "_law_bent_here", "_law_some", "_law_kept_here", "_law_word"] ["_law_script"] (defScope s_law) := ⟨rfl, rfl, rfl, by decide +kernel, rfl, by decide +kernel, by decide +kernel⟩
theorem ok_law {f : Addr} {fd : FuncData} (F : Fun K "law" "law" s_law f fd) (T : Bl mg) (Tdict : mg "dict" = none) (D_deck : DefG P w K mg base 1 "_law_deck" ["_law_script"] (spDeck K))
    (D_draw : DefG P w K mg base 1 "_law_draw" ["_law_deck_here", "_law_many"] spDraw) (D_pool : DefG P w K mg base 3 "_law_pool" ["_law_deck_here"] spPool) (D_called : DefG P w K mg base 3 "_law_called" ["_law_deck_here", "_law_many"] (spCalled K))
    (D_stages : DefG P w K mg base 5 "_law_stages" ["_law_deck_here", "_law_pool_here", "_law_values", "_law_passing"] (spStages K)) (D_known : DefG P w K mg base 1 "_law_known" ["_law_stages_here"] spKnown) (D_kept : DefG P w K mg base 2 "_law_kept" ["_law_deck_here", "_law_known_here", "_law_top"] spKept)
    (D_written : DefG P w K mg base 3 "_law_written" ["_law_stages_here", "_law_kept_here"] spWritten)
    (D_bent : DefG P w K mg base 4 "_law_bent" ["_law_deck_here", "_law_value_here"] spBent) (D_is_right : DefG P w K mg base 9 "_law_is_right" ["_law_value_here"] spRight) :
    FnG P w K mg base CX0 10 f fd ["_law_script"] (spLaw K) := by
  refine okG F sc_law (fun vs H Q E h => ?_) fun cdv A outer s H vs Q E hr hc h => ?_
  · obtain ⟨a, ns, rfl, _⟩ := h
    rfl
  · obtain ⟨a, ks, rfl, hS, hl, q⟩ := h
    have nd := sc_law.nd
    have hu := hu_of hr
    have hu64 := hr.units
    refine ⟨_, (pss_cons (ps_set (i := 1) nd rfl (by first | exact Or.inl rfl | exact Or.inr rfl) (pe_def D_deck (hr.mono (by decide)) hc (by rfl) (pa_cons (pv 0) pa_nil)))
      (pss_cons (ps_for PassesOwn.never rfl (pi_range1 (by rfl) T.range (pa_cons pe_int pa_nil)) (pg_name (i := 2) nd rfl (by first | exact Or.inl rfl | exact Or.inr rfl))
        (pss_cons (ps_set (i := 3) nd rfl (by first | exact Or.inl rfl | exact Or.inr rfl) (pe_def D_pool (hr.mono (by decide)) hc (by rfl) (pa_cons (pv 1) pa_nil)))
        (pss_cons (ps_set (i := 4) nd rfl (by first | exact Or.inl rfl | exact Or.inr rfl) (pe_callTy (call_dictP rfl) (by rfl) Tdict boot_dict (pa_cons (pe_lc (own := [("_law_name_here", 5)]) (g := (gName 5)) (tt := tYes) rfl nd (pi_tup (pv 3)) (blkOk_by (own := [("_law_name_here", 5)]) (N := ["_law_script", "_law_deck_here", "_law_lap", "_law_pool_here", "_law_values", "_law_name_here", "_law_stages_here", "_law_value_here", "_law_k", "_law_bent_here", "_law_some", "_law_kept_here", "_law_word"]) (sc := defScope s_law) (by decide +kernel)) (fun _ _ _ _ _ => (pg_name (i := 5) nd rfl (by first | exact Or.inl rfl | exact Or.inr rfl))) (fun _ _ _ _ _ => pts_nil) (fun _ _ _ _ _ => (pe_tup (pa_cons (pv 5) (pa_cons (pe_op op_sub (pe_def D_draw (hr.mono (by decide)) hc (by rfl) (pa_cons (pv 1) (pa_cons pe_int pa_nil))) pe_int) pa_nil))))) pa_nil)))
        (pss_cons (ps_set (i := 6) nd rfl (by first | exact Or.inl rfl | exact Or.inr rfl) (pe_def D_stages (hr.mono (by decide)) hc (by rfl) (pa_cons (pv 1) (pa_cons (pv 3) (pa_cons (pv 4) (pa_cons (pe_def D_called (hr.mono (by decide)) hc (by rfl) (pa_cons (pv 1) (pa_cons pe_int pa_nil))) pa_nil))))))
        (pss_cons (ps_set (i := 7) nd rfl (by first | exact Or.inl rfl | exact Or.inr rfl) (pe_def D_written (hr.mono (by decide)) hc (by rfl) (pa_cons (pv 6) (pa_cons (pe_def D_kept (hr.mono (by decide)) hc (by rfl) (pa_cons (pv 1) (pa_cons (pe_def D_known (hr.mono (by decide)) hc (by rfl) (pa_cons (pv 6) pa_nil)) (pa_cons pe_int pa_nil)))) pa_nil))))
        (pss_one (ps_for PassesOwn.never rfl (pi_range1 (by rfl) T.range (pa_cons pe_int pa_nil)) (pg_name (i := 8) nd rfl (by first | exact Or.inl rfl | exact Or.inr rfl))
          (pss_cons (ps_set (i := 9) nd rfl (by first | exact Or.inl rfl | exact Or.inr rfl) (pe_def D_bent (hr.mono (by decide)) hc (by rfl) (pa_cons (pv 1) (pa_cons (pv 7) pa_nil))))
          (C8.pss_cut (ps_if (pt_cmpR op_eq (pe_def D_draw (hr.mono (by decide)) hc (by rfl) (pa_cons (pv 1) (pa_cons pe_int pa_nil))) pe_int (nomark _))
            (pss_one (ps_set (i := 9) nd rfl (by first | exact Or.inl rfl | exact Or.inr rfl) (pe_def D_bent (hr.mono (by decide)) hc (by rfl) (pa_cons (pv 1) (pa_cons (pv 9) pa_nil)))))
            pss_nil)
          (pss_one (ps_if (PW.pt (pw_or (pt_not (pt_val (pe_def D_is_right (hr.mono (by decide)) hc (by rfl) (pa_cons (pv 9) pa_nil)))) (pw_or1 (pt_not (pt_val (pe_def D_is_right (hr.mono (by decide)) hc (by rfl) (pa_cons (pv 7) pa_nil)))))))
            (pss_one (ps_ret pe_bl))
            pss_nil)))))))))))
      (C8.pss_cut (ps_set (i := 10) nd rfl (by first | exact Or.inl rfl | exact Or.inr rfl) (pe_lst (pa_cons pe_str (pa_cons pe_str (pa_cons pe_str (pa_cons pe_str (pa_cons pe_str (pa_cons pe_str (pa_cons pe_str pa_nil)))))))))
      (C8.pss_cut (ps_set (i := 10) nd rfl (by first | exact Or.inl rfl | exact Or.inr rfl) (pe_op op_cat (pv 10) (pe_lst (pa_cons pe_str (pa_cons pe_str (pa_cons pe_str (pa_cons pe_str pa_nil)))))))
      (C8.pss_cut (ps_set (i := 10) nd rfl (by first | exact Or.inl rfl | exact Or.inr rfl) (pe_op op_cat (pv 10) (pe_lst (pa_cons (pe_op op_add_str (pe_op op_add_str pe_str (pe_op op_repS pe_str pe_int)) pe_str) (pa_cons (pe_op op_add_str (pe_op op_add_str pe_str (pe_op op_repS pe_str pe_int)) pe_str) (pa_cons pe_str pa_nil))))))
      (C8.pss_cut (ps_set (i := 10) nd rfl (by first | exact Or.inl rfl | exact Or.inr rfl) (pe_op op_cat (pv 10) (pe_lst (pa_cons pe_str (pa_cons pe_str pa_nil)))))
      (C8.pss_cut (ps_expr (pe_bm PySem.F.plainAttrs_list PySem.F.slot_list_append PySem.F.type_list_append mt_append (pv 10) (pa_cons pe_str pa_nil)))
      (C8.pss_cut (ps_set (i := 10) nd rfl (by first | exact Or.inl rfl | exact Or.inr rfl) (pe_op op_cat (pv 10) (pe_lst (pa_cons pe_str (pa_cons pe_str (pa_cons pe_str pa_nil))))))
      (C8.pss_cut (ps_set (i := 10) nd rfl (by first | exact Or.inl rfl | exact Or.inr rfl) (pe_op op_cat (pv 10) (pe_lst (pa_cons pe_str (pa_cons pe_str (pa_cons pe_str (pa_cons pe_str pa_nil)))))))
      (C8.pss_cut (ps_expr (pe_bm PySem.F.plainAttrs_list PySem.F.slot_list_append PySem.F.type_list_append mt_append (pv 10) (pa_cons pe_str pa_nil)))
      (C8.pss_cut (ps_set (i := 11) nd rfl (by first | exact Or.inl rfl | exact Or.inr rfl) (pe_lst (pa_cons pe_str (pa_cons pe_str (pa_cons pe_str (pa_cons pe_str (pa_cons pe_str (pa_cons pe_str (pa_cons pe_str (pa_cons pe_str (pa_cons pe_str pa_nil)))))))))))
      (C8.pss_cut (ps_set (i := 10) nd rfl (by first | exact Or.inl rfl | exact Or.inr rfl) (pe_op op_cat (pv 10) (pe_lc (own := [("_law_word", 12)]) (g := (gName 12)) (tt := tYes) rfl nd (pi_list (pv 11)) (blkOk_by (own := [("_law_word", 12)]) (N := ["_law_script", "_law_deck_here", "_law_lap", "_law_pool_here", "_law_values", "_law_name_here", "_law_stages_here", "_law_value_here", "_law_k", "_law_bent_here", "_law_some", "_law_kept_here", "_law_word"]) (sc := defScope s_law) (by decide +kernel)) (fun _ _ _ _ _ => (pg_name (i := 12) nd rfl (by first | exact Or.inl rfl | exact Or.inr rfl))) (fun _ _ _ _ _ => pts_nil) (fun _ _ _ _ _ => (pe_op op_add_str (pe_op op_add_str (pe_op op_add_str pe_str (pv 12)) pe_str) (pv 12))))))
      (C8.pss_cut (ps_set (i := 10) nd rfl (by first | exact Or.inl rfl | exact Or.inr rfl) (pe_op op_cat (pv 10) (pe_lc (own := [("_law_word", 12)]) (g := (gName 12)) (tt := tYes) rfl nd (pi_list (pv 11)) (blkOk_by (own := [("_law_word", 12)]) (N := ["_law_script", "_law_deck_here", "_law_lap", "_law_pool_here", "_law_values", "_law_name_here", "_law_stages_here", "_law_value_here", "_law_k", "_law_bent_here", "_law_some", "_law_kept_here", "_law_word"]) (sc := defScope s_law) (by decide +kernel)) (fun _ _ _ _ _ => (pg_name (i := 12) nd rfl (by first | exact Or.inl rfl | exact Or.inr rfl))) (fun _ _ _ _ _ => pts_nil) (fun _ _ _ _ _ => (pe_op op_add_str (pe_op op_add_str (pe_op op_add_str pe_str (pv 12)) pe_str) (pv 12))))))
      (C8.pss_cut (ps_expr (pe_bm PySem.F.plainAttrs_list PySem.F.slot_list_append PySem.F.type_list_append mt_append (pv 10) (pa_cons (pe_op op_add_str (pe_op op_add_str pe_str (pe_op op_repS pe_str pe_int)) pe_str) pa_nil)))
      (C8.pss_cut (ps_expr (pe_bm PySem.F.plainAttrs_list PySem.F.slot_list_append PySem.F.type_list_append mt_append (pv 10) (pa_cons (pe_op op_add_str (pe_join pe_str (pe_lc (own := [("_law_name_here", 5)]) (g := (gName 5)) (tt := tYes) rfl nd (pi_str pe_str) (blkOk_by (own := [("_law_name_here", 5)]) (N := ["_law_script", "_law_deck_here", "_law_lap", "_law_pool_here", "_law_values", "_law_name_here", "_law_stages_here", "_law_value_here", "_law_k", "_law_bent_here", "_law_some", "_law_kept_here", "_law_word"]) (sc := defScope s_law) (by decide +kernel)) (fun _ _ _ _ _ => (pg_name (i := 5) nd rfl (by first | exact Or.inl rfl | exact Or.inr rfl))) (fun _ _ _ _ _ => pts_nil) (fun _ _ _ _ _ => (pe_op op_add_str pe_str (pv 5))))) pe_str) pa_nil)))
      (pss_one (ps_ret (pe_cmpR (op_eqP (K := K) hu64) (pe_lc (own := [("_law_value_here", 7)]) (g := (gName 7)) rfl nd (pi_list (pv 10)) (blkOk_by (own := [("_law_value_here", 7)]) (N := ["_law_script", "_law_deck_here", "_law_lap", "_law_pool_here", "_law_values", "_law_name_here", "_law_stages_here", "_law_value_here", "_law_k", "_law_bent_here", "_law_some", "_law_kept_here", "_law_word"]) (sc := defScope s_law) (by decide +kernel)) (fun _ _ _ _ _ => (pg_name (i := 7) nd rfl (by first | exact Or.inl rfl | exact Or.inr rfl))) (fun _ _ _ _ _ => (pts_one (pt_not (pt_val (pe_def D_is_right (hr.mono (by decide)) hc (by rfl) (pa_cons (pv 7) pa_nil)))))) (fun _ _ _ _ _ => (pv 7))) (pe_lst pa_nil) (nomark _))))))))))))))))))), ?_⟩
    have nines : ∀ {n : Nat}, n ≤ 1000 → n ≤ sizeLine := fun h => small (by omega)
    refine ⟨_, rfl, a, ks, rfl, hS, hl, fun d g H1 s1 _ _ D1 => ?_⟩
    refine ⟨3, rfl, by decide, by decide, for_range (fun i σ Hx => Deck Hx d g ∧ ∃ (v2 v3 v4 v6 v7 v8 v9 : Option V), σ = [some (.ref a), some (.ref d), v2, v3, v4, none, v6, v7, v8, v9, none, none, none]) ⟨D1, _, _, _, _, _, _, _, rfl⟩ ?_ ?_⟩
    · rintro i σ Hx hi ⟨Dx, v2, v3, v4, v6, v7, v8, v9, rfl⟩
      refine ⟨_, rfl, d, g, rfl, Dx, fun pt ns H2 D2 M2 hpt hmem => ?_⟩
      obtain ⟨p3, pnd, pok⟩ := pools_ok ns hmem
      refine ⟨_, rfl, pt, rfl, ⟨_, tofT hpt⟩, fun Cp nCp => ?_⟩
      have offC := D2.off nCp
      refine lc_tup (K := K) (a := pt) (xs := ns.map V.str) (fun i Hy => Deck Hy d g ∧ Mv d g H2 Hy ∧ ∃ (ps : List Addr) (kvs : List (Key × V)), Hy Cp = some (.lst (ps.map V.ref)) ∧ ps.length = i ∧ Paired (fun p kv => Hy p = some (.tup [kV kv.1, kv.2])) ps kvs ∧ kvs.map (·.1) = (ns.take i).map (fun n => (Sum.inr n : Key)) ∧ ∀ kv ∈ kvs, ∃ i, kv.2 = V.int i)
        ⟨D2.new nCp, Mv.of (Same.new nCp), [], [], upd_same, rfl, .nil, rfl, fun kv h => nomatch h⟩ (fun i Hy _ h => tofT (tups_mv D2 h.2.1 _ _ hpt)) ?_ ?_
      · rintro j x Hy hj ⟨Dy, My, ps, kvs, hC, pl, hP, hK, hI⟩
        obtain ⟨z, rfl, hz, hil⟩ := strs_at hj
        refine ⟨rfl, _, rfl, _, rfl, d, g, 19, rfl, Dy, by decide, by decide, fun r Hz r0 r1 Dz Mz => ⟨r, 9, rfl, rfl, (show 2 ≤ sizeLine from small (by decide)), fun p np => ?_⟩⟩
        have hCz := Mz.at hC offC
        have nCpp : Cp ≠ p := ne_of_none hCz np
        have sp1 := Same.new (o := .tup [.str z, .int (r - 9)]) np
        have tk : ∀ b ys, Hy b = some (.tup ys) → upd (upd Hz p (.tup [.str z, .int (r - 9)])) Cp (.lst (ps.map V.ref ++ [.ref p])) b = some (.tup ys) := fun b ys hb => by
          rw [upd_ne (fun e => by rw [e, hC] at hb; cases hb)]
          exact sp1 _ _ (tups_mv Dy Mz _ _ hb)
        refine ⟨_, sp1 _ _ hCz, by rw [List.length_map]; exact smallt (by omega), (Dz.new np).mut offC, ((My.trans Mz).trans (Mv.of sp1)).mut nCp, ps ++ [p], kvs ++ [(Sum.inr z, .int (r - 9))], ?_, by rw [List.length_append, pl]; rfl, ?_, ?_, ?_⟩
        · rw [upd_same, List.map_append]; rfl
        · exact (hP.mono fun _ _ h => tk _ _ h).snoc (by rw [upd_ne nCpp.symm, upd_same]; rfl)
        · rw [List.map_append, hK, List.take_add_one, hz, List.map_append]; rfl
        · intro kv hkv
          rcases List.mem_append.mp hkv with hkv | hkv
          · exact hI kv hkv
          · rw [List.mem_singleton.mp hkv]; exact ⟨_, rfl⟩
      rintro H3 ⟨D3, M3, ps, kvs, hC, pl, hP, hK, hI⟩
      rw [List.length_map, List.take_length] at hK
      refine ⟨Cp, ps, kvs, rfl, tofL hC, hP.mono fun _ _ h => tofT h, fun vd nvd => ?_⟩
      have offV := D3.off nvd
      have s4 := Same.new (o := .dK (mergeK [] kvs)) nvd
      have D4 := D3.new (o := .dK (mergeK [] kvs)) nvd
      have V4 : ValsN (upd H3 vd (.dK (mergeK [] kvs))) vd ns 10 := ValsN.merge upd_same hK hI (by omega)
      have hpt4 := s4 _ _ (tups_mv D2 M3 _ _ hpt)
      generalize upd H3 vd (.dK (mergeK [] kvs)) = H4 at *
      -- the lines
      refine ⟨_, rfl, _, rfl, _, rfl, _, rfl, d, g, 9, rfl, D4, by decide, by decide, fun st nms H5 D5 M5 hst nl9 nok nnd => ?_⟩
      refine ⟨d, g, pt, vd, st, ns, nms, rfl, D5, tups_mv D4 M5 _ _ hpt4, hst.t, V4.to (fun kvs hv => M5.at hv offV) (fun _ q => q), offV.1, p3, pnd, pok, nnd, by omega, nok, fun F xs sts H6 D6 hF nFg hSt okA l10 kne knd kok => ?_⟩
      have nFd : F ≠ d := by obtain ⟨k, L, e1, _⟩ := D6.ex; exact (ne_of e1 hF (fun z => nomatch z)).symm
      -- known, kept, written
      refine ⟨_, rfl, _, rfl, _, rfl, F, [g], xs, sts, rfl, hF, hSt, l10, fun kn H7 s7 nkn hkn => ?_⟩
      rw [kn_names okA] at hkn
      have offk := D6.off nkn
      have D7 := D6.same s7
      have kl := kn_len sts
      refine ⟨d, g, kn, knOf sts, rfl, D7, hkn, offk.2, kne, by omega, knd, fun kt ks' H8 D8 M8 hkt k1 k6 kd kin => ?_⟩
      have gd : GoodP sts ks' := good_of l10 okA kok k1 k6 kd kin
      have hF8 := M8.at (s7 _ _ hF) ⟨nFd, nFg⟩
      have hS8 : StAt [g] H8 xs sts := hSt.to (fun a ys h => tups_mv D7 M8 _ _ (s7 _ _ h)) (fun a ys na h => M8.at (s7 _ _ h) ⟨by obtain ⟨k, L, e1, _⟩ := D6.ex; exact (ne_of e1 h (fun z => nomatch z)).symm, fun z => na (by rw [z]; exact List.mem_cons_self)⟩)
      refine ⟨F, kt, [g], xs, sts, ks', rfl, hF8, hS8, (fun m => nFg (List.mem_singleton.mp m)), hkt, gd, fun H9 s9 => ?_⟩
      have D9 := D8.same s9
      have me := text_me gd
      generalize textP sts ks' = tx at *
      have okT : OkTx tx := me.ok (by decide) (by decide)
      -- bent eight times
      refine ⟨8, rfl, by decide, by decide, for_range (fun j σ Hy => Deck Hy d g ∧ ∃ (v2 v3 v4 v6 v8 v9 : Option V), σ = [some (.ref a), some (.ref d), v2, v3, v4, none, v6, some (.str tx), v8, v9, none, none, none]) ⟨D9, _, _, _, _, _, _, rfl⟩ ?_ ?_⟩
      · rintro j σ Hy hj ⟨Dy, w2, w3, w4, w6, w8, w9, rfl⟩
        refine ⟨_, rfl, _, rfl, d, g, tx, rfl, Dy, Nat.le_trans me.1 (by decide), fun z1 Ha Da Ma b1 => ?_⟩
        have m1 := me.bent b1
        refine ⟨fun σ' H' => ∃ z, σ' = [some (.ref a), some (.ref d), w2, w3, w4, none, w6, some (.str tx), some (.int (0 + (j : Nat))), some (.str z), none, none, none] ∧ Deck H' d g ∧ Me 60378 56 z, ?_, ?_⟩
        · refine ⟨_, rfl, d, g, 3, rfl, Da, by decide, by decide, fun r Hb r0 r1 Db Mb => ⟨rfl, _, rfl, ite2 (fun _ => ?_) (fun _ => ?_)⟩⟩
          · refine ⟨_, rfl, _, rfl, d, g, z1, rfl, Db, Nat.le_trans m1.1 (by decide), fun z2 Hc Dc Mc b2 => ⟨z2, rfl, Dc, (m1.bent b2).mono (by decide) (by decide)⟩⟩
          · exact ⟨z1, rfl, Db, m1.mono (by decide) (by decide)⟩
        rintro σ' H' ⟨z, rfl, D', mz'⟩
        refine ⟨_, rfl, z, rfl, mz'.ok (by decide) (by decide), fun Hp1 sp1 => ⟨_, rfl, iteF ?_⟩⟩
        refine ⟨_, rfl, tx, rfl, okT, fun Hp2 sp2 => ⟨_, rfl, iteF ?_⟩⟩
        exact ⟨D'.same (sp1.trans sp2), _, _, _, _, _, _, rfl⟩
      · rintro σ Hy ⟨Dy, w2, w3, w4, w6, w8, w9, rfl⟩
        exact ⟨Dy, _, _, _, _, _, _, _, rfl⟩
    rintro σ Hx ⟨_, v2, v3, v4, v6, v7, v8, v9, rfl⟩
    -- the texts at the end
    have cat : ∀ {Hy : Hp} {p : Addr} {L M : List Str} {q' : Addr} {xs : List V}, xs = M.map V.str → Hy p = some (.lst (L.map V.str)) → Hy q' = some (.lst xs) → upd Hy q' (.lst (L.map V.str ++ xs)) q' = some (.lst ((L ++ M).map V.str)) := fun e _ _ => by rw [upd_same, e, List.map_append]
    refine ⟨LM a d 7, ?_, ?_⟩
    · exact ⟨nines (by decide), fun p np => ⟨p, e1L, _, _, _, _, _, _, _, _, rfl, upd_same, (fun z hz => (e1_ok z hz).ok (by decide) (by decide)), Nat.le_refl _⟩⟩
    rintro σ1 H1 ⟨p, L, v2, v3, v4, v6, v7, v8, v9, v11, rfl, hp, okL, lL⟩
    refine ⟨LM a d 11, ?_, ?_⟩
    · refine ⟨_, rfl, nines (by decide), fun q1 nq => ?_⟩
      refine ⟨p, q1, _, _, rfl, rfl, Same.new nq _ _ hp, upd_same, nines (by rw [List.length_map]; show _ + 4 ≤ 1000; omega), fun r nr => ⟨r, L ++ e2L, _, _, _, _, _, _, _, _, rfl, ?_, ok_app okL fun z hz => (e2_ok z hz).ok (by decide) (by decide), by rw [List.length_append]; show _ + 4 ≤ 11; omega⟩⟩
      rw [upd_same, List.map_append]; rfl
    clear hp okL lL
    rintro σ2 H2 ⟨p, L, v2, v3, v4, v6, v7, v8, v9, v11, rfl, hp, okL, lL⟩
    refine ⟨LM a d 14, ?_, ?_⟩
    · refine ⟨_, rfl, _, _, rfl, rfl, by decide, by decide, by decide +kernel, _, _, rfl, rfl, nines (by rw [repS_len]; decide +kernel), _, _, rfl, rfl, nines (by decide +kernel), _, _, rfl, rfl, by decide, by decide, by decide +kernel, _, _, rfl, rfl, small (by rw [repS_len]; decide +kernel), _, _, rfl, rfl, ?_, nines (by decide), fun q1 nq => ?_⟩
      · have e3 := (e3_ok (("let a = " : Str) ++ repS "7" 5000 ++ "\nkeep a") (by unfold e3L; simp)).1
        have l := mz_app (fun _ => 1) (("let a = " : Str) ++ repS "7" 5000) "\nkeep a"
        rw [mz_one, mz_one, mz_one] at l
        exact small (by omega)
      refine ⟨p, q1, _, _, rfl, rfl, Same.new nq _ _ hp, upd_same, nines (by rw [List.length_map]; show _ + 3 ≤ 1000; omega), fun r nr => ⟨r, L ++ e3L, _, _, _, _, _, _, _, _, rfl, ?_, ok_app okL fun z hz => (e3_ok z hz).ok (by decide) (by decide), by rw [List.length_append]; show _ + 3 ≤ 14; omega⟩⟩
      rw [upd_same, List.map_append]; rfl
    clear hp okL lL
    rintro σ3 H3 ⟨p, L, v2, v3, v4, v6, v7, v8, v9, v11, rfl, hp, okL, lL⟩
    refine ⟨LM a d 16, ?_, ?_⟩
    · refine ⟨_, rfl, nines (by decide), fun q1 nq => ?_⟩
      refine ⟨p, q1, _, _, rfl, rfl, Same.new nq _ _ hp, upd_same, nines (by rw [List.length_map]; show _ + 2 ≤ 1000; omega), fun r nr => ⟨r, L ++ e4L, _, _, _, _, _, _, _, _, rfl, ?_, ok_app okL fun z hz => (e4_ok z hz).ok (by decide) (by decide), by rw [List.length_append]; show _ + 2 ≤ 16; omega⟩⟩
      rw [upd_same, List.map_append]; rfl
    clear hp okL lL
    rintro σ4 H4 ⟨p, L, v2, v3, v4, v6, v7, v8, v9, v11, rfl, hp, okL, lL⟩
    have e5 : Me 100 9 ("take a\ncheck\nkeep a" : Str) := by decide +kernel
    refine ⟨LM a d 17, ?_, ?_⟩
    · refine ⟨_, rfl, ty_l (tofL hp), p, _, _, rfl, rfl, hp, by rw [List.length_map]; exact smallt (by omega), p, L ++ [("take a\ncheck\nkeep a" : Str)], _, _, _, _, _, _, _, _, rfl, ?_, ok_app okL fun z hz => by rw [List.mem_singleton.mp hz]; exact e5.ok (by decide) (by decide), by rw [List.length_append]; show _ + 1 ≤ 17; omega⟩
      rw [upd_same, List.map_append]; rfl
    clear hp okL lL
    rintro σ5 H5 ⟨p, L, v2, v3, v4, v6, v7, v8, v9, v11, rfl, hp, okL, lL⟩
    refine ⟨LM a d 20, ?_, ?_⟩
    · refine ⟨_, rfl, nines (by decide), fun q1 nq => ?_⟩
      refine ⟨p, q1, _, _, rfl, rfl, Same.new nq _ _ hp, upd_same, nines (by rw [List.length_map]; show _ + 3 ≤ 1000; omega), fun r nr => ⟨r, L ++ e6L, _, _, _, _, _, _, _, _, rfl, ?_, ok_app okL fun z hz => (e6_ok z hz).ok (by decide) (by decide), by rw [List.length_append]; show _ + 3 ≤ 20; omega⟩⟩
      rw [upd_same, List.map_append]; rfl
    clear hp okL lL
    rintro σ6 H6 ⟨p, L, v2, v3, v4, v6, v7, v8, v9, v11, rfl, hp, okL, lL⟩
    refine ⟨LM a d 24, ?_, ?_⟩
    · refine ⟨_, rfl, nines (by decide), fun q1 nq => ?_⟩
      refine ⟨p, q1, _, _, rfl, rfl, Same.new nq _ _ hp, upd_same, nines (by rw [List.length_map]; show _ + 4 ≤ 1000; omega), fun r nr => ⟨r, L ++ e7L, _, _, _, _, _, _, _, _, rfl, ?_, ok_app okL fun z hz => (e7_ok z hz).ok (by decide) (by decide), by rw [List.length_append]; show _ + 4 ≤ 24; omega⟩⟩
      rw [upd_same, List.map_append]; rfl
    clear hp okL lL
    rintro σ7 H7 ⟨p, L, v2, v3, v4, v6, v7, v8, v9, v11, rfl, hp, okL, lL⟩
    have e8 : Me 100 9 ("take a1\nkeep a1" : Str) := by decide +kernel
    refine ⟨LM a d 25, ?_, ?_⟩
    · refine ⟨_, rfl, ty_l (tofL hp), p, _, _, rfl, rfl, hp, by rw [List.length_map]; exact smallt (by omega), p, L ++ [("take a1\nkeep a1" : Str)], _, _, _, _, _, _, _, _, rfl, ?_, ok_app okL fun z hz => by rw [List.mem_singleton.mp hz]; exact e8.ok (by decide) (by decide), by rw [List.length_append]; show _ + 1 ≤ 25; omega⟩
      rw [upd_same, List.map_append]; rfl
    clear hp okL lL
    rintro σ8 H8 ⟨p, L, v2, v3, v4, v6, v7, v8, v9, v11, rfl, hp, okL, lL⟩
    -- the words that are taken
    refine ⟨LK a d 25, ?_, ?_⟩
    · exact ⟨nines (by decide), fun kp nkp => ⟨p, kp, L, _, _, _, _, _, _, _, rfl, Same.new nkp _ _ hp, okL, lL, upd_same, ne_of_none hp nkp⟩⟩
    clear hp okL lL
    have tl20 : ∀ wd ∈ TAKEN, wd.length ≤ 20 := fun wd h => (taken_me wd h).1
    rintro σ9 H9 ⟨p, kp, L, v2, v3, v4, v6, v7, v8, v9, rfl, hp, okL, lL, hk, npk⟩
    refine ⟨LK a d 34, ?_, ?_⟩
    · refine ⟨_, rfl, _, rfl, kp, rfl, ⟨_, tofL hk⟩, fun D nD => ?_⟩
      refine lc_list (K := K) (a := kp) (xs := TAKEN.map V.str) (fun i Hy => Same H9 Hy ∧ Hy D = some (.lst (((TAKEN.take i).map fun wd => ("take " : Str) ++ wd ++ "\nkeep " ++ wd).map V.str))) ⟨Same.new nD, upd_same⟩ (fun i Hy _ h => tofL (h.1 _ _ hk)) ?_ ?_
      · rintro i x Hy hi ⟨sy, hD⟩
        obtain ⟨wd, rfl, hz, hil⟩ := strs_at hi
        have wm := tl20 wd (List.mem_of_getElem? hz)
        have il : i < 9 := hil
        have a1 : (("take " : Str) ++ wd).length ≤ 30 := by
          have := mz_app (fun _ => 1) "take " wd
          rw [mz_one, mz_one, mz_one] at this
          have e : ("take " : Str).length = 5 := by decide +kernel
          omega
        have a2 : (("take " : Str) ++ wd ++ "\nkeep ").length ≤ 40 := by
          have := mz_app (fun _ => 1) (("take " : Str) ++ wd) "\nkeep "
          rw [mz_one, mz_one, mz_one] at this
          have e : ("\nkeep " : Str).length = 6 := by decide +kernel
          omega
        have e5 : ("take " : Str).length = 5 := by decide +kernel
        have e6 : ("\nkeep " : Str).length = 6 := by decide +kernel
        refine ⟨rfl, _, rfl, _, _, rfl, rfl, nines (by rw [e5]; omega), _, _, rfl, rfl, nines (by rw [e6]; omega), _, rfl, _, _, rfl, rfl, nines (by omega), _, hD, ?_, ?_, ?_⟩
        · rw [List.length_map, List.length_map, List.length_take]; exact smallt (by omega)
        · intro b o hb
          rw [upd_ne (ne_of_none hb nD)]
          exact sy _ _ hb
        · rw [upd_same, List.take_add_one, hz, List.map_append, List.map_append]; rfl
      rintro Hy ⟨sy, hD⟩
      rw [List.length_map, List.take_length] at hD
      refine ⟨p, D, _, _, rfl, rfl, sy _ _ hp, hD, nines (by rw [List.length_map, List.length_map, List.length_map]; show _ + 9 ≤ 1000; omega), fun r nr => ⟨r, kp, L ++ (TAKEN.map fun wd => ("take " : Str) ++ wd ++ "\nkeep " ++ wd), _, _, _, _, _, _, _, rfl, ?_, ok_app okL fun z hz => ?_, by rw [List.length_append, List.length_map]; show _ + 9 ≤ 34; omega, Same.new nr _ _ (sy _ _ hk), (ne_of_none (sy _ _ hk) nr).symm⟩⟩
      · rw [upd_same, List.map_append]
      · obtain ⟨wd, hw, rfl⟩ := List.mem_map.mp hz
        exact (e9_ok hw).ok (by decide) (by decide)
    clear hp okL lL hk npk
    rintro σ10 H10 ⟨p, kp, L, v2, v3, v4, v6, v7, v8, v9, rfl, hp, okL, lL, hk, npk⟩
    refine ⟨LK a d 43, ?_, ?_⟩
    · refine ⟨_, rfl, _, rfl, kp, rfl, ⟨_, tofL hk⟩, fun D nD => ?_⟩
      refine lc_list (K := K) (a := kp) (xs := TAKEN.map V.str) (fun i Hy => Same H10 Hy ∧ Hy D = some (.lst (((TAKEN.take i).map fun wd => ("let " : Str) ++ wd ++ " = 1\nkeep " ++ wd).map V.str))) ⟨Same.new nD, upd_same⟩ (fun i Hy _ h => tofL (h.1 _ _ hk)) ?_ ?_
      · rintro i x Hy hi ⟨sy, hD⟩
        obtain ⟨wd, rfl, hz, hil⟩ := strs_at hi
        have wm := tl20 wd (List.mem_of_getElem? hz)
        have il : i < 9 := hil
        have e5 : ("let " : Str).length = 4 := by decide +kernel
        have e6 : (" = 1\nkeep " : Str).length = 10 := by decide +kernel
        have a1 : (("let " : Str) ++ wd).length ≤ 30 := by
          have := mz_app (fun _ => 1) "let " wd
          rw [mz_one, mz_one, mz_one] at this
          omega
        have a2 : (("let " : Str) ++ wd ++ " = 1\nkeep ").length ≤ 40 := by
          have := mz_app (fun _ => 1) (("let " : Str) ++ wd) " = 1\nkeep "
          rw [mz_one, mz_one, mz_one] at this
          omega
        refine ⟨rfl, _, rfl, _, _, rfl, rfl, nines (by rw [e5]; omega), _, _, rfl, rfl, nines (by rw [e6]; omega), _, rfl, _, _, rfl, rfl, nines (by omega), _, hD, ?_, ?_, ?_⟩
        · rw [List.length_map, List.length_map, List.length_take]; exact smallt (by omega)
        · intro b o hb
          rw [upd_ne (ne_of_none hb nD)]
          exact sy _ _ hb
        · rw [upd_same, List.take_add_one, hz, List.map_append, List.map_append]; rfl
      rintro Hy ⟨sy, hD⟩
      rw [List.length_map, List.take_length] at hD
      refine ⟨p, D, _, _, rfl, rfl, sy _ _ hp, hD, nines (by rw [List.length_map, List.length_map, List.length_map]; show _ + 9 ≤ 1000; omega), fun r nr => ⟨r, kp, L ++ (TAKEN.map fun wd => ("let " : Str) ++ wd ++ " = 1\nkeep " ++ wd), _, _, _, _, _, _, _, rfl, ?_, ok_app okL fun z hz => ?_, by rw [List.length_append, List.length_map]; show _ + 9 ≤ 43; omega, Same.new nr _ _ (sy _ _ hk), (ne_of_none (sy _ _ hk) nr).symm⟩⟩
      · rw [upd_same, List.map_append]
      · obtain ⟨wd, hw, rfl⟩ := List.mem_map.mp hz
        exact (e10_ok hw).ok (by decide) (by decide)
    clear hp okL lL hk npk
    rintro σ11 H11 ⟨p, kp, L, v2, v3, v4, v6, v7, v8, v9, rfl, hp, okL, lL, hk, npk⟩
    refine ⟨LM a d 44, ?_, ?_⟩
    · have e11 := e11_ok
      have l := mz_app (fun _ => 1) (("take a\n" : Str) ++ repS "check a = 0\n" 20) "keep a"
      rw [mz_one, mz_one, mz_one] at l
      refine ⟨_, rfl, ty_l (tofL hp), _, _, rfl, rfl, by decide, by decide, by decide +kernel, _, _, rfl, rfl, nines (by rw [repS_len]; decide +kernel), _, _, rfl, rfl, nines (by have := e11.1; omega), p, _, _, rfl, rfl, hp, by rw [List.length_map]; exact smallt (by omega), p, L ++ [("take a\n" : Str) ++ repS "check a = 0\n" 20 ++ "keep a"], _, _, _, _, _, _, _, _, rfl, ?_, ok_app okL fun z hz => by rw [List.mem_singleton.mp hz]; exact e11.ok (by decide) (by decide), by rw [List.length_append]; show _ + 1 ≤ 44; omega⟩
      rw [upd_same, List.map_append]; rfl
    clear hp okL lL hk npk
    rintro σ12 H12 ⟨p, L, v2, v3, v4, v6, v7, v8, v9, v11, rfl, hp, okL, lL⟩
    refine ⟨LM a d 45, ?_, ?_⟩
    · have e12 := e12_ok
      refine ⟨_, rfl, ty_l (tofL hp), ⟨_, rfl⟩, abt, rfl, fun D nD => ?_⟩
      have toL : ∀ (i : Nat) (c : Nat), abt.cps[i]? = some c → abt.cps.toList[i]? = some c := fun i c h => by rw [Array.getElem?_toList]; exact h
      refine lc_it walk_str (fun i Hx => Same H12 Hx ∧ Hx D = some (.lst (((abt.cps.toList.take i).map fun c => ("take " : Str) ++ S1 c).map V.str))) ⟨Same.new nD, upd_same⟩ (fun _ _ _ _ => True.intro) ?_ ?_
      · rintro i x Hy Hz hi ⟨sy, hD⟩ ⟨rfl, c, hc', rfl⟩
        have hL := toL i c hc'
        have il := (List.getElem?_eq_some_iff.mp hL).1
        rw [abt_len] at il
        refine ⟨rfl, _, rfl, _, _, rfl, rfl, nines ?_, _, hD, ?_, ?_, ?_⟩
        · have e5 : ("take " : Str).length = 5 := by decide +kernel
          rw [e5]
          show 5 + 1 ≤ 1000
          decide
        · rw [List.length_map, List.length_map, List.length_take]; exact smallt (by omega)
        · intro b o hb
          rw [upd_ne (ne_of_none hb nD)]
          exact sy _ _ hb
        · rw [upd_same, List.take_add_one, hL, List.map_append, List.map_append]; rfl
      rintro Hy ⟨sy, hD⟩
      rw [show abt.cps.size = abt.cps.toList.length from rfl, List.take_length] at hD
      have hpy := sy _ _ hp
      have l := mz_app (fun _ => 1) (Txt.join "\n" takesL) "\nkeep t c a f e b"
      rw [mz_one, mz_one, mz_one] at l
      refine ⟨"\n", D, takesL, rfl, rfl, .inl (tofL hD), Nat.le_trans takes_sum (by decide), _, _, rfl, rfl, nines (by have := e12.1; omega), p, _, _, rfl, rfl, hpy, by rw [List.length_map]; exact smallt (by omega), p, L ++ [Txt.join "\n" takesL ++ "\nkeep t c a f e b"], _, _, _, _, _, _, _, _, rfl, ?_, ok_app okL fun z hz => by rw [List.mem_singleton.mp hz]; exact e12.ok (by decide) (by decide), by rw [List.length_append]; show _ + 1 ≤ 45; omega⟩
      rw [upd_same, List.map_append]; rfl
    clear hp okL lL
    rintro σ13 H13 ⟨p, L, v2, v3, v4, v6, v7, v8, v9, v11, rfl, hp, okL, lL⟩
    refine ⟨_, rfl, p, rfl, ⟨_, tofL hp⟩, fun D nD => ?_⟩
    refine lc_list (K := K) (a := p) (xs := L.map V.str) (fun i Hy => Same H13 Hy ∧ Hy D = some (.lst (([] : List Str).map V.str))) ⟨Same.new nD, upd_same⟩ (fun i Hy _ h => tofL (h.1 _ _ hp)) ?_ ?_
    · rintro i x Hy hi ⟨sy, hD⟩
      obtain ⟨z, rfl, hz, hil⟩ := strs_at hi
      exact ⟨rfl, _, rfl, z, rfl, okL z (List.mem_of_getElem? hz), fun H' s' => ⟨_, rfl, iteF ⟨sy.trans s', s' _ _ hD⟩⟩⟩
    rintro Hy ⟨sy, hD⟩
    refine ⟨Nat.zero_le _, fun o no => ?_⟩
    have so := Same.new (o := .lst []) no
    refine ⟨.list (([] : List Str).map PyData.str), .list (([] : List Str).map PyData.str), .lst (tofL (so _ _ hD)) (dpa_strs []), .lst (tofL (show upd Hy o (.lst []) o = some (.lst (([] : List Str).map V.str)) from upd_same)) (dpa_strs []), plain_strs _, plain_strs _, depth_strs _, ?_⟩
    rw [eqv_strs, decide_eq_true rfl]
    exact q _
end
theorem walk {l : PySem.W.OpenLaw} {q : Program} {loose : List Str} {XP : (Str → Option Value) → Heap → Prop} {YP : World → Heap → Prop} {d : DefRec} {K : Params → PySem.W.Frag} (hn : l.most = some 63) (hdf : d.params.defaults = [])
    (hY : ∀ (w : World) (h : Heap), YP w h → (K w.params).In h)
    (F : ∀ (w : World) (mg : Str → Option Value) (fa : Addr) (h : Heap), (K w.params).In h → h.Ns mainGlobals mg → mg d.name = some (.ref fa) →
      ∃ fd : FuncData, (∀ (s : Shared) (u : Value), BindsTo s fd ⟨[u], []⟩ [("_law_script", u)]) ∧ ∀ base : Heap, (K w.params).In base → base.Ns mainGlobals mg → FnG l.prog w (K w.params) mg base CX0 10 fa fd ["_law_script"] (spLaw (K w.params))) :
    PySem.W.WalkO q loose XP YP l.row.toRowW d [] (fun f vs => PySem.call f vs) :=
  walkG (n := 63) (k := 10) (x := "_law_script") (sp := spLaw) hn (by decide) hdf ⟨rfl, by decide, by decide⟩ hY F (fun _ _ a ns hl _ hS => ⟨a, ns, rfl, hS, hl, fun _ => rfl⟩)
end KW
namespace KW
open PySem PySem.Spec PyProof.Rows L2 GL G3
theorem exm_two {K : PySem.W.Frag} {S B : Addr} (h1 : PySem.W.subIn K (.ref B) (.type "BaseException") = some true) (h2 : PySem.W.isClsIn K B = true) (h3 : PySem.W.typeIn K (.ref B) = some (.type "type")) (h4 : PySem.W.subIn K (.ref S) (.ref B) = some true) :
    PySem.W.exmOne K (.ref S) (.ref B) = some true := by
  have z : (PySem.W.clsIn K B).isSome = true := h2
  unfold PySem.W.exmOne
  rw [if_pos (by rw [h1]; rfl)]
  show (if ((PySem.W.clsIn K B).isSome && PySem.W.typeIn K (.ref B) == some (.type "type")) = true then PySem.W.subIn K (.ref S) (.ref B) else none) = some true
  rw [if_pos (by rw [z, h3]; rfl)]
  exact h4
theorem all_mk {l : PySem.W.OpenLaw} {w : World} {K : PySem.W.Frag} {h : Heap} {mg : Str → Option Value} {fa f_nat f_isn f_aren f_wm f_rs f_rt f_rstep f_rchk f_rgs f_deck f_draw f_pick f_called f_sum f_st f_val f_chk f_stages f_stept f_kept f_known f_wr f_pool f_lname f_lwhole f_lissum f_lisstep f_due f_told f_brow f_bent f_right f_law : Addr} (X : K.In h) (G : h.Ns mainGlobals mg) (hfa : mg "law" = some (.ref fa))
    {od_nat an_nat : Option Addr} {sl_nat : Array (Option Value)} {oc_nat kV_nat dc_nat pm_nat cd_nat ct_nat : Value}
    {od_isn an_isn : Option Addr} {sl_isn : Array (Option Value)} {oc_isn kV_isn dc_isn pm_isn cd_isn ct_isn : Value}
    {od_aren an_aren : Option Addr} {sl_aren : Array (Option Value)} {oc_aren kV_aren dc_aren pm_aren cd_aren ct_aren : Value}
    {od_wm an_wm : Option Addr} {sl_wm : Array (Option Value)} {oc_wm kV_wm dc_wm pm_wm cd_wm ct_wm : Value}
    {od_rs an_rs : Option Addr} {sl_rs : Array (Option Value)} {oc_rs kV_rs dc_rs pm_rs cd_rs ct_rs : Value}
    {od_rt an_rt : Option Addr} {sl_rt : Array (Option Value)} {oc_rt kV_rt dc_rt pm_rt cd_rt ct_rt : Value}
    {od_rstep an_rstep : Option Addr} {sl_rstep : Array (Option Value)} {oc_rstep kV_rstep dc_rstep pm_rstep cd_rstep ct_rstep : Value}
    {od_rchk an_rchk : Option Addr} {sl_rchk : Array (Option Value)} {oc_rchk kV_rchk dc_rchk pm_rchk cd_rchk ct_rchk : Value}
    {od_rgs an_rgs : Option Addr} {sl_rgs : Array (Option Value)} {oc_rgs kV_rgs dc_rgs pm_rgs cd_rgs ct_rgs : Value}
    {od_deck an_deck : Option Addr} {sl_deck : Array (Option Value)} {oc_deck kV_deck dc_deck pm_deck cd_deck ct_deck : Value}
    {od_draw an_draw : Option Addr} {sl_draw : Array (Option Value)} {oc_draw kV_draw dc_draw pm_draw cd_draw ct_draw : Value}
    {od_pick an_pick : Option Addr} {sl_pick : Array (Option Value)} {oc_pick kV_pick dc_pick pm_pick cd_pick ct_pick : Value}
    {od_called an_called : Option Addr} {sl_called : Array (Option Value)} {oc_called kV_called dc_called pm_called cd_called ct_called : Value}
    {od_sum an_sum : Option Addr} {sl_sum : Array (Option Value)} {oc_sum kV_sum dc_sum pm_sum cd_sum ct_sum : Value}
    {od_st an_st : Option Addr} {sl_st : Array (Option Value)} {oc_st kV_st dc_st pm_st cd_st ct_st : Value}
    {od_val an_val : Option Addr} {sl_val : Array (Option Value)} {oc_val kV_val dc_val pm_val cd_val ct_val : Value}
    {od_chk an_chk : Option Addr} {sl_chk : Array (Option Value)} {oc_chk kV_chk dc_chk pm_chk cd_chk ct_chk : Value}
    {od_stages an_stages : Option Addr} {sl_stages : Array (Option Value)} {oc_stages kV_stages dc_stages pm_stages cd_stages ct_stages : Value}
    {od_stept an_stept : Option Addr} {sl_stept : Array (Option Value)} {oc_stept kV_stept dc_stept pm_stept cd_stept ct_stept : Value}
    {od_kept an_kept : Option Addr} {sl_kept : Array (Option Value)} {oc_kept kV_kept dc_kept pm_kept cd_kept ct_kept : Value}
    {od_known an_known : Option Addr} {sl_known : Array (Option Value)} {oc_known kV_known dc_known pm_known cd_known ct_known : Value}
    {od_wr an_wr : Option Addr} {sl_wr : Array (Option Value)} {oc_wr kV_wr dc_wr pm_wr cd_wr ct_wr : Value}
    {od_pool an_pool : Option Addr} {sl_pool : Array (Option Value)} {oc_pool kV_pool dc_pool pm_pool cd_pool ct_pool : Value}
    {od_lname an_lname : Option Addr} {sl_lname : Array (Option Value)} {oc_lname kV_lname dc_lname pm_lname cd_lname ct_lname : Value}
    {od_lwhole an_lwhole : Option Addr} {sl_lwhole : Array (Option Value)} {oc_lwhole kV_lwhole dc_lwhole pm_lwhole cd_lwhole ct_lwhole : Value}
    {od_lissum an_lissum : Option Addr} {sl_lissum : Array (Option Value)} {oc_lissum kV_lissum dc_lissum pm_lissum cd_lissum ct_lissum : Value}
    {od_lisstep an_lisstep : Option Addr} {sl_lisstep : Array (Option Value)} {oc_lisstep kV_lisstep dc_lisstep pm_lisstep cd_lisstep ct_lisstep : Value}
    {od_due an_due : Option Addr} {sl_due : Array (Option Value)} {oc_due kV_due dc_due pm_due cd_due ct_due : Value}
    {od_told an_told : Option Addr} {sl_told : Array (Option Value)} {oc_told kV_told dc_told pm_told cd_told ct_told : Value}
    {od_brow an_brow : Option Addr} {sl_brow : Array (Option Value)} {oc_brow kV_brow dc_brow pm_brow cd_brow ct_brow : Value}
    {od_bent an_bent : Option Addr} {sl_bent : Array (Option Value)} {oc_bent kV_bent dc_bent pm_bent cd_bent ct_bent : Value}
    {od_right an_right : Option Addr} {sl_right : Array (Option Value)} {oc_right kV_right dc_right pm_right cd_right ct_right : Value}
    {od_law an_law : Option Addr} {sl_law : Array (Option Value)} {oc_law kV_law dc_law pm_law cd_law ct_law : Value}
    {C fI fS fR pR TW CE BE fB : Addr} {restR : List Value} {odI anI : Option Addr} {slI : Array (Option Value)} {ocI kVI dcI pmI cdI ctI : Value} {odS anS : Option Addr} {slS : Array (Option Value)} {ocS kVS dcS pmS cdS ctS : Value} {odR anR : Option Addr} {slR : Array (Option Value)} {ocR kVR dcR pmR cdR ctR : Value} {odB anB : Option Addr} {slB : Array (Option Value)} {ocB kVB dcB pmB cdB ctB : Value} {dW : Option Addr} {slW : Array (Option Value)} {nW : Nat} {tD tS tN tL tG w0 w1 w2 w3 w4 w5 w6 w7 w8 : Tok} {nmE qE : Str} {NE : Addr} {bsE : List Value} {snE : List Str} {subE : List Value} {abE : Bool} {colE : Option Bool} {ddE : Option Addr} {e0 e1 e2 e3 e5 : Option Value}
    (a_nat : PySem.W.nsIn K mainGlobals "is_natural" = some (some (.ref f_nat)))
    (l_nat : K.lookup f_nat = some ⟨oc_nat, od_nat, .func (PySem.W.fnOf "is_natural" "is_natural" (defArgs s_is_natural) (defBody s_is_natural) (defScope s_is_natural) .none kV_nat dc_nat pm_nat an_nat cd_nat ct_nat), sl_nat⟩)
    (c_nat : PySem.W.codeIn K cd_nat "is_natural" = true) (k_nat : PySem.W.keepIn K (.ref f_nat) = true)
    (a_isn : PySem.W.nsIn K mainGlobals "is_name" = some (some (.ref f_isn)))
    (l_isn : K.lookup f_isn = some ⟨oc_isn, od_isn, .func (PySem.W.fnOf "is_name" "is_name" (defArgs s_is_name) (defBody s_is_name) (defScope s_is_name) .none kV_isn dc_isn pm_isn an_isn cd_isn ct_isn), sl_isn⟩)
    (c_isn : PySem.W.codeIn K cd_isn "is_name" = true) (k_isn : PySem.W.keepIn K (.ref f_isn) = true)
    (a_aren : PySem.W.nsIn K mainGlobals "are_names" = some (some (.ref f_aren)))
    (l_aren : K.lookup f_aren = some ⟨oc_aren, od_aren, .func (PySem.W.fnOf "are_names" "are_names" (defArgs s_are_names) (defBody s_are_names) (defScope s_are_names) .none kV_aren dc_aren pm_aren an_aren cd_aren ct_aren), sl_aren⟩)
    (c_aren : PySem.W.codeIn K cd_aren "are_names" = true) (k_aren : PySem.W.keepIn K (.ref f_aren) = true)
    (a_wm : PySem.W.nsIn K mainGlobals "without_modulus" = some (some (.ref f_wm)))
    (l_wm : K.lookup f_wm = some ⟨oc_wm, od_wm, .func (PySem.W.fnOf "without_modulus" "without_modulus" (defArgs s_without_modulus) (defBody s_without_modulus) (defScope s_without_modulus) .none kV_wm dc_wm pm_wm an_wm cd_wm ct_wm), sl_wm⟩)
    (c_wm : PySem.W.codeIn K cd_wm "without_modulus" = true) (k_wm : PySem.W.keepIn K (.ref f_wm) = true)
    (a_rs : PySem.W.nsIn K mainGlobals "read_sum" = some (some (.ref f_rs)))
    (l_rs : K.lookup f_rs = some ⟨oc_rs, od_rs, .func (PySem.W.fnOf "read_sum" "read_sum" (defArgs s_read_sum) (defBody s_read_sum) (defScope s_read_sum) .none kV_rs dc_rs pm_rs an_rs cd_rs ct_rs), sl_rs⟩)
    (c_rs : PySem.W.codeIn K cd_rs "read_sum" = true) (k_rs : PySem.W.keepIn K (.ref f_rs) = true)
    (a_rt : PySem.W.nsIn K mainGlobals "_read_term" = some (some (.ref f_rt)))
    (l_rt : K.lookup f_rt = some ⟨oc_rt, od_rt, .func (PySem.W.fnOf "_read_term" "_read_term" (defArgs s_read_term) (defBody s_read_term) (defScope s_read_term) .none kV_rt dc_rt pm_rt an_rt cd_rt ct_rt), sl_rt⟩)
    (c_rt : PySem.W.codeIn K cd_rt "_read_term" = true) (k_rt : PySem.W.keepIn K (.ref f_rt) = true)
    (a_rstep : PySem.W.nsIn K mainGlobals "_read_step" = some (some (.ref f_rstep)))
    (l_rstep : K.lookup f_rstep = some ⟨oc_rstep, od_rstep, .func (PySem.W.fnOf "_read_step" "_read_step" (defArgs s_read_step) (defBody s_read_step) (defScope s_read_step) .none kV_rstep dc_rstep pm_rstep an_rstep cd_rstep ct_rstep), sl_rstep⟩)
    (c_rstep : PySem.W.codeIn K cd_rstep "_read_step" = true) (k_rstep : PySem.W.keepIn K (.ref f_rstep) = true)
    (a_rchk : PySem.W.nsIn K mainGlobals "_read_check" = some (some (.ref f_rchk)))
    (l_rchk : K.lookup f_rchk = some ⟨oc_rchk, od_rchk, .func (PySem.W.fnOf "_read_check" "_read_check" (defArgs s_read_check) (defBody s_read_check) (defScope s_read_check) .none kV_rchk dc_rchk pm_rchk an_rchk cd_rchk ct_rchk), sl_rchk⟩)
    (c_rchk : PySem.W.codeIn K cd_rchk "_read_check" = true) (k_rchk : PySem.W.keepIn K (.ref f_rchk) = true)
    (a_rgs : PySem.W.nsIn K mainGlobals "_read_given_sum" = some (some (.ref f_rgs)))
    (l_rgs : K.lookup f_rgs = some ⟨oc_rgs, od_rgs, .func (PySem.W.fnOf "_read_given_sum" "_read_given_sum" (defArgs s_read_given_sum) (defBody s_read_given_sum) (defScope s_read_given_sum) .none kV_rgs dc_rgs pm_rgs an_rgs cd_rgs ct_rgs), sl_rgs⟩)
    (c_rgs : PySem.W.codeIn K cd_rgs "_read_given_sum" = true) (k_rgs : PySem.W.keepIn K (.ref f_rgs) = true)
    (a_deck : PySem.W.nsIn K mainGlobals "_law_deck" = some (some (.ref f_deck)))
    (l_deck : K.lookup f_deck = some ⟨oc_deck, od_deck, .func (PySem.W.fnOf "_law_deck" "_law_deck" (defArgs s_deck) (defBody s_deck) (defScope s_deck) .none kV_deck dc_deck pm_deck an_deck cd_deck ct_deck), sl_deck⟩)
    (c_deck : PySem.W.codeIn K cd_deck "_law_deck" = true) (k_deck : PySem.W.keepIn K (.ref f_deck) = true)
    (a_draw : PySem.W.nsIn K mainGlobals "_law_draw" = some (some (.ref f_draw)))
    (l_draw : K.lookup f_draw = some ⟨oc_draw, od_draw, .func (PySem.W.fnOf "_law_draw" "_law_draw" (defArgs s_draw) (defBody s_draw) (defScope s_draw) .none kV_draw dc_draw pm_draw an_draw cd_draw ct_draw), sl_draw⟩)
    (c_draw : PySem.W.codeIn K cd_draw "_law_draw" = true) (k_draw : PySem.W.keepIn K (.ref f_draw) = true)
    (a_pick : PySem.W.nsIn K mainGlobals "_law_pick" = some (some (.ref f_pick)))
    (l_pick : K.lookup f_pick = some ⟨oc_pick, od_pick, .func (PySem.W.fnOf "_law_pick" "_law_pick" (defArgs s_pick) (defBody s_pick) (defScope s_pick) .none kV_pick dc_pick pm_pick an_pick cd_pick ct_pick), sl_pick⟩)
    (c_pick : PySem.W.codeIn K cd_pick "_law_pick" = true) (k_pick : PySem.W.keepIn K (.ref f_pick) = true)
    (a_called : PySem.W.nsIn K mainGlobals "_law_called" = some (some (.ref f_called)))
    (l_called : K.lookup f_called = some ⟨oc_called, od_called, .func (PySem.W.fnOf "_law_called" "_law_called" (defArgs s_called) (defBody s_called) (defScope s_called) .none kV_called dc_called pm_called an_called cd_called ct_called), sl_called⟩)
    (c_called : PySem.W.codeIn K cd_called "_law_called" = true) (k_called : PySem.W.keepIn K (.ref f_called) = true)
    (a_sum : PySem.W.nsIn K mainGlobals "_law_sum" = some (some (.ref f_sum)))
    (l_sum : K.lookup f_sum = some ⟨oc_sum, od_sum, .func (PySem.W.fnOf "_law_sum" "_law_sum" (defArgs s_sum) (defBody s_sum) (defScope s_sum) .none kV_sum dc_sum pm_sum an_sum cd_sum ct_sum), sl_sum⟩)
    (c_sum : PySem.W.codeIn K cd_sum "_law_sum" = true) (k_sum : PySem.W.keepIn K (.ref f_sum) = true)
    (a_st : PySem.W.nsIn K mainGlobals "_law_sum_text" = some (some (.ref f_st)))
    (l_st : K.lookup f_st = some ⟨oc_st, od_st, .func (PySem.W.fnOf "_law_sum_text" "_law_sum_text" (defArgs s_sum_text) (defBody s_sum_text) (defScope s_sum_text) .none kV_st dc_st pm_st an_st cd_st ct_st), sl_st⟩)
    (c_st : PySem.W.codeIn K cd_st "_law_sum_text" = true) (k_st : PySem.W.keepIn K (.ref f_st) = true)
    (a_val : PySem.W.nsIn K mainGlobals "_law_value" = some (some (.ref f_val)))
    (l_val : K.lookup f_val = some ⟨oc_val, od_val, .func (PySem.W.fnOf "_law_value" "_law_value" (defArgs s_value) (defBody s_value) (defScope s_value) .none kV_val dc_val pm_val an_val cd_val ct_val), sl_val⟩)
    (c_val : PySem.W.codeIn K cd_val "_law_value" = true) (k_val : PySem.W.keepIn K (.ref f_val) = true)
    (a_chk : PySem.W.nsIn K mainGlobals "_law_check" = some (some (.ref f_chk)))
    (l_chk : K.lookup f_chk = some ⟨oc_chk, od_chk, .func (PySem.W.fnOf "_law_check" "_law_check" (defArgs s_check) (defBody s_check) (defScope s_check) .none kV_chk dc_chk pm_chk an_chk cd_chk ct_chk), sl_chk⟩)
    (c_chk : PySem.W.codeIn K cd_chk "_law_check" = true) (k_chk : PySem.W.keepIn K (.ref f_chk) = true)
    (a_stages : PySem.W.nsIn K mainGlobals "_law_stages" = some (some (.ref f_stages)))
    (l_stages : K.lookup f_stages = some ⟨oc_stages, od_stages, .func (PySem.W.fnOf "_law_stages" "_law_stages" (defArgs s_stages) (defBody s_stages) (defScope s_stages) .none kV_stages dc_stages pm_stages an_stages cd_stages ct_stages), sl_stages⟩)
    (c_stages : PySem.W.codeIn K cd_stages "_law_stages" = true) (k_stages : PySem.W.keepIn K (.ref f_stages) = true)
    (a_stept : PySem.W.nsIn K mainGlobals "_law_step_text" = some (some (.ref f_stept)))
    (l_stept : K.lookup f_stept = some ⟨oc_stept, od_stept, .func (PySem.W.fnOf "_law_step_text" "_law_step_text" (defArgs s_step_text) (defBody s_step_text) (defScope s_step_text) .none kV_stept dc_stept pm_stept an_stept cd_stept ct_stept), sl_stept⟩)
    (c_stept : PySem.W.codeIn K cd_stept "_law_step_text" = true) (k_stept : PySem.W.keepIn K (.ref f_stept) = true)
    (a_kept : PySem.W.nsIn K mainGlobals "_law_kept" = some (some (.ref f_kept)))
    (l_kept : K.lookup f_kept = some ⟨oc_kept, od_kept, .func (PySem.W.fnOf "_law_kept" "_law_kept" (defArgs s_kept) (defBody s_kept) (defScope s_kept) .none kV_kept dc_kept pm_kept an_kept cd_kept ct_kept), sl_kept⟩)
    (c_kept : PySem.W.codeIn K cd_kept "_law_kept" = true) (k_kept : PySem.W.keepIn K (.ref f_kept) = true)
    (a_known : PySem.W.nsIn K mainGlobals "_law_known" = some (some (.ref f_known)))
    (l_known : K.lookup f_known = some ⟨oc_known, od_known, .func (PySem.W.fnOf "_law_known" "_law_known" (defArgs s_known) (defBody s_known) (defScope s_known) .none kV_known dc_known pm_known an_known cd_known ct_known), sl_known⟩)
    (c_known : PySem.W.codeIn K cd_known "_law_known" = true) (k_known : PySem.W.keepIn K (.ref f_known) = true)
    (a_wr : PySem.W.nsIn K mainGlobals "_law_written" = some (some (.ref f_wr)))
    (l_wr : K.lookup f_wr = some ⟨oc_wr, od_wr, .func (PySem.W.fnOf "_law_written" "_law_written" (defArgs s_written) (defBody s_written) (defScope s_written) .none kV_wr dc_wr pm_wr an_wr cd_wr ct_wr), sl_wr⟩)
    (c_wr : PySem.W.codeIn K cd_wr "_law_written" = true) (k_wr : PySem.W.keepIn K (.ref f_wr) = true)
    (a_pool : PySem.W.nsIn K mainGlobals "_law_pool" = some (some (.ref f_pool)))
    (l_pool : K.lookup f_pool = some ⟨oc_pool, od_pool, .func (PySem.W.fnOf "_law_pool" "_law_pool" (defArgs s_pool) (defBody s_pool) (defScope s_pool) .none kV_pool dc_pool pm_pool an_pool cd_pool ct_pool), sl_pool⟩)
    (c_pool : PySem.W.codeIn K cd_pool "_law_pool" = true) (k_pool : PySem.W.keepIn K (.ref f_pool) = true)
    (a_lname : PySem.W.nsIn K mainGlobals "_law_name" = some (some (.ref f_lname)))
    (l_lname : K.lookup f_lname = some ⟨oc_lname, od_lname, .func (PySem.W.fnOf "_law_name" "_law_name" (defArgs s_name) (defBody s_name) (defScope s_name) .none kV_lname dc_lname pm_lname an_lname cd_lname ct_lname), sl_lname⟩)
    (c_lname : PySem.W.codeIn K cd_lname "_law_name" = true) (k_lname : PySem.W.keepIn K (.ref f_lname) = true)
    (a_lwhole : PySem.W.nsIn K mainGlobals "_law_whole" = some (some (.ref f_lwhole)))
    (l_lwhole : K.lookup f_lwhole = some ⟨oc_lwhole, od_lwhole, .func (PySem.W.fnOf "_law_whole" "_law_whole" (defArgs s_whole) (defBody s_whole) (defScope s_whole) .none kV_lwhole dc_lwhole pm_lwhole an_lwhole cd_lwhole ct_lwhole), sl_lwhole⟩)
    (c_lwhole : PySem.W.codeIn K cd_lwhole "_law_whole" = true) (k_lwhole : PySem.W.keepIn K (.ref f_lwhole) = true)
    (a_lissum : PySem.W.nsIn K mainGlobals "_law_is_sum" = some (some (.ref f_lissum)))
    (l_lissum : K.lookup f_lissum = some ⟨oc_lissum, od_lissum, .func (PySem.W.fnOf "_law_is_sum" "_law_is_sum" (defArgs s_is_sum) (defBody s_is_sum) (defScope s_is_sum) .none kV_lissum dc_lissum pm_lissum an_lissum cd_lissum ct_lissum), sl_lissum⟩)
    (c_lissum : PySem.W.codeIn K cd_lissum "_law_is_sum" = true) (k_lissum : PySem.W.keepIn K (.ref f_lissum) = true)
    (a_lisstep : PySem.W.nsIn K mainGlobals "_law_is_step" = some (some (.ref f_lisstep)))
    (l_lisstep : K.lookup f_lisstep = some ⟨oc_lisstep, od_lisstep, .func (PySem.W.fnOf "_law_is_step" "_law_is_step" (defArgs s_is_step) (defBody s_is_step) (defScope s_is_step) .none kV_lisstep dc_lisstep pm_lisstep an_lisstep cd_lisstep ct_lisstep), sl_lisstep⟩)
    (c_lisstep : PySem.W.codeIn K cd_lisstep "_law_is_step" = true) (k_lisstep : PySem.W.keepIn K (.ref f_lisstep) = true)
    (a_due : PySem.W.nsIn K mainGlobals "_law_due" = some (some (.ref f_due)))
    (l_due : K.lookup f_due = some ⟨oc_due, od_due, .func (PySem.W.fnOf "_law_due" "_law_due" (defArgs s_due) (defBody s_due) (defScope s_due) .none kV_due dc_due pm_due an_due cd_due ct_due), sl_due⟩)
    (c_due : PySem.W.codeIn K cd_due "_law_due" = true) (k_due : PySem.W.keepIn K (.ref f_due) = true)
    (a_told : PySem.W.nsIn K mainGlobals "_law_told" = some (some (.ref f_told)))
    (l_told : K.lookup f_told = some ⟨oc_told, od_told, .func (PySem.W.fnOf "_law_told" "_law_told" (defArgs s_told) (defBody s_told) (defScope s_told) .none kV_told dc_told pm_told an_told cd_told ct_told), sl_told⟩)
    (c_told : PySem.W.codeIn K cd_told "_law_told" = true) (k_told : PySem.W.keepIn K (.ref f_told) = true)
    (a_brow : PySem.W.nsIn K mainGlobals "_law_bent_row" = some (some (.ref f_brow)))
    (l_brow : K.lookup f_brow = some ⟨oc_brow, od_brow, .func (PySem.W.fnOf "_law_bent_row" "_law_bent_row" (defArgs s_bent_row) (defBody s_bent_row) (defScope s_bent_row) .none kV_brow dc_brow pm_brow an_brow cd_brow ct_brow), sl_brow⟩)
    (c_brow : PySem.W.codeIn K cd_brow "_law_bent_row" = true) (k_brow : PySem.W.keepIn K (.ref f_brow) = true)
    (a_bent : PySem.W.nsIn K mainGlobals "_law_bent" = some (some (.ref f_bent)))
    (l_bent : K.lookup f_bent = some ⟨oc_bent, od_bent, .func (PySem.W.fnOf "_law_bent" "_law_bent" (defArgs s_bent) (defBody s_bent) (defScope s_bent) .none kV_bent dc_bent pm_bent an_bent cd_bent ct_bent), sl_bent⟩)
    (c_bent : PySem.W.codeIn K cd_bent "_law_bent" = true) (k_bent : PySem.W.keepIn K (.ref f_bent) = true)
    (a_right : PySem.W.nsIn K mainGlobals "_law_is_right" = some (some (.ref f_right)))
    (l_right : K.lookup f_right = some ⟨oc_right, od_right, .func (PySem.W.fnOf "_law_is_right" "_law_is_right" (defArgs s_is_right) (defBody s_is_right) (defScope s_is_right) .none kV_right dc_right pm_right an_right cd_right ct_right), sl_right⟩)
    (c_right : PySem.W.codeIn K cd_right "_law_is_right" = true) (k_right : PySem.W.keepIn K (.ref f_right) = true)
    (a_law : PySem.W.nsIn K mainGlobals "law" = some (some (.ref f_law)))
    (l_law : K.lookup f_law = some ⟨oc_law, od_law, .func (PySem.W.fnOf "law" "law" (defArgs s_law) (defBody s_law) (defScope s_law) .none kV_law dc_law pm_law an_law cd_law ct_law), sl_law⟩)
    (c_law : PySem.W.codeIn K cd_law "law" = true) (k_law : PySem.W.keepIn K (.ref f_law) = true)
    (aC : PySem.W.nsIn K mainGlobals "Program" = some (some (.ref C)))
    (aI : PySem.W.findIn K (.ref C) "__init__" = some (some (.ref fI))) (iI : PySem.W.isFn K (.ref fI) = true) (lI : K.lookup fI = some ⟨ocI, odI, .func (PySem.W.fnOf "__init__" "Program.__init__" (defArgs s_Program_init) (defBody s_Program_init) (defScope s_Program_init) .none kVI dcI pmI anI cdI ctI), slI⟩) (cI : PySem.W.codeIn K cdI "Program.__init__" = true) (kI : PySem.W.keepIn K (.ref fI) = true)
    (aS : PySem.W.findIn K (.ref C) "__str__" = some (some (.ref fS))) (iS : PySem.W.isFn K (.ref fS) = true) (lS : K.lookup fS = some ⟨ocS, odS, .func (PySem.W.fnOf "__str__" "Program.__str__" (defArgs s_Program_str) (defBody s_Program_str) (defScope s_Program_str) .none kVS dcS pmS anS cdS ctS), slS⟩) (cS : PySem.W.codeIn K cdS "Program.__str__" = true) (kS : PySem.W.keepIn K (.ref fS) = true)
    (eR : PySem.W.findCls K (.ref C) (.type "type") "read" = some (.get (.builtin "staticmethod.__get__") (.ref pR) .none (.ref C))) (rR : PySem.W.recIn K pR "staticmethod" = some (.ref fR :: restR)) (lR : K.lookup fR = some ⟨ocR, odR, .func (PySem.W.fnOf "read" "Program.read" (defArgs s_Program_read) (defBody s_Program_read) (defScope s_Program_read) .none kVR dcR pmR anR cdR ctR), slR⟩) (cR : PySem.W.codeIn K cdR "Program.read" = true) (kR : PySem.W.keepIn K (.ref fR) = true)
    (ga : PySem.W.specialIn K (.ref C) "__getattribute__" = some (some (.builtin "type.__getattribute__"))) (rd : PySem.W.readsIn K C (.type "type") = true)
    (pg : PySem.W.plainGet K C Str.empty = true) (hd : PySem.W.hasDictIn K C = true) (po : PySem.W.plainOver K C = true) (sa : PySem.W.findIn K (.ref C) "__setattr__" = some (some (.builtin "object.__setattr__"))) (mk : PySem.W.makesIn K C = true) (kc : PySem.W.keepIn K (.ref C) = true)
    (nT : PySem.W.findIn K (.ref C) "_text" = some none) (nS : PySem.W.findIn K (.ref C) "_steps" = some none) (nA : PySem.W.findIn K (.ref C) "taken" = some none) (nK : PySem.W.findIn K (.ref C) "kept" = some none) (nN : PySem.W.findIn K (.ref C) "names" = some none)
    (zlist : PySem.W.nsIn K mainGlobals "list" = some none) (zmin : PySem.W.nsIn K mainGlobals "min" = some none) (zdict : PySem.W.nsIn K mainGlobals "dict" = some none)
    (aD : PySem.W.nsIn K mainGlobals "MOST_DIGITS" = some (some (.int 60 tD))) (aG : PySem.W.nsIn K mainGlobals "MOST_SIGNS" = some (some (.int 8 tS))) (aN : PySem.W.nsIn K mainGlobals "MOST_NAMES" = some (some (.int 6 tN)))
    (aL : PySem.W.nsIn K mainGlobals "LETTERS" = some (some (.str LETTERS tL))) (aQ : PySem.W.nsIn K mainGlobals "DIGITS" = some (some (.str DIGITS tG)))
    (aW : PySem.W.nsIn K mainGlobals "TAKEN_WORDS" = some (some (.ref TW))) (lW : K.lookup TW = some ⟨.type "tuple", dW, .seq #[.str (Str.ofString "check") w0, .str (Str.ofString "input") w1, .str (Str.ofString "keep") w2, .str (Str.ofString "let") w3, .str (Str.ofString "mod") w4, .str (Str.ofString "names") w5, .str (Str.ofString "open") w6, .str (Str.ofString "self") w7, .str (Str.ofString "take") w8] nW, slW⟩)
    (aE : PySem.W.nsIn K mainGlobals "BadText" = some (some (.ref CE)))
    (xE : K.lookup CE = some (excClassObj nmE qE CE NE bsE [.ref BE, .type "Exception", .type "BaseException", .type "object"] true snE subE abE colE ddE e0 e1 e2 e3 e5 "Exception.__new__"))
    (saE : PySem.W.findIn K (.ref CE) "__setattr__" = some (some (.builtin "object.__setattr__"))) (bE : PySem.W.subIn K (.ref CE) (.type "BaseException") = some true) (tyE : PySem.W.typeIn K (.ref CE) = some (.type "type")) (kE : PySem.W.keepIn K (.ref CE) = true)
    (icE : PySem.W.isClsIn K CE = true) (gaE : PySem.W.findIn K (.ref CE) "__getattribute__" = some (some (.builtin "BaseException.__getattribute__"))) (ggE : PySem.W.findIn K (.ref CE) "__getattr__" = some none) (hdE : PySem.W.hasDictIn K CE = true)
    (clE : PySem.W.findIn K (.ref CE) "__class__" = some (some (.builtin "object.__class__"))) (gtE : PySem.W.specialIn K (.builtin "object.__class__") "__get__" = some (some (.builtin "getset_descriptor.__get__"))) (tkE : PySem.W.takesIn K (.builtin "object.__class__") = some true) (obE : PySem.W.mroIn K CE (.type "object") = some true)
    (noE : PySem.W.findIn K (.ref CE) "line" = some none) (aB : PySem.W.findIn K (.ref CE) "__init__" = some (some (.ref fB))) (tB : PySem.W.typeIn K (.ref fB) = some (.type "function")) (lB : K.lookup fB = some ⟨ocB, odB, .func (PySem.W.fnOf "__init__" "BadText.__init__" (defArgs s_BadText_init) (defBody s_BadText_init) (defScope s_BadText_init) .none kVB dcB pmB anB cdB ctB), slB⟩) (cB : PySem.W.codeIn K cdB "BadText.__init__" = true) (kB : PySem.W.keepIn K (.ref fB) = true)
    (aP : PySem.W.nsIn K mainGlobals "BoxError" = some (some (.ref BE))) (gaQ : PySem.W.specialIn K (.ref BE) "__getattribute__" = some (some (.builtin "type.__getattribute__"))) (rdQ : PySem.W.readsIn K BE (.type "type") = true) (fiQ : PySem.W.findCls K (.ref BE) (.type "type") "__init__" = some (.val (.builtin "Exception.__init__")))
    (suE : PySem.W.subIn K (.ref CE) (.ref CE) = some true) 
    (z_int : PySem.W.nsIn K mainGlobals "int" = some none)
    (z_len : PySem.W.nsIn K mainGlobals "len" = some none)
    (z_range : PySem.W.nsIn K mainGlobals "range" = some none)
    (z_tuple : PySem.W.nsIn K mainGlobals "tuple" = some none)
    (z_str : PySem.W.nsIn K mainGlobals "str" = some none)
    (z_abs : PySem.W.nsIn K mainGlobals "abs" = some none)
    (z_any : PySem.W.nsIn K mainGlobals "any" = some none)
    (z_all : PySem.W.nsIn K mainGlobals "all" = some none)
    (z_sum : PySem.W.nsIn K mainGlobals "sum" = some none)
    (z_zip : PySem.W.nsIn K mainGlobals "zip" = some none)
    (z_enumerate : PySem.W.nsIn K mainGlobals "enumerate" = some none)
    (z_repr : PySem.W.nsIn K mainGlobals "repr" = some none)
    (z_set : PySem.W.nsIn K mainGlobals "set" = some none) :
    ∃ fd : FuncData, (∀ (s : Shared) (v : Value), BindsTo s fd ⟨[v], []⟩ [("_law_script", v)]) ∧ ∀ base : Heap, K.In base → base.Ns mainGlobals mg → FnG l.prog w K mg base CX0 10 fa fd ["_law_script"] (spLaw K) := by
  have e := hfa.symm.trans (PySem.W.mg_of X G a_law)
  cases e
  have F_nat := fun_mk (st := s_is_natural) l_nat c_nat k_nat
  have g_nat := PySem.W.mg_of X G a_nat
  have F_isn := fun_mk (st := s_is_name) l_isn c_isn k_isn
  have g_isn := PySem.W.mg_of X G a_isn
  have F_aren := fun_mk (st := s_are_names) l_aren c_aren k_aren
  have g_aren := PySem.W.mg_of X G a_aren
  have F_wm := fun_mk (st := s_without_modulus) l_wm c_wm k_wm
  have g_wm := PySem.W.mg_of X G a_wm
  have F_rs := fun_mk (st := s_read_sum) l_rs c_rs k_rs
  have g_rs := PySem.W.mg_of X G a_rs
  have F_rt := fun_mk (st := s_read_term) l_rt c_rt k_rt
  have g_rt := PySem.W.mg_of X G a_rt
  have F_rstep := fun_mk (st := s_read_step) l_rstep c_rstep k_rstep
  have g_rstep := PySem.W.mg_of X G a_rstep
  have F_rchk := fun_mk (st := s_read_check) l_rchk c_rchk k_rchk
  have g_rchk := PySem.W.mg_of X G a_rchk
  have F_rgs := fun_mk (st := s_read_given_sum) l_rgs c_rgs k_rgs
  have g_rgs := PySem.W.mg_of X G a_rgs
  have F_deck := fun_mk (st := s_deck) l_deck c_deck k_deck
  have g_deck := PySem.W.mg_of X G a_deck
  have F_draw := fun_mk (st := s_draw) l_draw c_draw k_draw
  have g_draw := PySem.W.mg_of X G a_draw
  have F_pick := fun_mk (st := s_pick) l_pick c_pick k_pick
  have g_pick := PySem.W.mg_of X G a_pick
  have F_called := fun_mk (st := s_called) l_called c_called k_called
  have g_called := PySem.W.mg_of X G a_called
  have F_sum := fun_mk (st := s_sum) l_sum c_sum k_sum
  have g_sum := PySem.W.mg_of X G a_sum
  have F_st := fun_mk (st := s_sum_text) l_st c_st k_st
  have g_st := PySem.W.mg_of X G a_st
  have F_val := fun_mk (st := s_value) l_val c_val k_val
  have g_val := PySem.W.mg_of X G a_val
  have F_chk := fun_mk (st := s_check) l_chk c_chk k_chk
  have g_chk := PySem.W.mg_of X G a_chk
  have F_stages := fun_mk (st := s_stages) l_stages c_stages k_stages
  have g_stages := PySem.W.mg_of X G a_stages
  have F_stept := fun_mk (st := s_step_text) l_stept c_stept k_stept
  have g_stept := PySem.W.mg_of X G a_stept
  have F_kept := fun_mk (st := s_kept) l_kept c_kept k_kept
  have g_kept := PySem.W.mg_of X G a_kept
  have F_known := fun_mk (st := s_known) l_known c_known k_known
  have g_known := PySem.W.mg_of X G a_known
  have F_wr := fun_mk (st := s_written) l_wr c_wr k_wr
  have g_wr := PySem.W.mg_of X G a_wr
  have F_pool := fun_mk (st := s_pool) l_pool c_pool k_pool
  have g_pool := PySem.W.mg_of X G a_pool
  have F_lname := fun_mk (st := s_name) l_lname c_lname k_lname
  have g_lname := PySem.W.mg_of X G a_lname
  have F_lwhole := fun_mk (st := s_whole) l_lwhole c_lwhole k_lwhole
  have g_lwhole := PySem.W.mg_of X G a_lwhole
  have F_lissum := fun_mk (st := s_is_sum) l_lissum c_lissum k_lissum
  have g_lissum := PySem.W.mg_of X G a_lissum
  have F_lisstep := fun_mk (st := s_is_step) l_lisstep c_lisstep k_lisstep
  have g_lisstep := PySem.W.mg_of X G a_lisstep
  have F_due := fun_mk (st := s_due) l_due c_due k_due
  have g_due := PySem.W.mg_of X G a_due
  have F_told := fun_mk (st := s_told) l_told c_told k_told
  have g_told := PySem.W.mg_of X G a_told
  have F_brow := fun_mk (st := s_bent_row) l_brow c_brow k_brow
  have g_brow := PySem.W.mg_of X G a_brow
  have F_bent := fun_mk (st := s_bent) l_bent c_bent k_bent
  have g_bent := PySem.W.mg_of X G a_bent
  have F_right := fun_mk (st := s_is_right) l_right c_right k_right
  have g_right := PySem.W.mg_of X G a_right
  have F_law := fun_mk (st := s_law) l_law c_law k_law
  have T : Bl mg := ⟨PySem.W.mg_none_of X G z_int, PySem.W.mg_none_of X G z_len, PySem.W.mg_none_of X G z_range, PySem.W.mg_none_of X G z_tuple, PySem.W.mg_none_of X G z_str, PySem.W.mg_none_of X G z_abs, PySem.W.mg_none_of X G z_any, PySem.W.mg_none_of X G z_all, PySem.W.mg_none_of X G z_sum, PySem.W.mg_none_of X G z_zip, PySem.W.mg_none_of X G z_enumerate, PySem.W.mg_none_of X G z_repr, PySem.W.mg_none_of X G z_set, ⟨_, PySem.W.mg_of X G aD, ⟨_, rfl⟩⟩, ⟨_, PySem.W.mg_of X G aG, ⟨_, rfl⟩⟩, ⟨_, PySem.W.mg_of X G aN, ⟨_, rfl⟩⟩, ⟨_, PySem.W.mg_of X G aL, ⟨_, rfl⟩⟩, ⟨_, PySem.W.mg_of X G aQ, ⟨_, rfl⟩⟩⟩
  refine ⟨PySem.W.fnOf "law" "law" (defArgs s_law) (defBody s_law) (defScope s_law) .none kV_law dc_law pm_law an_law cd_law ct_law, fun s v => .of_eq rfl, fun base _ _ => ?_⟩
  have S : Prg K mg C := ⟨⟨pg, hd, po, sa⟩, nT, nS, nA, nK, nN, PySem.W.mg_of X G aC⟩
  have Tlist := PySem.W.mg_none_of X G zlist
  have Tmin := PySem.W.mg_none_of X G zmin
  have Tdict := PySem.W.mg_none_of X G zdict
  have gE := PySem.W.mg_of X G aE
  have gQ := PySem.W.mg_of X G aP
  have TE : GX.OexE K CE BE := ⟨⟨nmE, qE, NE, bsE, snE, subE, abE, colE, ddE, e0, e1, e2, e3, e5, xE⟩, saE, bE, tyE, kE⟩
  have HE : GX.HeldE K CE := ⟨icE, gaE, ggE, bE, hdE, clE, gtE, tkE, obE⟩
  have ex := exm_two bE icE tyE suE
  have FI0 := fun_mk (st := s_Program_init) lI cI kI
  have FS0 := fun_mk (st := s_Program_str) lS cS kS
  have FR0 := fun_mk (st := s_Program_read) lR cR kR
  have FB0 := fun_mk (st := s_BadText_init) lB cB kB
  have MK : Mk K C fI := ⟨mk, aI, iI, kc⟩
  have FI := ok_init (P := l.prog) (w := w) (base := base) FI0 T S
  have BI := FI0.binds (ps := ["self", "text", "steps", "kept"]) fun _ _ _ _ _ _ us hl => match us, hl with | [_, _, _, _], _ => rfl
  have FB := ok_bad (P := l.prog) (w := w) (base := base) FB0 TE noE gQ gaQ rdQ fiQ
  have BB := FB0.binds (ps := ["self", "line"]) fun _ _ _ _ _ _ us hl => match us, hl with | [_, _], _ => rfl
  have lTW : ∀ H : Hp, SqT K H TW (TAKEN.map V.str) := fun H => .inr ⟨_, _, nW, lW, rfl, rfl, (show 9 ≤ sizeLine from small (by decide)), (.cons ⟨w0, rfl⟩ (.cons ⟨w1, rfl⟩ (.cons ⟨w2, rfl⟩ (.cons ⟨w3, rfl⟩ (.cons ⟨w4, rfl⟩ (.cons ⟨w5, rfl⟩ (.cons ⟨w6, rfl⟩ (.cons ⟨w7, rfl⟩ (.cons ⟨w8, rfl⟩ .nil)))))))))⟩
  have D_nat := ok_is_natural (P := l.prog) (w := w) (base := base) F_nat g_nat T
  have D_isn := ok_is_name (P := l.prog) (w := w) (base := base) F_isn g_isn T (PySem.W.mg_of X G aW) lTW
  have D_aren := ok_are_names F_aren g_aren T D_isn
  have D_rt := ok_read_term F_rt g_rt T D_isn D_nat
  have D_wm := ok_without_modulus F_wm g_wm T D_nat
  have D_rs := ok_read_sum F_rs g_rs T D_rt
  have D_rgs := ok_read_given_sum F_rgs g_rgs T D_rs
  have D_rchk := ok_read_check F_rchk g_rchk T D_wm D_rgs
  have D_rstep := ok_read_step F_rstep g_rstep T D_isn D_rchk D_rgs
  have FS := ok_str (P := l.prog) (w := w) (base := base) FS0 T S
  have FR := ok_read FR0 T S TE gE aB tB FB BB D_aren D_rstep MK FI BI
  have D_draw := ok_draw (P := l.prog) (w := w) (base := base) F_draw g_draw T
  have D_deck := ok_deck (P := l.prog) (w := w) (base := base) F_deck g_deck T
  have D_pickL := ok_pickL F_pick g_pick T D_draw
  have D_pickS := ok_pickS F_pick g_pick T D_draw
  have D_called := ok_called F_called g_called T D_draw D_pickS
  have D_sum := ok_lsum F_sum g_sum T D_draw D_pickL
  have D_st := ok_sum_text (P := l.prog) (w := w) (base := base) F_st g_st T
  have D_val := ok_value (P := l.prog) (w := w) (base := base) F_val g_val T
  have D_chk := ok_lcheck F_chk g_chk T D_draw D_sum D_val
  have D_stages := ok_stages F_stages g_stages T Tlist D_draw D_sum D_val D_chk
  have D_stept := ok_step_text F_stept g_stept T D_st
  have D_kept := ok_kept F_kept g_kept T Tlist Tmin D_draw
  have D_known := ok_known (P := l.prog) (w := w) (base := base) F_known g_known T
  have D_wr := ok_written F_wr g_wr T D_stept
  have D_pool := ok_pool F_pool g_pool T D_pickL
  have D_lname := ok_name (P := l.prog) (w := w) (base := base) F_lname g_lname T
  have D_lwhole := ok_whole (P := l.prog) (w := w) (base := base) F_lwhole g_lwhole T
  have D_lissum := ok_is_sum F_lissum g_lissum T D_lwhole
  have D_lisstep := ok_is_step F_lisstep g_lisstep T D_lname D_lwhole D_lissum
  have D_due := ok_due F_due g_due T D_lisstep
  have D_told := ok_told F_told g_told T S aS iS FS (FS0.binds fun _ _ _ _ _ _ us hl => match us, hl with | [_], _ => rfl) ⟨ga, rd, ⟨_, _, eR, rR⟩, kR⟩ FR (FR0.binds fun _ _ _ _ _ _ us hl => match us, hl with | [_], _ => rfl) gE HE noE ex
  have D_brow := ok_bent_row F_brow g_brow T Tlist D_draw D_pickL
  have D_bent := ok_bent F_bent g_bent T D_draw D_pickL D_brow
  have D_right := ok_is_right F_right g_right T D_due D_told
  exact ok_law F_law T Tdict D_deck D_draw D_pool D_called D_stages D_known D_kept D_wr D_bent D_right
end KW
open PySem PySem.W PyProof.Rows
set_option maxRecDepth 100000 in
set_option maxHeartbeats 0 in
theorem PySem.Challenge.cw_whateverboxes_k15_texts_of_programs_bent_holds : PySem.Challenge.rw_whateverboxes_k15_texts_of_programs_bent.Holds := by
  w_on; o_law; k_head; (case hw => w_witness2)
  k_fill
  refine KW.walk (l := PySem.Challenge.rw_whateverboxes_k15_texts_of_programs_bent) rfl rfl (fun w h Y => PySem.W.kIn_of Y) ?F
  case F =>
    intro w mg fa h KX G hmg
    refine' KW.all_mk KX G hmg ?a_nat ?l_nat ?c_nat ?k_nat ?a_isn ?l_isn ?c_isn ?k_isn ?a_aren ?l_aren ?c_aren ?k_aren ?a_wm ?l_wm ?c_wm ?k_wm ?a_rs ?l_rs ?c_rs ?k_rs ?a_rt ?l_rt ?c_rt ?k_rt ?a_rstep ?l_rstep ?c_rstep ?k_rstep ?a_rchk ?l_rchk ?c_rchk ?k_rchk ?a_rgs ?l_rgs ?c_rgs ?k_rgs ?a_deck ?l_deck ?c_deck ?k_deck ?a_draw ?l_draw ?c_draw ?k_draw ?a_pick ?l_pick ?c_pick ?k_pick ?a_called ?l_called ?c_called ?k_called ?a_sum ?l_sum ?c_sum ?k_sum ?a_st ?l_st ?c_st ?k_st ?a_val ?l_val ?c_val ?k_val ?a_chk ?l_chk ?c_chk ?k_chk ?a_stages ?l_stages ?c_stages ?k_stages ?a_stept ?l_stept ?c_stept ?k_stept ?a_kept ?l_kept ?c_kept ?k_kept ?a_known ?l_known ?c_known ?k_known ?a_wr ?l_wr ?c_wr ?k_wr ?a_pool ?l_pool ?c_pool ?k_pool ?a_lname ?l_lname ?c_lname ?k_lname ?a_lwhole ?l_lwhole ?c_lwhole ?k_lwhole ?a_lissum ?l_lissum ?c_lissum ?k_lissum ?a_lisstep ?l_lisstep ?c_lisstep ?k_lisstep ?a_due ?l_due ?c_due ?k_due ?a_told ?l_told ?c_told ?k_told ?a_brow ?l_brow ?c_brow ?k_brow ?a_bent ?l_bent ?c_bent ?k_bent ?a_right ?l_right ?c_right ?k_right ?a_law ?l_law ?c_law ?k_law ?aC ?aI ?iI ?lI ?cI ?kI ?aS ?iS ?lS ?cS ?kS ?eR ?rR ?lR ?cR ?kR ?ga ?rd ?pg ?hd ?po ?sa ?mk ?kc ?nT ?nS ?nA ?nK ?nN ?zlist ?zmin ?zdict ?aD ?aG ?aN ?aL ?aQ ?aW ?lW ?aE ?xE ?saE ?bE ?tyE ?kE ?icE ?gaE ?ggE ?hdE ?clE ?gtE ?tkE ?obE ?noE ?aB ?tB ?lB ?cB ?kB ?aP ?gaQ ?rdQ ?fiQ ?suE ?z_int ?z_len ?z_range ?z_tuple ?z_str ?z_abs ?z_any ?z_all ?z_sum ?z_zip ?z_enumerate ?z_repr ?z_set
    (case a_nat => k_is)
    (case l_nat => k_is)
    (case c_nat => k_is)
    (case k_nat => k_is)
    (case a_isn => k_is)
    (case l_isn => k_is)
    (case c_isn => k_is)
    (case k_isn => k_is)
    (case a_aren => k_is)
    (case l_aren => k_is)
    (case c_aren => k_is)
    (case k_aren => k_is)
    (case a_wm => k_is)
    (case l_wm => k_is)
    (case c_wm => k_is)
    (case k_wm => k_is)
    (case a_rs => k_is)
    (case l_rs => k_is)
    (case c_rs => k_is)
    (case k_rs => k_is)
    (case a_rt => k_is)
    (case l_rt => k_is)
    (case c_rt => k_is)
    (case k_rt => k_is)
    (case a_rstep => k_is)
    (case l_rstep => k_is)
    (case c_rstep => k_is)
    (case k_rstep => k_is)
    (case a_rchk => k_is)
    (case l_rchk => k_is)
    (case c_rchk => k_is)
    (case k_rchk => k_is)
    (case a_rgs => k_is)
    (case l_rgs => k_is)
    (case c_rgs => k_is)
    (case k_rgs => k_is)
    (case a_deck => k_is)
    (case l_deck => k_is)
    (case c_deck => k_is)
    (case k_deck => k_is)
    (case a_draw => k_is)
    (case l_draw => k_is)
    (case c_draw => k_is)
    (case k_draw => k_is)
    (case a_pick => k_is)
    (case l_pick => k_is)
    (case c_pick => k_is)
    (case k_pick => k_is)
    (case a_called => k_is)
    (case l_called => k_is)
    (case c_called => k_is)
    (case k_called => k_is)
    (case a_sum => k_is)
    (case l_sum => k_is)
    (case c_sum => k_is)
    (case k_sum => k_is)
    (case a_st => k_is)
    (case l_st => k_is)
    (case c_st => k_is)
    (case k_st => k_is)
    (case a_val => k_is)
    (case l_val => k_is)
    (case c_val => k_is)
    (case k_val => k_is)
    (case a_chk => k_is)
    (case l_chk => k_is)
    (case c_chk => k_is)
    (case k_chk => k_is)
    (case a_stages => k_is)
    (case l_stages => k_is)
    (case c_stages => k_is)
    (case k_stages => k_is)
    (case a_stept => k_is)
    (case l_stept => k_is)
    (case c_stept => k_is)
    (case k_stept => k_is)
    (case a_kept => k_is)
    (case l_kept => k_is)
    (case c_kept => k_is)
    (case k_kept => k_is)
    (case a_known => k_is)
    (case l_known => k_is)
    (case c_known => k_is)
    (case k_known => k_is)
    (case a_wr => k_is)
    (case l_wr => k_is)
    (case c_wr => k_is)
    (case k_wr => k_is)
    (case a_pool => k_is)
    (case l_pool => k_is)
    (case c_pool => k_is)
    (case k_pool => k_is)
    (case a_lname => k_is)
    (case l_lname => k_is)
    (case c_lname => k_is)
    (case k_lname => k_is)
    (case a_lwhole => k_is)
    (case l_lwhole => k_is)
    (case c_lwhole => k_is)
    (case k_lwhole => k_is)
    (case a_lissum => k_is)
    (case l_lissum => k_is)
    (case c_lissum => k_is)
    (case k_lissum => k_is)
    (case a_lisstep => k_is)
    (case l_lisstep => k_is)
    (case c_lisstep => k_is)
    (case k_lisstep => k_is)
    (case a_due => k_is)
    (case l_due => k_is)
    (case c_due => k_is)
    (case k_due => k_is)
    (case a_told => k_is)
    (case l_told => k_is)
    (case c_told => k_is)
    (case k_told => k_is)
    (case a_brow => k_is)
    (case l_brow => k_is)
    (case c_brow => k_is)
    (case k_brow => k_is)
    (case a_bent => k_is)
    (case l_bent => k_is)
    (case c_bent => k_is)
    (case k_bent => k_is)
    (case a_right => k_is)
    (case l_right => k_is)
    (case c_right => k_is)
    (case k_right => k_is)
    (case a_law => k_is)
    (case l_law => k_is)
    (case c_law => k_is)
    (case k_law => k_is)
    (case aC => k_is)
    (case aI => k_is)
    (case iI => k_is)
    (case lI => k_is)
    (case cI => k_is)
    (case kI => k_is)
    (case aS => k_is)
    (case iS => k_is)
    (case lS => k_is)
    (case cS => k_is)
    (case kS => k_is)
    (case eR => k_is)
    (case rR => k_is)
    (case lR => k_is)
    (case cR => k_is)
    (case kR => k_is)
    (case ga => k_is)
    (case rd => k_is)
    (case pg => k_is)
    (case hd => k_is)
    (case po => k_is)
    (case sa => k_is)
    (case mk => k_is)
    (case kc => k_is)
    (case nT => k_is)
    (case nS => k_is)
    (case nA => k_is)
    (case nK => k_is)
    (case nN => k_is)
    (case zlist => k_is)
    (case zmin => k_is)
    (case zdict => k_is)
    (case aD => k_is)
    (case aG => k_is)
    (case aN => k_is)
    (case aL => k_is)
    (case aQ => k_is)
    (case aW => k_is)
    (case lW => k_is)
    (case aE => k_is)
    (case xE => k_is)
    (case saE => k_is)
    (case bE => k_is)
    (case tyE => k_is)
    (case kE => k_is)
    (case icE => k_is)
    (case gaE => k_is)
    (case ggE => k_is)
    (case hdE => k_is)
    (case clE => k_is)
    (case gtE => k_is)
    (case tkE => k_is)
    (case obE => k_is)
    (case noE => k_is)
    (case aB => k_is)
    (case tB => k_is)
    (case lB => k_is)
    (case cB => k_is)
    (case kB => k_is)
    (case aP => k_is)
    (case gaQ => k_is)
    (case rdQ => k_is)
    (case fiQ => k_is)
    (case suE => k_is)
    (case z_int => k_is)
    (case z_len => k_is)
    (case z_range => k_is)
    (case z_tuple => k_is)
    (case z_str => k_is)
    (case z_abs => k_is)
    (case z_any => k_is)
    (case z_all => k_is)
    (case z_sum => k_is)
    (case z_zip => k_is)
    (case z_enumerate => k_is)
    (case z_repr => k_is)
    (case z_set => k_is)
