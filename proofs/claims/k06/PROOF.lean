import PyProof.Rows.All
import Wide.All
import OpenK.AllK
import Wide.FinOn
import HandS.ForMost
import HandS.Wide
import HandS.Style
import HandS.Zip
import HandS.MakeKwOnly
import HandS.MakeKw
import HandS.Walk
import HandS.TupAny
import HandS.Conv
import HandS.Codes
import PySem.Challenge.RW_whateverboxes_k06_fulfils
set_option Elab.async false
set_option linter.all false
set_option maxRecDepth 100000
set_option maxHeartbeats 4000000
namespace GL
open PySem PySem.Spec PyProof.Rows L2

/-- nothing that guards itself against its own turn is under way -/
def Calm (A : Around) : Prop := A.guards = some []
theorem Calm.deeper {A : Around} (g : Calm A) (env : Env) : Calm (A.deeper env) := g
theorem Calm.make {A : Around} (g : Calm A) (C : Addr) (us : List Value) (kw : List (Str × Value)) : Calm (A.under (.builtin "type.__call__" ⟨.ref C :: us, kw⟩)) := by
  unfold Calm at *
  simp only [Around.under, Code.guards, Code.isGuard, guardIds]
  first | exact g | (rw [g]; rfl) | (simp [g])

/-- a def keeps its promise wherever no guard is under way -/
structure FnG (P : Program) (w : World) (K : PySem.W.Frag) (mg : Str → Option Value) (base : Heap) (CX : CXT) (k : Nat) (f : Addr) (fd : FuncData) (ps : List Str) (sp : Sp) : Prop where
  len : ∀ vs H Q E, sp vs H Q E → vs.length = ps.length
  run : ∀ (A : Around) (outer : List Env) (s : Shared) (H : Hp) (args : Args) (us : List Value) (vs : List V) (Q : VK) (E : XK),
    Room k A → Calm A → Env0 P w K mg base A outer s H → BindsTo s fd args (ps.zip us) → Vals vs us → sp vs H Q E →
    codeAny (model P w) A (.call (.ref f) args) (CR CX outer P w H s Q E) s
section
variable {P : Program} {w : World} {K : PySem.W.Frag} {mg : Str → Option Value} {base : Heap} {CX : CXT} {j k : Nat} {f : Addr} {fd : FuncData} {ps : List Str} {sp sp' : Sp}
theorem FnG.up (F : FnG P w K mg base CX j f fd ps sp) (h : j ≤ k) : FnG P w K mg base CX k f fd ps sp where
  len := F.len
  run := fun A outer s H args us vs Q E r g => F.run A outer s H args us vs Q E (r.mono h) g
theorem FnG.of (F : FnOk P w K mg base CX k f fd ps sp) : FnG P w K mg base CX k f fd ps sp where
  len := F.len
  run := fun A outer s H args us vs Q E r _ => F.run A outer s H args us vs Q E r
end

/-! what is known of a def of the text by its callers -/
structure DefG (P : Program) (w : World) (K : PySem.W.Frag) (mg : Str → Option Value) (base : Heap) (k : Nat) (x : Str) (ps : List Str) (sp : Sp) : Prop where
  ex : ∃ (f : Addr) (fd : FuncData), FnG P w K mg base CX0 k f fd ps sp ∧ mg x = some (.ref f) ∧ PySem.W.keepIn K (.ref f) = true ∧ Binds K fd ps []

section
variable {X : Cx} {CX : CXT} {k n : Nat} {f C : Addr} {fd : FuncData} {ps ks : List Str} {sp : Sp} {dvs : List V} {ds : List Value} {E : XK} {x m : Str} {p pos apos : Pos} {e o : Expr} {es : List Expr} {ta : TE} {t tk : TA} {kws : List Keyword}
variable {g : List Value → List Value → List Value} {gV : List V → List V → List V}

theorem out_of {pins : List (Addr × Obj)} {σ : L2.St} {H : Hp} {s : Shared} {Q : VK} (hx : Passes CX X E) (I : Inv X pins σ H s) :
    ∀ (r : Result) (s' : Shared), CR CX X.stack X.prog X.w H s Q E r s' → (match r with | .ok (.ret u) => EP X pins σ Q u s' | .ok _ => False | .error e => X.xe e s')
  | .error e, s', q => hx pins σ H s e s' I q
  | .ok (.ret _), _, q => I.after q
  | .ok .next, _, q => q
  | .ok .brk, _, q => q
  | .ok .cont, _, q => q

theorem runG {pins : List (Addr × Obj)} {σ : L2.St} {H : Hp} {s : Shared} {Q : VK} {us : List Value} {vs : List V} (F : FnG X.prog X.w X.K X.mg X.base CX k f fd ps sp) (hr : Room k X.A) (hc : Calm X.A)
    (hb : Binds X.K fd ps ds) (hd : Vals dvs ds) (hx : Passes CX X E) (I : Inv X pins σ H s) (r : Vals vs us) (h : sp (vs ++ dvs) H Q E) :
    wpAny (model X.prog X.w) X.A (call (.ref f) us) (EP X pins σ Q) X.xe s := by
  have both : Vals (vs ++ dvs) (us ++ ds) := Vals.append r hd
  have long : (us ++ ds).length = ps.length := both.length.symm.trans (F.len _ _ _ _ h)
  have go := F.run X.A X.stack s H ⟨us, []⟩ (us ++ ds) (vs ++ dvs) Q E hr hc I.env0 (hb s us I.kIn long) both h
  refine wpAny_call (codeAny_mono go fun r' s' q => ?_)
  have z := out_of hx I r' s' q
  match r', z with
  | .error _, z => exact z
  | .ok (.ret _), z => exact z

theorem pe_def (D : DefG X.prog X.w X.K X.mg X.base k x ps sp) (hr : Room k X.A) (hc : Calm X.A) (hg : Gl X x) (ha : PA X (e :: es) t) (hdb : (x == ("__debug__" : Str)) = false := by decide)
    (he : starEach (e :: es) X.env = (false, eval e X.env) :: starEach es X.env := by rfl) (hpl : (backTo pos (starEach es X.env)).any (·.1) = false := by rfl) :
    PE X (.Call (.Name x p) (e :: es) [] pos) (tCall sp [] E0 t) := by
  obtain ⟨f, fd, F, hm, hk, hb⟩ := D.ex
  exact ⟨fun pins s σ H Q I h => wpAny_Call_Name_kw (ld_glob I hg hm (PySem.W.callWith_K (h₀ := X.base) I.ok.mod.kin hk
    (thn (ha.run pos pins s σ H _ I h) fun us s1 ⟨vs, H1, I1, r, q⟩ => ⟨I1.kIn, runG F hr hc hb .nil pass0 I1 r q⟩) he hpl) hdb)⟩

/-- a method with positional arguments -/
theorem pe_methG {pl : Sem Bool} (he : PE X o ta) (c : Cls X.K C) (hm : Meth X.K C m f) (F : FnG X.prog X.w X.K X.mg X.base CX k f fd ps sp) (hr : Room k X.A) (hc : Calm X.A) (hb : Binds X.K fd ps ds) (hd : Vals dvs ds) (hx : Passes CX X E)
    (ha : PA X (e :: es) t) (hst : starEach (e :: es) X.env = (false, eval e X.env) :: starEach es X.env := by rfl) (hpl : (backTo pos (starEach es X.env)).any (·.1) = false := by rfl)
    (ht : eval (.Call (.Attribute o m apos) (e :: es) [] pos) X.env = (eval o X.env >>= fun ov => standAt apos.atName >>= fun _ => holding [ov] (getMethod ov m pl) >>= fun fx =>
      callWith pos fx.1 fx.2 (backTo pos (starEach (e :: es) X.env)) (backToKw pos (keywordEach [] X.env))) := by rfl) :
    PE X (.Call (.Attribute o m apos) (e :: es) [] pos) (tMeth C m sp dvs E ta t) := by
  constructor
  intro pins s σ H Q I h
  refine PySem.W.methodCall_KW (pl := pl) (thn (he.run pins s σ H _ I h) ?_) ht
  rintro u s1 ⟨_, H1, I1, rx, a, dx, fs, rfl, ea, l, q⟩
  obtain rfl : u = .ref a := rx
  refine getmeth_ok I1 ea c hm l (PySem.W.callWith_K (first := [.ref a]) (h₀ := X.base) I.ok.mod.kin hm.kp (thn (ha.run pos pins s1 σ H1 _ I1 q) ?_) hst hpl)
  rintro us s2 ⟨vs, H2, I2, r, q2⟩
  exact ⟨I2.kIn, runG (us := .ref a :: us) (vs := .ref a :: vs) F hr hc hb hd hx I2 (.cons rfl r) q2⟩

/-- how keywords alone bind behind a receiver -/
def tMethK (C : Addr) (m : Str) (sp : Sp) (n : Nat) (gV : List V → List V → List V) (E : XK) (ta : TE) (tk : TA) : TE := fun σ H Q => ta σ H fun x H1 => ∃ a dx fs, x = .ref a ∧ H1 a = some (.ins C dx fs) ∧ fs.lookup m = none ∧
  tk σ H1 fun zs H2 => zs.length = n ∧ sp (gV [x] zs) H2 Q E
theorem runKG {pins : List (Addr × Obj)} {σ : L2.St} {H : Hp} {s : Shared} {Q : VK} {us ws : List Value} {vs zs : List V} (F : FnG X.prog X.w X.K X.mg X.base CX k f fd ps sp) (hr : Room k X.A) (hc : Calm X.A) (hb : KBn X.K fd ps n ks g gV) (hx : Passes CX X E)
    (I : Inv X pins σ H s) (r : Vals vs us) (rz : Vals zs ws) (l1 : vs.length = n) (l2 : zs.length = ks.length) (h : sp (gV vs zs) H Q E) :
    wpAny (model X.prog X.w) X.A (call (.ref f) us (ks.zip ws)) (EP X pins σ Q) X.xe s := by
  have go := F.run X.A X.stack s H ⟨us, ks.zip ws⟩ (g us ws) (gV vs zs) Q E hr hc I.env0 (hb.to s us ws I.kIn (r.length.symm.trans l1) (rz.length.symm.trans l2)) (hb.rel r rz) h
  refine wpAny_call (codeAny_mono go fun r' s' q => ?_)
  have z := out_of hx I r' s' q
  match r', z with
  | .error _, z => exact z
  | .ok (.ret _), z => exact z
theorem pe_methKG {pl : Sem Bool} (he : PE X o ta) (c : Cls X.K C) (hm : Meth X.K C m f) (F : FnG X.prog X.w X.K X.mg X.base CX k f fd ps sp) (hr : Room k X.A) (hc : Calm X.A) (hb : KBn X.K fd ps 1 ks g gV) (hx : Passes CX X E)
    (hkw : PK X kws tk) (hall : (backToKw pos (keywordEach kws X.env)).all (·.1.isSome) = true := by rfl) (hks : (backToKw pos (keywordEach kws X.env)).filterMap (·.1) = ks := by rfl)
    (hpl : ((backTo pos (starEach [] X.env)).any (·.1) || (backToKw pos (keywordEach kws X.env)).any (·.1.isNone)) = false := by rfl)
    (ht : eval (.Call (.Attribute o m apos) [] kws pos) X.env = (eval o X.env >>= fun ov => standAt apos.atName >>= fun _ => holding [ov] (getMethod ov m pl) >>= fun fx =>
      callWith pos fx.1 fx.2 (backTo pos (starEach [] X.env)) (backToKw pos (keywordEach kws X.env))) := by rfl) :
    PE X (.Call (.Attribute o m apos) [] kws pos) (tMethK C m sp ks.length gV E ta tk) := by
  constructor
  intro pins s σ H Q I h
  refine PySem.W.methodCall_KW (pl := pl) (thn (he.run pins s σ H _ I h) ?_) ht
  rintro u s1 ⟨_, H1, I1, rx, a, dx, fs, rfl, ea, l, q⟩
  obtain rfl : u = .ref a := rx
  refine getmeth_ok I1 ea c hm l (PySem.W.callWith_KW0 (first := [.ref a]) (h₀ := X.base) I.ok.mod.kin hm.kp hall (thn (hkw.run pos pins s1 σ H1 _ I1 q) ?_) hpl)
  rintro ws s2 ⟨zs, H2, I2, rz, l2, q2⟩
  refine ⟨I2.kIn, ?_⟩
  rw [hks]
  exact runKG (us := [.ref a]) (vs := [.ref a]) F hr hc hb hx I2 (.cons rfl .nil) rz rfl l2 q2

/-- a new instance, then its __init__ with what binds -/
theorem makeG {pins : List (Addr × Obj)} {σ : L2.St} {H : Hp} {s : Shared} {Q : VK} {us : List Value} {kw : List (Str × Value)} {all : List Value} {av : Addr → List V} (M : Mk X.K C f) (F : FnG X.prog X.w X.K X.mg X.base CX k f fd ps sp) (hr : Room (k + 1) X.A) (hc : Calm X.A)
    (hx : Passes CX X E) (I : Inv X pins σ H s)
    (hb : ∀ s' : Shared, X.K.In s'.heap → BindsTo s' fd ⟨.ref (s.heap.objs.size + 1) :: us, kw⟩ (ps.zip all)) (r : Vals (av (s.heap.objs.size + 1)) all)
    (h : ∀ x dx, H x = none → H dx = none → dx ≠ x → sp (av x) (upd (upd H dx (.own x)) x (.ins C dx [])) (fun v H2 => v = .non ∧ Q (.ref x) H2) E) :
    wpAny (model X.prog X.w) X.A (call (.ref C) us kw) (EP X pins σ Q) X.xe s := by
  have q0 := h (s.heap.objs.size + 1) s.heap.objs.size (I.hok.fresh (Nat.le_succ _)) (I.hok.fresh (Nat.le_refl _)) (Nat.ne_of_lt (Nat.lt_succ_self _))
  have J := Inv.made (C := C) I
  have go := F.run _ X.stack _ _ ⟨Value.ref (s.heap.objs.size + 1) :: us, kw⟩ all _ _ E (hr.make C us kw) (hc.make C us kw) (J.env0.make C us kw) (hb _ J.kIn) r q0
  refine wpAny_call (make_map (f := f) I.kIn M.makes M.init (beq_iff_eq.mp M.fn) (codeAny_mono go fun r' s' q => ?_))
  match r', q with
  | .error e, q => exact hx pins σ _ _ e s' J q
  | .ok (.ret u), q =>
    obtain ⟨v, H', I3, rv, ev, q3⟩ := J.after q
    cases ev
    exact ⟨rv, ⟨V.ref (s.heap.objs.size + 1), H', I3, rfl, q3⟩⟩
theorem pe_makeG (M : Mk X.K C f) (F : FnG X.prog X.w X.K X.mg X.base CX k f fd ps sp) (hr : Room (k + 1) X.A) (hc : Calm X.A) (hg : Gl X x) (hm : X.mg x = some (.ref C)) (hb : Binds X.K fd ps ds) (hd : Vals dvs ds) (hx : Passes CX X E)
    (ha : PA X (e :: es) t) (hdb : (x == ("__debug__" : Str)) = false := by decide) (he : starEach (e :: es) X.env = (false, eval e X.env) :: starEach es X.env := by rfl) (hpl : (backTo pos (starEach es X.env)).any (·.1) = false := by rfl) :
    PE X (.Call (.Name x p) (e :: es) [] pos) (tMake C sp dvs E t) := by
  constructor
  intro pins s σ H Q I h
  refine wpAny_Call_Name_kw (ld_glob I hg hm (PySem.W.callWith_K (h₀ := X.base) I.ok.mod.kin M.kp (thn (ha.run pos pins s σ H _ I h) ?_) he hpl) hdb)
  rintro us s1 ⟨vs, H1, I1, r, q⟩
  have r2 : Vals (V.ref (s1.heap.objs.size + 1) :: (vs ++ dvs)) (Value.ref (s1.heap.objs.size + 1) :: (us ++ ds)) := .cons rfl (Vals.append r hd)
  have q0 := q (s1.heap.objs.size + 1) s1.heap.objs.size (I1.hok.fresh (Nat.le_succ _)) (I1.hok.fresh (Nat.le_refl _)) (Nat.ne_of_lt (Nat.lt_succ_self _))
  exact ⟨I1.kIn, makeG (av := fun x => .ref x :: (vs ++ dvs)) M F hr hc hx I1 (fun s' X' => hb s' (Value.ref (s1.heap.objs.size + 1) :: us) X' (r2.length.symm.trans (F.len _ _ _ _ q0))) r2 q⟩
theorem pe_makeKG0 (M : Mk X.K C f) (F : FnG X.prog X.w X.K X.mg X.base CX k f fd ps sp) (hr : Room (k + 1) X.A) (hc : Calm X.A) (hg : Gl X x) (hm : X.mg x = some (.ref C)) (hb : KBn X.K fd ps 1 ks g gV) (hx : Passes CX X E) (hkw : PK X kws tk)
    (hall : (backToKw pos (keywordEach kws X.env)).all (·.1.isSome) = true := by rfl) (hks : (backToKw pos (keywordEach kws X.env)).filterMap (·.1) = ks := by rfl) (hdb : (x == ("__debug__" : Str)) = false := by decide)
    (hpl : ((backTo pos (starEach [] X.env)).any (·.1) || (backToKw pos (keywordEach kws X.env)).any (·.1.isNone)) = false := by rfl) :
    PE X (.Call (.Name x p) [] kws pos) (tMakeK C 0 ks.length sp gV E tNil tk) := by
  constructor
  intro pins s σ H Q I h
  refine wpAny_Call_Name_kw (ld_glob I hg hm (PySem.W.callWith_KW0 (h₀ := X.base) I.ok.mod.kin M.kp hall (thn (hkw.run pos pins s σ H _ I h) ?_) hpl) hdb)
  rintro ws s2 ⟨zs, H2, I2, rz, _, l2, q2⟩
  refine ⟨I2.kIn, ?_⟩
  rw [hks]
  exact makeG (av := fun x => gV [.ref x] zs) M F hr hc hx I2 (fun s' X' => hb.to s' [Value.ref (s2.heap.objs.size + 1)] ws X' rfl (rz.length.symm.trans l2)) (hb.rel (.cons rfl .nil) rz) q2

/-- repr of what reads as data -/
theorem call_reprD (hc : Calm X.A) (hu : X.A.units + 100 < cLine) : CallR X (.builtin "repr") (fun xs H Q => ∃ (a : Addr) (d : PyData), xs = [.ref a] ∧ Dp X.K H (.ref a) d ∧ d.showable = true ∧ d.hasDict = false ∧ d.depth ≤ 64 ∧ d.shown.length ≤ sizeLine ∧ Q (.str d.shown) H) := by
  intro pins s σ H xs us Q I r h
  obtain ⟨a, d, rfl, hd, hs, hn, hdp, hz, q⟩ := h
  obtain ⟨as, rd⟩ := Dp.reads I d (.ref a) (.ref a) hd rfl
  rw [Vals.ref1 r]
  exact repr_of_reads' rd hs (PyData.noDict_hsm hn) hc (by omega) (fun _ _ e => e) (fun h' u tk hk => ⟨.str _, H, I.kept hk, ⟨_, rfl⟩, q⟩) hz
end

section
variable {P : Program} {w : World} {K : PySem.W.Frag} {mg : Str → Option Value} {base : Heap}
/-- a def's promise, by its body: whatever its defaults -/
theorem okR {x qual : Str} {params : Arguments} {body : List Stmt} {scope : Scope} {dV kV doc pm cdv ct oc : Value} {an od : Option Addr} {osl : Array (Option Value)} {f : Addr} {N ps : List Str} {k : Nat} {sp : Sp}
    (lk : K.lookup f = some ⟨oc, od, .func (PySem.W.fnOf x qual params body scope dV kV doc pm an cdv ct), osl⟩) (code : PySem.W.codeIn K cdv qual = true) (S : FnScope N ps scope) (len : ∀ vs H Q E, sp vs H Q E → vs.length = ps.length)
    (walk : ∀ (cdv : Value) (A : Around) (outer : List Env) (s : Shared) (H : Hp) (vs : List V) (Q : VK) (E : XK), Room k (A.deeper (envOfC qual scope s.heap.objs.size f cdv)) → Calm (A.deeper (envOfC qual scope s.heap.objs.size f cdv)) → sp vs H Q E →
      ∃ t, PSs (cxOf CX0 P w K mg base N qual scope f cdv A outer s H E).nox body t ∧ t { nx := fun _ H' => Q .non H', rt := Q } (start N vs) H) : FnG P w K mg base CX0 (k + 1) f (PySem.W.fnOf x qual params body scope dV kV doc pm an cdv ct) ps sp := by
  refine ⟨len, ?_⟩
  intro A outer s H args us vs Q E room calm e0 bnd rel want
  have long := len _ _ _ _ want
  have up : ∀ b o, base.get? b = some o → s.heap.get? b = some o := fun b o e => (e0.bs b o e).1
  have kin : K.In s.heap := e0.mod.kin.keeps up
  have lim : s.heap.NoLimit := e0.mod.nolimit.keeps up
  have kinds : ∀ y ∈ ps.zip us, scope.names.lookup y.1 = some .local ∨ (scope.names.lookup y.1 = some .cell ∧ ((cellsFrom (s.heap.objs.size + 1) scope.names []).lookup y.1).isSome = true) := by
    rintro ⟨n, v⟩ hy
    exact (S.par n (List.of_mem_zip hy).1).imp id fun q => ⟨q, PySem.W.cellsFrom_some _ _ _ (.inl q)⟩
  refine codeAny_call_function room.depth (kin _ _ lk) rfl S.co S.gen rfl (PySem.W.codeRec_of kin code) (bnd _ _ _ _ (wpAny_newFunctionEnv_cells S.kind kinds ?_))
  rintro env rfl s1 x
  obtain ⟨t, deriv, reads⟩ := walk cdv A outer s H vs Q E (room.deeper _) (calm.deeper _) want
  have I : Inv (cxOf CX0 P w K mg base N qual scope f cdv A outer s H E) [] (start N vs) H s1 := inv_start S room.hd e0 long rel x
  refine ⟨lim.keeps x.toInCall.keep, codeAny_func (wpAny_mono (deriv.nox.run [] s1 (start N vs) H _ I reads) ?_ fun _ _ z => z)⟩
  intro fl s' hs
  match fl, hs with
  | .ret u, ⟨v, _, H', J, rv, q⟩ => exact ⟨v, H', J.os, J.bare, J.base, J.hok, rv, q⟩
  | .next, ⟨_, H', J, q⟩ => exact ⟨V.non, H', J.os, J.bare, J.base, J.hok, rfl, q⟩
  | .brk, ⟨_, _, _, q⟩ => exact q.elim
  | .cont, ⟨_, _, _, q⟩ => exact q.elim

theorem okG {x qual : Str} {st : Stmt} {f : Addr} {fd : FuncData} {N ps : List Str} {k : Nat} {sp : Sp} (F : Fun K x qual st f fd) (S : FnScope N ps (defScope st)) (len : ∀ vs H Q E, sp vs H Q E → vs.length = ps.length)
    (walk : ∀ (cdv : Value) (A : Around) (outer : List Env) (s : Shared) (H : Hp) (vs : List V) (Q : VK) (E : XK), Room k (A.deeper (envOfC qual (defScope st) s.heap.objs.size f cdv)) → Calm (A.deeper (envOfC qual (defScope st) s.heap.objs.size f cdv)) → sp vs H Q E →
      ∃ t, PSs (cxOf CX0 P w K mg base N qual (defScope st) f cdv A outer s H E).nox (defBody st) t ∧ t { nx := fun _ H' => Q .non H', rt := Q } (start N vs) H) : FnG P w K mg base CX0 (k + 1) f fd ps sp := by
  obtain ⟨oc, od, kV, doc, pm, an, cdv, ct, osl, rfl, lk, code⟩ := F.ex
  exact okR lk code S len walk
theorem okD {x qual : Str} {st : Stmt} {dvs : List V} {kws : List (Str × V)} {f : Addr} {fd : FuncData} {N ps : List Str} {k : Nat} {sp : Sp} (F : FunD K x qual (defArgs st) (defBody st) (defScope st) dvs kws f fd) (S : FnScope N ps (defScope st)) (len : ∀ vs H Q E, sp vs H Q E → vs.length = ps.length)
    (walk : ∀ (cdv : Value) (A : Around) (outer : List Env) (s : Shared) (H : Hp) (vs : List V) (Q : VK) (E : XK), Room k (A.deeper (envOfC qual (defScope st) s.heap.objs.size f cdv)) → Calm (A.deeper (envOfC qual (defScope st) s.heap.objs.size f cdv)) → sp vs H Q E →
      ∃ t, PSs (cxOf CX0 P w K mg base N qual (defScope st) f cdv A outer s H E).nox (defBody st) t ∧ t { nx := fun _ H' => Q .non H', rt := Q } (start N vs) H) : FnG P w K mg base CX0 (k + 1) f fd ps sp := by
  obtain ⟨oc, od, dV, kV, doc, pm, an, cdv, ct, osl, rfl, lk, code, _, _⟩ := F.ex
  exact okR lk code S len walk

/-- the law's call, where the caller guards nothing -/
theorem lawG {mb : Str → Option Value} {k : Nat} {fa a : Addr} {fd : FuncData} {x : Str} {sp : Sp} {s₁ : Shared} {vs : List Value} {ns : List Int}
    (KX : K.In s₁.heap) (hns : s₁.heap.Ns mainGlobals mg) (hb : s₁.heap.Ns builtinsNs mb) (hbb : ∀ x : Str, x ≠ "__name__" → mb x = bootBuiltins x) (hlim : s₁.heap.NoLimit) (hg : s₁.gens = #[])
    (ha : s₁.heap.get? a = some { cls := .type "list", data := .seq vs.toArray }) (hi : IntsAre vs ns) (hl : ns.length ≤ sizeLine) (hr : Room k callerA)
    (F : ∀ base : Heap, K.In base → base.Ns mainGlobals mg → FnG P w K mg base CX0 k fa fd [x] sp) (hbind : ∀ (s : Shared) (u : Value), BindsTo s fd ⟨[u], []⟩ [(x, u)])
    (hsp : ∀ H : Hp, Only H → SqL K H a (ns.map V.int) → sp [.ref a] H (fun v _ => v = .bl true) fun _ _ _ => False) :
    codeAny (model P w) callerA (.call (.ref fa) ⟨[.ref a], []⟩) (fun r s' => r = .ok (.ret (.bool true)) ∧ OldK s₁.heap s'.heap ∧ s'.os = s₁.os ∧ AllBare s'.gens) s₁ := by
  have rel := vals_ints hi
  have core : ∀ H : Hp, Only H → SqL K H a (ns.map V.int) → HOk P w H s₁.heap → (∀ b, H b ≠ none → b = a) → (H a ≠ none → K.lookup a = none) →
      codeAny (model P w) callerA (.call (.ref fa) ⟨[.ref a], []⟩) (fun r s' => r = .ok (.ret (.bool true)) ∧ OldK s₁.heap s'.heap ∧ s'.os = s₁.os ∧ AllBare s'.gens) s₁ := by
    intro H only sq hok alone free
    have off : ∀ {b : Addr}, b ≠ a → H b = none := fun {b} ne => Classical.byContradiction fun z => ne (alone b z)
    have dictOff : ∀ {b : Addr} {o : Obj} {es : Array DictEntry} {ep : Nat}, s₁.heap.get? b = some o → o.data = .dict es ep → H b = none := by
      intro b o es ep e d
      refine off fun eq => ?_
      rw [eq, ha] at e
      cases e
      exact Data.noConfusion d
    have nsK : ∀ {b : Addr} {m : Str → Option Value}, s₁.heap.Ns b m → (hidT s₁.heap H).Ns b m := by
      rintro b m ⟨o, es, ep, e, d, r⟩
      exact ⟨o, es, ep, hidT_get e (dictOff e d), d, r⟩
    have kb : K.In (hidT s₁.heap H) := by
      intro b o e
      refine hidT_get (KX b o e) (Classical.byContradiction fun z => ?_)
      have eq := alone b z
      rw [eq] at z e
      rw [free z] at e
      cases e
    have md : Mod K mg (hidT s₁.heap H) := ⟨kb, nsK hns, ⟨mb, nsK hb, hbb⟩, let ⟨mc, h1, h2⟩ := hlim; ⟨mc, nsK h1, h2⟩⟩
    have e0 : Env0 P w K mg (hidT s₁.heap H) callerA [] s₁ H := ⟨rfl, md, fun b o e => of_hidT e, Nat.le_of_eq (hidT_size _ _), trivial, (fun b z => nomatch z), hok, .of_eq hg⟩
    have go := (F _ kb (nsK hns)).run callerA [] s₁ H ⟨[.ref a], []⟩ [.ref a] [.ref a] _ _ hr rfl e0 (hbind s₁ (.ref a)) (.cons rfl .nil) (hsp H only sq)
    refine codeAny_mono go fun r s' h => ?_
    match r, h with
    | .ok (.ret u), ⟨v, H', os, bare, un, hok', r', q⟩ =>
      have q' : v = .bl true := q
      subst q'
      obtain rfl : u = Value.bool true := r'
      refine ⟨rfl, OldK.of_keep fun b o e => ?_, os, bare⟩
      rcases only b with z | ⟨ob, xs, z⟩
      · exact un.keep b o e z (fun y => nomatch y) (fun y => nomatch y)
      · obtain ⟨e1, _⟩ := hok b _ z
        obtain ⟨e2, _⟩ := hok' b _ (un.frzs b ob _ z)
        exact e.symm.trans e1 ▸ e2
  have lenV := hi.length
  cases hk : K.lookup a with
  | some o =>
    have e := ha.symm.trans (KX a o hk)
    cases e
    exact core (fun _ => none) (fun _ => .inl rfl) (.inr ⟨_, vs.toArray, _, hk, rfl, rfl, rfl, by rw [List.size_toArray, lenV]; exact hl, by simpa using rel⟩) (fun b u z => nomatch z) (fun b z => absurd rfl z) fun z => absurd rfl z
  | none =>
    have at_ : ∀ b, (if b = a then some (HO.frz { cls := .type "list", data := .seq vs.toArray } (.lst (ns.map V.int))) else none) ≠ none → b = a := fun b z => Classical.byContradiction fun y => z (if_neg y)
    refine core (fun b => if b = a then some (.frz { cls := .type "list", data := .seq vs.toArray } (.lst (ns.map V.int))) else none) (fun b => ?_) (.inl (.inr ⟨{ cls := .type "list", data := .seq vs.toArray }, if_pos rfl⟩)) (fun b u z => ?_) at_ fun _ => hk
    · by_cases hb : b = a
      · exact .inr ⟨_, _, if_pos hb⟩
      · exact .inl (if_neg hb)
    · have eb : b = a := at_ b (fun y => nomatch (y.symm.trans z))
      subst eb
      have z' := (if_pos rfl).symm.trans z
      cases z'
      exact ⟨ha, by rw [List.length_map]; exact hl, vs, _, rel, ha⟩
end
theorem walkG {l : PySem.W.OpenLaw} {n k : Nat} {q : Program} {loose : List Str} {XP : (Str → Option Value) → Heap → Prop} {YP : World → Heap → Prop} {d : DefRec} {K : Params → PySem.W.Frag} {sp : PySem.W.Frag → Sp} {x : Str}
    (hn : l.most = some n) (hn2 : n ≤ sizeLine) (hdf : d.params.defaults = []) (hr : Room k callerA)
    (hY : ∀ (w : World) (h : Heap), YP w h → (K w.params).In h)
    (F : ∀ (w : World) (mg : Str → Option Value) (fa : Addr) (h : Heap), (K w.params).In h → h.Ns mainGlobals mg → mg d.name = some (.ref fa) →
      ∃ fd : FuncData, (∀ (s : Shared) (u : Value), BindsTo s fd ⟨[u], []⟩ [(x, u)]) ∧
        ∀ base : Heap, (K w.params).In base → base.Ns mainGlobals mg → FnG l.prog w (K w.params) mg base CX0 k fa fd [x] (sp (K w.params)))
    (hsp : ∀ (K : PySem.W.Frag) (H : Hp) (a : Addr) (ns : List Int), ns.length ≤ n → Only H → SqL K H a (ns.map V.int) → sp K [.ref a] H (fun v _ => v = .bl true) fun _ _ _ => False) :
    PySem.W.WalkO q loose XP YP l.row.toRowW d [] (fun f vs => PySem.call f vs) := by
  refine Att.attach_call hn hdf ?_
  intro w s₀ s₁ mg mb fa o pm cd doc a vs ns G Y ho hd hcd hmg hobj hints hlen hg
  obtain ⟨fd, hb, hF⟩ := F w mg fa _ (hY w _ Y) G.T.g hmg
  exact lawG (hY w _ Y) G.T.g G.T.b G.T.builtins G.T.nolimit hg hobj hints (Nat.le_trans hlen hn2) hr hF hb fun H o s => hsp _ H a ns hlen o s
end GL
namespace GL
open PySem PySem.Spec PyProof.Rows L2
section
variable {K : PySem.W.Frag} {H H' : Hp}
theorem dpa_ints : ∀ ns : List Int, DpAll K H (ns.map V.int) (ns.map PyData.int)
  | [] => .nil
  | n :: r => .cons (.int n) (dpa_ints r)
theorem dpa_strs : ∀ ns : List Str, DpAll K H (ns.map V.str) (ns.map PyData.str)
  | [] => .nil
  | n :: r => .cons (.str n) (dpa_strs r)
theorem dpa_bls : ∀ ns : List Bool, DpAll K H (ns.map V.bl) (ns.map PyData.bool)
  | [] => .nil
  | n :: r => .cons (.bl n) (dpa_bls r)
theorem lay_ints : ∀ ns : List Int, PyData.canLayAll0 (ns.map PyData.int) = true
  | [] => rfl
  | n :: r => by
    show (PyData.canLay0 (.int n) && PyData.canLayAll0 (r.map PyData.int)) = true
    rw [lay_ints r]; rfl
theorem depth_ints : ∀ ns : List Int, PyData.depthAll (ns.map PyData.int) = 0
  | [] => rfl
  | n :: r => by
    show max (PyData.depth (.int n)) (PyData.depthAll (r.map PyData.int)) = 0
    rw [depth_ints r]; rfl
theorem depth_strs : ∀ ns : List Str, PyData.depthAll (ns.map PyData.str) = 0
  | [] => rfl
  | n :: r => by
    show max (PyData.depth (.str n)) (PyData.depthAll (r.map PyData.str)) = 0
    rw [depth_strs r]; rfl
theorem shaped_ints (ns : List Int) : SeqAt.shaped (.list (ns.map PyData.int)) = true := by
  unfold SeqAt.shaped
  rw [show PyData.canLay0 (.list (ns.map PyData.int)) = PyData.canLayAll0 (ns.map PyData.int) from rfl, lay_ints ns]
  rw [show PyData.depth (.list (ns.map PyData.int)) = PyData.depthAll (ns.map PyData.int) + 1 from rfl, depth_ints ns]
  rfl
theorem eqv_ints_nil : ∀ ns : List Int, PyData.eqv (.list (ns.map PyData.int)) (.list []) = decide (ns = [])
  | [] => rfl
  | n :: r => by
    rw [decide_eq_false (show ¬ (n :: r = []) from List.cons_ne_nil n r)]
    rfl

/-! ### what stays -/
theorem Same.new {p : Addr} {o : HO} (h : H p = none) : Same H (upd H p o) := fun b u e => by
  rw [upd_ne (ne_of_none e h)]; exact e
theorem Same.tup {a : Addr} {xs : List V} (e : Same H H') (h : SqT K H a xs) : SqT K H' a xs := by
  rcases h with (h | ⟨o, h⟩) | h
  · exact .inl (.inl (e _ _ h))
  · exact .inl (.inr ⟨o, e _ _ h⟩)
  · exact .inr h
theorem tofT {a : Addr} {xs : List V} (h : H a = some (.tup xs)) : SqT K H a xs := .inl (.inl h)
theorem tofL {a : Addr} {xs : List V} (h : H a = some (.lst xs)) : SqL K H a xs := .inl (.inl h)
theorem small {n : Nat} (h : n ≤ 100000) : n ≤ sizeLine := Nat.le_trans h (by decide)
theorem smallt {n : Nat} (h : n < 100000) : n < sizeLine := Nat.lt_of_lt_of_le h (by decide)

/-! ### the deck of the laws: a dict of a list of ints and an int -/
def deckD (g : Addr) (m : Int) : List (Key × V) := [(Sum.inr "great", .ref g), (Sum.inr "mixed", .int m)]
theorem gm0 : ¬ (("great" : Str) = "mixed") := by decide +kernel
theorem gm : ¬ ((Sum.inr ("great" : Str) : Key) = (Sum.inr ("mixed" : Str) : Key)) := by
  intro e
  injection e with e1
  exact gm0 e1
theorem deck_great (g : Addr) (m : Int) : valV (deckD g m) (Sum.inr "great" : Key) = some (.ref g) := valV_pos rfl
theorem deck_mixed (g : Addr) (m : Int) : valV (deckD g m) (Sum.inr "mixed" : Key) = some (.int m) := by
  unfold deckD
  rw [valV_neg gm, valV_pos rfl]
theorem deck_put (g : Addr) (m m' : Int) : putK (deckD g m) (Sum.inr "mixed" : Key) (.int m') = deckD g m' := by
  unfold putK deckD
  simp only [List.any_cons, List.any_nil, List.map_cons, List.map_nil, decide_eq_false gm, decide_true, Bool.or_true, Bool.false_or, Bool.or_false, if_true]
  rw [if_neg gm]
/-- all but the deck stays -/
structure Mv (d g : Addr) (H H' : Hp) : Prop where
  keep : ∀ b o, H b = some o → b ≠ d → b ≠ g → H' b = some o
structure Deck (H : Hp) (d g : Addr) : Prop where
  ex : ∃ (m : Int) (L : List Int), H d = some (.dK (deckD g m)) ∧ H g = some (.lst (L.map V.int)) ∧ L.length ≤ 63 ∧ 0 ≤ m ∧ m < 2147483587
theorem Deck.ne {d g : Addr} (D : Deck H d g) : d ≠ g := by
  obtain ⟨m, L, h1, h2, _⟩ := D.ex
  exact ne_of h1 h2 (fun z => nomatch z)
theorem Deck.same {d g : Addr} (D : Deck H d g) (s : Same H H') : Deck H' d g := by
  obtain ⟨m, L, h1, h2, r⟩ := D.ex
  exact ⟨⟨m, L, s _ _ h1, s _ _ h2, r⟩⟩
theorem Mv.refl {d g : Addr} : Mv d g H H := ⟨fun _ _ h _ _ => h⟩
theorem Mv.trans {d g : Addr} {H1 H2 H3 : Hp} (a : Mv d g H1 H2) (b : Mv d g H2 H3) : Mv d g H1 H3 := ⟨fun p o h n1 n2 => b.keep p o (a.keep p o h n1 n2) n1 n2⟩
theorem Mv.of {d g : Addr} (s : Same H H') : Mv d g H H' := ⟨fun p o h _ _ => s p o h⟩
theorem Mv.at {d g a : Addr} {o : HO} (m : Mv d g H H') (h : H a = some o) (n : a ≠ d ∧ a ≠ g) : H' a = some o := m.keep _ _ h n.1 n.2
/-- what is new stands apart from the deck -/
theorem Deck.off {d g p : Addr} (D : Deck H d g) (h : H p = none) : p ≠ d ∧ p ≠ g := by
  obtain ⟨m, L, h1, h2, r⟩ := D.ex
  exact ⟨(ne_of_none h1 h).symm, (ne_of_none h2 h).symm⟩
theorem Deck.new {d g p : Addr} {o : HO} (D : Deck H d g) (h : H p = none) : Deck (upd H p o) d g := D.same (Same.new h)
/-- what was new before is new or ours -/
theorem Mv.free {d g p : Addr} (D : Deck H d g) (m : Mv d g H H') (D' : Deck H' d g) (h : H' p = none) : H p = none := by
  have n := D'.off h
  cases e : H p with
  | none => rfl
  | some o => rw [m.keep p o e n.1 n.2] at h; cases h
/-- a change of what was not there -/
theorem Mv.mut {d g p : Addr} {o : HO} (m : Mv d g H H') (h : H p = none) : Mv d g H (upd H' p o) := ⟨fun b u hb n1 n2 => by
  rw [upd_ne (ne_of_none hb h)]
  exact m.keep b u hb n1 n2⟩
theorem Deck.mut {d g p : Addr} {o : HO} (D : Deck H d g) (n : p ≠ d ∧ p ≠ g) : Deck (upd H p o) d g := by
  obtain ⟨m, L, h1, h2, r⟩ := D.ex
  exact ⟨⟨m, L, by rw [upd_ne n.1.symm]; exact h1, by rw [upd_ne n.2.symm]; exact h2, r⟩⟩
def spDraw : Sp := fun vs H Q _ => ∃ (d g : Addr) (n : Int), vs = [.ref d, .int n] ∧ Deck H d g ∧ 0 < n ∧ n < 2 ^ 250 ∧
  ∀ (r : Int) (H' : Hp), 0 ≤ r → r < n → Deck H' d g → Mv d g H H' → Q (.int r) H'
end
def spPickL : Sp := fun vs H Q _ => ∃ (d g a : Addr) (xs : List V), vs = [.ref d, .ref a] ∧ Deck H d g ∧ H a = some (.lst xs) ∧ a ≠ g ∧ xs ≠ [] ∧ xs.length ≤ 1000 ∧
  ∀ (x : V) (H' : Hp), x ∈ xs → Deck H' d g → Mv d g H H' → Q x H'
def spPickS : Sp := fun vs H Q _ => ∃ (d g : Addr) (z : Str), vs = [.ref d, .str z] ∧ Deck H d g ∧ z.cps.toList ≠ [] ∧ z.length ≤ 1000 ∧
  ∀ (c : Nat) (H' : Hp), c ∈ z.cps.toList → Deck H' d g → Mv d g H H' → Q (.str ⟨#[c]⟩) H'
theorem at_in {α : Type} {xs : List α} {r : Int} (h0 : 0 ≤ r) (h1 : r < xs.length) : ∃ x, x ∈ xs ∧ atI xs r = some x := by
  obtain ⟨j, rfl⟩ : ∃ j : Nat, r = (j : Int) := ⟨r.toNat, by omega⟩
  have hj : j < xs.length := by omega
  exact ⟨xs[j], List.getElem_mem hj, atI_nat (List.getElem?_eq_getElem hj)⟩
theorem str_len (z : Str) : z.length = z.cps.toList.length := by
  rw [Array.length_toList]; rfl
theorem pop_at (L : List Int) (c : Int) : ((L ++ [c]).map V.int)[((L ++ [c]).map V.int).length - 1]? = some (.int c) := by
  rw [List.map_append, List.map_singleton, List.length_append, List.length_singleton, Nat.add_sub_cancel, List.getElem?_append_right (Nat.le_refl _), Nat.sub_self]
  rfl
theorem pop_left (L : List Int) (c : Int) : ((L ++ [c]).map V.int).dropLast = L.map V.int := by
  rw [List.map_append, List.map_singleton, List.dropLast_concat]
theorem snoc_of {L : List Int} (h : L ≠ []) : ∃ L0 c, L = L0 ++ [c] := ⟨L.dropLast, L.getLast h, (List.dropLast_concat_getLast h).symm⟩
theorem mul_small {i j : Int} (h0 : 0 ≤ i) (h1 : i < 2 ^ 64) : CMul i j := .inl ⟨by omega, h1⟩
theorem mul_smallR {i j : Int} (h0 : 0 ≤ j) (h1 : j < 2 ^ 64) : CMul i j := .inr ⟨by omega, h1⟩
theorem ty_l {K : PySem.W.Frag} {H : Hp} {a : Addr} {xs : List V} (h : SqL K H a xs) : tyV K "list" (.ref a) H := Or.inl ⟨rfl, xs, h⟩
theorem lt_c {a b : Int} (h : a < b) : a < b := h
theorem def_mk {P : Program} {w : World} {K : PySem.W.Frag} {mg : Str → Option Value} {base : Heap} {k : Nat} {x : Str} {st : Stmt} {f : Addr} {fd : FuncData} {ps : List Str} {sp : Sp} (F : Fun K x x st f fd) (gl : mg x = some (.ref f)) (b : Binds K fd ps []) (h : FnG P w K mg base CX0 k f fd ps sp) : DefG P w K mg base k x ps sp :=
  ⟨⟨f, fd, h, gl, F.kp, b⟩⟩
end GL
namespace GL
open PySem PySem.Spec PyProof.Rows L2 RZ
theorem truth_intsG {prog : Program} {w : World} {A : Around} {ns : List Int} {its : List Value} (r : Vals (ns.map V.int) its) :
    TruthOf prog w A (fun i v => its.toArray[i]? = some v) (fun i => (ns.map fun n => n != 0).getD i false) := by
  intro i v s Q E hv hq
  have hv' : its[i]? = some v := by simpa using hv
  have li : i < ns.length := by
    have := (List.getElem?_eq_some_iff.mp hv').1
    have e := r.length
    rw [List.length_map] at e
    omega
  have e1 : (ns.map V.int)[i]? = some (.int ns[i]) := by rw [List.getElem?_map, List.getElem?_eq_getElem li]; rfl
  obtain ⟨u, hu, ru⟩ := r.get e1
  rw [hv'] at hu
  cases hu
  obtain ⟨t, rfl⟩ := ru
  have hg : (ns.map fun n => n != 0).getD i false = (ns[i] != 0) := by
    rw [List.getD_eq_getElem?_getD, List.getElem?_map, List.getElem?_eq_getElem li]; rfl
  have hq' : Q ((ns.map fun n => n != 0).getD i false) s := hq
  rw [hg] at hq'
  exact PySem.P.truthy_int hq'
section
variable {X : Cx}
theorem walk_zipT {K : PySem.W.Frag} {a b : Addr} {xs ys : List V} {n : Nat} (hn : n = min xs.length ys.length) : Walk (ItzT K a b) n (fun H => SqT K H a xs ∧ SqT K H b ys) (YPair (fun i => xs[i]?) (fun i => ys[i]?)) where
  goes := fun i H hi h => ⟨xs, ys, xs[i]'(by omega), ys[i]'(by omega), h.1, h.2, List.getElem?_eq_getElem _, List.getElem?_eq_getElem _⟩
  stops := fun H h => ⟨xs, ys, h.1, h.2, by omega⟩
  yields := fun i H x H' _ h y => by
    obtain ⟨T, u, v, e1, e2, e3, f1, f2⟩ := y
    exact ⟨T, u, v, e1, e2, e3, f1 _ h.1, f2 _ h.2⟩
theorem op_inK {K : PySem.W.Frag} (h : X.K = K := by rfl) : OpR X (compareOp .In) (rIn K false) := h ▸ op_in_seq
theorem op_notInK {K : PySem.W.Frag} (h : X.K = K := by rfl) : OpR X (compareOp .NotIn) (rIn K true) := h ▸ op_notIn_seq
/-- any of a list of ints -/
def rAnyI (K : PySem.W.Frag) : List V → Hp → VK → Prop := fun vs H Q => ∃ (a : Addr) (ns : List Int), vs = [V.ref a] ∧ SqL K H a (ns.map V.int) ∧ Q (.bl (ns.any fun n => n != 0)) H
theorem cr_anyI (calm : X.calm = true) : CallR X (.builtin "any") (rAnyI X.K) := by
  intro pins s σ H vs us Q I r h
  obtain ⟨a, ns, rfl, hs, q⟩ := h
  obtain ⟨its, rv, hl, _⟩ := I.list hs
  have en : its.length = ns.length := by rw [← rv.length, List.length_map]
  rw [Vals.ref1 r]
  refine call_any_walk (iter_any hl.isList ?_)
  rintro s₂ rfl st hne
  refine ⟨_, _, _, _, _, _, _, rfl, Walks.list (A := X.A.in1) (I.ok.hd calm) _ a hne its.toArray, st, truth_intsG rv, ?_⟩
  intro h' tk hk
  refine ⟨.bl _, H, I.kept (fun b o eo => hk b o (fun hm => ?_) (Heap.get?_push_of_some _ eo)), ?_, q⟩
  · rcases List.mem_cons.mp hm with e1 | hm
    · exact absurd (e1 ▸ Heap.lt_size eo) (Nat.lt_irrefl _)
    · cases hm
  · have ea := any_range (ns.map fun n => n != 0)
    rw [List.length_map] at ea
    show Value.bool _ = Value.bool _
    rw [List.size_toArray, en, ea, List.any_map]
    rfl
end

/-! ### data that may be shown: at most B signs, at most k deep -/
structure Nice (B k : Nat) (d : PyData) : Prop where
  sh : d.showable = true
  nd : d.hasDict = false
  dp : d.depth ≤ k
  sz : d.shown.length ≤ B
theorem Nice.mono {B B' k k' : Nat} {d : PyData} (h : Nice B k d) (hb : B ≤ B') (hk : k ≤ k') : Nice B' k' d := ⟨h.sh, h.nd, Nat.le_trans h.dp hk, Nat.le_trans h.sz hb⟩
theorem shownAll_len : ∀ ds : List PyData, (PyData.shownAll ds).length = ds.length
  | [] => rfl
  | d :: r => by
    show (PyData.shownAll r).length + 1 = r.length + 1
    rw [shownAll_len r]
theorem shownAll_sum {B : Nat} : ∀ ds : List PyData, (∀ d ∈ ds, d.shown.length ≤ B) → ((PyData.shownAll ds).map (·.length)).sum ≤ ds.length * B
  | [], _ => by simp [PyData.shownAll]
  | d :: r, h => by
    have ih := shownAll_sum (B := B) r fun x hx => h x (List.mem_cons_of_mem _ hx)
    have h1 := h d List.mem_cons_self
    show ((d.shown :: PyData.shownAll r).map (·.length)).sum ≤ (r.length + 1) * B
    rw [List.map_cons, List.sum_cons, Nat.succ_mul]
    omega
theorem showableAll_of : ∀ ds : List PyData, (∀ d ∈ ds, d.showable = true) → PyData.showableAll ds = true
  | [], _ => rfl
  | d :: r, h => by
    show (d.showable && PyData.showableAll r) = true
    rw [h d List.mem_cons_self, showableAll_of r fun x hx => h x (List.mem_cons_of_mem _ hx)]; rfl
theorem hasDictAll_of : ∀ ds : List PyData, (∀ d ∈ ds, d.hasDict = false) → PyData.hasDictAll ds = false
  | [], _ => rfl
  | d :: r, h => by
    show (d.hasDict || PyData.hasDictAll r) = false
    rw [h d List.mem_cons_self, hasDictAll_of r fun x hx => h x (List.mem_cons_of_mem _ hx)]; rfl
theorem depthAll_of {k : Nat} : ∀ ds : List PyData, (∀ d ∈ ds, d.depth ≤ k) → PyData.depthAll ds ≤ k
  | [], _ => Nat.zero_le _
  | d :: r, h => by
    show max d.depth (PyData.depthAll r) ≤ k
    have h1 := h d List.mem_cons_self
    have h2 := depthAll_of (k := k) r fun x hx => h x (List.mem_cons_of_mem _ hx)
    omega
theorem Nice.tup {B k n : Nat} {ds : List PyData} (h : ∀ d ∈ ds, Nice B k d) (hn : ds.length ≤ n) : Nice (n * (B + 2) + 3) (k + 1) (.tuple ds) where
  sh := showableAll_of ds fun d hd => (h d hd).sh
  nd := hasDictAll_of ds fun d hd => (h d hd).nd
  dp := by
    show PyData.depthAll ds + 1 ≤ k + 1
    have := depthAll_of ds fun d hd => (h d hd).dp
    omega
  sz := by
    show (tupleText (PyData.shownAll ds)).length ≤ _
    have h1 := tupleText_len_le (PyData.shownAll ds)
    have h2 := shownAll_sum ds fun d hd => (h d hd).sz
    rw [shownAll_len] at h1
    have h3 : ds.length * B + 2 * ds.length ≤ n * (B + 2) := by
      have : ds.length * (B + 2) ≤ n * (B + 2) := Nat.mul_le_mul_right _ hn
      rw [Nat.mul_add] at this
      omega
    omega
theorem Nice.lst {B k n : Nat} {ds : List PyData} (h : ∀ d ∈ ds, Nice B k d) (hn : ds.length ≤ n) : Nice (n * (B + 2) + 3) (k + 1) (.list ds) where
  sh := showableAll_of ds fun d hd => (h d hd).sh
  nd := hasDictAll_of ds fun d hd => (h d hd).nd
  dp := by
    show PyData.depthAll ds + 1 ≤ k + 1
    have := depthAll_of ds fun d hd => (h d hd).dp
    omega
  sz := by
    show (listText (PyData.shownAll ds)).length ≤ _
    have h1 := listText_len_le (PyData.shownAll ds)
    have h2 := shownAll_sum ds fun d hd => (h d hd).sz
    rw [shownAll_len] at h1
    have h3 : ds.length * B + 2 * ds.length ≤ n * (B + 2) := by
      have : ds.length * (B + 2) ≤ n * (B + 2) := Nat.mul_le_mul_right _ hn
      rw [Nat.mul_add] at this
      omega
    omega
theorem Nice.bl (b : Bool) : Nice 5 0 (.bool b) := by
  cases b
  · exact ⟨rfl, rfl, Nat.le_refl _, by decide +kernel⟩
  · exact ⟨rfl, rfl, Nat.le_refl _, by decide +kernel⟩
theorem small_ints : ∀ i : Fin 401, (Str.ofString (toString ((i.val : Int) - 200))).length ≤ 5 ∧ ((i.val : Int) - 200).natAbs.log2 < 1920 := by decide +kernel
theorem Nice.int {i : Int} (h0 : -200 ≤ i) (h1 : i ≤ 200) : Nice 5 0 (.int i) := by
  have h := small_ints ⟨(i + 200).toNat, by omega⟩
  have e : (((i + 200).toNat : Nat) : Int) - 200 = i := by omega
  simp only [e] at h
  exact ⟨decide_eq_true h.2, rfl, Nat.le_refl _, h.1⟩
theorem Nice.str {z : Str} {n : Nat} (hl : z.cps.toList.length ≤ n) (hc : ∀ c ∈ z.cps.toList, c < 128) : Nice (10 * n + 2) 0 (.str z) := by
  refine ⟨rfl, rfl, Nat.le_refl _, ?_⟩
  have h := StrLaws.reprText_len z fun c hm => Nat.lt_trans (hc c hm) (by decide)
  rw [str_len z] at h
  show (reprText z).length ≤ _
  omega
section
variable {X : Cx}
theorem call_reprN (hc : Calm X.A) (hu : X.A.units + 100 < cLine) : CallR X (.builtin "repr") (fun xs H Q => ∃ (a : Addr) (d : PyData) (B k : Nat), xs = [.ref a] ∧ Dp X.K H (.ref a) d ∧ Nice B k d ∧ B ≤ 100000 ∧ k ≤ 60 ∧ Q (.str d.shown) H) := by
  intro pins s σ H xs us Q I r h
  obtain ⟨a, d, B, k, e, hd, hn, hb, hk, q⟩ := h
  exact call_reprD hc hu pins s σ H xs us Q I r ⟨a, d, e, hd, hn.sh, hn.nd, Nat.le_trans hn.dp (by omega), small (Nat.le_trans hn.sz hb), q⟩
end
theorem sq_mv {K : PySem.W.Frag} {H H' : Hp} {d g a : Addr} {xs : List V} (D : Deck H d g) (m : Mv d g H H') (h : SqT K H a xs) : SqT K H' a xs := by
  obtain ⟨k, L, h1, h2, _⟩ := D.ex
  rcases h with (h | ⟨o, h⟩) | h
  · exact .inl (.inl (m.keep _ _ h (ne_of h h1 (fun z => nomatch z)) (ne_of h h2 (fun z => nomatch z))))
  · exact .inl (.inr ⟨o, m.keep _ _ h (ne_of h h1 (fun z => nomatch z)) (ne_of h h2 (fun z => nomatch z))⟩)
  · exact .inr h
/-- t + u, whatever they are -/
theorem catA_of {K : PySem.W.Frag} {H : Hp} {a b : Addr} {xs ys : List V} {Q : VK} (ha : SqT K H a xs) (hb : SqT K H b ys) (hl : xs.length + ys.length ≤ 100000) (q : ∀ p H', Same H H' → SqT K H' p (xs ++ ys) → Q (.ref p) H') : rCatA K (.ref a) (.ref b) H Q := by
  refine ⟨a, b, xs, ys, rfl, rfl, ha, hb, small hl, fun e => ?_, fun _ e => ?_, fun _ _ p np => ?_⟩
  · refine q b H (Same.refl H) ?_
    rw [e, List.nil_append]; exact hb
  · refine q a H (Same.refl H) ?_
    rw [e, List.append_nil]; exact ha
  · exact q p _ (Same.new np) (tofT upd_same)
theorem slA_of {K : PySem.W.Frag} {H : Hp} {a : Addr} {xs : List V} {lo hi : Option Int} {Q : VK} (ha : SqT K H a xs) (q : ∀ p H', Same H H' → SqT K H' p (cutV xs lo hi) → Q (.ref p) H') : rSlA K (.ref a) lo hi H Q := by
  refine ⟨a, xs, rfl, ha, fun e => ?_, fun _ p np => ?_⟩
  · refine q a H (Same.refl H) ?_
    unfold cutV
    rw [e.1, e.2, Nat.sub_zero, List.drop_zero, List.take_length]; exact ha
  · exact q p _ (Same.new np) (tofT upd_same)
end GL
namespace K6
open PySem PySem.Spec PyProof.Rows L2 GL
def topS (i : Nat) : Stmt := PySem.Challenge.pw_whateverboxes_k06_fulfils.main.body.getD i (.Pass ⟨0, 0, 0, 0⟩)
/-! the built-ins that the text uses are still the built-ins -/
structure Bl (mg : Str → Option Value) : Prop where
  int : mg "int" = none
  len : mg "len" = none
  range : mg "range" = none
  tuple : mg "tuple" = none
  str : mg "str" = none
  abs : mg "abs" = none
  any : mg "any" = none
  sum : mg "sum" = none
  zip : mg "zip" = none
  enumerate : mg "enumerate" = none
  repr : mg "repr" = none

section
variable {P : Program} {w : World} {K : PySem.W.Frag} {mg : Str → Option Value} {base : Heap}
abbrev s_draw : Stmt := topS 29
theorem sc_draw : FnScope ["_law_deck_here", "_law_many", "_law_cell", "_law_mixed"] ["_law_deck_here", "_law_many"] (defScope s_draw) := ⟨rfl, rfl, rfl, by decide +kernel, rfl, by decide +kernel, by decide +kernel⟩
theorem ok_draw {f : Addr} {fd : FuncData} (F : Fun K "_law_draw" "_law_draw" s_draw f fd) (gl : mg "_law_draw" = some (.ref f)) (T : Bl mg) : DefG P w K mg base 1 "_law_draw" ["_law_deck_here", "_law_many"] spDraw := by
  refine def_mk F gl (F.binds fun _ _ _ _ _ _ us hl => match us, hl with | [_, _], _ => rfl) (okG F sc_draw (fun vs H Q E h => ?_) fun cdv A outer s H vs Q E hr hc h => ?_)
  · obtain ⟨d, g, n, rfl, _⟩ := h
    rfl
  · obtain ⟨d, g, n, rfl, D, n0, nB, q⟩ := h
    have nd := sc_draw.nd
    have hu := hu_of hr
    have hu64 := hr.units
    obtain ⟨m, L, hd, hg, hL, m0, mB⟩ := id D.ex
    have dg := D.ne
    refine ⟨_, (pss_cons (ps_if (pt_cmpR (op_neD hu64) (pe_dget hu (pv 0) pe_str (fun _ _ => rfl)) (pe_lst pa_nil) (nomark _))
        (pss_cons (ps_set (i := 2) nd rfl (by first | exact Or.inl rfl | exact Or.inr rfl) (pe_callTy call_int1 rfl T.int boot_int (pa_cons (pe_bm0 PySem.F.plainAttrs_list PySem.F.slot_list_pop PySem.F.type_list_pop mt_pop (pe_dget hu (pv 0) pe_str (fun _ _ => rfl))) pa_nil)))
        (pss_cons (ps_if (pt_cmpR op_ge (pv 2) (pv 1) (nomark _))
          (pss_one (ps_expr (pe_bm PySem.F.plainAttrs_list PySem.F.slot_list_append PySem.F.type_list_append mt_append (pe_dget hu (pv 0) pe_str (fun _ _ => rfl)) (pa_cons (pe_op op_fdivW (pv 2) (pv 1)) pa_nil))))
          pss_nil)
        (pss_one (ps_ret (pe_op op_mod (pv 2) (pv 1))))))
        pss_nil)
      (pss_cons (ps_set (i := 3) nd rfl (by first | exact Or.inl rfl | exact Or.inr rfl) (pe_op op_mod (pe_callTy call_int1 rfl T.int boot_int (pa_cons (pe_op op_add (pe_op op_mul (pe_callTy call_int1 rfl T.int boot_int (pa_cons (pe_dget hu (pv 0) pe_str (fun _ _ => rfl)) pa_nil)) pe_int) pe_int) pa_nil)) pe_int))
      (pss_cons (ps_dput hu (pv 0) pe_str (pv 3) rfl)
      (pss_cons (ps_set (i := 3) nd rfl (by first | exact Or.inl rfl | exact Or.inr rfl) (pe_op op_mod (pe_callTy call_int1 rfl T.int boot_int (pa_cons (pe_op op_add (pe_op op_mul (pv 3) (pv 3)) (pe_op op_mul pe_int (pv 3))) pa_nil)) pe_int))
      (pss_one (ps_ret (pe_op op_mod (pe_op op_fdivW (pv 3) pe_int) (pv 1)))))))), ?_⟩
    -- deck["great"] != []
    refine ⟨_, rfl, d, _, rfl, deck_great g m ▸ DGet.k (k := Sum.inr "great") hd, Nat.zero_le _, fun o no => ?_⟩
    have god : o ≠ g := (ne_of_none hg no).symm
    have dod : o ≠ d := (ne_of_none hd no).symm
    have sm : Same H (upd H o (.lst [])) := Same.new no
    refine ⟨_, _, .lst (tofL (sm _ _ hg)) (dpa_ints L), .lst (tofL upd_same) .nil, shaped_ints L, shaped_ints [], _, rfl, ?_⟩
    rw [eqv_ints_nil]
    refine ite2 (fun e => ?_) (fun e => ?_)
    · -- cell = int(deck["great"].pop())
      have hne : L ≠ [] := fun z => by rw [z] at e; exact absurd e (by decide)
      obtain ⟨L0, c, rfl⟩ := snoc_of hne
      rw [List.length_append, List.length_singleton] at hL
      have g1 := sm _ _ hg
      refine ⟨_, rfl, d, _, rfl, deck_great g m ▸ DGet.k (k := Sum.inr "great") (sm _ _ hd), ty_l (tofL g1), g, _, _, rfl, rfl, g1, pop_at L0 c, .inl ⟨c, rfl, ?_⟩⟩
      rw [pop_left]
      refine ⟨_, rfl, _, rfl, c, n, rfl, rfl, _, rfl, ?_⟩
      have h1 : upd (upd H o (.lst [])) g (.lst (L0.map V.int)) d = some (.dK (deckD g m)) := by rw [upd_ne dg]; exact sm _ _ hd
      have kp : ∀ x : HO, Mv d g H (upd (upd H o (.lst [])) g x) := fun x => ⟨fun b u hb _ n2 => by rw [upd_ne n2]; exact sm _ _ hb⟩
      refine ite2 (fun _ => ?_) (fun _ => ?_)
      · refine ⟨_, rfl, d, _, rfl, deck_great g m ▸ DGet.k (k := Sum.inr "great") h1, ty_l (tofL upd_same), _, rfl, _, rfl, c, n, rfl, rfl, wide_div (b := 250) n0 (by omega) (by decide) (by decide), g, _, _, rfl, rfl, upd_same, ?_, ?_⟩
        · rw [List.length_map]; exact smallt (by omega)
        · refine ⟨_, rfl, _, rfl, c, n, rfl, rfl, n0, ?_⟩
          rw [upd_upd]
          refine q _ _ (Int.emod_nonneg _ (by omega)) (Int.emod_lt_of_pos _ n0) ⟨m, L0 ++ [c / n], by rw [upd_ne dg]; exact sm _ _ hd, ?_, ?_, m0, mB⟩ (kp _)
          · rw [upd_same, List.map_append, List.map_singleton]
          · rw [List.length_append, List.length_singleton]; exact hL
      · refine ⟨_, rfl, _, rfl, c, n, rfl, rfl, n0, ?_⟩
        exact q _ _ (Int.emod_nonneg _ (by omega)) (Int.emod_lt_of_pos _ n0) ⟨m, L0, h1, upd_same, by omega, m0, mB⟩ (kp _)
    · -- mixed = ..
      refine ⟨_, rfl, d, _, rfl, deck_mixed g m ▸ DGet.k (k := Sum.inr "mixed") (sm _ _ hd), .inl ⟨m, rfl, m, 69621, rfl, rfl, mul_small m0 (by omega), _, 79, rfl, rfl, .inl ⟨_, rfl, _, 2147483587, rfl, rfl, (show (0 : Int) < 2147483587 by decide), ?_⟩⟩⟩
      have a0 : 0 ≤ (m * 69621 + 79) % 2147483587 := Int.emod_nonneg _ (by decide)
      have a1 : (m * 69621 + 79) % 2147483587 < 2147483587 := Int.emod_lt_of_pos _ (by decide)
      refine ⟨_, rfl, _, rfl, d, _, rfl, DPut.k (k := Sum.inr "mixed") (sm _ _ hd) (by show 2 < sizeLine; exact smallt (by omega)), ?_⟩
      rw [deck_put]
      refine ⟨_, rfl, _, rfl, _, _, rfl, rfl, mul_small a0 (by omega), _, rfl, 39373, _, rfl, rfl, mul_small (by decide) (by decide), _, _, rfl, rfl, .inl ⟨_, rfl, _, 2147483579, rfl, rfl, (show (0 : Int) < 2147483579 by decide), ?_⟩⟩
      refine ⟨_, rfl, _, 64, rfl, rfl, wide_div (b := 8) (by decide) (by decide) (by decide) (by decide), _, rfl, _, n, rfl, rfl, n0, ?_⟩
      exact q _ _ (Int.emod_nonneg _ (by omega)) (Int.emod_lt_of_pos _ n0) ⟨_, L, upd_same, by rw [upd_ne dg.symm]; exact sm _ _ hg, hL, a0, a1⟩ ⟨fun b u hb n1 _ => by rw [upd_ne n1]; exact sm _ _ hb⟩
end
end K6
namespace K6
open PySem PySem.Spec PyProof.Rows L2 GL
theorem deck_merge (g : Addr) (m : Int) : mergeK [] (deckD g m) = deckD g m := by
  have e1 : putK ([] : List (Key × V)) (Sum.inr "great" : Key) (V.ref g) = [((Sum.inr "great" : Key), V.ref g)] := rfl
  have e2 : putK [((Sum.inr "great" : Key), V.ref g)] (Sum.inr "mixed" : Key) (V.int m) = deckD g m := by
    unfold putK
    simp only [List.any_cons, List.any_nil, decide_eq_false gm, Bool.or_false]
    rfl
  show putK (putK ([] : List (Key × V)) (Sum.inr "great" : Key) (V.ref g)) (Sum.inr "mixed" : Key) (V.int m) = _
  rw [e1, e2]
def spDeck (K : PySem.W.Frag) : Sp := fun vs H Q _ => ∃ (a : Addr) (ns : List Int), vs = [.ref a] ∧ SqL K H a (ns.map V.int) ∧ ns.length ≤ 63 ∧
  ∀ (d g : Addr) (H' : Hp), Same H H' → H d = none → H g = none → Deck H' d g → Q (.ref d) H'
theorem cut_map (ns : List Int) (lo hi : Option Int) : cutV (ns.map V.int) lo hi = ((ns.drop (HT.sIx ns.length 0 lo)).take (HT.sIx ns.length ns.length hi - HT.sIx ns.length 0 lo)).map V.int := by
  unfold cutV
  rw [List.length_map, List.map_take, List.map_drop]
theorem cut_ints (ns : List Int) (lo hi : Option Int) : ∃ ms : List Int, cutV (ns.map V.int) lo hi = ms.map V.int ∧ ms.length ≤ ns.length := by
  refine ⟨_, cut_map ns lo hi, ?_⟩
  rw [List.length_take, List.length_drop]
  omega
theorem ints_at {ns : List Int} {i : Nat} {x : V} (h : (ns.map V.int)[i]? = some x) : ∃ n, x = .int n ∧ i < ns.length := by
  rw [List.getElem?_map] at h
  cases e : ns[i]? with
  | none => rw [e] at h; cases h
  | some n =>
    rw [e] at h
    exact ⟨n, (Option.some.inj h).symm, (List.getElem?_eq_some_iff.mp e).1⟩
section
variable {P : Program} {w : World} {K : PySem.W.Frag} {mg : Str → Option Value} {base : Heap}
abbrev s_deck : Stmt := topS 28
theorem sc_deck : FnScope ["_law_script", "_law_mixed", "_law_cell"] ["_law_script"] (defScope s_deck) := ⟨rfl, rfl, rfl, by decide +kernel, rfl, by decide +kernel, by decide +kernel⟩
theorem ok_deck {f : Addr} {fd : FuncData} (F : Fun K "_law_deck" "_law_deck" s_deck f fd) (gl : mg "_law_deck" = some (.ref f)) (T : Bl mg) : DefG P w K mg base 1 "_law_deck" ["_law_script"] (spDeck K) := by
  refine def_mk F gl (F.binds fun _ _ _ _ _ _ us hl => match us, hl with | [_], _ => rfl) (okG F sc_deck (fun vs H Q E h => ?_) fun cdv A outer s H vs Q E hr hc h => ?_)
  · obtain ⟨a, ns, rfl, _⟩ := h
    rfl
  · obtain ⟨a, ns, rfl, hS, hlen, q⟩ := h
    have nd := sc_deck.nd
    refine ⟨_, (pss_cons (ps_set (i := 1) nd rfl (by first | exact Or.inl rfl | exact Or.inr rfl) pe_int)
      (pss_cons (ps_for PassesOwn.never rfl (pi_list (pe_slice sl_list (pv 0) po_none (po_some pe_int))) (pg_name (i := 2) nd rfl (by first | exact Or.inl rfl | exact Or.inr rfl))
        (pss_one (ps_set (i := 1) nd rfl (by first | exact Or.inl rfl | exact Or.inr rfl) (pe_op op_mod (pe_callTy call_int1 rfl T.int boot_int (pa_cons (pe_op op_add (pe_op op_add (pe_op op_mul (pv 1) pe_int) (pe_op op_mod (pe_callTy call_int1 rfl T.int boot_int (pa_cons (pv 2) pa_nil)) pe_int)) pe_int) pa_nil)) pe_int))))
      (pss_one (ps_ret (pe_disp (pps_cons pe_str (pe_revL (pe_lc (own := [("_law_cell", 2)]) (g := gName 2) rfl nd (pi_list (pe_slice sl_list (pv 0) po_none (po_some pe_int))) (blkOk_by (own := [("_law_cell", 2)]) (N := ["_law_script", "_law_mixed", "_law_cell"]) (sc := defScope s_deck) (by decide +kernel)) (fun _ _ _ _ _ => pg_name (i := 2) nd rfl (by first | exact Or.inl rfl | exact Or.inr rfl)) (fun _ _ _ _ _ => pts_one (pt_cmpR op_ge (pv 2) (pe_op op_pow pe_int pe_int) (nomark _))) (fun _ _ _ _ _ => pv 2)))
        (pps_cons pe_str (pv 1) pps_nil)) rfl rfl (by decide) (by decide)))))), ?_⟩
    -- for cell in script[:63]
    refine ⟨_, rfl, 63, rfl, a, _, rfl, hS, fun c nc => ?_⟩
    obtain ⟨ms, em, lm⟩ := cut_ints ns none (some 63)
    rw [em]
    have s1 : Same H (upd H c (.lst (ms.map V.int))) := Same.new nc
    refine ⟨c, rfl, ⟨_, tofL upd_same⟩, for_list (K := K) (a := c) (xs := ms.map V.int) (fun i σ H2 => ∃ (m : Int) (v : Option V), σ = [some (.ref a), some (.int m), v] ∧ H2 = upd H c (.lst (ms.map V.int)) ∧ 0 ≤ m ∧ m < 2147483587)
      ⟨_, none, rfl, rfl, by decide, by decide⟩ (fun i σ H2 _ ⟨_, _, _, e, _⟩ => by rw [e]; exact tofL upd_same) ?_ ?_⟩
    · rintro i y σ H2 hi ⟨m, v, rfl, rfl, m0, m1⟩
      obtain ⟨x, rfl, _⟩ := ints_at hi
      have b0 := Int.emod_nonneg x (show (2147483629 : Int) ≠ 0 by decide)
      refine ⟨_, rfl, m, 48271, rfl, rfl, mul_small m0 (by omega), _, rfl, .inl ⟨x, rfl, x, 2147483629, rfl, rfl, (show (0 : Int) < 2147483629 by decide), _, _, rfl, rfl, _, _, rfl, rfl, .inl ⟨_, rfl, _, 2147483587, rfl, rfl, (show (0 : Int) < 2147483587 by decide), _, _, rfl, rfl, Int.emod_nonneg _ (by decide), Int.emod_lt_of_pos _ (by decide)⟩⟩⟩
    · rintro σ H2 ⟨m, v, rfl, rfl, m0, m1⟩
      intro p np
      have npc : c ≠ p := ne_of_none upd_same np
      have s2 : Same H (upd (upd H c (.lst (ms.map V.int))) p (.dK [])) := s1.trans (Same.new np)
      refine ⟨_, rfl, 63, rfl, a, _, rfl, s2.seq hS, fun c2 nc2 => ?_⟩
      rw [em]
      have s3 := s2.trans (Same.new (o := .lst (ms.map V.int)) nc2)
      have ncp : p ≠ c2 := ne_of_none upd_same nc2
      refine ⟨c2, rfl, ⟨_, tofL upd_same⟩, fun D nD => ?_⟩
      have ncD : c2 ≠ D := ne_of_none upd_same nD
      have npD : p ≠ D := ne_of_none (by rw [upd_ne ncp]; exact upd_same) nD
      refine lc_list (K := K) (a := c2) (xs := ms.map V.int) (fun i H2 => ∃ L : List Int, Same H H2 ∧ H2 D = some (.lst (L.map V.int)) ∧ H2 c2 = some (.lst (ms.map V.int)) ∧ H2 p = some (.dK []) ∧ L.length ≤ i)
        ⟨[], s3.trans (Same.new nD), upd_same, by rw [upd_ne ncD]; exact upd_same, by rw [upd_ne npD, upd_ne ncp]; exact upd_same, Nat.le_refl _⟩
        (fun i H2 _ ⟨_, _, _, e, _⟩ => tofL e) ?_ ?_
      · rintro i y H2 hi ⟨L, sm, hD, hc2, hp, hL⟩
        obtain ⟨x, rfl, hil⟩ := ints_at hi
        refine ⟨rfl, _, rfl, 10, 18, rfl, rfl, ⟨by decide, by decide, by decide⟩, _, _, rfl, rfl, _, rfl, ?_⟩
        refine ite2 (fun _ => ?_) (fun _ => ?_)
        · refine ⟨_, rfl, _, hD, by rw [List.length_map]; exact smallt (by omega), L ++ [x], ?_, ?_, ?_, ?_, ?_⟩
          · intro b u hb
            rw [upd_ne (ne_of_none hb (s3.free nD))]
            exact sm _ _ hb
          · rw [upd_same, List.map_append]; rfl
          · rw [upd_ne ncD]; exact hc2
          · rw [upd_ne npD]; exact hp
          · rw [List.length_append]; exact Nat.succ_le_succ hL
        · exact ⟨L, sm, hD, hc2, hp, by omega⟩
      · rintro H2 ⟨L, sm, hD, hc2, hp, hL⟩
        refine ⟨D, _, rfl, tofL hD, fun g ng => ⟨_, rfl, ?_, deckD g m, rfl, (show 2 ≤ 15 by decide), ?_⟩⟩
        · rw [upd_ne (ne_of_none hp ng)]; exact hp
        · rw [deck_merge]
          have npg : p ≠ g := ne_of_none hp ng
          refine q p g _ (fun b u hb => ?_) (s1.free np) (sm.free ng) ⟨m, L.reverse, upd_same, ?_, ?_, m0, m1⟩
          · rw [upd_ne (ne_of_none hb (s1.free np)), upd_ne (ne_of_none hb (sm.free ng))]
            exact sm _ _ hb
          · rw [upd_ne npg.symm, upd_same, List.map_reverse]
          · rw [List.length_reverse]
            rw [List.length_map] at hL
            omega
end
end K6
namespace K6
open PySem PySem.Spec PyProof.Rows L2 GL
section
variable {P : Program} {w : World} {K : PySem.W.Frag} {mg : Str → Option Value} {base : Heap}
abbrev s_pick : Stmt := topS 30
theorem sc_pick : FnScope ["_law_deck_here", "_law_some"] ["_law_deck_here", "_law_some"] (defScope s_pick) := ⟨rfl, rfl, rfl, by decide +kernel, rfl, by decide +kernel, by decide +kernel⟩
theorem ok_pickL {f : Addr} {fd : FuncData} (F : Fun K "_law_pick" "_law_pick" s_pick f fd) (gl : mg "_law_pick" = some (.ref f)) (T : Bl mg) (D_draw : DefG P w K mg base 1 "_law_draw" ["_law_deck_here", "_law_many"] spDraw) :
    DefG P w K mg base 2 "_law_pick" ["_law_deck_here", "_law_some"] spPickL := by
  refine def_mk F gl (F.binds fun _ _ _ _ _ _ us hl => match us, hl with | [_, _], _ => rfl) (okG F sc_pick (fun vs H Q E h => ?_) fun cdv A outer s H vs Q E hr hc h => ?_)
  · obtain ⟨d, g, a, xs, rfl, _⟩ := h
    rfl
  · obtain ⟨d, g, a, xs, rfl, D, ha, nag, hne, hl, q⟩ := h
    have nd := sc_pick.nd
    refine ⟨_, (pss_one (ps_ret (pe_ix ix_list (pv 1) (pe_def D_draw (hr.mono (by decide)) hc rfl (pa_cons (pv 0) (pa_cons (pe_callB call_len_seq rfl T.len boot_len (pa_cons (pv 1) pa_nil)) pa_nil))) (fun _ _ => rfl)))), ?_⟩
    have nad : a ≠ d ∧ a ≠ g := ⟨by obtain ⟨m, L, h1, _⟩ := D.ex; exact (ne_of h1 ha (fun z => nomatch z)).symm, nag⟩
    have h0 : 0 < xs.length := List.length_pos_iff.mpr hne
    refine ⟨_, rfl, _, rfl, _, rfl, a, xs, rfl, .inl (tofL ha), d, g, _, rfl, D, by omega, by omega, fun r H' r0 r1 D' M => ?_⟩
    obtain ⟨x, hx, e⟩ := at_in (xs := xs) r0 r1
    exact ⟨a, xs, r, x, rfl, rfl, tofL (M.at ha nad), e, q x H' hx D' M⟩
theorem ok_pickS {f : Addr} {fd : FuncData} (F : Fun K "_law_pick" "_law_pick" s_pick f fd) (gl : mg "_law_pick" = some (.ref f)) (T : Bl mg) (D_draw : DefG P w K mg base 1 "_law_draw" ["_law_deck_here", "_law_many"] spDraw) :
    DefG P w K mg base 2 "_law_pick" ["_law_deck_here", "_law_some"] spPickS := by
  refine def_mk F gl (F.binds fun _ _ _ _ _ _ us hl => match us, hl with | [_, _], _ => rfl) (okG F sc_pick (fun vs H Q E h => ?_) fun cdv A outer s H vs Q E hr hc h => ?_)
  · obtain ⟨d, g, z, rfl, _⟩ := h
    rfl
  · obtain ⟨d, g, z, rfl, D, hne, hl, q⟩ := h
    have nd := sc_pick.nd
    refine ⟨_, (pss_one (ps_ret (pe_ix ix_str (pv 1) (pe_def D_draw (hr.mono (by decide)) hc rfl (pa_cons (pv 0) (pa_cons (pe_callB call_len_str rfl T.len boot_len (pa_cons (pv 1) pa_nil)) pa_nil))) (fun _ _ => rfl)))), ?_⟩
    have h0 : 0 < z.cps.toList.length := List.length_pos_iff.mpr hne
    have e0 := str_len z
    refine ⟨_, rfl, _, rfl, _, rfl, z, rfl, small (by omega), d, g, _, rfl, D, by omega, by omega, fun r H' r0 r1 D' M => ?_⟩
    obtain ⟨x, hx, e⟩ := at_in (xs := z.cps.toList) r0 (by omega)
    exact ⟨z, r, x, rfl, rfl, small (by omega), e, q x H' hx D' M⟩
end
end K6
namespace K6
open PySem PySem.Spec PyProof.Rows L2 GL RZ
/-- the sum of the products -/
def prods (ns ms : List Int) : List Int := List.zipWith (fun a b => a * b) ns ms
def dotI (ns ms : List Int) : Int := (prods ns ms).sum
theorem prods_at {ns ms : List Int} {i : Nat} {a b : Int} (h1 : ns[i]? = some a) (h2 : ms[i]? = some b) : (prods ns ms)[i]? = some (a * b) := by
  unfold prods
  rw [List.getElem?_zipWith, h1, h2]
theorem prods_len (ns ms : List Int) : (prods ns ms).length = min ns.length ms.length := by
  unfold prods
  rw [List.length_zipWith]
theorem map_at {ns : List Int} {i : Nat} (h : i < ns.length) : (ns.map V.int)[i]? = some (.int ns[i]) := by
  rw [List.getElem?_map, List.getElem?_eq_getElem h]; rfl
def Small (ns : List Int) : Prop := ∀ n ∈ ns, -(2 ^ 64) < n ∧ n < 2 ^ 64
def spSum (K : PySem.W.Frag) : Sp := fun vs H Q _ => ∃ (a b : Addr) (ns ms : List Int), vs = [.ref a, .ref b] ∧ SqT K H a (ns.map V.int) ∧ SqT K H b (ms.map V.int) ∧ ns.length = ms.length ∧ ns.length ≤ 1000 ∧ Small ns ∧ Q (.int (dotI ns ms)) H
def spDot (K : PySem.W.Frag) : Sp := fun vs H Q _ => ∃ (a b : Addr) (ns ms : List Int), vs = [.ref a, .ref b] ∧ SqT K H a (ns.map V.int) ∧ SqT K H b (ms.map V.int) ∧ ns.length = ms.length ∧ ns.length ≤ 1000 ∧ Small ns ∧ ∀ H', Same H H' → Q (.int (dotI ns ms)) H'
section
variable {P : Program} {w : World} {K : PySem.W.Frag} {mg : Str → Option Value} {base : Heap}
abbrev s_sum : Stmt := topS 32
theorem sc_sum : FnScope ["_law_row", "_law_some", "_law_found", "_law_k"] ["_law_row", "_law_some"] (defScope s_sum) := ⟨rfl, rfl, rfl, by decide +kernel, rfl, by decide +kernel, by decide +kernel⟩
theorem ok_sum {f : Addr} {fd : FuncData} (F : Fun K "_law_sum" "_law_sum" s_sum f fd) (gl : mg "_law_sum" = some (.ref f)) (T : Bl mg) : DefG P w K mg base 1 "_law_sum" ["_law_row", "_law_some"] (spSum K) := by
  refine def_mk F gl (F.binds fun _ _ _ _ _ _ us hl => match us, hl with | [_, _], _ => rfl) (okG F sc_sum (fun vs H Q E h => ?_) fun cdv A outer s H vs Q E hr hc h => ?_)
  · obtain ⟨a, b, ns, ms, rfl, _⟩ := h
    rfl
  · obtain ⟨a, b, ns, ms, rfl, hA, hB, el, hl, sm, q⟩ := h
    have nd := sc_sum.nd
    refine ⟨_, (pss_cons (ps_set (i := 2) nd rfl (by first | exact Or.inl rfl | exact Or.inr rfl) pe_int)
      (pss_cons (ps_for PassesOwn.never rfl (pi_range1 rfl T.range (pa_cons (pe_callB call_len_seq rfl T.len boot_len (pa_cons (pv 0) pa_nil)) pa_nil)) (pg_name (i := 3) nd rfl (by first | exact Or.inl rfl | exact Or.inr rfl))
        (pss_one (ps_set (i := 2) nd rfl (by first | exact Or.inl rfl | exact Or.inr rfl) (pe_op op_add (pv 2) (pe_op op_mul (pe_ix ix_tup (pv 0) (pv 3) (fun _ _ => rfl)) (pe_ix ix_tup (pv 1) (pv 3) (fun _ _ => rfl)))))))
      (pss_one (ps_ret (pv 2))))), ?_⟩
    have e1 : ((ns.map V.int).length : Int) = (ns.length : Int) := by rw [List.length_map]
    refine ⟨_, rfl, a, _, rfl, .inr hA, _, rfl, by omega, by omega, ?_⟩
    rw [show (((ns.map V.int).length : Int)).toNat = ns.length by rw [e1]; exact Int.toNat_natCast _]
    refine for_range (fun i σ H2 => H2 = H ∧ ∃ v, σ = [some (.ref a), some (.ref b), some (.int ((prods ns ms).take i).sum), v]) ⟨rfl, none, rfl⟩ ?_ ?_
    · rintro i σ H2 hi ⟨rfl, v, rfl⟩
      have m1 := map_at hi
      have m2 := map_at (show i < ms.length by omega)
      have sx := sm ns[i] (List.getElem_mem hi)
      refine ⟨_, rfl, _, rfl, _, rfl, a, _, _, _, rfl, rfl, hA, at_of (by omega) m1, _, rfl, _, rfl, b, _, _, _, rfl, rfl, hB, at_of (by omega) m2, _, _, rfl, rfl, .inl sx, _, _, rfl, rfl, rfl, some (.int (0 + (i : Nat))), ?_⟩
      rw [sum_take (prods_at (List.getElem?_eq_getElem hi) (List.getElem?_eq_getElem (show i < ms.length by omega)))]
      rfl
    · rintro σ H2 ⟨rfl, v, rfl⟩
      refine ⟨_, rfl, ?_⟩
      rw [List.take_of_length_le (by rw [prods_len]; omega)]
      exact q
abbrev s_dot : Stmt := topS 5
theorem sc_dot : FnScope ["row", "other", "one", "two"] ["row", "other"] (defScope s_dot) := ⟨rfl, rfl, rfl, by decide +kernel, rfl, by decide +kernel, by decide +kernel⟩
theorem ok_dot {f : Addr} {fd : FuncData} (F : Fun K "dot" "dot" s_dot f fd) (gl : mg "dot" = some (.ref f)) (T : Bl mg) : DefG P w K mg base 1 "dot" ["row", "other"] (spDot K) := by
  refine def_mk F gl (F.binds fun _ _ _ _ _ _ us hl => match us, hl with | [_, _], _ => rfl) (okG F sc_dot (fun vs H Q E h => ?_) fun cdv A outer s H vs Q E hr hc h => ?_)
  · obtain ⟨a, b, ns, ms, rfl, _⟩ := h
    rfl
  · obtain ⟨a, b, ns, ms, rfl, hA, hB, el, hl, sm, q⟩ := h
    have nd := sc_dot.nd
    refine ⟨_, (pss_one (ps_ret (pe_callB (cr_sum rfl) rfl T.sum boot_sum (pa_cons (pe_lc (own := [("one", 2), ("two", 3)]) (g := (gTup K 2 (gCons (gName 2) (gCons (gName 3) gNil)))) (tt := tYes) rfl nd (pi_zipA rfl T.zip (pa_cons (pv 0) (pa_cons (pv 1) pa_nil))) (blkOk_by (own := [("one", 2), ("two", 3)]) (N := ["row", "other", "one", "two"]) (sc := defScope s_dot) (by decide +kernel)) (fun _ _ _ _ _ => (pg_tup rfl (pgs_cons (pg_name (i := 2) nd rfl (by first | exact Or.inl rfl | exact Or.inr rfl)) (pgs_cons (pg_name (i := 3) nd rfl (by first | exact Or.inl rfl | exact Or.inr rfl)) pgs_nil)))) (fun _ _ _ _ _ => pts_nil) (fun _ _ _ _ _ => (pe_op op_mul (pv 2) (pv 3)))) pa_nil)))), ?_⟩
    refine ⟨_, rfl, _, rfl, a, b, _, _, rfl, .inr ⟨hA, hB, fun D nD => ?_⟩⟩
    refine lc_it (walk_zipT (K := K) (a := a) (b := b) (xs := ns.map V.int) (ys := ms.map V.int) (n := ns.length) (by rw [List.length_map, List.length_map]; omega))
      (fun i H2 => Same H H2 ∧ H2 D = some (.lst (((prods ns ms).take i).map V.int))) ⟨Same.new nD, upd_same⟩ (fun i H2 _ h => ⟨Same.tup h.1 hA, Same.tup h.1 hB⟩) ?_ ?_
    · rintro i x H2 H3 hi ⟨s2, hD⟩ ⟨t, u, v, rfl, nt, rfl, f1, f2⟩
      have m1 := map_at hi
      have m2 := map_at (show i < ms.length by omega)
      have e1 : u = .int ns[i] := Option.some.inj (f1.symm.trans m1)
      have e2 : v = .int ms[i] := Option.some.inj (f2.symm.trans m2)
      subst e1 e2
      have sx := sm ns[i] (List.getElem_mem hi)
      have nDt : D ≠ t := ne_of_none hD nt
      refine ⟨t, _, rfl, tofT upd_same, rfl, _, _, rfl, _, _, rfl, rfl, rfl, ?_⟩
      refine ⟨_, rfl, _, rfl, _, _, rfl, rfl, .inl sx, _, (by rw [upd_ne nDt]; exact hD), ?_, ?_, ?_⟩
      · rw [List.length_map, List.length_take]; exact smallt (by omega)
      · intro p o hp
        rw [upd_ne (ne_of_none hp nD), upd_ne (ne_of_none (s2 _ _ hp) nt)]
        exact s2 _ _ hp
      · rw [upd_same, List.take_add_one, prods_at (List.getElem?_eq_getElem hi) (List.getElem?_eq_getElem (show i < ms.length by omega)), List.map_append]
        rfl
    · rintro H2 ⟨s2, hD⟩
      rw [List.take_of_length_le (by rw [prods_len]; omega)] at hD
      exact ⟨D, _, rfl, tofL hD, q H2 s2⟩
end
end K6
namespace K6
open PySem PySem.Spec PyProof.Rows L2 GL RZ
def spConst : Sp := fun vs H Q _ => ∃ (d g : Addr) (wv : Int), vs = [.ref d, .int wv] ∧ Deck H d g ∧ ∀ (c : Int) (H' : Hp), -41 ≤ c → c ≤ 41 → Deck H' d g → Mv d g H H' → Q (.int c) H'
def spFactors : Sp := fun vs H Q _ => ∃ (d g : Addr) (n : Int), vs = [.ref d, .int n] ∧ Deck H d g ∧ 1 ≤ n ∧ n ≤ 6 ∧
  ∀ (p : Addr) (fs : List Int) (H' : Hp), Deck H' d g → Mv d g H H' → H' p = some (.tup (fs.map V.int)) → (fs.length : Int) = n → (∀ f ∈ fs, -9 ≤ f ∧ f ≤ 9) → Q (.ref p) H'
section
variable {P : Program} {w : World} {K : PySem.W.Frag} {mg : Str → Option Value} {base : Heap}
abbrev s_constant : Stmt := topS 33
theorem sc_constant : FnScope ["_law_deck_here", "_law_worth"] ["_law_deck_here", "_law_worth"] (defScope s_constant) := ⟨rfl, rfl, rfl, by decide +kernel, rfl, by decide +kernel, by decide +kernel⟩
theorem ok_constant {f : Addr} {fd : FuncData} (F : Fun K "_law_constant" "_law_constant" s_constant f fd) (gl : mg "_law_constant" = some (.ref f)) (T : Bl mg) (D_draw : DefG P w K mg base 1 "_law_draw" ["_law_deck_here", "_law_many"] spDraw) :
    DefG P w K mg base 2 "_law_constant" ["_law_deck_here", "_law_worth"] spConst := by
  refine def_mk F gl (F.binds fun _ _ _ _ _ _ us hl => match us, hl with | [_, _], _ => rfl) (okG F sc_constant (fun vs H Q E h => ?_) fun cdv A outer s H vs Q E hr hc h => ?_)
  · obtain ⟨d, g, wv, rfl, _⟩ := h
    rfl
  · obtain ⟨d, g, wv, rfl, D, q⟩ := h
    have nd := sc_constant.nd
    refine ⟨_, (pss_cons (ps_if (PW.pt (pw_and (pt_cmpR op_lt (pe_callB call_abs (by rfl) T.abs boot_abs (pa_cons (pv 1) pa_nil)) pe_int (nomark _)) (pw_and1 (pt_cmpR op_gt (pe_def D_draw (hr.mono (by decide)) hc (by rfl) (pa_cons (pv 0) (pa_cons pe_int pa_nil))) pe_int (nomark _)))))
        (pss_one (ps_ret (pe_op op_add (pv 1) (pe_ix ix_list (pe_lst (pa_cons pe_int (pa_cons pe_int (pa_cons pe_int (pa_cons pe_int (pa_cons (pe_un un_neg pe_int) pa_nil)))))) (pe_def D_draw (hr.mono (by decide)) hc (by rfl) (pa_cons (pv 0) (pa_cons pe_int pa_nil))) (fun _ _ => rfl)))))
        pss_nil)
      (pss_one (ps_ret (pe_op op_sub (pe_def D_draw (hr.mono (by decide)) hc (by rfl) (pa_cons (pv 0) (pa_cons pe_int pa_nil))) pe_int)))), ?_⟩
    have last : ∀ H1 : Hp, Deck H1 d g → Mv d g H H1 → (tRet (tOp (rI0 fun i j => .int (i - j)) (tCall spDraw [] E0 (tCons (tVar 0) (tCons (tC (.int 81)) tNil))) (tC (.int 40)))) { nx := fun _ H' => Q .non H', rt := Q } [some (.ref d), some (.int wv)] H1 := by
      intro H1 D1 M1
      refine ⟨_, rfl, d, g, 81, rfl, D1, by decide, by decide, fun r H2 r0 r1 D2 M2 => ⟨r, 40, rfl, rfl, q _ H2 (by omega) (by omega) D2 (M1.trans M2)⟩⟩
    refine ⟨_, rfl, wv, rfl, _, _, rfl, rfl, _, rfl, ?_⟩
    refine ite2 (fun e1 => ?_) (fun e1 => ?_)
    · refine ⟨_, rfl, d, g, 4, rfl, D, by decide, by decide, fun r H1 r0 r1 D1 M1 => ⟨_, _, rfl, rfl, _, rfl, ?_⟩⟩
      refine ite2 (fun e2 => ?_) (fun e2 => ?_)
      · have e3 := of_decide_eq_true e1
        refine ⟨_, rfl, 1, rfl, (show 5 ≤ sizeLine from small (by decide)), fun p np => ?_⟩
        have off := D1.off np
        refine ⟨_, rfl, d, g, 5, rfl, D1.new np, by decide, by decide, fun r2 H2 s0 s1 D2 M2 => ?_⟩
        obtain ⟨x, hx, e⟩ := at_in (xs := [V.int 0, V.int 0, V.int 0, V.int 1, V.int (-1)]) s0 (by show r2 < 5; omega)
        have hk : ∃ k : Int, x = .int k ∧ -1 ≤ k ∧ k ≤ 1 := by
          rcases List.mem_cons.mp hx with rfl | hx
          · exact ⟨0, rfl, by decide, by decide⟩
          rcases List.mem_cons.mp hx with rfl | hx
          · exact ⟨0, rfl, by decide, by decide⟩
          rcases List.mem_cons.mp hx with rfl | hx
          · exact ⟨0, rfl, by decide, by decide⟩
          rcases List.mem_cons.mp hx with rfl | hx
          · exact ⟨1, rfl, by decide, by decide⟩
          rcases List.mem_cons.mp hx with rfl | hx
          · exact ⟨-1, rfl, by decide, by decide⟩
          · cases hx
        obtain ⟨k, rfl, k0, k1⟩ := hk
        refine ⟨p, _, r2, _, rfl, rfl, tofL (M2.at upd_same off), e, wv, k, rfl, rfl, ?_⟩
        have bw : -40 < wv ∧ wv < 40 := by
          revert e3
          split <;> omega
        exact q _ H2 (by omega) (by omega) D2 (M1.trans ((Mv.of (Same.new np)).trans M2))
      · exact last H1 D1 M1
    · exact last H D Mv.refl
abbrev s_factors : Stmt := topS 34
theorem sc_factors : FnScope ["_law_deck_here", "_law_many", "_law_far", "_law_k"] ["_law_deck_here", "_law_many"] (defScope s_factors) := ⟨rfl, rfl, rfl, by decide +kernel, rfl, by decide +kernel, by decide +kernel⟩
theorem ok_factors {f : Addr} {fd : FuncData} (F : Fun K "_law_factors" "_law_factors" s_factors f fd) (gl : mg "_law_factors" = some (.ref f)) (T : Bl mg) (D_draw : DefG P w K mg base 1 "_law_draw" ["_law_deck_here", "_law_many"] spDraw)
    (D_pick : DefG P w K mg base 2 "_law_pick" ["_law_deck_here", "_law_some"] spPickL) : DefG P w K mg base 3 "_law_factors" ["_law_deck_here", "_law_many"] spFactors := by
  refine def_mk F gl (F.binds fun _ _ _ _ _ _ us hl => match us, hl with | [_, _], _ => rfl) (okG F sc_factors (fun vs H Q E h => ?_) fun cdv A outer s H vs Q E hr hc h => ?_)
  · obtain ⟨d, g, n, rfl, _⟩ := h
    rfl
  · obtain ⟨d, g, n, rfl, D, n1, n6, q⟩ := h
    have nd := sc_factors.nd
    refine ⟨_, (pss_cons (ps_set (i := 2) nd rfl (by first | exact Or.inl rfl | exact Or.inr rfl) (pe_def D_pick (hr.mono (by decide)) hc (by rfl) (pa_cons (pv 0) (pa_cons (pe_lst (pa_cons pe_int (pa_cons pe_int (pa_cons pe_int pa_nil)))) pa_nil))))
      (pss_one (ps_ret (pe_tupleOf rfl T.tuple (pe_lc (own := [("_law_k", 3)]) (g := (gName 3)) (tt := tYes) rfl nd (pi_range1 rfl T.range (pa_cons (pv 1) pa_nil)) (blkOk_by (own := [("_law_k", 3)]) (N := ["_law_deck_here", "_law_many", "_law_far", "_law_k"]) (sc := defScope s_factors) (by decide +kernel)) (fun _ _ _ _ _ => (pg_name (i := 3) nd rfl (by first | exact Or.inl rfl | exact Or.inr rfl))) (fun _ _ _ _ _ => pts_nil) (fun _ _ _ _ _ => (pe_op op_sub (pe_def D_draw (hr.mono (by decide)) hc (by rfl) (pa_cons (pv 0) (pa_cons (pe_op op_add (pe_op op_mul pe_int (pv 2)) pe_int) pa_nil))) (pv 2)))))))), ?_⟩
    refine ⟨_, rfl, (show 3 ≤ sizeLine from small (by decide)), fun p np => ?_⟩
    have off := D.off np
    refine ⟨d, g, p, _, rfl, D.new np, upd_same, off.2, (fun z => nomatch z), (show 3 ≤ 1000 by decide), fun x H1 hx D1 M1 => ?_⟩
    have hk : ∃ k : Int, x = .int k ∧ 1 ≤ k ∧ k ≤ 9 := by
      rcases List.mem_cons.mp hx with rfl | hx
      · exact ⟨1, rfl, by decide, by decide⟩
      rcases List.mem_cons.mp hx with rfl | hx
      · exact ⟨2, rfl, by decide, by decide⟩
      rcases List.mem_cons.mp hx with rfl | hx
      · exact ⟨9, rfl, by decide, by decide⟩
      · cases hx
    obtain ⟨k, rfl, k0, k1⟩ := hk
    have M0 : Mv d g H H1 := (Mv.of (Same.new np)).trans M1
    refine ⟨_, rfl, n, rfl, by omega, by omega, fun D' nD => ?_⟩
    have offD := D1.off nD
    refine lc_range (fun i H2 => Deck H2 d g ∧ Mv d g H H2 ∧ ∃ fs : List Int, H2 D' = some (.lst (fs.map V.int)) ∧ fs.length = i ∧ ∀ f ∈ fs, -9 ≤ f ∧ f ≤ 9) ⟨D1.new nD, M0.trans (Mv.of (Same.new nD)), [], upd_same, rfl, fun f hf => nomatch hf⟩ ?_ ?_
    · rintro i H2 hi ⟨D2, M2, fs, hD, hfl, hfs⟩
      refine ⟨rfl, _, rfl, _, rfl, 2, k, rfl, rfl, .inl ⟨by decide, by decide⟩, _, _, rfl, rfl, d, g, _, rfl, D2, by omega, by omega, fun r H3 r0 r1 D3 M3 => ?_⟩
      refine ⟨_, rfl, r, k, rfl, rfl, _, M3.at hD offD, ?_, D3.mut offD, (M2.trans M3).mut (M0.free D D1 nD), fs ++ [r - k], ?_, ?_, ?_⟩
      · rw [List.length_map]; exact smallt (by omega)
      · rw [upd_same, List.map_append]; rfl
      · rw [List.length_append, hfl]; rfl
      · intro f hf
        rcases List.mem_append.mp hf with hf | hf
        · exact hfs f hf
        · rw [List.mem_singleton.mp hf]
          omega
    · rintro H2 ⟨D2, M2, fs, hD, hfl, hfs⟩
      refine .inl ⟨D', _, rfl, tofL hD, fun t nt => q t fs _ (D2.new nt) (M2.trans (Mv.of (Same.new nt))) upd_same (by omega) hfs⟩
end
end K6
namespace K6
open PySem PySem.Spec PyProof.Rows L2 GL RZ
abbrev Row := List Int × Int
abbrev Rst := List Int × Int × Int
inductive RowsAt (H : Hp) : List V → List Row → Prop
  | nil : RowsAt H [] []
  | cons {p q : Addr} {fs : List Int} {c : Int} {xs : List V} {rs : List Row} : H p = some (.tup [.ref q, .int c]) → H q = some (.tup (fs.map V.int)) → RowsAt H xs rs → RowsAt H (.ref p :: xs) ((fs, c) :: rs)
inductive RestsAt (H : Hp) : List V → List Rst → Prop
  | nil : RestsAt H [] []
  | cons {p q : Addr} {fs : List Int} {c m : Int} {xs : List V} {rs : List Rst} : H p = some (.tup [.ref q, .int c, .int m]) → H q = some (.tup (fs.map V.int)) → RestsAt H xs rs → RestsAt H (.ref p :: xs) ((fs, c, m) :: rs)
theorem RowsAt.len {H : Hp} : ∀ {xs : List V} {rs : List Row}, RowsAt H xs rs → xs.length = rs.length
  | _, _, .nil => rfl
  | _, _, .cons _ _ t => congrArg Nat.succ t.len
theorem RestsAt.len {H : Hp} : ∀ {xs : List V} {rs : List Rst}, RestsAt H xs rs → xs.length = rs.length
  | _, _, .nil => rfl
  | _, _, .cons _ _ t => congrArg Nat.succ t.len
theorem RowsAt.to {H H' : Hp} (k : ∀ a xs, H a = some (.tup xs) → H' a = some (.tup xs)) : ∀ {xs : List V} {rs : List Row}, RowsAt H xs rs → RowsAt H' xs rs
  | _, _, .nil => .nil
  | _, _, .cons a b t => .cons (k _ _ a) (k _ _ b) (t.to k)
theorem RestsAt.to {H H' : Hp} (k : ∀ a xs, H a = some (.tup xs) → H' a = some (.tup xs)) : ∀ {xs : List V} {rs : List Rst}, RestsAt H xs rs → RestsAt H' xs rs
  | _, _, .nil => .nil
  | _, _, .cons a b t => .cons (k _ _ a) (k _ _ b) (t.to k)
theorem RowsAt.snoc {H : Hp} {p q : Addr} {fs : List Int} {c : Int} (h1 : H p = some (.tup [.ref q, .int c])) (h2 : H q = some (.tup (fs.map V.int))) : ∀ {xs : List V} {rs : List Row}, RowsAt H xs rs → RowsAt H (xs ++ [.ref p]) (rs ++ [(fs, c)])
  | _, _, .nil => .cons h1 h2 .nil
  | _, _, .cons a b t => .cons a b (t.snoc h1 h2)
theorem RestsAt.snoc {H : Hp} {p q : Addr} {fs : List Int} {c m : Int} (h1 : H p = some (.tup [.ref q, .int c, .int m])) (h2 : H q = some (.tup (fs.map V.int))) : ∀ {xs : List V} {rs : List Rst}, RestsAt H xs rs → RestsAt H (xs ++ [.ref p]) (rs ++ [(fs, c, m)])
  | _, _, .nil => .cons h1 h2 .nil
  | _, _, .cons a b t => .cons a b (t.snoc h1 h2)
theorem RowsAt.get {H : Hp} : ∀ {xs : List V} {rs : List Row} {i : Nat} {x : V}, RowsAt H xs rs → xs[i]? = some x → ∃ p q fs c, x = .ref p ∧ H p = some (.tup [.ref q, .int c]) ∧ H q = some (.tup (fs.map V.int)) ∧ rs[i]? = some (fs, c)
  | _, _, _, _, .nil, e => by cases e
  | _, _, 0, _, .cons a b t, e => by cases e; exact ⟨_, _, _, _, rfl, a, b, rfl⟩
  | _, _, i + 1, _, .cons a b t, e => RowsAt.get (i := i) t (by simpa using e)
theorem RestsAt.get {H : Hp} : ∀ {xs : List V} {rs : List Rst} {i : Nat} {x : V}, RestsAt H xs rs → xs[i]? = some x → ∃ p q fs c m, x = .ref p ∧ H p = some (.tup [.ref q, .int c, .int m]) ∧ H q = some (.tup (fs.map V.int)) ∧ rs[i]? = some (fs, c, m)
  | _, _, _, _, .nil, e => by cases e
  | _, _, 0, _, .cons a b t, e => by cases e; exact ⟨_, _, _, _, _, rfl, a, b, rfl⟩
  | _, _, i + 1, _, .cons a b t, e => RestsAt.get (i := i) t (by simpa using e)
theorem tups_same {H H' : Hp} (s : Same H H') : ∀ a xs, H a = some (.tup xs) → H' a = some (.tup xs) := fun _ _ h => s _ _ h
theorem tups_mv {H H' : Hp} {d g : Addr} (D : Deck H d g) (m : Mv d g H H') : ∀ a xs, H a = some (.tup xs) → H' a = some (.tup xs) := fun a xs h => by
  obtain ⟨k, L, h1, h2, _⟩ := D.ex
  exact m.keep _ _ h (ne_of h h1 (fun z => nomatch z)) (ne_of h h2 (fun z => nomatch z))
def okRow (ms : List Int) (r : Row) : Bool := decide (dotI r.1 ms - r.2 = 0)
def okRst (ms : List Int) (r : Rst) : Bool := decide ((dotI r.1 ms - r.2.1) % r.2.2 = 0)
def dueB (rows : List Row) (rests : List Rst) (ms : List Int) : Bool := rows.all (okRow ms) && rests.all (okRst ms)
def Fine (n : Nat) (fs : List Int) : Prop := fs.length = n ∧ ∀ f ∈ fs, -9 ≤ f ∧ f ≤ 9
theorem Fine.small {n : Nat} {fs : List Int} (h : Fine n fs) : Small fs := fun f hf => by have := h.2 f hf; exact ⟨by omega, by omega⟩
def FineR (n : Nat) (rows : List Row) : Prop := ∀ r ∈ rows, Fine n r.1 ∧ -41 ≤ r.2 ∧ r.2 ≤ 41
def FineS (n : Nat) (rests : List Rst) : Prop := ∀ r ∈ rests, Fine n r.1 ∧ (-41 ≤ r.2.1 ∧ r.2.1 ≤ 41) ∧ 2 ≤ r.2.2 ∧ r.2.2 ≤ 12
theorem all_take {α : Type} {l : List α} {p : α → Bool} {i : Nat} {x : α} (h : l[i]? = some x) : (l.take (i + 1)).all p = ((l.take i).all p && p x) := by
  rw [List.take_add_one, h, Option.toList_some, List.all_append]
  simp
theorem all_bad {α : Type} {l : List α} {p : α → Bool} {i : Nat} {x : α} (h : l[i]? = some x) (hp : p x = false) : l.all p = false := by
  rw [List.all_eq_false]
  exact ⟨x, List.mem_of_getElem? h, by rw [hp]; exact Bool.false_ne_true⟩
def spDue (K : PySem.W.Frag) : Sp := fun vs H Q _ => ∃ (a b t : Addr) (xs ys : List V) (rows : List Row) (rests : List Rst) (ms : List Int), vs = [.ref a, .ref b, .ref t] ∧ SqT K H a xs ∧ RowsAt H xs rows ∧ SqT K H b ys ∧ RestsAt H ys rests ∧ SqT K H t (ms.map V.int) ∧
  ms.length ≤ 100 ∧ FineR ms.length rows ∧ FineS ms.length rests ∧ Q (.bl (dueB rows rests ms)) H
section
variable {P : Program} {w : World} {K : PySem.W.Frag} {mg : Str → Option Value} {base : Heap}
abbrev s_due : Stmt := topS 35
theorem sc_due : FnScope ["_law_lines", "_law_pieces", "_law_some", "_law_factors_here", "_law_constant_here", "_law_by"] ["_law_lines", "_law_pieces", "_law_some"] (defScope s_due) := ⟨rfl, rfl, rfl, by decide +kernel, rfl, by decide +kernel, by decide +kernel⟩
theorem ok_due {f : Addr} {fd : FuncData} (F : Fun K "_law_due" "_law_due" s_due f fd) (gl : mg "_law_due" = some (.ref f)) (T : Bl mg) (D_sum : DefG P w K mg base 1 "_law_sum" ["_law_row", "_law_some"] (spSum K)) :
    DefG P w K mg base 2 "_law_due" ["_law_lines", "_law_pieces", "_law_some"] (spDue K) := by
  refine def_mk F gl (F.binds fun _ _ _ _ _ _ us hl => match us, hl with | [_, _, _], _ => rfl) (okG F sc_due (fun vs H Q E h => ?_) fun cdv A outer s H vs Q E hr hc h => ?_)
  · obtain ⟨a, b, t, xs, ys, rows, rests, ms, rfl, _⟩ := h
    rfl
  · obtain ⟨a, b, t, xs, ys, rows, rests, ms, rfl, hA, rA, hB, rB, hT, hm, fR, fS, q⟩ := h
    have nd := sc_due.nd
    refine ⟨_, (pss_cons (ps_for PassesOwn.never rfl (pi_tup (pv 0)) (pg_tup rfl (pgs_cons (pg_name (i := 3) nd rfl (by first | exact Or.inl rfl | exact Or.inr rfl)) (pgs_cons (pg_name (i := 4) nd rfl (by first | exact Or.inl rfl | exact Or.inr rfl)) pgs_nil)))
        (pss_one (ps_if (pt_cmpR op_ne (pe_op op_sub (pe_def D_sum (hr.mono (by decide)) hc (by rfl) (pa_cons (pv 3) (pa_cons (pv 2) pa_nil))) (pv 4)) pe_int (nomark _))
          (pss_one (ps_ret pe_bl))
          pss_nil)))
      (pss_cons (ps_for PassesOwn.never rfl (pi_tup (pv 1)) (pg_tup rfl (pgs_cons (pg_name (i := 3) nd rfl (by first | exact Or.inl rfl | exact Or.inr rfl)) (pgs_cons (pg_name (i := 4) nd rfl (by first | exact Or.inl rfl | exact Or.inr rfl)) (pgs_cons (pg_name (i := 5) nd rfl (by first | exact Or.inl rfl | exact Or.inr rfl)) pgs_nil))))
        (pss_one (ps_if (pt_cmpR op_ne (pe_op op_mod (pe_callTy call_int1 (by rfl) T.int boot_int (pa_cons (pe_op op_sub (pe_def D_sum (hr.mono (by decide)) hc (by rfl) (pa_cons (pv 3) (pa_cons (pv 2) pa_nil))) (pv 4)) pa_nil)) (pv 5)) pe_int (nomark _))
          (pss_one (ps_ret pe_bl))
          pss_nil)))
      (pss_one (ps_ret pe_bl)))), ?_⟩
    refine ⟨_, rfl, a, rfl, ⟨_, hA⟩, for_tup (K := K) (a := a) (xs := xs) (fun i σ H2 => H2 = H ∧ (rows.take i).all (okRow ms) = true ∧ ∃ v3 v4 v5, σ = [some (.ref a), some (.ref b), some (.ref t), v3, v4, v5]) ⟨rfl, rfl, none, none, none, rfl⟩
      (fun i σ H2 _ ⟨e, _⟩ => by rw [e]; exact hA) ?_ ?_⟩
    · rintro i x σ H2 hi ⟨rfl, al, v3, v4, v5, rfl⟩
      obtain ⟨p, k, fs, c, rfl, hp, hk, hr2⟩ := rA.get hi
      have fr : Fine ms.length fs ∧ -41 ≤ c ∧ c ≤ 41 := fR _ (List.mem_of_getElem? hr2)
      refine ⟨p, _, rfl, tofT hp, rfl, _, _, rfl, _, _, rfl, rfl, ?_⟩
      refine ⟨_, rfl, _, rfl, k, t, fs, ms, rfl, tofT hk, hT, fr.1.1, by have := fr.1.1; omega, fr.1.small, _, rfl, _, _, rfl, rfl, rfl, _, rfl, ?_⟩
      have ok : okRow ms (fs, c) = decide (dotI fs ms - c = 0) := rfl
      refine ite2 (fun e => ?_) (fun e => ?_)
      · have z : okRow ms (fs, c) = false := by
          rw [ok]
          refine decide_eq_false fun y => ?_
          have e' : (!decide (V.int (dotI fs ms - c) = V.int 0)) = true := e
          rw [y] at e'
          exact absurd e' (by decide)
        have zz : dueB rows rests ms = false := by unfold dueB; rw [all_bad hr2 z]; rfl
        rw [zz] at q
        exact q
      · refine ⟨rfl, ?_, _, _, v5, rfl⟩
        rw [all_take hr2, al, ok, Bool.true_and]
        refine decide_eq_true (Classical.byContradiction fun y => e ?_)
        rw [decide_eq_false (fun z => y (V.int.inj z))]
        rfl
    · rintro σ H2 ⟨rfl, al, v3, v4, v5, rfl⟩
      rw [rA.len, List.take_length] at al
      refine ⟨_, rfl, b, rfl, ⟨_, hB⟩, for_tup (K := K) (a := b) (xs := ys) (fun i σ H3 => H3 = H2 ∧ (rests.take i).all (okRst ms) = true ∧ ∃ v3 v4 v5, σ = [some (.ref a), some (.ref b), some (.ref t), v3, v4, v5]) ⟨rfl, rfl, v3, v4, v5, rfl⟩
        (fun i σ H2 _ ⟨e, _⟩ => by rw [e]; exact hB) ?_ ?_⟩
      · rintro i x σ H3 hi ⟨rfl, al2, v3, v4, v5, rfl⟩
        obtain ⟨p, k, fs, c, m, rfl, hp, hk, hr2⟩ := rB.get hi
        have fr : Fine ms.length fs ∧ (-41 ≤ c ∧ c ≤ 41) ∧ 2 ≤ m ∧ m ≤ 12 := fS _ (List.mem_of_getElem? hr2)
        have hm0 : (0 : Int) < m := by have := fr.2.2.1; omega
        refine ⟨p, _, rfl, tofT hp, rfl, _, _, rfl, _, _, rfl, _, _, rfl, rfl, ?_⟩
        refine ⟨_, rfl, _, rfl, k, t, fs, ms, rfl, tofT hk, hT, fr.1.1, by have := fr.1.1; omega, fr.1.small, _, rfl, _, _, rfl, rfl, .inl ⟨_, rfl, _, rfl, _, _, rfl, rfl, hm0, rfl, _, rfl, ?_⟩⟩
        have ok : okRst ms (fs, c, m) = decide ((dotI fs ms - c) % m = 0) := rfl
        refine ite2 (fun e => ?_) (fun e => ?_)
        · have z : okRst ms (fs, c, m) = false := by
            rw [ok]
            refine decide_eq_false fun y => ?_
            have e' : (!decide (V.int ((dotI fs ms - c) % m) = V.int 0)) = true := e
            rw [y] at e'
            exact absurd e' (by decide)
          have zz : dueB rows rests ms = false := by unfold dueB; rw [all_bad hr2 z, Bool.and_false]
          rw [zz] at q
          exact q
        · refine ⟨rfl, ?_, _, _, _, rfl⟩
          rw [all_take hr2, al2, ok, Bool.true_and]
          refine decide_eq_true (Classical.byContradiction fun y => e ?_)
          rw [decide_eq_false (fun z => y (V.int.inj z))]
          rfl
      · rintro σ H3 ⟨rfl, al2, v3, v4, v5, rfl⟩
        rw [rB.len, List.take_length] at al2
        have zz : dueB rows rests ms = true := by unfold dueB; rw [al, al2]; rfl
        rw [zz] at q
        exact q
end
end K6
namespace K6
open PySem PySem.Spec PyProof.Rows L2 GL RZ
/-! ### the class -/
def flds (x y z : V) : List (Str × V) := putF "rests" z (putF "rows" y (putF "names" x []))
theorem f_rests (x y z : V) : (flds x y z).lookup ("rests" : Str) = some z := by
  unfold flds; rw [lookup_putF, if_pos rfl]
theorem f_rows (x y z : V) : (flds x y z).lookup ("rows" : Str) = some y := by
  unfold flds; rw [lookup_putF, if_neg (by decide +kernel), lookup_putF, if_pos rfl]
theorem f_names (x y z : V) : (flds x y z).lookup ("names" : Str) = some x := by
  unfold flds; rw [lookup_putF, if_neg (by decide +kernel), lookup_putF, if_neg (by decide +kernel), lookup_putF, if_pos rfl]
theorem f_no (x y z : V) {m : Str} (h1 : ¬ m = "rests") (h2 : ¬ m = "rows") (h3 : ¬ m = "names") : (flds x y z).lookup m = none := by
  unfold flds; rw [lookup_putF, if_neg h1, lookup_putF, if_neg h2, lookup_putF, if_neg h3]; rfl
theorem fl1 (x : V) : (putF ("names" : Str) x []).length = 1 := rfl
theorem fl2 (x y : V) : (putF ("rows" : Str) y (putF ("names" : Str) x [])).length = 2 := by
  show (if ("names" : Str) = "rows" then [(("names" : Str), y)] else (("names" : Str), x) :: putF "rows" y []).length = 2
  rw [if_neg (by decide +kernel)]; rfl
structure Sys (K : PySem.W.Frag) (mg : Str → Option Value) (C : Addr) : Prop where
  cl : Cls K C
  nN : NoAttr K C "names"
  nR : NoAttr K C "rows"
  nS : NoAttr K C "rests"
  mgC : mg "System" = some (.ref C)
def spInit (C : Addr) : Sp := fun vs H Q _ => ∃ (s dx : Addr) (x y z : V), vs = [.ref s, x, y, z] ∧ H s = some (.ins C dx []) ∧ Q .non (upd H s (.ins C dx (flds x y z)))
def spFul (K : PySem.W.Frag) (C : Addr) : Sp := fun vs H Q _ => ∃ (s dx a b t : Addr) (x : V) (xs ys : List V) (rows : List Row) (rests : List Rst) (ms : List Int), vs = [.ref s, .ref t] ∧ H s = some (.ins C dx (flds x (.ref a) (.ref b))) ∧ SqT K H a xs ∧ RowsAt H xs rows ∧ SqT K H b ys ∧ RestsAt H ys rests ∧
  SqT K H t (ms.map V.int) ∧ ms.length ≤ 100 ∧ rows.length ≤ 100 ∧ rests.length ≤ 100 ∧ FineR ms.length rows ∧ FineS ms.length rests ∧ ∀ H', Same H H' → Q (.bl (dueB rows rests ms)) H'
theorem dec_int (a b : Int) : decide (V.int a = V.int b) = decide (a - b = 0) := by
  by_cases h : a = b
  · subst h; rw [decide_eq_true rfl, decide_eq_true (Int.sub_self a)]
  · rw [decide_eq_false (fun e => h (V.int.inj e)), decide_eq_false (by omega)]
theorem any_not {α : Type} (p : α → Bool) : ∀ l : List α, (l.map fun r => !p r).any id = !(l.all p)
  | [] => rfl
  | x :: r => by
    rw [List.map_cons, List.any_cons, any_not p r, List.all_cons, Bool.not_and]; rfl
theorem any_rest (ms : List Int) : ∀ l : List Rst, (l.map fun r => (dotI r.1 ms - r.2.1) % r.2.2).any (fun n => n != 0) = !(l.all (okRst ms))
  | [] => rfl
  | x :: r => by
    rw [List.map_cons, List.any_cons, any_rest ms r, List.all_cons, Bool.not_and]
    congr 1
section
variable {P : Program} {w : World} {K : PySem.W.Frag} {mg : Str → Option Value} {base : Heap}
abbrev s_init : Stmt := inClass (topS 22) 0
theorem sc_init : FnScope ["self", "names", "rows", "rests"] ["self", "names", "rows", "rests"] (defScope s_init) := ⟨rfl, rfl, rfl, by decide +kernel, rfl, by decide +kernel, by decide +kernel⟩
theorem ok_init {f C E0 : Addr} {fd : FuncData} (F : FunD K "__init__" "System.__init__" (defArgs s_init) (defBody s_init) (defScope s_init) [.ref E0] [] f fd) (S : Sys K mg C) : FnG P w K mg base CX0 1 f fd ["self", "names", "rows", "rests"] (spInit C) := by
  refine okD F sc_init (fun vs H Q E h => ?_) fun cdv A outer s H vs Q E hr hc h => ?_
  · obtain ⟨s, dx, x, y, z, rfl, _⟩ := h
    rfl
  · obtain ⟨p, dx, x, y, z, rfl, hp, q⟩ := h
    refine ⟨_, (pss_cons (ps_fld (pv 0) (pv 1) rfl) (pss_cons (ps_fld (pv 0) (pv 2) rfl) (pss_one (ps_fld (pv 0) (pv 3) rfl)))), ?_⟩
    refine ⟨_, rfl, _, rfl, p, C, dx, _, rfl, hp, S.cl, S.nN, (show 0 < 1000 by decide), _, rfl, _, rfl, p, C, dx, _, rfl, upd_same, S.cl, S.nR, (show 1 < 1000 by decide), _, rfl, _, rfl, p, C, dx, _, rfl, upd_same, S.cl, S.nS, ?_, ?_⟩
    · rw [fl2]; decide
    · rw [upd_upd, upd_upd]; exact q
abbrev s_ful : Stmt := inClass (topS 22) 1
theorem sc_ful : FnScope ["self", "numbers", "factors", "constant", "modulus"] ["self", "numbers"] (defScope s_ful) := ⟨rfl, rfl, rfl, by decide +kernel, rfl, by decide +kernel, by decide +kernel⟩
theorem ok_ful {f C : Addr} {fd : FuncData} (F : Fun K "fulfils" "System.fulfils" s_ful f fd) (S : Sys K mg C) (T : Bl mg) (D_dot : DefG P w K mg base 1 "dot" ["row", "other"] (spDot K)) : FnG P w K mg base CX0 2 f fd ["self", "numbers"] (spFul K C) := by
  refine okG F sc_ful (fun vs H Q E h => ?_) fun cdv A outer s H vs Q E hr hc h => ?_
  · obtain ⟨s, dx, a, b, t, x, xs, ys, rows, rests, ms, rfl, _⟩ := h
    rfl
  · obtain ⟨p, dx, a, b, t, x, xs, ys, rows, rests, ms, rfl, hp, hA, rA, hB, rB, hT, hm, l1, l2, fR, fS, q⟩ := h
    have nd := sc_ful.nd
    refine ⟨_, (pss_cons (ps_if (pt_val (pe_callB (cr_any rfl) (by rfl) T.any boot_any (pa_cons (pe_lc (own := [("factors", 2), ("constant", 3)]) (g := (gTup K 2 (gCons (gName 2) (gCons (gName 3) gNil)))) (tt := tYes) rfl nd (pi_tup (pe_fld (pv 0) rfl)) (blkOk_by (own := [("factors", 2), ("constant", 3)]) (N := ["self", "numbers", "factors", "constant", "modulus"]) (sc := defScope s_ful) (by decide +kernel)) (fun _ _ _ _ _ => (pg_tup rfl (pgs_cons (pg_name (i := 2) nd rfl (by first | exact Or.inl rfl | exact Or.inr rfl)) (pgs_cons (pg_name (i := 3) nd rfl (by first | exact Or.inl rfl | exact Or.inr rfl)) pgs_nil)))) (fun _ _ _ _ _ => pts_nil) (fun _ _ _ _ _ => (pe_cmpR op_ne (pe_def D_dot (hr.mono (by decide)) hc (by rfl) (pa_cons (pv 2) (pa_cons (pv 1) pa_nil))) (pv 3) (nomark _)))) pa_nil)))
        (pss_one (ps_ret pe_bl))
        pss_nil)
      (pss_one (ps_ret (pe_not (pe_callB (cr_anyI rfl) (by rfl) T.any boot_any (pa_cons (pe_lc (own := [("factors", 2), ("constant", 3), ("modulus", 4)]) (g := (gTup K 3 (gCons (gName 2) (gCons (gName 3) (gCons (gName 4) gNil))))) (tt := tYes) rfl nd (pi_tup (pe_fld (pv 0) rfl)) (blkOk_by (own := [("factors", 2), ("constant", 3), ("modulus", 4)]) (N := ["self", "numbers", "factors", "constant", "modulus"]) (sc := defScope s_ful) (by decide +kernel)) (fun _ _ _ _ _ => (pg_tup rfl (pgs_cons (pg_name (i := 2) nd rfl (by first | exact Or.inl rfl | exact Or.inr rfl)) (pgs_cons (pg_name (i := 3) nd rfl (by first | exact Or.inl rfl | exact Or.inr rfl)) (pgs_cons (pg_name (i := 4) nd rfl (by first | exact Or.inl rfl | exact Or.inr rfl)) pgs_nil))))) (fun _ _ _ _ _ => pts_nil) (fun _ _ _ _ _ => (pe_op op_mod (pe_op op_sub (pe_def D_dot (hr.mono (by decide)) hc (by rfl) (pa_cons (pv 2) (pa_cons (pv 1) pa_nil))) (pv 3)) (pv 4)))) pa_nil)))))), ?_⟩
    refine ⟨_, rfl, p, C, dx, _, _, rfl, hp, S.cl, S.nR, f_rows _ _ _, a, rfl, ⟨_, hA⟩, fun D nD => ?_⟩
    refine lc_tup (K := K) (a := a) (xs := xs) (fun i H2 => Same H H2 ∧ H2 D = some (.lst (((rows.take i).map fun r => !okRow ms r).map V.bl))) ⟨Same.new nD, upd_same⟩ (fun i H2 _ h => Same.tup h.1 hA) ?_ ?_
    · rintro i y H2 hi ⟨s2, hD⟩
      obtain ⟨k1, k2, fs, c, rfl, hk1, hk2, hr2⟩ := (rA.to (tups_same s2)).get hi
      have fr : Fine ms.length fs ∧ -41 ≤ c ∧ c ≤ 41 := fR _ (List.mem_of_getElem? hr2)
      have il := (List.getElem?_eq_some_iff.mp hr2).1
      refine ⟨k1, _, rfl, tofT hk1, rfl, _, _, rfl, _, _, rfl, rfl, rfl, ?_⟩
      refine ⟨_, rfl, _, rfl, k2, t, fs, ms, rfl, tofT hk2, Same.tup s2 hT, fr.1.1, by have := fr.1.1; omega, fr.1.small, fun H3 s3 => ⟨_, rfl, rfl, _, s3 _ _ hD, ?_, ?_, ?_⟩⟩
      · rw [List.length_map, List.length_map, List.length_take]; exact smallt (by omega)
      · intro u o hu
        rw [upd_ne (ne_of_none hu nD)]
        exact s3 _ _ (s2 _ _ hu)
      · rw [upd_same, List.take_add_one, hr2, dec_int, List.map_append, List.map_append]
        rfl
    · rintro H2 ⟨s2, hD⟩
      rw [rA.len, List.take_length] at hD
      refine ⟨D, _, rfl, tofL hD, _, rfl, ?_⟩
      rw [any_not]
      refine ite2 (fun e => ?_) (fun e => ?_)
      · have z : dueB rows rests ms = false := by
          unfold dueB
          cases h : rows.all (okRow ms) with
          | true => rw [h] at e; exact absurd e (by decide)
          | false => rfl
        have q2 := q H2 s2
        rw [z] at q2
        exact q2
      · have e1 : rows.all (okRow ms) = true := by
          cases h : rows.all (okRow ms) with
          | true => rfl
          | false => rw [h] at e; exact absurd rfl e
        refine ⟨_, rfl, p, C, dx, _, _, rfl, s2 _ _ hp, S.cl, S.nS, f_rests _ _ _, b, rfl, ⟨_, Same.tup s2 hB⟩, fun D2 nD2 => ?_⟩
        refine lc_tup (K := K) (a := b) (xs := ys) (fun i H3 => Same H2 H3 ∧ H3 D2 = some (.lst (((rests.take i).map fun r => (dotI r.1 ms - r.2.1) % r.2.2).map V.int))) ⟨Same.new nD2, upd_same⟩ (fun i H3 _ h => Same.tup h.1 (Same.tup s2 hB)) ?_ ?_
        · rintro i y H3 hi ⟨s3, hD2⟩
          obtain ⟨k1, k2, fs, c, m, rfl, hk1, hk2, hr2⟩ := (rB.to (tups_same (s2.trans s3))).get hi
          have fr : Fine ms.length fs ∧ (-41 ≤ c ∧ c ≤ 41) ∧ 2 ≤ m ∧ m ≤ 12 := fS _ (List.mem_of_getElem? hr2)
          have hm0 : (0 : Int) < m := by have := fr.2.2.1; omega
          have il := (List.getElem?_eq_some_iff.mp hr2).1
          refine ⟨k1, _, rfl, tofT hk1, rfl, _, _, rfl, _, _, rfl, _, _, rfl, rfl, rfl, ?_⟩
          refine ⟨_, rfl, _, rfl, k2, t, fs, ms, rfl, tofT hk2, Same.tup (s2.trans s3) hT, fr.1.1, by have := fr.1.1; omega, fr.1.small, fun H4 s4 => ⟨_, rfl, _, _, rfl, rfl, _, rfl, _, _, rfl, rfl, hm0, _, s4 _ _ hD2, ?_, ?_, ?_⟩⟩
          · rw [List.length_map, List.length_map, List.length_take]; exact smallt (by omega)
          · intro u o hu
            rw [upd_ne (ne_of_none hu nD2)]
            exact s4 _ _ (s3 _ _ hu)
          · rw [upd_same, List.take_add_one, hr2, List.map_append, List.map_append]
            rfl
        · rintro H3 ⟨s3, hD2⟩
          rw [rB.len, List.take_length] at hD2
          refine ⟨D2, _, rfl, tofL hD2, _, rfl, ?_⟩
          rw [any_rest, Bool.not_not]
          have z : dueB rows rests ms = rests.all (okRst ms) := by unfold dueB; rw [e1, Bool.true_and]
          rw [← z]
          exact q H3 (s2.trans s3)
end
end K6
namespace K6
open PySem PySem.Spec PyProof.Rows L2 GL RZ TL
/-- a short word of plain signs -/
def Word (z : Str) : Prop := z.cps.toList.length ≤ 40 ∧ ∀ c ∈ z.cps.toList, c < 128
def Sign (z : Str) : Prop := ∃ c, z = ⟨#[c]⟩ ∧ c < 128
theorem joinL_len : ∀ ls : List (List Nat), (∀ l ∈ ls, l.length = 1) → (joinL [] ls).length = ls.length
  | [], _ => rfl
  | [p], h => h p List.mem_cons_self
  | p :: q :: r, h => by
    have ih := joinL_len (q :: r) fun l hl => h l (List.mem_cons_of_mem _ hl)
    show (p ++ ([] ++ joinL [] (q :: r))).length = (q :: r).length + 1
    rw [List.nil_append, List.length_append, ih, h p List.mem_cons_self, Nat.add_comm]
theorem joinL_mem {c : Nat} : ∀ ls : List (List Nat), c ∈ joinL [] ls → ∃ l ∈ ls, c ∈ l
  | [], h => nomatch h
  | [p], h => ⟨p, List.mem_cons_self, h⟩
  | p :: q :: r, h => by
    have h' : c ∈ p ++ ([] ++ joinL [] (q :: r)) := h
    rw [List.nil_append] at h'
    rcases List.mem_append.mp h' with h | h
    · exact ⟨p, List.mem_cons_self, h⟩
    · obtain ⟨l, hl, hc⟩ := joinL_mem (q :: r) h
      exact ⟨l, List.mem_cons_of_mem _ hl, hc⟩
theorem tl_empty : tl ("" : Str) = [] := by decide +kernel
theorem join_word {ws : List Str} (h : ∀ z ∈ ws, Sign z) (hl : ws.length ≤ 40) : Word (Txt.join "" ws) := by
  have e : (Txt.join "" ws).cps.toList = joinL [] (ws.map tl) := by
    rw [join_eq]
    have := tl_join "" ws
    rw [tl_empty] at this
    exact this
  unfold Word
  rw [e]
  refine ⟨?_, fun c hc => ?_⟩
  · rw [joinL_len]
    · rw [List.length_map]; exact hl
    · intro l hm
      obtain ⟨z, hz, rfl⟩ := List.mem_map.mp hm
      obtain ⟨k, rfl, _⟩ := h z hz
      rfl
  · obtain ⟨l, hm, hc⟩ := joinL_mem _ hc
    obtain ⟨z, hz, rfl⟩ := List.mem_map.mp hm
    obtain ⟨k, rfl, hk⟩ := h z hz
    have : c = k := List.mem_singleton.mp hc
    rw [this]; exact hk
theorem join_len8 {ws : List Str} (h : ∀ z ∈ ws, Sign z) : (Txt.join "" ws).cps.toList.length = ws.length := by
  have e : (Txt.join "" ws).cps.toList = joinL [] (ws.map tl) := by
    rw [join_eq]
    have := tl_join "" ws
    rw [tl_empty] at this
    exact this
  rw [e, joinL_len]
  · rw [List.length_map]
  · intro l hm
    obtain ⟨z, hz, rfl⟩ := List.mem_map.mp hm
    obtain ⟨k, rfl, _⟩ := h z hz
    rfl
theorem sign_len {ws : List Str} (h : ∀ z ∈ ws, Sign z) : (ws.map (·.length)).sum = ws.length := by
  induction ws with
  | nil => rfl
  | cons z r ih =>
    obtain ⟨k, rfl, _⟩ := h z List.mem_cons_self
    rw [List.map_cons, List.sum_cons, ih fun y hy => h y (List.mem_cons_of_mem _ hy), List.length_cons, Nat.add_comm]
    rfl
theorem cut_word {z : Str} (h : Word z) (hl : z.cps.toList.length ≤ 20) (lo hi : Option Int) : (cutS z lo hi).cps.toList.length ≤ 20 ∧ ∀ c ∈ (cutS z lo hi).cps.toList, c < 128 := by
  unfold cutS
  refine ⟨?_, fun c hc => h.2 c ?_⟩
  · show (List.take _ (List.drop _ _)).length ≤ 20
    rw [List.length_take, List.length_drop]
    omega
  · exact List.mem_of_mem_drop (List.mem_of_mem_take hc)
theorem app_list (x y : Str) : (x ++ y).cps.toList = x.cps.toList ++ y.cps.toList := by
  show (x.cps ++ y.cps).toList = _
  rw [Array.toList_append]
theorem num_word : ∀ k : Nat, k < 6 → (Str.ofString (toString (k : Int))).cps.toList.length ≤ 2 ∧ ∀ c ∈ (Str.ofString (toString (k : Int))).cps.toList, c < 128 := by
  intro k hk
  have h : k = 0 ∨ k = 1 ∨ k = 2 ∨ k = 3 ∨ k = 4 ∨ k = 5 := by omega
  rcases h with rfl | rfl | rfl | rfl | rfl | rfl <;> exact ⟨by decide +kernel, by decide +kernel⟩
theorem log_small : ∀ k : Nat, k < 6 → (k : Int).natAbs.log2 < 1920 := by
  intro k hk
  have h : k = 0 ∨ k = 1 ∨ k = 2 ∨ k = 3 ∨ k = 4 ∨ k = 5 := by omega
  rcases h with rfl | rfl | rfl | rfl | rfl | rfl <;> decide
theorem lay_words : ∀ ns : List Str, (∀ z ∈ ns, Word z) → PyData.canLayAll0 (ns.map PyData.str) = true
  | [], _ => rfl
  | n :: r, h => by
    have h1 := h n List.mem_cons_self
    show (PyData.strOk n && PyData.canLayAll0 (r.map PyData.str)) = true
    rw [lay_words r fun y hy => h y (List.mem_cons_of_mem _ hy), Bool.and_true]
    unfold PyData.strOk
    rw [← Array.all_toList, List.all_eq_true]
    intro c hc
    exact decide_eq_true (Nat.lt_trans (h1.2 c hc) (by decide))
theorem shaped_words (ns : List Str) (h : ∀ z ∈ ns, Word z) : SeqAt.shaped (.list (ns.map PyData.str)) = true := by
  unfold SeqAt.shaped
  rw [show PyData.canLay0 (.list (ns.map PyData.str)) = PyData.canLayAll0 (ns.map PyData.str) from rfl, lay_words ns h]
  rw [show PyData.depth (.list (ns.map PyData.str)) = PyData.depthAll (ns.map PyData.str) + 1 from rfl, depth_strs ns]
  rfl
theorem strs_at {ns : List Str} {i : Nat} {x : V} (h : (ns.map V.str)[i]? = some x) : ∃ n, x = .str n ∧ n ∈ ns ∧ i < ns.length := by
  rw [List.getElem?_map] at h
  cases e : ns[i]? with
  | none => rw [e] at h; cases h
  | some n =>
    rw [e] at h
    exact ⟨n, (Option.some.inj h).symm, List.mem_of_getElem? e, (List.getElem?_eq_some_iff.mp e).1⟩
theorem ixN_of {n : Nat} {r : Int} (h0 : 0 ≤ r) (h1 : r < n) : ixN n r = some r.toNat := by
  unfold ixN
  rw [if_pos h0, if_pos h1]
def spCalled : Sp := fun vs H Q _ => ∃ (d g : Addr) (n : Int), vs = [.ref d, .int n] ∧ Deck H d g ∧ 1 ≤ n ∧ n ≤ 6 ∧
  ∀ (p : Addr) (ns : List Str) (H' : Hp), Deck H' d g → Mv d g H H' → H' p = some (.tup (ns.map V.str)) → (ns.length : Int) = n → (∀ z ∈ ns, Word z) → Q (.ref p) H'
abbrev abc : Str := "abcdefghijklmnopqrstuvwxyz"
theorem abc_len : abc.cps.toList.length = 26 := by decide +kernel
theorem abc_low : ∀ c ∈ abc.cps.toList, c < 128 := by decide +kernel
theorem abc9_len : (abc ++ "0123456789").cps.toList.length = 36 := by decide +kernel
theorem abc9_low : ∀ c ∈ (abc ++ "0123456789").cps.toList, c < 128 := by decide +kernel
section
variable {P : Program} {w : World} {K : PySem.W.Frag} {mg : Str → Option Value} {base : Heap}
abbrev s_called : Stmt := topS 31
theorem sc_called : FnScope ["_law_deck_here", "_law_many", "_law_letters", "_law_word", "_law_k", "_law_at", "_law_first", "_law_found", "_law_kept", "_law_name"] ["_law_deck_here", "_law_many"] (defScope s_called) := ⟨rfl, rfl, rfl, by decide +kernel, rfl, by decide +kernel, by decide +kernel⟩
theorem ok_called {f : Addr} {fd : FuncData} (F : Fun K "_law_called" "_law_called" s_called f fd) (gl : mg "_law_called" = some (.ref f)) (T : Bl mg) (D_draw : DefG P w K mg base 1 "_law_draw" ["_law_deck_here", "_law_many"] spDraw)
    (D_pick : DefG P w K mg base 2 "_law_pick" ["_law_deck_here", "_law_some"] spPickS) : DefG P w K mg base 3 "_law_called" ["_law_deck_here", "_law_many"] spCalled := by
  refine def_mk F gl (F.binds fun _ _ _ _ _ _ us hl => match us, hl with | [_, _], _ => rfl) (okG F sc_called (fun vs H Q E h => ?_) fun cdv A outer s H vs Q E hr hc h => ?_)
  · obtain ⟨d, g, n, rfl, _⟩ := h
    rfl
  · obtain ⟨d, g, n, rfl, D, n1, n6, q⟩ := h
    have nd := sc_called.nd
    have hu64 := hr.units
    refine ⟨_, (pss_cons (ps_set (i := 2) nd rfl (by first | exact Or.inl rfl | exact Or.inr rfl) pe_str)
      (pss_cons (ps_set (i := 3) nd rfl (by first | exact Or.inl rfl | exact Or.inr rfl) (pe_lst (pa_cons (pe_def D_pick (hr.mono (by decide)) hc (by rfl) (pa_cons (pv 0) (pa_cons (pv 2) pa_nil))) pa_nil)))
      (pss_cons (ps_for PassesOwn.never rfl (pi_range1 (by rfl) T.range (pa_cons (pe_def D_draw (hr.mono (by decide)) hc (by rfl) (pa_cons (pv 0) (pa_cons pe_int pa_nil))) pa_nil)) (pg_name (i := 4) nd rfl (by first | exact Or.inl rfl | exact Or.inr rfl))
        (pss_one (ps_expr (pe_bm PySem.F.plainAttrs_list PySem.F.slot_list_append PySem.F.type_list_append mt_append (pv 3) (pa_cons (pe_def D_pick (hr.mono (by decide)) hc (by rfl) (pa_cons (pv 0) (pa_cons (pe_op op_add_str (pv 2) pe_str) pa_nil))) pa_nil)))))
      (pss_cons (ps_par3 (i := 5) (j := 6) (l := 7) rfl nd rfl rfl rfl (by decide) (by decide) (by decide) rfl rfl rfl (pa_cons (pe_def D_draw (hr.mono (by decide)) hc (by rfl) (pa_cons (pv 0) (pa_cons (pe_callB call_len_seq (by rfl) T.len boot_len (pa_cons (pv 3) pa_nil)) pa_nil))) (pa_cons (pe_def D_draw (hr.mono (by decide)) hc (by rfl) (pa_cons (pv 0) (pa_cons pe_int pa_nil))) (pa_cons (pe_lst pa_nil) pa_nil))) rfl)
      (pss_cons (ps_for PassesOwn.never rfl (pi_range1 (by rfl) T.range (pa_cons (pv 1) pa_nil)) (pg_name (i := 4) nd rfl (by first | exact Or.inl rfl | exact Or.inr rfl))
        (pss_cons (ps_asg (pe_ix ix_str (pv 2) (pe_op op_mod (pe_op op_add (pv 6) (pe_op op_mul pe_int (pv 4))) pe_int) (fun _ _ => rfl)) (pg_sub (pv 3) (pv 5) set_list))
        (pss_one (ps_expr (pe_bm PySem.F.plainAttrs_list PySem.F.slot_list_append PySem.F.type_list_append mt_append (pv 7) (pa_cons (pe_join pe_str (pv 3)) pa_nil))))))
      (pss_cons (ps_set (i := 8) nd rfl (by first | exact Or.inl rfl | exact Or.inr rfl) (pe_lst (pa_cons pe_str (pa_cons pe_str (pa_cons pe_str (pa_cons pe_str (pa_cons pe_str (pa_cons pe_str (pa_cons pe_str (pa_cons pe_str (pa_cons pe_str pa_nil)))))))))))
      (pss_cons (ps_if (pt_cmpR (op_neD hu64) (pe_lc (own := [("_law_name", 9)]) (g := (gName 9)) rfl nd (pi_list (pv 7)) (blkOk_by (own := [("_law_name", 9)]) (N := ["_law_deck_here", "_law_many", "_law_letters", "_law_word", "_law_k", "_law_at", "_law_first", "_law_found", "_law_kept", "_law_name"]) (sc := defScope s_called) (by decide +kernel)) (fun _ _ _ _ _ => (pg_name (i := 9) nd rfl (by first | exact Or.inl rfl | exact Or.inr rfl))) (fun _ _ _ _ _ => (pts_one (pt_cmpR (op_inK (K := K)) (pv 9) (pv 8) (by with_unfolding_all rfl)))) (fun _ _ _ _ _ => (pv 9))) (pe_lst pa_nil) (nomark _))
        (pss_one (ps_setLc (i := 7) (own := [("_law_k", 4), ("_law_name", 9)]) (g := (gTup K 2 (gCons (gName 4) (gCons (gName 9) gNil)))) (tt := tYes) rfl nd rfl rfl (sw_true rfl rfl rfl (by decide +kernel)) (pi_enum (by rfl) T.enumerate (pa_cons (pv 7) pa_nil)) (blkOk_by (own := [("_law_k", 4), ("_law_name", 9)]) (N := ["_law_deck_here", "_law_many", "_law_letters", "_law_word", "_law_k", "_law_at", "_law_first", "_law_found", "_law_kept", "_law_name"]) (sc := defScope s_called) (by decide +kernel)) (fun _ _ _ _ _ => (pg_tup rfl (pgs_cons (pg_name (i := 4) nd rfl (by first | exact Or.inl rfl | exact Or.inr rfl)) (pgs_cons (pg_name (i := 9) nd rfl (by first | exact Or.inl rfl | exact Or.inr rfl)) pgs_nil)))) (fun _ _ _ _ _ => pts_nil) (fun _ _ _ _ _ => (pe_op op_add_str (pe_slice sl_str (pv 9) po_none (po_some pe_int)) (pe_callTy call_str_int (by rfl) T.str boot_str (pa_cons (pv 4) pa_nil))))))
        pss_nil)
      (pss_one (ps_ret (pe_tupleOf (by rfl) T.tuple (pv 7))))))))))), ?_⟩
    -- letters; word = [pick(letters)]
    refine ⟨_, rfl, _, rfl, d, g, abc, rfl, D, (fun z => by have := abc_len; rw [z] at this; cases this), by rw [str_len, abc_len]; decide, fun c0 H1 hc0 D1 M1 => ⟨(show 1 ≤ sizeLine from small (by decide)), fun p np => ?_⟩⟩
    have offp := D1.off np
    have npH := M1.free D D1 np
    -- for k in range(draw(8))
    refine ⟨_, rfl, d, g, 8, rfl, D1.new np, by decide, by decide, fun r8 H2 r80 r81 D2 M2 => ⟨r8, rfl, by omega, by omega, ?_⟩⟩
    have M02 : Mv d g H H2 := M1.trans ((Mv.of (Same.new np)).trans M2)
    refine for_range (fun i σ H3 => Deck H3 d g ∧ Mv d g H H3 ∧ ∃ (ws : List Str) (v4 : Option V), σ = [some (.ref d), some (.int n), some (.str abc), some (.ref p), v4, none, none, none, none, none] ∧ H3 p = some (.lst (ws.map V.str)) ∧ (∀ z ∈ ws, Sign z) ∧ ws.length = 1 + i)
      ⟨D2, M02, [⟨#[c0]⟩], none, rfl, M2.at upd_same offp, fun z hz => ⟨c0, List.mem_singleton.mp hz, abc_low c0 hc0⟩, rfl⟩ ?_ ?_
    · rintro i σ H3 hi ⟨D3, M3, ws, v4, rfl, hp, hs, hl⟩
      refine ⟨_, rfl, ty_l (tofL hp), _, rfl, _, rfl, abc, _, rfl, rfl, small (by rw [str_len, str_len, abc_len]; decide), d, g, _, rfl, D3, (fun z => by have := abc9_len; rw [z] at this; cases this), by rw [str_len, abc9_len]; decide, fun c H4 hc4 D4 M4 => ?_⟩
      refine ⟨p, _, _, rfl, rfl, M4.at hp offp, by rw [List.length_map]; exact smallt (by omega), D4.mut offp, (M3.trans M4).mut npH, ws ++ [⟨#[c]⟩], _, rfl, ?_, ?_, ?_⟩
      · rw [upd_same, List.map_append]; rfl
      · intro z hz
        rcases List.mem_append.mp hz with hz | hz
        · exact hs z hz
        · exact ⟨c, List.mem_singleton.mp hz, abc9_low c hc4⟩
      · rw [List.length_append, hl]; rfl
    · rintro σ H3 ⟨D3, M3, ws, v4, rfl, hp, hs, hl⟩
      have hl8 : ws.length ≤ 8 := by omega
      -- at, first, found
      refine ⟨_, rfl, _, rfl, p, _, rfl, .inl (tofL hp), d, g, _, rfl, D3, by rw [List.length_map]; omega, by rw [List.length_map]; omega, fun at_ H4 a0 a1 D4 M4 => ?_⟩
      rw [List.length_map] at a1
      refine ⟨_, rfl, d, g, 26, rfl, D4, by decide, by decide, fun fi H5 f0 f1 D5 M5 => ⟨Nat.zero_le _, fun fn nfn => ?_⟩⟩
      have offn := D5.off nfn
      have hp5 : H5 p = some (.lst (ws.map V.str)) := M5.at (M4.at hp offp) offp
      have npf : p ≠ fn := ne_of_none hp5 nfn
      have M05 : Mv d g H H5 := M3.trans (M4.trans M5)
      have nfH := M05.free D D5 nfn
      refine ⟨_, _, _, rfl, ?_⟩
      -- for k in range(many)
      refine ⟨_, rfl, n, rfl, by omega, by omega, ?_⟩
      refine for_range (fun i σ H6 => Deck H6 d g ∧ Mv d g H H6 ∧ ∃ (ws ns : List Str) (v4 : Option V), σ = [some (.ref d), some (.int n), some (.str abc), some (.ref p), v4, some (.int at_), some (.int fi), some (.ref fn), none, none] ∧
          H6 p = some (.lst (ws.map V.str)) ∧ (∀ z ∈ ws, Sign z) ∧ ws.length ≤ 8 ∧ at_ < ws.length ∧ H6 fn = some (.lst (ns.map V.str)) ∧ ns.length = i ∧ ∀ z ∈ ns, Word z ∧ z.cps.toList.length ≤ 8)
        ⟨D5.new nfn, M05.trans (Mv.of (Same.new nfn)), ws, [], v4, rfl, by rw [upd_ne npf]; exact hp5, hs, hl8, a1, upd_same, rfl, fun z hz => nomatch hz⟩ ?_ ?_
      · rintro i σ H6 hi ⟨D6, M6, ws, ns, v4, rfl, hp, hs, hl, ha, hf, hn, hw⟩
        obtain ⟨c, hcm, ec⟩ := at_in (xs := abc.cps.toList) (r := (fi + 7 * (0 + (i : Nat))) % 26) (Int.emod_nonneg _ (by decide)) (by rw [abc_len]; exact Int.emod_lt_of_pos _ (by decide))
        refine ⟨_, rfl, _, rfl, _, rfl, 7, _, rfl, rfl, mul_small (by decide) (by decide), _, _, rfl, rfl, _, 26, rfl, rfl, (show (0 : Int) < 26 by decide), abc, _, c, rfl, rfl, small (by rw [str_len, abc_len]; decide), ec, ?_⟩
        have hs2 : ∀ z ∈ ws.set at_.toNat ⟨#[c]⟩, Sign z := fun z hz => by
          rcases List.mem_or_eq_of_mem_set hz with hz | rfl
          · exact hs z hz
          · exact ⟨c, rfl, abc_low c hcm⟩
        refine ⟨_, rfl, _, rfl, p, _, at_, at_.toNat, rfl, rfl, hp, ixN_of a0 (by rw [List.length_map]; exact ha), ?_⟩
        have em : (ws.map V.str).set at_.toNat (.str ⟨#[c]⟩) = (ws.set at_.toNat ⟨#[c]⟩).map V.str := by rw [List.map_set]
        rw [em]
        have hf2 : upd H6 p (.lst ((ws.set at_.toNat ⟨#[c]⟩).map V.str)) fn = some (.lst (ns.map V.str)) := by rw [upd_ne npf.symm]; exact hf
        have jw := join_word hs2 (by rw [List.length_set]; omega)
        refine ⟨_, rfl, ty_l (tofL hf2), ⟨_, rfl⟩, _, rfl, "", p, ws.set at_.toNat ⟨#[c]⟩, rfl, rfl, .inl (tofL upd_same), ?_, fn, _, _, rfl, rfl, hf2, by rw [List.length_map]; exact smallt (by omega), (D6.mut offp).mut offn, (M6.mut npH).mut nfH, ws.set at_.toNat ⟨#[c]⟩, ns ++ [Txt.join "" (ws.set at_.toNat ⟨#[c]⟩)], _, rfl, ?_, hs2, by rw [List.length_set]; exact hl, by rw [List.length_set]; exact ha, ?_, ?_, ?_⟩
        · rw [sign_len hs2, List.length_set]
          have : (Str.ofString "").length = 0 := by decide +kernel
          rw [this]
          omega
        · rw [upd_ne npf, upd_same]
        · rw [upd_same, List.map_append]; rfl
        · rw [List.length_append, hn]; rfl
        · intro z hz
          rcases List.mem_append.mp hz with hz | hz
          · exact hw z hz
          · rw [List.mem_singleton.mp hz]
            exact ⟨jw, by rw [← str_len]; exact (show (Txt.join "" (ws.set at_.toNat ⟨#[c]⟩)).length ≤ 8 from by
              rw [str_len]
              have := jw.1
              have e := join_len8 hs2
              rw [e, List.length_set]; exact hl)⟩
      · rintro σ H6 ⟨D6, M6, ws2, ns, v5, rfl, hp6, hs6, hl6, ha6, hf6, hn6, hw6⟩
        have fin : ∀ (Hx : Hp) (x : Addr) (ms : List Str), Deck Hx d g → Mv d g H Hx → Hx x = some (.lst (ms.map V.str)) → (ms.length : Int) = n → (∀ z ∈ ms, Word z) → kTup K (.ref x) Hx Q :=
          fun Hx x ms Dx Mx hx hlx hwx => .inl ⟨x, _, rfl, tofL hx, fun t nt => q t ms _ (Dx.new nt) (Mx.trans (Mv.of (Same.new nt))) upd_same hlx hwx⟩
        -- kept
        refine ⟨(show 9 ≤ sizeLine from small (by decide)), fun kp nkp => ?_⟩
        have s7 := Same.new (o := .lst [.str "check", .str "input", .str "keep", .str "let", .str "mod", .str "names", .str "open", .str "self", .str "take"]) nkp
        have hk7 : upd H6 kp (.lst [.str "check", .str "input", .str "keep", .str "let", .str "mod", .str "names", .str "open", .str "self", .str "take"]) kp = some (.lst [.str "check", .str "input", .str "keep", .str "let", .str "mod", .str "names", .str "open", .str "self", .str "take"]) := upd_same
        revert s7 hk7
        generalize upd H6 kp (.lst [.str "check", .str "input", .str "keep", .str "let", .str "mod", .str "names", .str "open", .str "self", .str "take"]) = H7
        intro s7 hk7
        have D7 := D6.same s7
        have M7 := M6.trans (Mv.of s7)
        -- [name for name in found if name in kept] != []
        refine ⟨_, rfl, fn, rfl, ⟨_, tofL (s7 _ _ hf6)⟩, fun Dl nDl => ?_⟩
        refine lc_list (K := K) (a := fn) (xs := ns.map V.str) (fun i H8 => Same H7 H8 ∧ ∃ zs : List Str, H8 Dl = some (.lst (zs.map V.str)) ∧ zs.length ≤ i ∧ ∀ z ∈ zs, Word z) ⟨Same.new nDl, [], upd_same, Nat.le_refl _, fun z hz => nomatch hz⟩
          (fun i H8 _ h => tofL (h.1 _ _ (s7 _ _ hf6))) ?_ ?_
        · rintro i x H8 hi ⟨s8, zs, hD, hzl, hzw⟩
          obtain ⟨z, rfl, hz, hil⟩ := strs_at hi
          refine ⟨rfl, _, rfl, _, rfl, kp, _, rfl, .inl (tofL (s8 _ _ hk7)), rfl, rfl, _, rfl, ite2 (fun _ => ?_) (fun _ => ?_)⟩
          · refine ⟨_, rfl, _, hD, by rw [List.length_map]; exact smallt (by omega), ?_, zs ++ [z], ?_, ?_, ?_⟩
            · intro b u hb
              rw [upd_ne (ne_of_none hb nDl)]
              exact s8 _ _ hb
            · rw [upd_same, List.map_append]; rfl
            · rw [List.length_append]; exact Nat.succ_le_succ hzl
            · intro y hy
              rcases List.mem_append.mp hy with hy | hy
              · exact hzw y hy
              · rw [List.mem_singleton.mp hy]; exact (hw6 z hz).1
          · exact ⟨s8, zs, hD, by omega, hzw⟩
        · rintro H8 ⟨s8, zs, hD, hzl, hzw⟩
          refine ⟨Nat.zero_le _, fun o no => ?_⟩
          have s9 := s8.trans (Same.new (o := .lst []) no)
          have hD9 := Same.new (o := .lst []) no _ _ hD
          refine ⟨_, _, .lst (tofL hD9) (dpa_strs zs), .lst (tofL upd_same) .nil, shaped_words zs hzw, shaped_ints [], _, rfl, ?_⟩
          have hf9 := s9 _ _ (s7 _ _ hf6)
          revert s9 hf9
          generalize upd H8 o (.lst []) = H9
          intro s9 hf9
          refine ite2 (fun _ => ?_) (fun _ => ?_)
          · refine ⟨_, rfl, fn, _, rfl, tofL hf9, fun D2 nD2 => ?_⟩
            have hnl : ns.length ≤ 6 := by omega
            refine lc_it (walk_enum (K := K) (a := fn) (xs := ns.map V.str)) (fun i H10 => Same H9 H10 ∧ ∃ ms : List Str, H10 D2 = some (.lst (ms.map V.str)) ∧ ms.length = i ∧ ∀ z ∈ ms, Word z) ⟨Same.new nD2, [], upd_same, rfl, fun z hz => nomatch hz⟩
              (fun i H10 _ h => tofL (h.1 _ _ hf9)) ?_ ?_
            · rintro i x H10 H11 hi ⟨s10, ms, hD2, hml, hmw⟩ ⟨t, u, v, rfl, nt, rfl, f1, f2⟩
              rw [List.length_map] at hi
              have e1 : u = .int (i : Nat) := (Option.some.inj f1).symm
              subst e1
              obtain ⟨z, rfl, hz, hil⟩ := strs_at f2
              have hzw := hw6 z hz
              have hcw := cut_word hzw.1 (Nat.le_trans hzw.2 (by decide)) none (some 1)
              have hnw := num_word i (by omega)
              have nDt : D2 ≠ t := ne_of_none hD2 nt
              refine ⟨t, _, rfl, tofT upd_same, rfl, _, _, rfl, _, _, rfl, rfl, rfl, ?_⟩
              refine ⟨_, rfl, 1, rfl, z, rfl, small (by rw [str_len]; have := hzw.2; omega), _, rfl, (i : Int), rfl, log_small i (by omega), _, _, rfl, rfl, small (by rw [str_len, str_len]; have := hcw.1; have := hnw.1; omega), _, (by rw [upd_ne nDt]; exact hD2), by rw [List.length_map]; exact smallt (by omega), ?_, ms ++ [cutS z none (some 1) ++ Str.ofString (toString (i : Int))], ?_, ?_, ?_⟩
              · intro b o hb
                rw [upd_ne (ne_of_none hb nD2), upd_ne (ne_of_none (s10 _ _ hb) nt)]
                exact s10 _ _ hb
              · rw [upd_same, List.map_append]; rfl
              · rw [List.length_append, hml]; rfl
              · intro y hy
                rcases List.mem_append.mp hy with hy | hy
                · exact hmw y hy
                · rw [List.mem_singleton.mp hy]
                  refine ⟨?_, fun c hc => ?_⟩
                  · rw [app_list, List.length_append]
                    have := hcw.1
                    have := hnw.1
                    omega
                  · rw [app_list] at hc
                    rcases List.mem_append.mp hc with hc | hc
                    · exact hcw.2 c hc
                    · exact hnw.2 c hc
            · rintro H10 ⟨s10, ms, hD2, hml, hmw⟩
              rw [List.length_map] at hml
              exact ⟨_, rfl, fin H10 D2 ms ((D7.same s9).same s10) (M7.trans ((Mv.of s9).trans (Mv.of s10))) hD2 (by omega) hmw⟩
          · exact ⟨_, rfl, fin H9 fn ns (D7.same s9) (M7.trans (Mv.of s9)) hf9 (by omega) fun z hz => (hw6 z hz).1⟩
end
end K6
namespace K6
open PySem PySem.Spec PyProof.Rows L2 GL RZ TL
theorem cut_take (ms : List Int) {j : Nat} (h : j ≤ ms.length) : cutV (ms.map V.int) none (some (j : Int)) = (ms.take j).map V.int := by
  rw [cut_map, HT.sIx_none, HT.sIx_nat, Nat.min_eq_left h, Nat.sub_zero, List.drop_zero]
theorem cut_drop (ms : List Int) {j : Nat} (h : j ≤ ms.length) : cutV (ms.map V.int) (some (j : Int)) none = (ms.drop j).map V.int := by
  rw [cut_map, HT.sIx_none, HT.sIx_nat, Nat.min_eq_left h, List.take_of_length_le (by rw [List.length_drop]; exact Nat.le_refl _)]
def rowD (r : Row) : PyData := .tuple [.tuple (r.1.map PyData.int), .int r.2]
def rstD (r : Rst) : PyData := .tuple [.tuple (r.1.map PyData.int), .int r.2.1, .int r.2.2]
theorem dp_rows {K : PySem.W.Frag} {H : Hp} : ∀ {xs : List V} {rs : List Row}, RowsAt H xs rs → DpAll K H xs (rs.map rowD)
  | _, _, .nil => .nil
  | _, _, .cons a b t => .cons (.tup (tofT a) (.cons (.tup (tofT b) (dpa_ints _)) (.cons (.int _) .nil))) (dp_rows t)
theorem dp_rests {K : PySem.W.Frag} {H : Hp} : ∀ {xs : List V} {rs : List Rst}, RestsAt H xs rs → DpAll K H xs (rs.map rstD)
  | _, _, .nil => .nil
  | _, _, .cons a b t => .cons (.tup (tofT a) (.cons (.tup (tofT b) (dpa_ints _)) (.cons (.int _) (.cons (.int _) .nil)))) (dp_rests t)
theorem nice_fs {n : Nat} {fs : List Int} (h : Fine n fs) (hn : n ≤ 6) : Nice 45 1 (.tuple (fs.map PyData.int)) := by
  have h1 : ∀ d ∈ fs.map PyData.int, Nice 5 0 d := fun d hd => by
    obtain ⟨f, hf, rfl⟩ := List.mem_map.mp hd
    have := h.2 f hf
    exact Nice.int (by omega) (by omega)
  exact Nice.tup (n := 6) h1 (by rw [List.length_map, h.1]; exact hn)
theorem nice_rows {n : Nat} {rs : List Row} (h : FineR n rs) (hn : n ≤ 6) (hl : rs.length ≤ 4) : Nice 500 3 (.tuple (rs.map rowD)) := by
  have h1 : ∀ d ∈ rs.map rowD, Nice 97 2 d := fun d hd => by
    obtain ⟨r, hr, rfl⟩ := List.mem_map.mp hd
    have hf := h r hr
    have h2 : ∀ d ∈ [PyData.tuple (r.1.map PyData.int), PyData.int r.2], Nice 45 1 d := fun d hd => by
      rcases List.mem_cons.mp hd with rfl | hd
      · exact nice_fs hf.1 hn
      · rw [List.mem_singleton.mp hd]
        exact (Nice.int (by omega) (by omega)).mono (by decide) (by decide)
    exact Nice.tup (n := 2) h2 (Nat.le_refl _)
  exact (Nice.tup (n := 4) h1 (by rw [List.length_map]; exact hl)).mono (by decide) (by decide)
theorem nice_rests {n : Nat} {rs : List Rst} (h : FineS n rs) (hn : n ≤ 6) (hl : rs.length ≤ 3) : Nice 500 3 (.tuple (rs.map rstD)) := by
  have h1 : ∀ d ∈ rs.map rstD, Nice 144 2 d := fun d hd => by
    obtain ⟨r, hr, rfl⟩ := List.mem_map.mp hd
    have hf := h r hr
    have h2 : ∀ d ∈ [PyData.tuple (r.1.map PyData.int), PyData.int r.2.1, PyData.int r.2.2], Nice 45 1 d := fun d hd => by
      rcases List.mem_cons.mp hd with rfl | hd
      · exact nice_fs hf.1 hn
      rcases List.mem_cons.mp hd with rfl | hd
      · exact (Nice.int (by omega) (by omega)).mono (by decide) (by decide)
      · rw [List.mem_singleton.mp hd]
        exact (Nice.int (by omega) (by omega)).mono (by decide) (by decide)
    exact Nice.tup (n := 3) h2 (Nat.le_refl _)
  exact (Nice.tup (n := 3) h1 (by rw [List.length_map]; exact hl)).mono (by decide) (by decide)
theorem nice_names {ns : List Str} (h : ∀ z ∈ ns, Word z) (hl : ns.length ≤ 6) : Nice 3000 1 (.tuple (ns.map PyData.str)) := by
  have h1 : ∀ d ∈ ns.map PyData.str, Nice 402 0 d := fun d hd => by
    obtain ⟨z, hz, rfl⟩ := List.mem_map.mp hd
    exact Nice.str (n := 40) (h z hz).1 (h z hz).2
  exact (Nice.tup (n := 6) h1 (by rw [List.length_map]; exact hl)).mono (by decide) (by decide)
theorem nice_two (b c : Bool) : Nice 17 1 (.list [.bool b, .bool c]) := by
  have h1 : ∀ d ∈ [PyData.bool b, PyData.bool c], Nice 5 0 d := fun d hd => by
    rcases List.mem_cons.mp hd with rfl | hd
    · exact Nice.bl b
    · rw [List.mem_singleton.mp hd]; exact Nice.bl c
  exact Nice.lst (n := 2) h1 (Nat.le_refl _)
theorem nice_bare (b : Bool) : Nice 100 2 (.list [.tuple [], .bool b]) := by
  have h1 : ∀ d ∈ [PyData.tuple [], PyData.bool b], Nice 5 1 d := fun d hd => by
    rcases List.mem_cons.mp hd with rfl | hd
    · have := Nice.tup (B := 0) (k := 0) (n := 0) (ds := []) (fun d hd => nomatch hd) (Nat.le_refl _)
      exact this.mono (by decide) (by decide)
    · rw [List.mem_singleton.mp hd]; exact (Nice.bl b).mono (by decide) (by decide)
  exact (Nice.lst (n := 2) h1 (Nat.le_refl _)).mono (by decide) (by decide)
theorem nice_all {ns : List Str} {rows : List Row} {rests : List Rst} {n : Nat} (h1 : ∀ z ∈ ns, Word z) (l1 : ns.length ≤ 6) (h2 : FineR n rows) (l2 : rows.length ≤ 4) (h3 : FineS n rests) (l3 : rests.length ≤ 3) (hn : n ≤ 6) :
    Nice 20000 4 (.list [.tuple (ns.map PyData.str), .tuple (rows.map rowD), .tuple (rests.map rstD)]) := by
  have h : ∀ d ∈ [PyData.tuple (ns.map PyData.str), PyData.tuple (rows.map rowD), PyData.tuple (rests.map rstD)], Nice 3000 3 d := fun d hd => by
    rcases List.mem_cons.mp hd with rfl | hd
    · exact (nice_names h1 l1).mono (by decide) (by decide)
    rcases List.mem_cons.mp hd with rfl | hd
    · exact (nice_rows h2 hn l2).mono (by decide) (by decide)
    · rw [List.mem_singleton.mp hd]
      exact (nice_rests h3 hn l3).mono (by decide) (by decide)
  exact (Nice.lst (n := 3) h (Nat.le_refl _)).mono (by decide) (by decide)
theorem noPart_of {σ : L2.St} {H : Hp} {Q : Option Int → Hp → Prop} (h : Q none H) : tNoPart σ H Q := h
def spRight : Sp := fun vs H Q _ => ∃ (d g : Addr), vs = [.ref d] ∧ Deck H d g ∧ ∀ H', Deck H' d g → Mv d g H H' → Q (.bl true) H'
/-- the tuples that are tried -/
def Tried (K : PySem.W.Frag) (n : Nat) (H : Hp) (xs : List V) : Prop := ∀ x ∈ xs, ∃ (t : Addr) (ms : List Int), x = .ref t ∧ SqT K H t (ms.map V.int) ∧ ms.length = n
section
variable {P : Program} {w : World} {K : PySem.W.Frag} {mg : Str → Option Value} {base : Heap}
abbrev s_right : Stmt := topS 36
theorem sc_right : FnScope ["_law_deck_here", "_law_many", "_law_called_here", "_law_far", "_law_some", "_law_k", "_law_lines", "_law_pieces", "_law_factors_here", "_law_by", "_law_made", "_law_tries", "_law_at", "_law_x", "_law_item", "_law_due_here", "_law_bare"] ["_law_deck_here"] (defScope s_right) := ⟨rfl, rfl, rfl, by decide +kernel, rfl, by decide +kernel, by decide +kernel⟩
theorem ok_right {f C fI fF E0 : Addr} {fd fdI fdF : FuncData} {u3 : List Value} (F : Fun K "_law_right" "_law_right" s_right f fd) (gl : mg "_law_right" = some (.ref f)) (T : Bl mg) (S : Sys K mg C)
    (D_draw : DefG P w K mg base 1 "_law_draw" ["_law_deck_here", "_law_many"] spDraw) (D_pick : DefG P w K mg base 2 "_law_pick" ["_law_deck_here", "_law_some"] spPickL)
    (D_called : DefG P w K mg base 3 "_law_called" ["_law_deck_here", "_law_many"] spCalled) (D_sum : DefG P w K mg base 1 "_law_sum" ["_law_row", "_law_some"] (spSum K))
    (D_constant : DefG P w K mg base 2 "_law_constant" ["_law_deck_here", "_law_worth"] spConst) (D_factors : DefG P w K mg base 3 "_law_factors" ["_law_deck_here", "_law_many"] spFactors)
    (D_due : DefG P w K mg base 2 "_law_due" ["_law_lines", "_law_pieces", "_law_some"] (spDue K))
    (MK : Mk K C fI) (FI : FnG P w K mg base CX0 1 fI fdI ["self", "names", "rows", "rests"] (spInit C)) (B4 : Binds K fdI ["self", "names", "rows", "rests"] []) (B3 : Binds K fdI ["self", "names", "rows", "rests"] u3) (V3 : Vals [.ref E0] u3)
    (KB : ∃ g, KBn K fdI ["self", "names", "rows", "rests"] 1 ["rests", "rows", "names"] g (fun vs zs => vs ++ zs.reverse))
    (MF : Meth K C "fulfils" fF) (FF : FnG P w K mg base CX0 2 fF fdF ["self", "numbers"] (spFul K C)) (BF : Binds K fdF ["self", "numbers"] []) (KF : ∃ g, KBn K fdF ["self", "numbers"] 1 ["numbers"] g (fun vs zs => vs ++ zs))
    (hE : ∀ H : Hp, SqT K H E0 []) : DefG P w K mg base 4 "_law_right" ["_law_deck_here"] spRight := by
  obtain ⟨gB, KB⟩ := KB
  obtain ⟨gF, KF⟩ := KF
  refine def_mk F gl (F.binds fun _ _ _ _ _ _ us hl => match us, hl with | [_], _ => rfl) (okG F sc_right (fun vs H Q E h => ?_) fun cdv A outer s H vs Q E hr hc h => ?_)
  · obtain ⟨d, g, rfl, _⟩ := h
    rfl
  · obtain ⟨d, g, rfl, D, q⟩ := h
    have nd := sc_right.nd
    have hu100 : (A.deeper (envOfC "_law_right" (defScope s_right) s.heap.objs.size f cdv)).units + 100 < cLine := by have := hr.un; omega
    refine ⟨_, (pss_cons (ps_set (i := 1) nd rfl (by first | exact Or.inl rfl | exact Or.inr rfl) (pe_op op_add pe_int (pe_def D_draw (hr.mono (by decide)) hc (by rfl) (pa_cons (pv 0) (pa_cons pe_int pa_nil)))))
      (pss_cons (ps_asg (pe_tup (pa_cons (pe_def D_called (hr.mono (by decide)) hc (by rfl) (pa_cons (pv 0) (pa_cons (pv 1) pa_nil))) (pa_cons (pe_def D_pick (hr.mono (by decide)) hc (by rfl) (pa_cons (pv 0) (pa_cons (pe_lst (pa_cons pe_int (pa_cons pe_int (pa_cons pe_int (pa_cons pe_int (pa_cons (pe_op op_pow pe_int pe_int) pa_nil)))))) pa_nil))) pa_nil))) (pg_tup rfl (pgs_cons (pg_name (i := 2) nd rfl (by first | exact Or.inl rfl | exact Or.inr rfl)) (pgs_cons (pg_name (i := 3) nd rfl (by first | exact Or.inl rfl | exact Or.inr rfl)) pgs_nil))))
      (C8.pss_cut (ps_set (i := 4) nd rfl (by first | exact Or.inl rfl | exact Or.inr rfl) (pe_tupleOf (by rfl) T.tuple (pe_lc (own := [("_law_k", 5)]) (g := (gName 5)) (tt := tYes) rfl nd (pi_range1 (by rfl) T.range (pa_cons (pv 1) pa_nil)) (blkOk_by (own := [("_law_k", 5)]) (N := ["_law_deck_here", "_law_many", "_law_called_here", "_law_far", "_law_some", "_law_k", "_law_lines", "_law_pieces", "_law_factors_here", "_law_by", "_law_made", "_law_tries", "_law_at", "_law_x", "_law_item", "_law_due_here", "_law_bare"]) (sc := defScope s_right) (by decide +kernel)) (fun _ _ _ _ _ => (pg_name (i := 5) nd rfl (by first | exact Or.inl rfl | exact Or.inr rfl))) (fun _ _ _ _ _ => pts_nil) (fun _ _ _ _ _ => (pe_op op_sub (pe_def D_draw (hr.mono (by decide)) hc (by rfl) (pa_cons (pv 0) (pa_cons (pe_op op_add (pe_op op_mul pe_int (pv 3)) pe_int) pa_nil))) (pv 3))))))
      (pss_cons (ps_par (i := 6) (j := 7) rfl nd rfl rfl (by decide) rfl rfl (pa_cons (pe_lst pa_nil) (pa_cons (pe_lst pa_nil) pa_nil)) rfl)
      (pss_cons (ps_for PassesOwn.never rfl (pi_range1 (by rfl) T.range (pa_cons (pe_def D_draw (hr.mono (by decide)) hc (by rfl) (pa_cons (pv 0) (pa_cons pe_int pa_nil))) pa_nil)) (pg_name (i := 5) nd rfl (by first | exact Or.inl rfl | exact Or.inr rfl))
        (pss_cons (ps_set (i := 8) nd rfl (by first | exact Or.inl rfl | exact Or.inr rfl) (pe_def D_factors (hr.mono (by decide)) hc (by rfl) (pa_cons (pv 0) (pa_cons (pv 1) pa_nil))))
        (pss_one (ps_expr (pe_bm PySem.F.plainAttrs_list PySem.F.slot_list_append PySem.F.type_list_append mt_append (pv 6) (pa_cons (pe_tup (pa_cons (pv 8) (pa_cons (pe_def D_constant (hr.mono (by decide)) hc (by rfl) (pa_cons (pv 0) (pa_cons (pe_def D_sum (hr.mono (by decide)) hc (by rfl) (pa_cons (pv 8) (pa_cons (pv 4) pa_nil))) pa_nil))) pa_nil))) pa_nil))))))
      (pss_cons (ps_for PassesOwn.never rfl (pi_range1 (by rfl) T.range (pa_cons (pe_def D_draw (hr.mono (by decide)) hc (by rfl) (pa_cons (pv 0) (pa_cons pe_int pa_nil))) pa_nil)) (pg_name (i := 5) nd rfl (by first | exact Or.inl rfl | exact Or.inr rfl))
        (pss_cons (ps_par (i := 8) (j := 9) rfl nd rfl rfl (by decide) rfl rfl (pa_cons (pe_def D_factors (hr.mono (by decide)) hc (by rfl) (pa_cons (pv 0) (pa_cons (pv 1) pa_nil))) (pa_cons (pe_op op_add pe_int (pe_def D_draw (hr.mono (by decide)) hc (by rfl) (pa_cons (pv 0) (pa_cons pe_int pa_nil)))) pa_nil)) rfl)
        (pss_one (ps_expr (pe_bm PySem.F.plainAttrs_list PySem.F.slot_list_append PySem.F.type_list_append mt_append (pv 7) (pa_cons (pe_tup (pa_cons (pv 8) (pa_cons (pe_def D_constant (hr.mono (by decide)) hc (by rfl) (pa_cons (pv 0) (pa_cons (pe_op op_sub (pe_op op_mod (pe_callTy call_int1 (by rfl) T.int boot_int (pa_cons (pe_def D_sum (hr.mono (by decide)) hc (by rfl) (pa_cons (pv 8) (pa_cons (pv 4) pa_nil))) pa_nil)) (pv 9)) (pe_op op_mul (pv 9) (pe_def D_draw (hr.mono (by decide)) hc (by rfl) (pa_cons (pv 0) (pa_cons pe_int pa_nil))))) pa_nil))) (pa_cons (pv 9) pa_nil)))) pa_nil))))))
      (C8.pss_cut (ps_par (i := 6) (j := 7) rfl nd rfl rfl (by decide) rfl rfl (pa_cons (pe_tupleOf (by rfl) T.tuple (pv 6)) (pa_cons (pe_tupleOf (by rfl) T.tuple (pv 7)) pa_nil)) rfl)
      (pss_cons (ps_set (i := 10) nd rfl (by first | exact Or.inl rfl | exact Or.inr rfl) (pe_makeG MK FI (hr.mono (by decide)) hc (by rfl) S.mgC B4 .nil pass0 (pa_cons (pv 2) (pa_cons (pv 6) (pa_cons (pv 7) pa_nil)))))
      (C8.pss_cut (ps_if (pt_cmpR op_eq (pe_def D_draw (hr.mono (by decide)) hc (by rfl) (pa_cons (pv 0) (pa_cons pe_int pa_nil))) pe_int (nomark _))
        (pss_one (ps_set (i := 10) nd rfl (by first | exact Or.inl rfl | exact Or.inr rfl) (pe_makeKG0 MK FI (hr.mono (by decide)) hc (by rfl) S.mgC KB pass0 (pk_cons (pv 7) (pk_cons (pv 6) (pk_cons (pv 2) pk_nil))))))
        pss_nil)
      (pss_cons (ps_set (i := 11) nd rfl (by first | exact Or.inl rfl | exact Or.inr rfl) (pe_lst (pa_cons (pv 4) pa_nil)))
      (pss_cons (ps_for PassesOwn.never rfl (pi_range1 (by rfl) T.range (pa_cons pe_int pa_nil)) (pg_name (i := 5) nd rfl (by first | exact Or.inl rfl | exact Or.inr rfl))
        (pss_cons (ps_par (i := 12) (j := 9) rfl nd rfl rfl (by decide) rfl rfl (pa_cons (pe_def D_draw (hr.mono (by decide)) hc (by rfl) (pa_cons (pv 0) (pa_cons (pv 1) pa_nil))) (pa_cons (pe_def D_pick (hr.mono (by decide)) hc (by rfl) (pa_cons (pv 0) (pa_cons (pe_lst (pa_cons pe_int (pa_cons (pe_un un_neg pe_int) (pa_cons pe_int (pa_cons pe_int (pa_cons (pe_un un_neg pe_int) (pa_cons pe_int pa_nil))))))) pa_nil))) pa_nil)) rfl)
        (pss_one (ps_expr (pe_bm PySem.F.plainAttrs_list PySem.F.slot_list_append PySem.F.type_list_append mt_append (pv 11) (pa_cons (pe_op op_catA (pe_op op_catA (pe_slice sl_tupA (pv 4) po_none (po_some (pv 12))) (pe_tup (pa_cons (pe_op op_add (pe_ix ix_tup (pv 4) (pv 12) (fun _ _ => rfl)) (pv 9)) pa_nil))) (pe_slice sl_tupA (pv 4) (po_some (pe_op op_add (pv 12) pe_int)) po_none)) pa_nil))))))
      (pss_cons (ps_expr (pe_bm PySem.F.plainAttrs_list PySem.F.slot_list_append PySem.F.type_list_append mt_append (pv 11) (pa_cons (pe_tupleOf (by rfl) T.tuple (pe_lc (own := [("_law_x", 13)]) (g := (gName 13)) (tt := tYes) rfl nd (pi_tup (pv 4)) (blkOk_by (own := [("_law_x", 13)]) (N := ["_law_deck_here", "_law_many", "_law_called_here", "_law_far", "_law_some", "_law_k", "_law_lines", "_law_pieces", "_law_factors_here", "_law_by", "_law_made", "_law_tries", "_law_at", "_law_x", "_law_item", "_law_due_here", "_law_bare"]) (sc := defScope s_right) (by decide +kernel)) (fun _ _ _ _ _ => (pg_name (i := 13) nd rfl (by first | exact Or.inl rfl | exact Or.inr rfl))) (fun _ _ _ _ _ => pts_nil) (fun _ _ _ _ _ => (pe_op op_sub pe_int (pv 13))))) pa_nil)))
      (C8.pss_cut (ps_for PassesOwn.never rfl (pi_list (pv 11)) (pg_name (i := 14) nd rfl (by first | exact Or.inl rfl | exact Or.inr rfl))
        (pss_cons (ps_set (i := 15) nd rfl (by first | exact Or.inl rfl | exact Or.inr rfl) (pe_def D_due (hr.mono (by decide)) hc (by rfl) (pa_cons (pv 6) (pa_cons (pv 7) (pa_cons (pv 14) pa_nil)))))
        (pss_one (ps_if (pt_cmpR op_ne (pe_callB (call_reprN hc hu100) (by rfl) T.repr boot_repr (pa_cons (pe_lst (pa_cons (pe_methG (pv 10) S.cl MF FF (hr.mono (by decide)) hc BF .nil pass0 (pa_cons (pv 14) pa_nil)) (pa_cons (pe_methKG (pv 10) S.cl MF FF (hr.mono (by decide)) hc KF pass0 (pk_cons (pv 14) pk_nil)) pa_nil))) pa_nil)) (pe_callB (call_reprN hc hu100) (by rfl) T.repr boot_repr (pa_cons (pe_lst (pa_cons (pv 15) (pa_cons (pv 15) pa_nil))) pa_nil)) (nomark _))
          (pss_one (ps_ret pe_bl))
          pss_nil))))
      (pss_cons (ps_set (i := 16) nd rfl (by first | exact Or.inl rfl | exact Or.inr rfl) (pe_makeG MK FI (hr.mono (by decide)) hc (by rfl) S.mgC B3 V3 pass0 (pa_cons (pv 2) (pa_cons (pv 6) pa_nil))))
      (pss_cons (ps_if (pt_cmpR op_ne (pe_callB (call_reprN hc hu100) (by rfl) T.repr boot_repr (pa_cons (pe_lst (pa_cons (pe_fld (pv 16) rfl) (pa_cons (pe_methG (pv 16) S.cl MF FF (hr.mono (by decide)) hc BF .nil pass0 (pa_cons (pv 4) pa_nil)) pa_nil))) pa_nil)) (pe_callB (call_reprN hc hu100) (by rfl) T.repr boot_repr (pa_cons (pe_lst (pa_cons (pe_tup pa_nil) (pa_cons (pe_def D_due (hr.mono (by decide)) hc (by rfl) (pa_cons (pv 6) (pa_cons (pe_tup pa_nil) (pa_cons (pv 4) pa_nil)))) pa_nil))) pa_nil)) (nomark _))
        (pss_one (ps_ret pe_bl))
        pss_nil)
      (pss_one (ps_ret (pe_cmpR op_eq (pe_callB (call_reprN hc hu100) (by rfl) T.repr boot_repr (pa_cons (pe_lst (pa_cons (pe_fld (pv 10) rfl) (pa_cons (pe_fld (pv 10) rfl) (pa_cons (pe_fld (pv 10) rfl) pa_nil)))) pa_nil)) (pe_callB (call_reprN hc hu100) (by rfl) T.repr boot_repr (pa_cons (pe_lst (pa_cons (pv 2) (pa_cons (pv 6) (pa_cons (pv 7) pa_nil)))) pa_nil)) (nomark _))))))))))))))))))), ?_⟩
    -- many = 1 + draw(6); called, far
    refine ⟨_, rfl, d, g, 6, rfl, D, by decide, by decide, fun r H1 r0 r1 D1 M1 => ⟨1, r, rfl, rfl, ?_⟩⟩
    refine ⟨_, rfl, _, rfl, d, g, 1 + r, rfl, D1, by omega, by omega, fun pn ns H2 D2 M2 hpn hnl hnw => ?_⟩
    refine ⟨_, rfl, 10, 30, rfl, rfl, ⟨by decide, by decide, by decide⟩, (show 5 ≤ sizeLine from small (by decide)), fun pf npf => ?_⟩
    refine ⟨d, g, pf, _, rfl, D2.new npf, upd_same, (D2.off npf).2, (fun z => nomatch z), (show 5 ≤ 1000 by decide), fun x H3 hx D3 M3 => ?_⟩
    have hk : ∃ k : Int, x = .int k ∧ 1 ≤ k ∧ k ≤ 10 ^ 30 := by
      rcases List.mem_cons.mp hx with rfl | hx
      · exact ⟨1, rfl, by decide, by decide +kernel⟩
      rcases List.mem_cons.mp hx with rfl | hx
      · exact ⟨3, rfl, by decide, by decide +kernel⟩
      rcases List.mem_cons.mp hx with rfl | hx
      · exact ⟨9, rfl, by decide, by decide +kernel⟩
      rcases List.mem_cons.mp hx with rfl | hx
      · exact ⟨100, rfl, by decide, by decide +kernel⟩
      rcases List.mem_cons.mp hx with rfl | hx
      · exact ⟨_, rfl, by decide +kernel, by decide +kernel⟩
      · cases hx
    obtain ⟨far, rfl, far0, far1⟩ := hk
    have M13 : Mv d g H H3 := M1.trans (M2.trans ((Mv.of (Same.new npf)).trans M3))
    have hpn3 : SqT K H3 pn (ns.map V.str) := sq_mv (D2.new npf) M3 (Same.tup (Same.new npf) (tofT hpn))
    refine ⟨(show 2 ≤ sizeLine from small (by decide)), fun tq ntq => ⟨tq, _, rfl, tofT upd_same, rfl, _, _, rfl, _, _, rfl, rfl, ?_⟩⟩
    have sq4 := Same.new (o := .tup [.ref pn, .int far]) ntq
    have D4 := D3.same sq4
    have M4 := M13.trans (Mv.of sq4)
    have hpn4 : SqT K (upd H3 tq (.tup [.ref pn, .int far])) pn (ns.map V.str) := Same.tup sq4 hpn3
    revert D4 M4 hpn4
    generalize upd H3 tq (.tup [.ref pn, .int far]) = H4
    intro D4 M4 hpn4
    -- some
    refine ⟨fun σ Hx => ∃ (psm : Addr) (ms : List Int) (v5 : Option V), σ = [some (.ref d), some (.int (1 + r)), some (.ref pn), some (.int far), some (.ref psm), v5, none, none, none, none, none, none, none, none, none, none, none] ∧
        Deck Hx d g ∧ Mv d g H Hx ∧ SqT K Hx pn (ns.map V.str) ∧ SqT K Hx psm (ms.map V.int) ∧ (ms.length : Int) = 1 + r, ?_, ?_⟩
    · refine ⟨_, rfl, 1 + r, rfl, by omega, by omega, fun Dl nDl => ?_⟩
      have offD := D4.off nDl
      refine lc_range (fun i Hx => Deck Hx d g ∧ Mv d g H4 Hx ∧ ∃ ms : List Int, Hx Dl = some (.lst (ms.map V.int)) ∧ ms.length = i) ⟨D4.new nDl, Mv.of (Same.new nDl), [], upd_same, rfl⟩ ?_ ?_
      · rintro i Hx hi ⟨Dx, Mx, ms, hD, hml⟩
        refine ⟨rfl, _, rfl, _, rfl, 2, far, rfl, rfl, .inl ⟨by decide, by decide⟩, _, _, rfl, rfl, d, g, _, rfl, Dx, by omega, by omega, fun r2 Hy _ _ Dy My => ?_⟩
        refine ⟨_, rfl, r2, far, rfl, rfl, _, My.at hD offD, ?_, Dy.mut offD, (Mx.trans My).mut nDl, ms ++ [r2 - far], ?_, ?_⟩
        · rw [List.length_map]; exact smallt (by omega)
        · rw [upd_same, List.map_append]; rfl
        · rw [List.length_append, hml]; rfl
      · rintro Hx ⟨Dx, Mx, ms, hD, hml⟩
        refine .inl ⟨Dl, _, rfl, tofL hD, fun t nt => ⟨t, ms, _, rfl, Dx.new nt, M4.trans (Mx.trans (Mv.of (Same.new nt))), Same.tup (Same.new nt) (sq_mv D4 Mx hpn4), tofT upd_same, by omega⟩⟩
    rintro σ H0 ⟨psm, ms, v5, rfl, D0, M0, hN, hM, hml⟩
    have hm6 : ms.length ≤ 6 := by omega
    -- lines, pieces
    refine ⟨Nat.zero_le _, fun pl npl => ⟨Nat.zero_le _, fun pp npp => ⟨_, _, rfl, ?_⟩⟩⟩
    have offl := D0.off npl
    have offp := (D0.new npl).off npp
    have nlp : pl ≠ pp := ne_of_none upd_same npp
    have npp0 : H0 pp = none := (Same.new npl).free npp
    -- for k in range(draw(5))
    refine ⟨_, rfl, d, g, 5, rfl, (D0.new npl).new npp, by decide, by decide, fun r5 H5 r50 r51 D5 M5 => ⟨r5, rfl, by omega, by omega, ?_⟩⟩
    have M05 : Mv d g H0 H5 := (Mv.of ((Same.new npl).trans (Same.new npp))).trans M5
    refine for_range (fun i σ Hx => Deck Hx d g ∧ Mv d g H0 Hx ∧ ∃ (xs : List V) (rows : List Row) (v5 v8 : Option V), σ = [some (.ref d), some (.int (1 + r)), some (.ref pn), some (.int far), some (.ref psm), v5, some (.ref pl), some (.ref pp), v8, none, none, none, none, none, none, none, none] ∧
        Hx pl = some (.lst xs) ∧ RowsAt Hx xs rows ∧ rows.length = i ∧ FineR ms.length rows ∧ Hx pp = some (.lst []))
      ⟨D5, M05, [], [], v5, none, rfl, M5.at (by rw [upd_ne nlp]; exact upd_same) offl, .nil, rfl, (fun z hz => nomatch hz), M5.at upd_same offp⟩ ?_ ?_
    · rintro i σ Hx hi ⟨Dx, Mx, xs, rows, v5, v8, rfl, hl, hr, hrl, hf, hp⟩
      refine ⟨_, rfl, _, rfl, d, g, _, rfl, Dx, by omega, by omega, fun pf fs Hy Dy My hpf hfl hff => ?_⟩
      have fine : Fine ms.length fs := ⟨by omega, hff⟩
      have hMy : SqT K Hy psm (ms.map V.int) := sq_mv D0 (Mx.trans My) hM
      refine ⟨_, rfl, ty_l (tofL (My.at hl offl)), _, rfl, _, rfl, _, rfl, _, rfl, pf, psm, fs, ms, rfl, tofT hpf, hMy, fine.1, by have := fine.1; omega, fine.small, d, g, _, rfl, Dy, fun c Hz c0 c1 Dz Mz => ⟨(show 2 ≤ sizeLine from small (by decide)), fun t nt => ?_⟩⟩
      have Mxz := My.trans Mz
      have hlz : Hz pl = some (.lst xs) := Mz.at (My.at hl offl) offl
      have ntl : pl ≠ t := ne_of_none hlz nt
      have ntp : pp ≠ t := ne_of_none (Mz.at (My.at hp offp) offp) nt
      have hpfz := tups_mv Dy Mz _ _ hpf
      refine ⟨pl, _, _, rfl, rfl, by rw [upd_ne ntl]; exact hlz, by rw [hr.len]; exact smallt (by omega), (Dz.new nt).mut offl, ((Mx.trans Mxz).trans (Mv.of (Same.new nt))).mut npl, xs ++ [.ref t], rows ++ [(fs, c)], _, _, rfl, upd_same, ?_, ?_, ?_, ?_⟩
      · have kt : ∀ a ys, Hx a = some (.tup ys) → upd (upd Hz t (.tup [.ref pf, .int c])) pl (.lst (xs ++ [.ref t])) a = some (.tup ys) := fun a ys ha => by
          rw [upd_ne (ne_of ha hl (fun z => nomatch z))]
          exact Same.new nt _ _ (tups_mv Dx Mxz _ _ ha)
        refine RowsAt.snoc (q := pf) ?_ ?_ (hr.to kt)
        · rw [upd_ne ntl.symm]; exact upd_same
        · rw [upd_ne (ne_of hpfz hlz (fun z => nomatch z))]
          exact Same.new nt _ _ hpfz
      · rw [List.length_append, hrl]; rfl
      · intro z hz
        rcases List.mem_append.mp hz with hz | hz
        · exact hf z hz
        · rw [List.mem_singleton.mp hz]; exact ⟨fine, c0, c1⟩
      · rw [upd_ne nlp.symm, upd_ne ntp]
        exact Mz.at (My.at hp offp) offp
    rintro σ H6 ⟨D6, M6, xs, rows, v5, v8, rfl, hl6, hr6, hrl, fR, hp6⟩
    -- for k in range(draw(4))
    refine ⟨_, rfl, d, g, 4, rfl, D6, by decide, by decide, fun r4 H7 r40 r41 D7 M7 => ⟨r4, rfl, by omega, by omega, ?_⟩⟩
    refine for_range (fun i σ Hx => Deck Hx d g ∧ Mv d g H0 Hx ∧ ∃ (ys : List V) (rests : List Rst) (v5 v8 v9 : Option V), σ = [some (.ref d), some (.int (1 + r)), some (.ref pn), some (.int far), some (.ref psm), v5, some (.ref pl), some (.ref pp), v8, v9, none, none, none, none, none, none, none] ∧
        Hx pl = some (.lst xs) ∧ RowsAt Hx xs rows ∧ Hx pp = some (.lst ys) ∧ RestsAt Hx ys rests ∧ rests.length = i ∧ FineS ms.length rests)
      ⟨D7, M6.trans M7, [], [], v5, v8, none, rfl, M7.at hl6 offl, hr6.to (tups_mv D6 M7), M7.at hp6 offp, .nil, rfl, (fun z hz => nomatch hz)⟩ ?_ ?_
    · rintro i σ Hx hi ⟨Dx, Mx, ys, rests, v5, v8, v9, rfl, hl, hr, hp, hs, hsl, hf⟩
      refine ⟨_, rfl, _, rfl, d, g, _, rfl, Dx, by omega, by omega, fun pf fs Hy Dy My hpf hfl hff => ?_⟩
      refine ⟨_, rfl, d, g, 11, rfl, Dy, by decide, by decide, fun r11 Hw r110 r111 Dw Mw => ⟨2, r11, rfl, rfl, _, _, rfl, ?_⟩⟩
      have fine : Fine ms.length fs := ⟨by omega, hff⟩
      have Mxw := My.trans Mw
      have hpfw := tups_mv Dy Mw _ _ hpf
      have hMw : SqT K Hw psm (ms.map V.int) := sq_mv D0 (Mx.trans Mxw) hM
      have by0 : (0 : Int) < 2 + r11 := by omega
      refine ⟨_, rfl, ty_l (tofL (Mw.at (My.at hp offp) offp)), _, rfl, _, rfl, _, rfl, _, rfl, pf, psm, fs, ms, rfl, tofT hpfw, hMw, fine.1, by have := fine.1; omega, fine.small, .inl ⟨_, rfl, _, rfl, _, _, rfl, rfl, by0, _, rfl, _, rfl, d, g, 3, rfl, Dw, by decide, by decide, fun r3 Hv r30 r31 Dv Mv3 => ⟨_, _, rfl, rfl, mul_small (by omega) (by omega), _, _, rfl, rfl, d, g, _, rfl, Dv, fun c Hz c0 c1 Dz Mz => ⟨_, rfl, (show 3 ≤ sizeLine from small (by decide)), fun t nt => ?_⟩⟩⟩⟩
      have Mxz := Mxw.trans (Mv3.trans Mz)
      have hpz : Hz pp = some (.lst ys) := Mxz.at hp offp
      have hlz : Hz pl = some (.lst xs) := Mxz.at hl offl
      have ntp : pp ≠ t := ne_of_none hpz nt
      have ntl : pl ≠ t := ne_of_none hlz nt
      have hpfz := tups_mv Dw (Mv3.trans Mz) _ _ hpfw
      have kt : ∀ a zs, Hx a = some (.tup zs) → upd (upd Hz t (.tup [.ref pf, .int c, .int (2 + r11)])) pp (.lst (ys ++ [.ref t])) a = some (.tup zs) := fun a zs ha => by
        rw [upd_ne (ne_of ha hp (fun z => nomatch z))]
        exact Same.new nt _ _ (tups_mv Dx Mxz _ _ ha)
      refine ⟨pp, _, _, rfl, rfl, by rw [upd_ne ntp]; exact hpz, by rw [hs.len]; exact smallt (by omega), (Dz.new nt).mut offp, ((Mx.trans Mxz).trans (Mv.of (Same.new nt))).mut npp0, ys ++ [.ref t], rests ++ [(fs, c, 2 + r11)], _, _, _, rfl, ?_, hr.to kt, upd_same, ?_, ?_, ?_⟩
      · rw [upd_ne nlp, upd_ne ntl]; exact hlz
      · refine RestsAt.snoc (q := pf) ?_ ?_ (hs.to kt)
        · rw [upd_ne ntp.symm]; exact upd_same
        · rw [upd_ne (ne_of hpfz hpz (fun z => nomatch z))]
          exact Same.new nt _ _ hpfz
      · rw [List.length_append, hsl]; rfl
      · intro z hz
        rcases List.mem_append.mp hz with hz | hz
        · exact hf z hz
        · rw [List.mem_singleton.mp hz]
          exact ⟨fine, ⟨c0, c1⟩, (by show 2 ≤ 2 + r11; omega), (by show 2 + r11 ≤ 12; omega)⟩
    rintro σ H8 ⟨D8, M8, ys, rests, v5, v8, v9, rfl, hl8, hr8, hp8, hs8, hsl, fS⟩
    -- tuples
    refine ⟨fun σ Hx => ∃ (tl tp : Addr) (v5 v8 v9 : Option V), σ = [some (.ref d), some (.int (1 + r)), some (.ref pn), some (.int far), some (.ref psm), v5, some (.ref tl), some (.ref tp), v8, v9, none, none, none, none, none, none, none] ∧
        Deck Hx d g ∧ Mv d g H0 Hx ∧ Hx tl = some (.tup xs) ∧ Hx tp = some (.tup ys) ∧ RowsAt Hx xs rows ∧ RestsAt Hx ys rests, ?_, ?_⟩
    · refine ⟨_, rfl, .inl ⟨pl, xs, rfl, tofL hl8, fun tl ntl => ⟨_, rfl, .inl ⟨pp, ys, rfl, tofL (Same.new ntl _ _ hp8), fun tp ntp => ⟨_, _, rfl, tl, tp, v5, v8, v9, rfl, (D8.new ntl).new ntp, M8.trans (Mv.of ((Same.new ntl).trans (Same.new ntp))), Same.new ntp _ _ upd_same, upd_same, ?_, ?_⟩⟩⟩⟩⟩
      · exact hr8.to (tups_same ((Same.new ntl).trans (Same.new ntp)))
      · exact hs8.to (tups_same ((Same.new ntl).trans (Same.new ntp)))
    clear hl8 hr8 hp8 hs8
    rintro σ H9 ⟨tl, tp, v5, v8, v9, rfl, D9, M9, hl9, hp9, hr9, hs9⟩
    -- made
    have step : ∀ (Hx : Hp) (x dx : Addr) (u : HO), Deck Hx d g → Mv d g H9 Hx → Hx x = none → Hx dx = none → Deck (upd (upd Hx dx u) x (.ins C dx (flds (.ref pn) (.ref tl) (.ref tp)))) d g ∧ Mv d g H9 (upd (upd Hx dx u) x (.ins C dx (flds (.ref pn) (.ref tl) (.ref tp)))) := fun Hx x dx u Dx Mx nx ndx =>
      ⟨((Dx.mut (Dx.off ndx)).mut (Dx.off nx)), (Mx.mut (Mx.free D9 Dx ndx)).mut (Mx.free D9 Dx nx)⟩
    refine ⟨_, rfl, _, rfl, _, rfl, fun x dx nx ndx nex => ⟨x, dx, _, _, _, rfl, upd_same, rfl, ?_⟩⟩
    rw [upd_upd]
    obtain ⟨Da, Ma⟩ := step H9 x dx (.own x) D9 Mv.refl nx ndx
    have hxa : (upd (upd H9 dx (.own x)) x (.ins C dx (flds (.ref pn) (.ref tl) (.ref tp)))) x = some (.ins C dx (flds (.ref pn) (.ref tl) (.ref tp))) := upd_same
    revert Da Ma hxa
    generalize (upd (upd H9 dx (.own x)) x (.ins C dx (flds (.ref pn) (.ref tl) (.ref tp)))) = Ha
    intro Da Ma hxa
    refine ⟨fun σ Hx => ∃ (xm dxm : Addr), σ = [some (.ref d), some (.int (1 + r)), some (.ref pn), some (.int far), some (.ref psm), v5, some (.ref tl), some (.ref tp), v8, v9, some (.ref xm), none, none, none, none, none, none] ∧
        Deck Hx d g ∧ Mv d g H9 Hx ∧ Hx xm = some (.ins C dxm (flds (.ref pn) (.ref tl) (.ref tp))), ?_, ?_⟩
    · refine ⟨_, rfl, d, g, 2, rfl, Da, by decide, by decide, fun r2 Hb r20 r21 Db Mb => ⟨rfl, _, rfl, ?_⟩⟩
      refine ite2 (fun _ => ?_) (fun _ => ?_)
      · refine ⟨_, rfl, _, rfl, _, rfl, rfl, rfl, fun x2 dx2 nx2 ndx2 _ => ⟨x2, dx2, _, _, _, rfl, upd_same, rfl, ?_⟩⟩
        rw [upd_upd]
        obtain ⟨Dz, Mz⟩ := step Hb x2 dx2 (.own x2) Db (Ma.trans Mb) nx2 ndx2
        exact ⟨x2, dx2, rfl, Dz, Mz, upd_same⟩
      · exact ⟨x, dx, rfl, Db, Ma.trans Mb, Mb.at hxa (D9.off nx)⟩
    clear hxa Ma Da
    rintro σ Hc ⟨xm, dxm, rfl, Dc, Mc, hxm⟩
    have M0c : Mv d g H0 Hc := M9.trans Mc
    have hlc : Hc tl = some (.tup xs) := tups_mv D9 Mc _ _ hl9
    have hpc : Hc tp = some (.tup ys) := tups_mv D9 Mc _ _ hp9
    have hrc : RowsAt Hc xs rows := hr9.to (tups_mv D9 Mc)
    have hsc : RestsAt Hc ys rests := hs9.to (tups_mv D9 Mc)
    have hNc : SqT K Hc pn (ns.map V.str) := sq_mv D0 M0c hN
    have hMc : SqT K Hc psm (ms.map V.int) := sq_mv D0 M0c hM
    have offxm : xm ≠ d ∧ xm ≠ g := by
      obtain ⟨m, L, h1, h2, _⟩ := Dc.ex
      exact ⟨ne_of hxm h1 (fun z => nomatch z), ne_of hxm h2 (fun z => nomatch z)⟩
    -- tries
    refine ⟨_, rfl, (show 1 ≤ sizeLine from small (by decide)), fun tr ntr => ?_⟩
    have offt := Dc.off ntr
    refine ⟨6, rfl, by decide, by decide, for_range (fun i σ Hx => Deck Hx d g ∧ Mv d g Hc Hx ∧ ∃ (ts : List V) (v5 v9 v12 : Option V), σ = [some (.ref d), some (.int (1 + r)), some (.ref pn), some (.int far), some (.ref psm), v5, some (.ref tl), some (.ref tp), v8, v9, some (.ref xm), some (.ref tr), v12, none, none, none, none] ∧
        Hx tr = some (.lst ts) ∧ Tried K ms.length Hx ts ∧ ts.length = 1 + i)
      ⟨Dc.new ntr, Mv.of (Same.new ntr), [.ref psm], v5, v9, none, rfl, upd_same, (fun y hy => ⟨psm, ms, List.mem_singleton.mp hy, Same.tup (Same.new ntr) hMc, rfl⟩), rfl⟩ ?_ ?_⟩
    · rintro i σ Hx hi ⟨Dx, Mx, ts, v5, v9, v12, rfl, ht, htr, htl⟩
      refine ⟨_, rfl, _, rfl, d, g, _, rfl, Dx, by omega, by omega, fun at_ Hy a0 a1 Dy My => ?_⟩
      refine ⟨_, rfl, 1, rfl, 12, rfl, (show 6 ≤ sizeLine from small (by decide)), fun pb npb => ⟨d, g, pb, _, rfl, Dy.new npb, upd_same, (Dy.off npb).2, (fun z => nomatch z), (show 6 ≤ 1000 by decide), fun y Hz hy Dz Mz => ⟨_, _, rfl, ?_⟩⟩⟩
      have hby : ∃ k : Int, y = .int k := by
        rcases List.mem_cons.mp hy with rfl | hy
        · exact ⟨_, rfl⟩
        rcases List.mem_cons.mp hy with rfl | hy
        · exact ⟨_, rfl⟩
        rcases List.mem_cons.mp hy with rfl | hy
        · exact ⟨_, rfl⟩
        rcases List.mem_cons.mp hy with rfl | hy
        · exact ⟨_, rfl⟩
        rcases List.mem_cons.mp hy with rfl | hy
        · exact ⟨_, rfl⟩
        rcases List.mem_cons.mp hy with rfl | hy
        · exact ⟨_, rfl⟩
        · cases hy
      obtain ⟨by_, rfl⟩ := hby
      have Mxz : Mv d g Hx Hz := My.trans ((Mv.of (Same.new npb)).trans Mz)
      have htz := Mxz.at ht offt
      have hMz : SqT K Hz psm (ms.map V.int) := sq_mv Dc (Mx.trans Mxz) hMc
      obtain ⟨j, rfl⟩ : ∃ j : Nat, at_ = (j : Int) := ⟨at_.toNat, by omega⟩
      have hj : j < ms.length := by omega
      refine ⟨_, rfl, ty_l (tofL htz), _, rfl, _, rfl, (j : Int), rfl, slA_of hMz fun p1 I1 s1 h1 => ?_⟩
      rw [cut_take ms (Nat.le_of_lt hj)] at h1
      refine ⟨_, rfl, _, rfl, psm, _, _, _, rfl, rfl, Same.tup s1 hMz, atI_nat (map_at hj), _, rfl, _, _, rfl, rfl, (show 1 ≤ sizeLine from small (by decide)), fun p2 np2 => ?_⟩
      refine catA_of (Same.tup (Same.new np2) h1) (tofT upd_same) ?_ fun p3 I3 s3 h3 => ?_
      · rw [List.length_map, List.length_take]
        show _ + 1 ≤ 100000
        omega
      have s13 := s1.trans ((Same.new np2).trans s3)
      refine ⟨_, rfl, _, rfl, _, _, rfl, rfl, ((j + 1 : Nat) : Int), congrArg V.int (Int.natCast_add j 1).symm, ?_⟩
      refine noPart_of ?_
      refine slA_of (Same.tup s13 hMz) fun p4 I4 s4 h4 => ?_
      rw [cut_drop ms (show j + 1 ≤ ms.length from hj)] at h4
      have e5 : ((ms.take j).map V.int ++ [V.int (ms[j] + by_)]) ++ (ms.drop (j + 1)).map V.int = (ms.take j ++ [ms[j] + by_] ++ ms.drop (j + 1)).map V.int := by
        rw [List.map_append, List.map_append]; rfl
      refine catA_of (Same.tup s4 h3) h4 ?_ fun p5 I5 s5 h5 => ?_
      · rw [List.length_append, List.length_map, List.length_map, List.length_take, List.length_drop]
        show _ + 1 + _ ≤ 100000
        omega
      have h5' : SqT K I5 p5 ((ms.take j ++ [ms[j] + by_] ++ ms.drop (j + 1)).map V.int) := by
        rw [← e5]; exact h5
      have s15 := s13.trans (s4.trans s5)
      have ht5 := s15 _ _ htz
      refine ⟨tr, _, _, rfl, rfl, ht5, by rw [htl]; exact smallt (by omega), (Dz.same s15).mut offt, ((Mx.trans Mxz).trans (Mv.of s15)).mut ntr, ts ++ [.ref p5], _, _, _, rfl, upd_same, ?_, ?_⟩
      · have kt : ∀ {a : Addr} {zs : List V}, SqT K I5 a zs → SqT K (upd I5 tr (.lst (ts ++ [.ref p5]))) a zs := fun {a zs} hz => by
          rcases hz with (hz | ⟨o, hz⟩) | hz
          · exact .inl (.inl (by rw [upd_ne (ne_of hz ht5 (fun z => nomatch z))]; exact hz))
          · exact .inl (.inr ⟨o, by rw [upd_ne (ne_of hz ht5 (fun z => nomatch z))]; exact hz⟩)
          · exact .inr hz
        intro y hy
        rcases List.mem_append.mp hy with hy | hy
        · obtain ⟨t, us, e, h, l⟩ := htr y hy
          exact ⟨t, us, e, kt (Same.tup s15 (sq_mv Dx Mxz h)), l⟩
        · refine ⟨p5, _, List.mem_singleton.mp hy, kt h5', ?_⟩
          rw [List.length_append, List.length_append, List.length_take, List.length_drop]
          show _ + 1 + _ = _
          omega
      · rw [List.length_append, htl]; rfl
    rintro σ Hd ⟨Dd, Md, ts, v5, v9, v12, rfl, ht, htr, htl⟩
    have hMd : SqT K Hd psm (ms.map V.int) := sq_mv Dc Md hMc
    -- tries.append(tuple([0 - x for x in some]))
    refine ⟨_, rfl, ty_l (tofL ht), _, rfl, psm, rfl, ⟨_, hMd⟩, fun Dl nDl => ?_⟩
    have nDt : tr ≠ Dl := ne_of_none ht nDl
    refine lc_tup (K := K) (a := psm) (xs := ms.map V.int) (fun i Hx => Same Hd Hx ∧ ∃ us : List Int, Hx Dl = some (.lst (us.map V.int)) ∧ us.length = i) ⟨Same.new nDl, [], upd_same, rfl⟩ (fun i Hx _ h => Same.tup h.1 hMd) ?_ ?_
    · rintro i y Hx hi ⟨sx, us, hD, hul⟩
      obtain ⟨z, rfl, hil⟩ := ints_at hi
      refine ⟨rfl, _, rfl, _, _, rfl, rfl, _, hD, by rw [List.length_map]; exact smallt (by omega), ?_, us ++ [0 - z], ?_, ?_⟩
      · intro b o hb
        rw [upd_ne (ne_of_none hb nDl)]
        exact sx _ _ hb
      · rw [upd_same, List.map_append]; rfl
      · rw [List.length_append, hul]; rfl
    rintro Hx ⟨sx, us, hD, hul⟩
    rw [List.length_map] at hul
    refine .inl ⟨Dl, _, rfl, tofL hD, fun t nt => ?_⟩
    have s2 := sx.trans (Same.new (o := .tup (us.map V.int)) nt)
    have ht2 := s2 _ _ ht
    refine ⟨tr, _, _, rfl, rfl, ht2, by rw [htl]; exact smallt (by omega), ?_⟩
    have De : Deck (upd (upd Hx t (.tup (us.map V.int))) tr (.lst (ts ++ [.ref t]))) d g := (Dd.same s2).mut offt
    have Me : Mv d g Hc (upd (upd Hx t (.tup (us.map V.int))) tr (.lst (ts ++ [.ref t]))) := (Md.trans (Mv.of s2)).mut ntr
    have hte : upd (upd Hx t (.tup (us.map V.int))) tr (.lst (ts ++ [.ref t])) tr = some (.lst (ts ++ [.ref t])) := upd_same
    have htre : Tried K ms.length (upd (upd Hx t (.tup (us.map V.int))) tr (.lst (ts ++ [.ref t]))) (ts ++ [.ref t]) := by
      have kt : ∀ {a : Addr} {zs : List V}, SqT K (upd Hx t (.tup (us.map V.int))) a zs → SqT K (upd (upd Hx t (.tup (us.map V.int))) tr (.lst (ts ++ [.ref t]))) a zs := fun {a zs} hz => by
        rcases hz with (hz | ⟨o, hz⟩) | hz
        · exact .inl (.inl (by rw [upd_ne (ne_of hz ht2 (fun z => nomatch z))]; exact hz))
        · exact .inl (.inr ⟨o, by rw [upd_ne (ne_of hz ht2 (fun z => nomatch z))]; exact hz⟩)
        · exact .inr hz
      intro y hy
      rcases List.mem_append.mp hy with hy | hy
      · obtain ⟨t', us', e, h, l⟩ := htr y hy
        exact ⟨t', us', e, kt (Same.tup s2 h), l⟩
      · exact ⟨t, us, List.mem_singleton.mp hy, kt (tofT upd_same), hul⟩
    have hel : (ts ++ [V.ref t]).length ≤ 100 := by rw [List.length_append, htl]; show _ + 1 ≤ 100; omega
    revert De Me hte htre hel
    generalize upd (upd Hx t (.tup (us.map V.int))) tr (.lst (ts ++ [.ref t])) = He
    generalize ts ++ [V.ref t] = tes
    intro De Me hte htre hel
    have hle := tups_mv Dc Me _ _ hlc
    have hpe := tups_mv Dc Me _ _ hpc
    have hre := hrc.to (tups_mv Dc Me)
    have hse := hsc.to (tups_mv Dc Me)
    have hxe := Me.at hxm offxm
    have nof : (flds (.ref pn) (.ref tl) (.ref tp)).lookup ("fulfils" : Str) = none := f_no _ _ _ (by decide +kernel) (by decide +kernel) (by decide +kernel)
    have hrl4 : rows.length ≤ 4 := by omega
    have hsl3 : rests.length ≤ 3 := by omega
    -- for item in tries
    refine ⟨fun σ Hx => ∃ (v14 v15 : Option V), σ = [some (.ref d), some (.int (1 + r)), some (.ref pn), some (.int far), some (.ref psm), v5, some (.ref tl), some (.ref tp), v8, v9, some (.ref xm), some (.ref tr), v12, none, v14, v15, none] ∧ Same He Hx, ?_, ?_⟩
    · refine ⟨_, rfl, tr, rfl, ⟨_, tofL hte⟩, for_list (K := K) (a := tr) (xs := tes) (fun i σ Hx => ∃ (v14 v15 : Option V), σ = [some (.ref d), some (.int (1 + r)), some (.ref pn), some (.int far), some (.ref psm), v5, some (.ref tl), some (.ref tp), v8, v9, some (.ref xm), some (.ref tr), v12, none, v14, v15, none] ∧ Same He Hx)
        ⟨none, none, rfl, Same.refl _⟩ (fun i σ Hx _ ⟨_, _, _, s⟩ => tofL (s _ _ hte)) ?_ ?_⟩
      · rintro i y σ Hx hi ⟨v14, v15, rfl, sx⟩
        obtain ⟨t2, us2, rfl, ht2, hul2⟩ := htre y (List.mem_of_getElem? hi)
        have hT2 := Same.tup sx ht2
        refine ⟨_, rfl, _, rfl, _, rfl, tl, tp, t2, xs, ys, rows, rests, us2, rfl, tofT (sx _ _ hle), hre.to (tups_same sx), tofT (sx _ _ hpe), hse.to (tups_same sx), hT2, by omega, by rw [hul2]; exact fR, by rw [hul2]; exact fS, ?_⟩
        refine ⟨_, rfl, xm, dxm, _, rfl, sx _ _ hxe, nof, _, rfl, xm, dxm, tl, tp, t2, _, xs, ys, rows, rests, us2, rfl, sx _ _ hxe, tofT (sx _ _ hle), hre.to (tups_same sx), tofT (sx _ _ hpe), hse.to (tups_same sx), hT2, by omega, by omega, by omega, by rw [hul2]; exact fR, by rw [hul2]; exact fS, fun Hy sy => ?_⟩
        have sxy := sx.trans sy
        refine ⟨_, rfl, xm, dxm, _, rfl, sxy _ _ hxe, nof, _, rfl, rfl, xm, dxm, tl, tp, t2, _, xs, ys, rows, rests, us2, rfl, sxy _ _ hxe, tofT (sxy _ _ hle), hre.to (tups_same sxy), tofT (sxy _ _ hpe), hse.to (tups_same sxy), Same.tup sy hT2, by omega, by omega, by omega, by rw [hul2]; exact fR, by rw [hul2]; exact fS, fun Hz sz => ⟨(show 2 ≤ sizeLine from small (by decide)), fun l1 nl1 => ?_⟩⟩
        refine ⟨l1, _, _, _, rfl, .lst (tofL upd_same) (.cons (.bl _) (.cons (.bl _) .nil)), nice_two _ _, by decide, by decide, _, rfl, _, rfl, (show 2 ≤ sizeLine from small (by decide)), fun l2 nl2 => ⟨l2, _, _, _, rfl, .lst (tofL upd_same) (.cons (.bl _) (.cons (.bl _) .nil)), nice_two _ _, by decide, by decide, rfl, _, rfl, iteNS rfl ⟨_, _, rfl, sxy.trans (sz.trans ((Same.new nl1).trans (Same.new nl2)))⟩⟩⟩
      · rintro σ Hx ⟨v14, v15, rfl, sx⟩
        exact ⟨v14, v15, rfl, sx⟩
    rintro σ Hf ⟨v14, v15, rfl, sf⟩
    -- bare
    refine ⟨_, rfl, _, rfl, fun xb dxb nxb ndxb nexb => ⟨xb, dxb, _, _, _, rfl, upd_same, rfl, ?_⟩⟩
    rw [upd_upd]
    have sg : Same Hf (upd (upd Hf dxb (.own xb)) xb (.ins C dxb (flds (.ref pn) (.ref tl) (.ref E0)))) := (Same.new ndxb).trans (Same.new (by rw [upd_ne nexb.symm]; exact nxb))
    have hxb : upd (upd Hf dxb (.own xb)) xb (.ins C dxb (flds (.ref pn) (.ref tl) (.ref E0))) xb = some (.ins C dxb (flds (.ref pn) (.ref tl) (.ref E0))) := upd_same
    revert sg hxb
    generalize upd (upd Hf dxb (.own xb)) xb (.ins C dxb (flds (.ref pn) (.ref tl) (.ref E0))) = Hg
    intro sg hxb
    have seg := sf.trans sg
    have nofb : (flds (.ref pn) (.ref tl) (.ref E0)).lookup ("fulfils" : Str) = none := f_no _ _ _ (by decide +kernel) (by decide +kernel) (by decide +kernel)
    have hMg : SqT K Hg psm (ms.map V.int) := Same.tup seg (sq_mv Dc Me hMc)
    refine ⟨_, rfl, xb, C, dxb, _, _, rfl, hxb, S.cl, S.nS, f_rests _ _ _, ?_⟩
    refine ⟨_, rfl, xb, dxb, _, rfl, hxb, nofb, _, rfl, xb, dxb, tl, E0, psm, _, xs, [], rows, [], ms, rfl, hxb, tofT (seg _ _ hle), hre.to (tups_same seg), hE _, .nil, hMg, by omega, by omega, (by decide), fR, (fun z hz => nomatch hz), fun Hh sh => ⟨(show 2 ≤ sizeLine from small (by decide)), fun l1 nl1 => ?_⟩⟩
    refine ⟨l1, _, _, _, rfl, .lst (tofL upd_same) (.cons (.tup (hE _) .nil) (.cons (.bl _) .nil)), nice_bare _, by decide, by decide, ?_⟩
    have si := seg.trans (sh.trans (Same.new (o := .lst [.ref E0, .bl (dueB rows [] ms)]) nl1))
    revert si
    generalize upd Hh l1 (.lst [.ref E0, .bl (dueB rows [] ms)]) = Hi
    intro si
    refine ⟨Nat.zero_le _, fun e1 ne1 => ⟨_, rfl, Nat.zero_le _, fun e2 ne2 => ⟨_, rfl, ?_⟩⟩⟩
    have sj := si.trans ((Same.new (o := .tup []) ne1).trans (Same.new (o := .tup []) ne2))
    refine ⟨tl, e2, psm, xs, [], rows, [], ms, rfl, tofT (sj _ _ hle), hre.to (tups_same sj), tofT upd_same, .nil, Same.tup sj (sq_mv Dc Me hMc), by omega, fR, (fun z hz => nomatch hz), (show 2 ≤ sizeLine from small (by decide)), fun l2 nl2 => ?_⟩
    have he1 : upd (upd (upd Hi e1 (.tup [])) e2 (.tup [])) l2 (.lst [.ref e1, .bl (dueB rows [] ms)]) e1 = some (.tup []) := Same.new nl2 _ _ (Same.new ne2 _ _ upd_same)
    refine ⟨l2, _, _, _, rfl, .lst (tofL upd_same) (.cons (.tup (tofT he1) .nil) (.cons (.bl _) .nil)), nice_bare _, by decide, by decide, rfl, _, rfl, iteNS rfl ?_⟩
    have sk := sj.trans (Same.new (o := .lst [.ref e1, .bl (dueB rows [] ms)]) nl2)
    revert sk
    generalize upd (upd (upd Hi e1 (.tup [])) e2 (.tup [])) l2 (.lst [.ref e1, .bl (dueB rows [] ms)]) = Hj
    intro sk
    -- repr of names, rows, rests
    have hxj := sk _ _ hxe
    refine ⟨_, rfl, xm, C, dxm, _, _, rfl, hxj, S.cl, S.nN, f_names _ _ _, _, rfl, xm, C, dxm, _, _, rfl, hxj, S.cl, S.nR, f_rows _ _ _, _, rfl, xm, C, dxm, _, _, rfl, hxj, S.cl, S.nS, f_rests _ _ _, (show 3 ≤ sizeLine from small (by decide)), fun l3 nl3 => ?_⟩
    have hNj : SqT K Hj pn (ns.map V.str) := Same.tup sk (sq_mv Dc Me hNc)
    have dp3 : ∀ Hz : Hp, Same Hj Hz → DpAll K Hz [.ref pn, .ref tl, .ref tp] [.tuple (ns.map PyData.str), .tuple (rows.map rowD), .tuple (rests.map rstD)] := fun Hz sz =>
      .cons (.tup (Same.tup sz hNj) (dpa_strs ns)) (.cons (.tup (tofT (sz _ _ (sk _ _ hle))) (dp_rows (hre.to (tups_same (sk.trans sz))))) (.cons (.tup (tofT (sz _ _ (sk _ _ hpe))) (dp_rests (hse.to (tups_same (sk.trans sz))))) .nil))
    have nice := nice_all (rows := rows) (rests := rests) hnw (by omega : ns.length ≤ 6) fR hrl4 fS hsl3 hm6
    refine ⟨l3, _, _, _, rfl, .lst (tofL upd_same) (dp3 _ (Same.new nl3)), nice, by decide, by decide, _, rfl, _, rfl, _, rfl, (show 3 ≤ sizeLine from small (by decide)), fun l4 nl4 => ?_⟩
    refine ⟨l4, _, _, _, rfl, .lst (tofL upd_same) (dp3 _ ((Same.new nl3).trans (Same.new nl4))), nice, by decide, by decide, rfl, ?_⟩
    rw [decide_eq_true rfl]
    exact q _ (De.same (sk.trans ((Same.new nl3).trans (Same.new nl4)))) ((M0.trans M0c).trans (Me.trans (Mv.of (sk.trans ((Same.new nl3).trans (Same.new nl4))))))

end
end K6
namespace K6
open PySem PySem.Spec PyProof.Rows L2 GL RZ
theorem vals_rev : ∀ {xs : List V} {us : List Value}, Vals xs us → Vals xs.reverse us.reverse
  | _, _, .nil => .nil
  | _, _, .cons r t => by
    rw [List.reverse_cons, List.reverse_cons]
    exact Vals.append (vals_rev t) (.cons r .nil)
def spLaw (K : PySem.W.Frag) : Sp := fun vs H Q _ => ∃ (a : Addr) (ns : List Int), vs = [.ref a] ∧ SqL K H a (ns.map V.int) ∧ ns.length ≤ 63 ∧ ∀ H', Q (.bl true) H'
section
variable {P : Program} {w : World} {K : PySem.W.Frag} {mg : Str → Option Value} {base : Heap}
abbrev s_law : Stmt := topS 37
theorem sc_law : FnScope ["_law_script", "_law_deck_here", "_law_lap"] ["_law_script"] (defScope s_law) := ⟨rfl, rfl, rfl, by decide +kernel, rfl, by decide +kernel, by decide +kernel⟩
theorem ok_law {f : Addr} {fd : FuncData} (F : Fun K "law" "law" s_law f fd) (T : Bl mg) (D_deck : DefG P w K mg base 1 "_law_deck" ["_law_script"] (spDeck K)) (D_right : DefG P w K mg base 4 "_law_right" ["_law_deck_here"] spRight) :
    FnG P w K mg base CX0 5 f fd ["_law_script"] (spLaw K) := by
  refine okG F sc_law (fun vs H Q E h => ?_) fun cdv A outer s H vs Q E hr hc h => ?_
  · obtain ⟨a, ns, rfl, _⟩ := h
    rfl
  · obtain ⟨a, ns, rfl, hS, hl, q⟩ := h
    have nd := sc_law.nd
    refine ⟨_, (pss_cons (ps_set (i := 1) nd rfl (by first | exact Or.inl rfl | exact Or.inr rfl) (pe_def D_deck (hr.mono (by decide)) hc (by rfl) (pa_cons (pv 0) pa_nil)))
      (pss_cons (ps_for PassesOwn.never rfl (pi_range1 (by rfl) T.range (pa_cons pe_int pa_nil)) (pg_name (i := 2) nd rfl (by first | exact Or.inl rfl | exact Or.inr rfl))
        (pss_one (ps_if (pt_not (pt_val (pe_def D_right (hr.mono (by decide)) hc (by rfl) (pa_cons (pv 1) pa_nil))))
          (pss_one (ps_ret pe_bl))
          pss_nil)))
      (pss_one (ps_ret pe_bl)))), ?_⟩
    refine ⟨_, rfl, a, ns, rfl, hS, hl, fun d g H1 s1 nd1 ng1 D1 => ?_⟩
    refine ⟨6, rfl, by decide, by decide, for_range (fun i σ Hx => ∃ v2, σ = [some (.ref a), some (.ref d), v2] ∧ Deck Hx d g) ⟨none, rfl, D1⟩ ?_ ?_⟩
    · rintro i σ Hx hi ⟨v2, rfl, Dx⟩
      exact ⟨_, rfl, d, g, rfl, Dx, fun Hy Dy My => ⟨_, rfl, iteF ⟨_, rfl, Dy⟩⟩⟩
    · rintro σ Hx ⟨v2, rfl, Dx⟩
      exact q Hx
end
theorem all_mk {l : PySem.W.OpenLaw} {w : World} {K : PySem.W.Frag} {h : Heap} {mg : Str → Option Value} {fa f_dot f_draw f_pick f_called f_sum f_constant f_factors f_due f_right f_deck f_law : Addr} (X : K.In h) (G : h.Ns mainGlobals mg) (hfa : mg "law" = some (.ref fa))
    {od_dot an_dot : Option Addr} {sl_dot : Array (Option Value)} {oc_dot kV_dot dc_dot pm_dot cd_dot ct_dot : Value}
    {od_draw an_draw : Option Addr} {sl_draw : Array (Option Value)} {oc_draw kV_draw dc_draw pm_draw cd_draw ct_draw : Value}
    {od_pick an_pick : Option Addr} {sl_pick : Array (Option Value)} {oc_pick kV_pick dc_pick pm_pick cd_pick ct_pick : Value}
    {od_called an_called : Option Addr} {sl_called : Array (Option Value)} {oc_called kV_called dc_called pm_called cd_called ct_called : Value}
    {od_sum an_sum : Option Addr} {sl_sum : Array (Option Value)} {oc_sum kV_sum dc_sum pm_sum cd_sum ct_sum : Value}
    {od_constant an_constant : Option Addr} {sl_constant : Array (Option Value)} {oc_constant kV_constant dc_constant pm_constant cd_constant ct_constant : Value}
    {od_factors an_factors : Option Addr} {sl_factors : Array (Option Value)} {oc_factors kV_factors dc_factors pm_factors cd_factors ct_factors : Value}
    {od_due an_due : Option Addr} {sl_due : Array (Option Value)} {oc_due kV_due dc_due pm_due cd_due ct_due : Value}
    {od_right an_right : Option Addr} {sl_right : Array (Option Value)} {oc_right kV_right dc_right pm_right cd_right ct_right : Value}
    {od_deck an_deck : Option Addr} {sl_deck : Array (Option Value)} {oc_deck kV_deck dc_deck pm_deck cd_deck ct_deck : Value}
    {od_law an_law : Option Addr} {sl_law : Array (Option Value)} {oc_law kV_law dc_law pm_law cd_law ct_law : Value}
    {C fI fF T0 E0 : Addr} {odI anI odF anF dT dE : Option Addr} {slI slF slT slE : Array (Option Value)} {ocI kVI dcI pmI cdI ctI ocF kVF dcF pmF cdF ctF : Value} {nT nE : Nat}
    (a_dot : PySem.W.nsIn K mainGlobals "dot" = some (some (.ref f_dot)))
    (l_dot : K.lookup f_dot = some ⟨oc_dot, od_dot, .func (PySem.W.fnOf "dot" "dot" (defArgs s_dot) (defBody s_dot) (defScope s_dot) .none kV_dot dc_dot pm_dot an_dot cd_dot ct_dot), sl_dot⟩)
    (c_dot : PySem.W.codeIn K cd_dot "dot" = true) (k_dot : PySem.W.keepIn K (.ref f_dot) = true)
    (a_draw : PySem.W.nsIn K mainGlobals "_law_draw" = some (some (.ref f_draw)))
    (l_draw : K.lookup f_draw = some ⟨oc_draw, od_draw, .func (PySem.W.fnOf "_law_draw" "_law_draw" (defArgs s_draw) (defBody s_draw) (defScope s_draw) .none kV_draw dc_draw pm_draw an_draw cd_draw ct_draw), sl_draw⟩)
    (c_draw : PySem.W.codeIn K cd_draw "_law_draw" = true) (k_draw : PySem.W.keepIn K (.ref f_draw) = true)
    (a_pick : PySem.W.nsIn K mainGlobals "_law_pick" = some (some (.ref f_pick)))
    (l_pick : K.lookup f_pick = some ⟨oc_pick, od_pick, .func (PySem.W.fnOf "_law_pick" "_law_pick" (defArgs s_pick) (defBody s_pick) (defScope s_pick) .none kV_pick dc_pick pm_pick an_pick cd_pick ct_pick), sl_pick⟩)
    (c_pick : PySem.W.codeIn K cd_pick "_law_pick" = true) (k_pick : PySem.W.keepIn K (.ref f_pick) = true)
    (a_called : PySem.W.nsIn K mainGlobals "_law_called" = some (some (.ref f_called)))
    (l_called : K.lookup f_called = some ⟨oc_called, od_called, .func (PySem.W.fnOf "_law_called" "_law_called" (defArgs s_called) (defBody s_called) (defScope s_called) .none kV_called dc_called pm_called an_called cd_called ct_called), sl_called⟩)
    (c_called : PySem.W.codeIn K cd_called "_law_called" = true) (k_called : PySem.W.keepIn K (.ref f_called) = true)
    (a_sum : PySem.W.nsIn K mainGlobals "_law_sum" = some (some (.ref f_sum)))
    (l_sum : K.lookup f_sum = some ⟨oc_sum, od_sum, .func (PySem.W.fnOf "_law_sum" "_law_sum" (defArgs s_sum) (defBody s_sum) (defScope s_sum) .none kV_sum dc_sum pm_sum an_sum cd_sum ct_sum), sl_sum⟩)
    (c_sum : PySem.W.codeIn K cd_sum "_law_sum" = true) (k_sum : PySem.W.keepIn K (.ref f_sum) = true)
    (a_constant : PySem.W.nsIn K mainGlobals "_law_constant" = some (some (.ref f_constant)))
    (l_constant : K.lookup f_constant = some ⟨oc_constant, od_constant, .func (PySem.W.fnOf "_law_constant" "_law_constant" (defArgs s_constant) (defBody s_constant) (defScope s_constant) .none kV_constant dc_constant pm_constant an_constant cd_constant ct_constant), sl_constant⟩)
    (c_constant : PySem.W.codeIn K cd_constant "_law_constant" = true) (k_constant : PySem.W.keepIn K (.ref f_constant) = true)
    (a_factors : PySem.W.nsIn K mainGlobals "_law_factors" = some (some (.ref f_factors)))
    (l_factors : K.lookup f_factors = some ⟨oc_factors, od_factors, .func (PySem.W.fnOf "_law_factors" "_law_factors" (defArgs s_factors) (defBody s_factors) (defScope s_factors) .none kV_factors dc_factors pm_factors an_factors cd_factors ct_factors), sl_factors⟩)
    (c_factors : PySem.W.codeIn K cd_factors "_law_factors" = true) (k_factors : PySem.W.keepIn K (.ref f_factors) = true)
    (a_due : PySem.W.nsIn K mainGlobals "_law_due" = some (some (.ref f_due)))
    (l_due : K.lookup f_due = some ⟨oc_due, od_due, .func (PySem.W.fnOf "_law_due" "_law_due" (defArgs s_due) (defBody s_due) (defScope s_due) .none kV_due dc_due pm_due an_due cd_due ct_due), sl_due⟩)
    (c_due : PySem.W.codeIn K cd_due "_law_due" = true) (k_due : PySem.W.keepIn K (.ref f_due) = true)
    (a_right : PySem.W.nsIn K mainGlobals "_law_right" = some (some (.ref f_right)))
    (l_right : K.lookup f_right = some ⟨oc_right, od_right, .func (PySem.W.fnOf "_law_right" "_law_right" (defArgs s_right) (defBody s_right) (defScope s_right) .none kV_right dc_right pm_right an_right cd_right ct_right), sl_right⟩)
    (c_right : PySem.W.codeIn K cd_right "_law_right" = true) (k_right : PySem.W.keepIn K (.ref f_right) = true)
    (a_deck : PySem.W.nsIn K mainGlobals "_law_deck" = some (some (.ref f_deck)))
    (l_deck : K.lookup f_deck = some ⟨oc_deck, od_deck, .func (PySem.W.fnOf "_law_deck" "_law_deck" (defArgs s_deck) (defBody s_deck) (defScope s_deck) .none kV_deck dc_deck pm_deck an_deck cd_deck ct_deck), sl_deck⟩)
    (c_deck : PySem.W.codeIn K cd_deck "_law_deck" = true) (k_deck : PySem.W.keepIn K (.ref f_deck) = true)
    (a_law : PySem.W.nsIn K mainGlobals "law" = some (some (.ref f_law)))
    (l_law : K.lookup f_law = some ⟨oc_law, od_law, .func (PySem.W.fnOf "law" "law" (defArgs s_law) (defBody s_law) (defScope s_law) .none kV_law dc_law pm_law an_law cd_law ct_law), sl_law⟩)
    (c_law : PySem.W.codeIn K cd_law "law" = true) (k_law : PySem.W.keepIn K (.ref f_law) = true)
    (aC : PySem.W.nsIn K mainGlobals "System" = some (some (.ref C)))
    (aI : PySem.W.findIn K (.ref C) "__init__" = some (some (.ref fI))) (iI : PySem.W.isFn K (.ref fI) = true) (lI : K.lookup fI = some ⟨ocI, odI, .func (PySem.W.fnOf "__init__" "System.__init__" (defArgs s_init) (defBody s_init) (defScope s_init) (.ref T0) kVI dcI pmI anI cdI ctI), slI⟩) (cI : PySem.W.codeIn K cdI "System.__init__" = true) (kI : PySem.W.keepIn K (.ref fI) = true)
    (lT : K.lookup T0 = some ⟨.type "tuple", dT, .seq #[.ref E0] nT, slT⟩) (lE : K.lookup E0 = some ⟨.type "tuple", dE, .seq #[] nE, slE⟩)
    (aF : PySem.W.findIn K (.ref C) "fulfils" = some (some (.ref fF))) (iF : PySem.W.isFn K (.ref fF) = true) (lF : K.lookup fF = some ⟨ocF, odF, .func (PySem.W.fnOf "fulfils" "System.fulfils" (defArgs s_ful) (defBody s_ful) (defScope s_ful) .none kVF dcF pmF anF cdF ctF), slF⟩) (cF : PySem.W.codeIn K cdF "System.fulfils" = true) (kF : PySem.W.keepIn K (.ref fF) = true)
    (pg : PySem.W.plainGet K C Str.empty = true) (hd : PySem.W.hasDictIn K C = true) (po : PySem.W.plainOver K C = true) (sa : PySem.W.findIn K (.ref C) "__setattr__" = some (some (.builtin "object.__setattr__"))) (mk : PySem.W.makesIn K C = true) (kc : PySem.W.keepIn K (.ref C) = true)
    (nN : PySem.W.findIn K (.ref C) "names" = some none) (nR : PySem.W.findIn K (.ref C) "rows" = some none) (nS : PySem.W.findIn K (.ref C) "rests" = some none)
    (z_int : PySem.W.nsIn K mainGlobals "int" = some none)
    (z_len : PySem.W.nsIn K mainGlobals "len" = some none)
    (z_range : PySem.W.nsIn K mainGlobals "range" = some none)
    (z_tuple : PySem.W.nsIn K mainGlobals "tuple" = some none)
    (z_str : PySem.W.nsIn K mainGlobals "str" = some none)
    (z_abs : PySem.W.nsIn K mainGlobals "abs" = some none)
    (z_any : PySem.W.nsIn K mainGlobals "any" = some none)
    (z_sum : PySem.W.nsIn K mainGlobals "sum" = some none)
    (z_zip : PySem.W.nsIn K mainGlobals "zip" = some none)
    (z_enumerate : PySem.W.nsIn K mainGlobals "enumerate" = some none)
    (z_repr : PySem.W.nsIn K mainGlobals "repr" = some none) :
    ∃ fd : FuncData, (∀ (s : Shared) (v : Value), BindsTo s fd ⟨[v], []⟩ [("_law_script", v)]) ∧ ∀ base : Heap, K.In base → base.Ns mainGlobals mg → FnG l.prog w K mg base CX0 5 fa fd ["_law_script"] (spLaw K) := by
  have e := hfa.symm.trans (PySem.W.mg_of X G a_law)
  cases e
  have F_dot := fun_mk (st := s_dot) l_dot c_dot k_dot
  have F_draw := fun_mk (st := s_draw) l_draw c_draw k_draw
  have F_pick := fun_mk (st := s_pick) l_pick c_pick k_pick
  have F_called := fun_mk (st := s_called) l_called c_called k_called
  have F_sum := fun_mk (st := s_sum) l_sum c_sum k_sum
  have F_constant := fun_mk (st := s_constant) l_constant c_constant k_constant
  have F_factors := fun_mk (st := s_factors) l_factors c_factors k_factors
  have F_due := fun_mk (st := s_due) l_due c_due k_due
  have F_right := fun_mk (st := s_right) l_right c_right k_right
  have F_deck := fun_mk (st := s_deck) l_deck c_deck k_deck
  have F_law := fun_mk (st := s_law) l_law c_law k_law
  have T : Bl mg := ⟨PySem.W.mg_none_of X G z_int, PySem.W.mg_none_of X G z_len, PySem.W.mg_none_of X G z_range, PySem.W.mg_none_of X G z_tuple, PySem.W.mg_none_of X G z_str, PySem.W.mg_none_of X G z_abs, PySem.W.mg_none_of X G z_any, PySem.W.mg_none_of X G z_sum, PySem.W.mg_none_of X G z_zip, PySem.W.mg_none_of X G z_enumerate, PySem.W.mg_none_of X G z_repr⟩
  have S : Sys K mg C := ⟨⟨pg, hd, po, sa⟩, nN, nR, nS, PySem.W.mg_of X G aC⟩
  have FI : FunD K "__init__" "System.__init__" (defArgs s_init) (defBody s_init) (defScope s_init) [.ref E0] [] fI _ := ⟨⟨ocI, odI, _, kVI, dcI, pmI, anI, cdI, ctI, slI, rfl, lI, cI, .inr ⟨(fun z => nomatch z), T0, _, [.ref E0], nT, rfl, lT, rfl, .cons rfl .nil⟩, .inl rfl⟩, kI⟩
  have FF := fun_mk (st := s_ful) lF cF kF
  have B4 := FI.binds1 (ps := ["self", "names", "rows", "rests"]) 4 1 (fun z => nomatch z) rfl (fun _ _ _ _ _ _ _ us its h1 h2 => match us, its, h1, h2 with | [_, _, _, _], [_], _, _ => ⟨_, rfl, rfl⟩)
  have B3 := FI.binds1 (ps := ["self", "names", "rows", "rests"]) 3 0 (fun z => nomatch z) rfl (fun _ _ _ _ _ _ _ us its h1 h2 => match us, its, h1, h2 with | [_, _, _], [_], _, _ => ⟨_, rfl, rfl⟩)
  obtain ⟨u4, V4, B4⟩ := B4
  obtain ⟨u3, V3, B3⟩ := B3
  cases V4
  have KB := FI.kbindsD (ps := ["self", "names", "rows", "rests"]) 1 ["rests", "rows", "names"] (fun us _ ws => us ++ ws.reverse) (fun z => nomatch z) (fun r1 _ r3 => Vals.append r1 (vals_rev r3)) (fun _ _ _ _ _ _ _ us its ws h1 h2 h3 => match us, its, ws, h1, h2, h3 with | [_], [_], [_, _, _], _, _, _ => ⟨_, rfl, rfl⟩)
  obtain ⟨itsB, KB⟩ := KB
  have hE : ∀ H : Hp, SqT K H E0 [] := fun H => .inr ⟨_, #[], nE, lE, rfl, rfl, Nat.zero_le _, .nil⟩
  refine ⟨PySem.W.fnOf "law" "law" (defArgs s_law) (defBody s_law) (defScope s_law) .none kV_law dc_law pm_law an_law cd_law ct_law, fun s v => .of_eq rfl, fun base _ _ => ?_⟩
  have D_dot : DefG l.prog w K mg base 1 "dot" ["row", "other"] (spDot K) := ok_dot F_dot (PySem.W.mg_of X G a_dot) T
  have D_draw : DefG l.prog w K mg base 1 "_law_draw" ["_law_deck_here", "_law_many"] spDraw := ok_draw F_draw (PySem.W.mg_of X G a_draw) T
  have D_pickL : DefG l.prog w K mg base 2 "_law_pick" ["_law_deck_here", "_law_some"] spPickL := ok_pickL F_pick (PySem.W.mg_of X G a_pick) T D_draw
  have D_pickS : DefG l.prog w K mg base 2 "_law_pick" ["_law_deck_here", "_law_some"] spPickS := ok_pickS F_pick (PySem.W.mg_of X G a_pick) T D_draw
  have D_called : DefG l.prog w K mg base 3 "_law_called" ["_law_deck_here", "_law_many"] spCalled := ok_called F_called (PySem.W.mg_of X G a_called) T D_draw D_pickS
  have D_sum : DefG l.prog w K mg base 1 "_law_sum" ["_law_row", "_law_some"] (spSum K) := ok_sum F_sum (PySem.W.mg_of X G a_sum) T
  have D_constant : DefG l.prog w K mg base 2 "_law_constant" ["_law_deck_here", "_law_worth"] spConst := ok_constant F_constant (PySem.W.mg_of X G a_constant) T D_draw
  have D_factors : DefG l.prog w K mg base 3 "_law_factors" ["_law_deck_here", "_law_many"] spFactors := ok_factors F_factors (PySem.W.mg_of X G a_factors) T D_draw D_pickL
  have D_due : DefG l.prog w K mg base 2 "_law_due" ["_law_lines", "_law_pieces", "_law_some"] (spDue K) := ok_due F_due (PySem.W.mg_of X G a_due) T D_sum
  have D_deck : DefG l.prog w K mg base 1 "_law_deck" ["_law_script"] (spDeck K) := ok_deck F_deck (PySem.W.mg_of X G a_deck) T
  have D_right : DefG l.prog w K mg base 4 "_law_right" ["_law_deck_here"] spRight := ok_right F_right (PySem.W.mg_of X G a_right) T S D_draw D_pickL D_called D_sum D_constant D_factors D_due
    ⟨mk, aI, iI, kc⟩ (ok_init FI S) B4 B3 V3 ⟨_, KB⟩ ⟨aF, iF, kF⟩ (ok_ful FF S T D_dot) (FF.binds fun _ _ _ _ _ _ us hl => match us, hl with | [_, _], _ => rfl)
    ⟨fun us ws => us ++ ws, ⟨fun s us ws _ h1 h2 => match us, ws, h1, h2 with | [_], [_], _, _ => .of_eq rfl, fun r1 r2 => Vals.append r1 r2⟩⟩ hE
  exact ok_law F_law T D_deck D_right
theorem walk {l : PySem.W.OpenLaw} {q : Program} {loose : List Str} {XP : (Str → Option Value) → Heap → Prop} {YP : World → Heap → Prop} {d : DefRec} {K : Params → PySem.W.Frag} (hn : l.most = some 63) (hdf : d.params.defaults = [])
    (hY : ∀ (w : World) (h : Heap), YP w h → (K w.params).In h)
    (F : ∀ (w : World) (mg : Str → Option Value) (fa : Addr) (h : Heap), (K w.params).In h → h.Ns mainGlobals mg → mg d.name = some (.ref fa) →
      ∃ fd : FuncData, (∀ (s : Shared) (u : Value), BindsTo s fd ⟨[u], []⟩ [("_law_script", u)]) ∧ ∀ base : Heap, (K w.params).In base → base.Ns mainGlobals mg → FnG l.prog w (K w.params) mg base CX0 5 fa fd ["_law_script"] (spLaw (K w.params))) :
    PySem.W.WalkO q loose XP YP l.row.toRowW d [] (fun f vs => PySem.call f vs) :=
  walkG (n := 63) (k := 5) (x := "_law_script") (sp := spLaw) hn (by decide) hdf ⟨rfl, by decide, by decide⟩ hY F (fun _ _ a ns hl _ hS => ⟨a, ns, rfl, hS, hl, fun _ => rfl⟩)
end K6
open PySem PySem.W PyProof.Rows
set_option maxRecDepth 100000 in
set_option maxHeartbeats 0 in
theorem PySem.Challenge.cw_whateverboxes_k06_fulfils_holds : PySem.Challenge.rw_whateverboxes_k06_fulfils.Holds := by
  w_on; o_law; k_head; (case hw => w_witness2)
  k_fill
  refine K6.walk (l := PySem.Challenge.rw_whateverboxes_k06_fulfils) rfl rfl (fun w h Y => PySem.W.kIn_of Y) ?F
  case F =>
    intro w mg fa h KX G hmg
    refine' K6.all_mk KX G hmg ?a_dot ?l_dot ?c_dot ?k_dot ?a_draw ?l_draw ?c_draw ?k_draw ?a_pick ?l_pick ?c_pick ?k_pick ?a_called ?l_called ?c_called ?k_called ?a_sum ?l_sum ?c_sum ?k_sum ?a_constant ?l_constant ?c_constant ?k_constant ?a_factors ?l_factors ?c_factors ?k_factors ?a_due ?l_due ?c_due ?k_due ?a_right ?l_right ?c_right ?k_right ?a_deck ?l_deck ?c_deck ?k_deck ?a_law ?l_law ?c_law ?k_law ?aC ?aI ?iI ?lI ?cI ?kI ?lT ?lE ?aF ?iF ?lF ?cF ?kF ?pg ?hd ?po ?sa ?mk ?kc ?nN ?nR ?nS ?z_int ?z_len ?z_range ?z_tuple ?z_str ?z_abs ?z_any ?z_sum ?z_zip ?z_enumerate ?z_repr
    (case a_dot => k_is)
    (case l_dot => k_is)
    (case c_dot => k_is)
    (case k_dot => k_is)
    (case a_draw => k_is)
    (case l_draw => k_is)
    (case c_draw => k_is)
    (case k_draw => k_is)
    (case a_pick => k_is)
    (case l_pick => k_is)
    (case c_pick => k_is)
    (case k_pick => k_is)
    (case a_called => k_is)
    (case l_called => k_is)
    (case c_called => k_is)
    (case k_called => k_is)
    (case a_sum => k_is)
    (case l_sum => k_is)
    (case c_sum => k_is)
    (case k_sum => k_is)
    (case a_constant => k_is)
    (case l_constant => k_is)
    (case c_constant => k_is)
    (case k_constant => k_is)
    (case a_factors => k_is)
    (case l_factors => k_is)
    (case c_factors => k_is)
    (case k_factors => k_is)
    (case a_due => k_is)
    (case l_due => k_is)
    (case c_due => k_is)
    (case k_due => k_is)
    (case a_right => k_is)
    (case l_right => k_is)
    (case c_right => k_is)
    (case k_right => k_is)
    (case a_deck => k_is)
    (case l_deck => k_is)
    (case c_deck => k_is)
    (case k_deck => k_is)
    (case a_law => k_is)
    (case l_law => k_is)
    (case c_law => k_is)
    (case k_law => k_is)
    (case aC => k_is)
    (case aI => k_is)
    (case iI => k_is)
    (case lI => k_is)
    (case cI => k_is)
    (case kI => k_is)
    (case lT => k_is)
    (case lE => k_is)
    (case aF => k_is)
    (case iF => k_is)
    (case lF => k_is)
    (case cF => k_is)
    (case kF => k_is)
    (case pg => k_is)
    (case hd => k_is)
    (case po => k_is)
    (case sa => k_is)
    (case mk => k_is)
    (case kc => k_is)
    (case nN => k_is)
    (case nR => k_is)
    (case nS => k_is)
    (case z_int => k_is)
    (case z_len => k_is)
    (case z_range => k_is)
    (case z_tuple => k_is)
    (case z_str => k_is)
    (case z_abs => k_is)
    (case z_any => k_is)
    (case z_sum => k_is)
    (case z_zip => k_is)
    (case z_enumerate => k_is)
    (case z_repr => k_is)
