import PyProof.Rows.All
import Wide.All
import OpenK.AllK
import Wide.FinOn
import HandS.ForMost
import HandS.Wide
import HandS.Style
import HandS.Zip
import HandS.MakeKwOnly
import HandS.MakeKw
import HandS.Walk
import HandS.TupAny
import HandS.Codes
import PySem.Challenge.RW_whateverboxes_k24_last_digits
set_option Elab.async false
set_option linter.all false
set_option maxRecDepth 100000
set_option maxHeartbeats 4000000
namespace GL
open PySem PySem.Spec PyProof.Rows L2

/-- nothing that guards itself against its own turn is under way -/
def Calm (A : Around) : Prop := A.guards = some []
theorem Calm.deeper {A : Around} (g : Calm A) (env : Env) : Calm (A.deeper env) := g
theorem Calm.make {A : Around} (g : Calm A) (C : Addr) (us : List Value) (kw : List (Str × Value)) : Calm (A.under (.builtin "type.__call__" ⟨.ref C :: us, kw⟩)) := by
  unfold Calm at *
  simp only [Around.under, Code.guards, Code.isGuard, guardIds]
  first | exact g | (rw [g]; rfl) | (simp [g])

/-- a def keeps its promise wherever no guard is under way -/
structure FnG (P : Program) (w : World) (K : PySem.W.Frag) (mg : Str → Option Value) (base : Heap) (CX : CXT) (k : Nat) (f : Addr) (fd : FuncData) (ps : List Str) (sp : Sp) : Prop where
  len : ∀ vs H Q E, sp vs H Q E → vs.length = ps.length
  run : ∀ (A : Around) (outer : List Env) (s : Shared) (H : Hp) (args : Args) (us : List Value) (vs : List V) (Q : VK) (E : XK),
    Room k A → Calm A → Env0 P w K mg base A outer s H → BindsTo s fd args (ps.zip us) → Vals vs us → sp vs H Q E →
    codeAny (model P w) A (.call (.ref f) args) (CR CX outer P w H s Q E) s
section
variable {P : Program} {w : World} {K : PySem.W.Frag} {mg : Str → Option Value} {base : Heap} {CX : CXT} {j k : Nat} {f : Addr} {fd : FuncData} {ps : List Str} {sp sp' : Sp}
theorem FnG.up (F : FnG P w K mg base CX j f fd ps sp) (h : j ≤ k) : FnG P w K mg base CX k f fd ps sp where
  len := F.len
  run := fun A outer s H args us vs Q E r g => F.run A outer s H args us vs Q E (r.mono h) g
theorem FnG.of (F : FnOk P w K mg base CX k f fd ps sp) : FnG P w K mg base CX k f fd ps sp where
  len := F.len
  run := fun A outer s H args us vs Q E r _ => F.run A outer s H args us vs Q E r
end

/-! what is known of a def of the text by its callers -/
structure DefG (P : Program) (w : World) (K : PySem.W.Frag) (mg : Str → Option Value) (base : Heap) (k : Nat) (x : Str) (ps : List Str) (sp : Sp) : Prop where
  ex : ∃ (f : Addr) (fd : FuncData), FnG P w K mg base CX0 k f fd ps sp ∧ mg x = some (.ref f) ∧ PySem.W.keepIn K (.ref f) = true ∧ Binds K fd ps []

section
variable {X : Cx} {CX : CXT} {k n : Nat} {f C : Addr} {fd : FuncData} {ps ks : List Str} {sp : Sp} {dvs : List V} {ds : List Value} {E : XK} {x m : Str} {p pos apos : Pos} {e o : Expr} {es : List Expr} {ta : TE} {t tk : TA} {kws : List Keyword}
variable {g : List Value → List Value → List Value} {gV : List V → List V → List V}

theorem out_of {pins : List (Addr × Obj)} {σ : L2.St} {H : Hp} {s : Shared} {Q : VK} (hx : Passes CX X E) (I : Inv X pins σ H s) :
    ∀ (r : Result) (s' : Shared), CR CX X.stack X.prog X.w H s Q E r s' → (match r with | .ok (.ret u) => EP X pins σ Q u s' | .ok _ => False | .error e => X.xe e s')
  | .error e, s', q => hx pins σ H s e s' I q
  | .ok (.ret _), _, q => I.after q
  | .ok .next, _, q => q
  | .ok .brk, _, q => q
  | .ok .cont, _, q => q

theorem runG {pins : List (Addr × Obj)} {σ : L2.St} {H : Hp} {s : Shared} {Q : VK} {us : List Value} {vs : List V} (F : FnG X.prog X.w X.K X.mg X.base CX k f fd ps sp) (hr : Room k X.A) (hc : Calm X.A)
    (hb : Binds X.K fd ps ds) (hd : Vals dvs ds) (hx : Passes CX X E) (I : Inv X pins σ H s) (r : Vals vs us) (h : sp (vs ++ dvs) H Q E) :
    wpAny (model X.prog X.w) X.A (call (.ref f) us) (EP X pins σ Q) X.xe s := by
  have both : Vals (vs ++ dvs) (us ++ ds) := Vals.append r hd
  have long : (us ++ ds).length = ps.length := both.length.symm.trans (F.len _ _ _ _ h)
  have go := F.run X.A X.stack s H ⟨us, []⟩ (us ++ ds) (vs ++ dvs) Q E hr hc I.env0 (hb s us I.kIn long) both h
  refine wpAny_call (codeAny_mono go fun r' s' q => ?_)
  have z := out_of hx I r' s' q
  match r', z with
  | .error _, z => exact z
  | .ok (.ret _), z => exact z

theorem pe_def (D : DefG X.prog X.w X.K X.mg X.base k x ps sp) (hr : Room k X.A) (hc : Calm X.A) (hg : Gl X x) (ha : PA X (e :: es) t) (hdb : (x == ("__debug__" : Str)) = false := by decide)
    (he : starEach (e :: es) X.env = (false, eval e X.env) :: starEach es X.env := by rfl) (hpl : (backTo pos (starEach es X.env)).any (·.1) = false := by rfl) :
    PE X (.Call (.Name x p) (e :: es) [] pos) (tCall sp [] E0 t) := by
  obtain ⟨f, fd, F, hm, hk, hb⟩ := D.ex
  exact ⟨fun pins s σ H Q I h => wpAny_Call_Name_kw (ld_glob I hg hm (PySem.W.callWith_K (h₀ := X.base) I.ok.mod.kin hk
    (thn (ha.run pos pins s σ H _ I h) fun us s1 ⟨vs, H1, I1, r, q⟩ => ⟨I1.kIn, runG F hr hc hb .nil pass0 I1 r q⟩) he hpl) hdb)⟩

/-- a method with positional arguments -/
theorem pe_methG {pl : Sem Bool} (he : PE X o ta) (c : Cls X.K C) (hm : Meth X.K C m f) (F : FnG X.prog X.w X.K X.mg X.base CX k f fd ps sp) (hr : Room k X.A) (hc : Calm X.A) (hb : Binds X.K fd ps ds) (hd : Vals dvs ds) (hx : Passes CX X E)
    (ha : PA X (e :: es) t) (hst : starEach (e :: es) X.env = (false, eval e X.env) :: starEach es X.env := by rfl) (hpl : (backTo pos (starEach es X.env)).any (·.1) = false := by rfl)
    (ht : eval (.Call (.Attribute o m apos) (e :: es) [] pos) X.env = (eval o X.env >>= fun ov => standAt apos.atName >>= fun _ => holding [ov] (getMethod ov m pl) >>= fun fx =>
      callWith pos fx.1 fx.2 (backTo pos (starEach (e :: es) X.env)) (backToKw pos (keywordEach [] X.env))) := by rfl) :
    PE X (.Call (.Attribute o m apos) (e :: es) [] pos) (tMeth C m sp dvs E ta t) := by
  constructor
  intro pins s σ H Q I h
  refine PySem.W.methodCall_KW (pl := pl) (thn (he.run pins s σ H _ I h) ?_) ht
  rintro u s1 ⟨_, H1, I1, rx, a, dx, fs, rfl, ea, l, q⟩
  obtain rfl : u = .ref a := rx
  refine getmeth_ok I1 ea c hm l (PySem.W.callWith_K (first := [.ref a]) (h₀ := X.base) I.ok.mod.kin hm.kp (thn (ha.run pos pins s1 σ H1 _ I1 q) ?_) hst hpl)
  rintro us s2 ⟨vs, H2, I2, r, q2⟩
  exact ⟨I2.kIn, runG (us := .ref a :: us) (vs := .ref a :: vs) F hr hc hb hd hx I2 (.cons rfl r) q2⟩

/-- how keywords alone bind behind a receiver -/
def tMethK (C : Addr) (m : Str) (sp : Sp) (n : Nat) (gV : List V → List V → List V) (E : XK) (ta : TE) (tk : TA) : TE := fun σ H Q => ta σ H fun x H1 => ∃ a dx fs, x = .ref a ∧ H1 a = some (.ins C dx fs) ∧ fs.lookup m = none ∧
  tk σ H1 fun zs H2 => zs.length = n ∧ sp (gV [x] zs) H2 Q E
theorem runKG {pins : List (Addr × Obj)} {σ : L2.St} {H : Hp} {s : Shared} {Q : VK} {us ws : List Value} {vs zs : List V} (F : FnG X.prog X.w X.K X.mg X.base CX k f fd ps sp) (hr : Room k X.A) (hc : Calm X.A) (hb : KBn X.K fd ps n ks g gV) (hx : Passes CX X E)
    (I : Inv X pins σ H s) (r : Vals vs us) (rz : Vals zs ws) (l1 : vs.length = n) (l2 : zs.length = ks.length) (h : sp (gV vs zs) H Q E) :
    wpAny (model X.prog X.w) X.A (call (.ref f) us (ks.zip ws)) (EP X pins σ Q) X.xe s := by
  have go := F.run X.A X.stack s H ⟨us, ks.zip ws⟩ (g us ws) (gV vs zs) Q E hr hc I.env0 (hb.to s us ws I.kIn (r.length.symm.trans l1) (rz.length.symm.trans l2)) (hb.rel r rz) h
  refine wpAny_call (codeAny_mono go fun r' s' q => ?_)
  have z := out_of hx I r' s' q
  match r', z with
  | .error _, z => exact z
  | .ok (.ret _), z => exact z
theorem pe_methKG {pl : Sem Bool} (he : PE X o ta) (c : Cls X.K C) (hm : Meth X.K C m f) (F : FnG X.prog X.w X.K X.mg X.base CX k f fd ps sp) (hr : Room k X.A) (hc : Calm X.A) (hb : KBn X.K fd ps 1 ks g gV) (hx : Passes CX X E)
    (hkw : PK X kws tk) (hall : (backToKw pos (keywordEach kws X.env)).all (·.1.isSome) = true := by rfl) (hks : (backToKw pos (keywordEach kws X.env)).filterMap (·.1) = ks := by rfl)
    (hpl : ((backTo pos (starEach [] X.env)).any (·.1) || (backToKw pos (keywordEach kws X.env)).any (·.1.isNone)) = false := by rfl)
    (ht : eval (.Call (.Attribute o m apos) [] kws pos) X.env = (eval o X.env >>= fun ov => standAt apos.atName >>= fun _ => holding [ov] (getMethod ov m pl) >>= fun fx =>
      callWith pos fx.1 fx.2 (backTo pos (starEach [] X.env)) (backToKw pos (keywordEach kws X.env))) := by rfl) :
    PE X (.Call (.Attribute o m apos) [] kws pos) (tMethK C m sp ks.length gV E ta tk) := by
  constructor
  intro pins s σ H Q I h
  refine PySem.W.methodCall_KW (pl := pl) (thn (he.run pins s σ H _ I h) ?_) ht
  rintro u s1 ⟨_, H1, I1, rx, a, dx, fs, rfl, ea, l, q⟩
  obtain rfl : u = .ref a := rx
  refine getmeth_ok I1 ea c hm l (PySem.W.callWith_KW0 (first := [.ref a]) (h₀ := X.base) I.ok.mod.kin hm.kp hall (thn (hkw.run pos pins s1 σ H1 _ I1 q) ?_) hpl)
  rintro ws s2 ⟨zs, H2, I2, rz, l2, q2⟩
  refine ⟨I2.kIn, ?_⟩
  rw [hks]
  exact runKG (us := [.ref a]) (vs := [.ref a]) F hr hc hb hx I2 (.cons rfl .nil) rz rfl l2 q2

/-- a new instance, then its __init__ with what binds -/
theorem makeG {pins : List (Addr × Obj)} {σ : L2.St} {H : Hp} {s : Shared} {Q : VK} {us : List Value} {kw : List (Str × Value)} {all : List Value} {av : Addr → List V} (M : Mk X.K C f) (F : FnG X.prog X.w X.K X.mg X.base CX k f fd ps sp) (hr : Room (k + 1) X.A) (hc : Calm X.A)
    (hx : Passes CX X E) (I : Inv X pins σ H s)
    (hb : ∀ s' : Shared, X.K.In s'.heap → BindsTo s' fd ⟨.ref (s.heap.objs.size + 1) :: us, kw⟩ (ps.zip all)) (r : Vals (av (s.heap.objs.size + 1)) all)
    (h : ∀ x dx, H x = none → H dx = none → dx ≠ x → sp (av x) (upd (upd H dx (.own x)) x (.ins C dx [])) (fun v H2 => v = .non ∧ Q (.ref x) H2) E) :
    wpAny (model X.prog X.w) X.A (call (.ref C) us kw) (EP X pins σ Q) X.xe s := by
  have q0 := h (s.heap.objs.size + 1) s.heap.objs.size (I.hok.fresh (Nat.le_succ _)) (I.hok.fresh (Nat.le_refl _)) (Nat.ne_of_lt (Nat.lt_succ_self _))
  have J := Inv.made (C := C) I
  have go := F.run _ X.stack _ _ ⟨Value.ref (s.heap.objs.size + 1) :: us, kw⟩ all _ _ E (hr.make C us kw) (hc.make C us kw) (J.env0.make C us kw) (hb _ J.kIn) r q0
  refine wpAny_call (make_map (f := f) I.kIn M.makes M.init (beq_iff_eq.mp M.fn) (codeAny_mono go fun r' s' q => ?_))
  match r', q with
  | .error e, q => exact hx pins σ _ _ e s' J q
  | .ok (.ret u), q =>
    obtain ⟨v, H', I3, rv, ev, q3⟩ := J.after q
    cases ev
    exact ⟨rv, ⟨V.ref (s.heap.objs.size + 1), H', I3, rfl, q3⟩⟩
theorem pe_makeG (M : Mk X.K C f) (F : FnG X.prog X.w X.K X.mg X.base CX k f fd ps sp) (hr : Room (k + 1) X.A) (hc : Calm X.A) (hg : Gl X x) (hm : X.mg x = some (.ref C)) (hb : Binds X.K fd ps ds) (hd : Vals dvs ds) (hx : Passes CX X E)
    (ha : PA X (e :: es) t) (hdb : (x == ("__debug__" : Str)) = false := by decide) (he : starEach (e :: es) X.env = (false, eval e X.env) :: starEach es X.env := by rfl) (hpl : (backTo pos (starEach es X.env)).any (·.1) = false := by rfl) :
    PE X (.Call (.Name x p) (e :: es) [] pos) (tMake C sp dvs E t) := by
  constructor
  intro pins s σ H Q I h
  refine wpAny_Call_Name_kw (ld_glob I hg hm (PySem.W.callWith_K (h₀ := X.base) I.ok.mod.kin M.kp (thn (ha.run pos pins s σ H _ I h) ?_) he hpl) hdb)
  rintro us s1 ⟨vs, H1, I1, r, q⟩
  have r2 : Vals (V.ref (s1.heap.objs.size + 1) :: (vs ++ dvs)) (Value.ref (s1.heap.objs.size + 1) :: (us ++ ds)) := .cons rfl (Vals.append r hd)
  have q0 := q (s1.heap.objs.size + 1) s1.heap.objs.size (I1.hok.fresh (Nat.le_succ _)) (I1.hok.fresh (Nat.le_refl _)) (Nat.ne_of_lt (Nat.lt_succ_self _))
  exact ⟨I1.kIn, makeG (av := fun x => .ref x :: (vs ++ dvs)) M F hr hc hx I1 (fun s' X' => hb s' (Value.ref (s1.heap.objs.size + 1) :: us) X' (r2.length.symm.trans (F.len _ _ _ _ q0))) r2 q⟩
theorem pe_makeKG0 (M : Mk X.K C f) (F : FnG X.prog X.w X.K X.mg X.base CX k f fd ps sp) (hr : Room (k + 1) X.A) (hc : Calm X.A) (hg : Gl X x) (hm : X.mg x = some (.ref C)) (hb : KBn X.K fd ps 1 ks g gV) (hx : Passes CX X E) (hkw : PK X kws tk)
    (hall : (backToKw pos (keywordEach kws X.env)).all (·.1.isSome) = true := by rfl) (hks : (backToKw pos (keywordEach kws X.env)).filterMap (·.1) = ks := by rfl) (hdb : (x == ("__debug__" : Str)) = false := by decide)
    (hpl : ((backTo pos (starEach [] X.env)).any (·.1) || (backToKw pos (keywordEach kws X.env)).any (·.1.isNone)) = false := by rfl) :
    PE X (.Call (.Name x p) [] kws pos) (tMakeK C 0 ks.length sp gV E tNil tk) := by
  constructor
  intro pins s σ H Q I h
  refine wpAny_Call_Name_kw (ld_glob I hg hm (PySem.W.callWith_KW0 (h₀ := X.base) I.ok.mod.kin M.kp hall (thn (hkw.run pos pins s σ H _ I h) ?_) hpl) hdb)
  rintro ws s2 ⟨zs, H2, I2, rz, _, l2, q2⟩
  refine ⟨I2.kIn, ?_⟩
  rw [hks]
  exact makeG (av := fun x => gV [.ref x] zs) M F hr hc hx I2 (fun s' X' => hb.to s' [Value.ref (s2.heap.objs.size + 1)] ws X' rfl (rz.length.symm.trans l2)) (hb.rel (.cons rfl .nil) rz) q2

/-- repr of what reads as data -/
theorem call_reprD (hc : Calm X.A) (hu : X.A.units + 100 < cLine) : CallR X (.builtin "repr") (fun xs H Q => ∃ (a : Addr) (d : PyData), xs = [.ref a] ∧ Dp X.K H (.ref a) d ∧ d.showable = true ∧ d.hasDict = false ∧ d.depth ≤ 64 ∧ d.shown.length ≤ sizeLine ∧ Q (.str d.shown) H) := by
  intro pins s σ H xs us Q I r h
  obtain ⟨a, d, rfl, hd, hs, hn, hdp, hz, q⟩ := h
  obtain ⟨as, rd⟩ := Dp.reads I d (.ref a) (.ref a) hd rfl
  rw [Vals.ref1 r]
  exact repr_of_reads' rd hs (PyData.noDict_hsm hn) hc (by omega) (fun _ _ e => e) (fun h' u tk hk => ⟨.str _, H, I.kept hk, ⟨_, rfl⟩, q⟩) hz
end

section
variable {P : Program} {w : World} {K : PySem.W.Frag} {mg : Str → Option Value} {base : Heap}
/-- a def's promise, by its body: whatever its defaults -/
theorem okR {x qual : Str} {params : Arguments} {body : List Stmt} {scope : Scope} {dV kV doc pm cdv ct oc : Value} {an od : Option Addr} {osl : Array (Option Value)} {f : Addr} {N ps : List Str} {k : Nat} {sp : Sp}
    (lk : K.lookup f = some ⟨oc, od, .func (PySem.W.fnOf x qual params body scope dV kV doc pm an cdv ct), osl⟩) (code : PySem.W.codeIn K cdv qual = true) (S : FnScope N ps scope) (len : ∀ vs H Q E, sp vs H Q E → vs.length = ps.length)
    (walk : ∀ (cdv : Value) (A : Around) (outer : List Env) (s : Shared) (H : Hp) (vs : List V) (Q : VK) (E : XK), Room k (A.deeper (envOfC qual scope s.heap.objs.size f cdv)) → Calm (A.deeper (envOfC qual scope s.heap.objs.size f cdv)) → sp vs H Q E →
      ∃ t, PSs (cxOf CX0 P w K mg base N qual scope f cdv A outer s H E).nox body t ∧ t { nx := fun _ H' => Q .non H', rt := Q } (start N vs) H) : FnG P w K mg base CX0 (k + 1) f (PySem.W.fnOf x qual params body scope dV kV doc pm an cdv ct) ps sp := by
  refine ⟨len, ?_⟩
  intro A outer s H args us vs Q E room calm e0 bnd rel want
  have long := len _ _ _ _ want
  have up : ∀ b o, base.get? b = some o → s.heap.get? b = some o := fun b o e => (e0.bs b o e).1
  have kin : K.In s.heap := e0.mod.kin.keeps up
  have lim : s.heap.NoLimit := e0.mod.nolimit.keeps up
  have kinds : ∀ y ∈ ps.zip us, scope.names.lookup y.1 = some .local ∨ (scope.names.lookup y.1 = some .cell ∧ ((cellsFrom (s.heap.objs.size + 1) scope.names []).lookup y.1).isSome = true) := by
    rintro ⟨n, v⟩ hy
    exact (S.par n (List.of_mem_zip hy).1).imp id fun q => ⟨q, PySem.W.cellsFrom_some _ _ _ (.inl q)⟩
  refine codeAny_call_function room.depth (kin _ _ lk) rfl S.co S.gen rfl (PySem.W.codeRec_of kin code) (bnd _ _ _ _ (wpAny_newFunctionEnv_cells S.kind kinds ?_))
  rintro env rfl s1 x
  obtain ⟨t, deriv, reads⟩ := walk cdv A outer s H vs Q E (room.deeper _) (calm.deeper _) want
  have I : Inv (cxOf CX0 P w K mg base N qual scope f cdv A outer s H E) [] (start N vs) H s1 := inv_start S room.hd e0 long rel x
  refine ⟨lim.keeps x.toInCall.keep, codeAny_func (wpAny_mono (deriv.nox.run [] s1 (start N vs) H _ I reads) ?_ fun _ _ z => z)⟩
  intro fl s' hs
  match fl, hs with
  | .ret u, ⟨v, _, H', J, rv, q⟩ => exact ⟨v, H', J.os, J.bare, J.base, J.hok, rv, q⟩
  | .next, ⟨_, H', J, q⟩ => exact ⟨V.non, H', J.os, J.bare, J.base, J.hok, rfl, q⟩
  | .brk, ⟨_, _, _, q⟩ => exact q.elim
  | .cont, ⟨_, _, _, q⟩ => exact q.elim

theorem okG {x qual : Str} {st : Stmt} {f : Addr} {fd : FuncData} {N ps : List Str} {k : Nat} {sp : Sp} (F : Fun K x qual st f fd) (S : FnScope N ps (defScope st)) (len : ∀ vs H Q E, sp vs H Q E → vs.length = ps.length)
    (walk : ∀ (cdv : Value) (A : Around) (outer : List Env) (s : Shared) (H : Hp) (vs : List V) (Q : VK) (E : XK), Room k (A.deeper (envOfC qual (defScope st) s.heap.objs.size f cdv)) → Calm (A.deeper (envOfC qual (defScope st) s.heap.objs.size f cdv)) → sp vs H Q E →
      ∃ t, PSs (cxOf CX0 P w K mg base N qual (defScope st) f cdv A outer s H E).nox (defBody st) t ∧ t { nx := fun _ H' => Q .non H', rt := Q } (start N vs) H) : FnG P w K mg base CX0 (k + 1) f fd ps sp := by
  obtain ⟨oc, od, kV, doc, pm, an, cdv, ct, osl, rfl, lk, code⟩ := F.ex
  exact okR lk code S len walk
theorem okD {x qual : Str} {st : Stmt} {dvs : List V} {kws : List (Str × V)} {f : Addr} {fd : FuncData} {N ps : List Str} {k : Nat} {sp : Sp} (F : FunD K x qual (defArgs st) (defBody st) (defScope st) dvs kws f fd) (S : FnScope N ps (defScope st)) (len : ∀ vs H Q E, sp vs H Q E → vs.length = ps.length)
    (walk : ∀ (cdv : Value) (A : Around) (outer : List Env) (s : Shared) (H : Hp) (vs : List V) (Q : VK) (E : XK), Room k (A.deeper (envOfC qual (defScope st) s.heap.objs.size f cdv)) → Calm (A.deeper (envOfC qual (defScope st) s.heap.objs.size f cdv)) → sp vs H Q E →
      ∃ t, PSs (cxOf CX0 P w K mg base N qual (defScope st) f cdv A outer s H E).nox (defBody st) t ∧ t { nx := fun _ H' => Q .non H', rt := Q } (start N vs) H) : FnG P w K mg base CX0 (k + 1) f fd ps sp := by
  obtain ⟨oc, od, dV, kV, doc, pm, an, cdv, ct, osl, rfl, lk, code, _, _⟩ := F.ex
  exact okR lk code S len walk

/-- the law's call, where the caller guards nothing -/
theorem lawG {mb : Str → Option Value} {k : Nat} {fa a : Addr} {fd : FuncData} {x : Str} {sp : Sp} {s₁ : Shared} {vs : List Value} {ns : List Int}
    (KX : K.In s₁.heap) (hns : s₁.heap.Ns mainGlobals mg) (hb : s₁.heap.Ns builtinsNs mb) (hbb : ∀ x : Str, x ≠ "__name__" → mb x = bootBuiltins x) (hlim : s₁.heap.NoLimit) (hg : s₁.gens = #[])
    (ha : s₁.heap.get? a = some { cls := .type "list", data := .seq vs.toArray }) (hi : IntsAre vs ns) (hl : ns.length ≤ sizeLine) (hr : Room k callerA)
    (F : ∀ base : Heap, K.In base → base.Ns mainGlobals mg → FnG P w K mg base CX0 k fa fd [x] sp) (hbind : ∀ (s : Shared) (u : Value), BindsTo s fd ⟨[u], []⟩ [(x, u)])
    (hsp : ∀ H : Hp, Only H → SqL K H a (ns.map V.int) → sp [.ref a] H (fun v _ => v = .bl true) fun _ _ _ => False) :
    codeAny (model P w) callerA (.call (.ref fa) ⟨[.ref a], []⟩) (fun r s' => r = .ok (.ret (.bool true)) ∧ OldK s₁.heap s'.heap ∧ s'.os = s₁.os ∧ AllBare s'.gens) s₁ := by
  have rel := vals_ints hi
  have core : ∀ H : Hp, Only H → SqL K H a (ns.map V.int) → HOk P w H s₁.heap → (∀ b, H b ≠ none → b = a) → (H a ≠ none → K.lookup a = none) →
      codeAny (model P w) callerA (.call (.ref fa) ⟨[.ref a], []⟩) (fun r s' => r = .ok (.ret (.bool true)) ∧ OldK s₁.heap s'.heap ∧ s'.os = s₁.os ∧ AllBare s'.gens) s₁ := by
    intro H only sq hok alone free
    have off : ∀ {b : Addr}, b ≠ a → H b = none := fun {b} ne => Classical.byContradiction fun z => ne (alone b z)
    have dictOff : ∀ {b : Addr} {o : Obj} {es : Array DictEntry} {ep : Nat}, s₁.heap.get? b = some o → o.data = .dict es ep → H b = none := by
      intro b o es ep e d
      refine off fun eq => ?_
      rw [eq, ha] at e
      cases e
      exact Data.noConfusion d
    have nsK : ∀ {b : Addr} {m : Str → Option Value}, s₁.heap.Ns b m → (hidT s₁.heap H).Ns b m := by
      rintro b m ⟨o, es, ep, e, d, r⟩
      exact ⟨o, es, ep, hidT_get e (dictOff e d), d, r⟩
    have kb : K.In (hidT s₁.heap H) := by
      intro b o e
      refine hidT_get (KX b o e) (Classical.byContradiction fun z => ?_)
      have eq := alone b z
      rw [eq] at z e
      rw [free z] at e
      cases e
    have md : Mod K mg (hidT s₁.heap H) := ⟨kb, nsK hns, ⟨mb, nsK hb, hbb⟩, let ⟨mc, h1, h2⟩ := hlim; ⟨mc, nsK h1, h2⟩⟩
    have e0 : Env0 P w K mg (hidT s₁.heap H) callerA [] s₁ H := ⟨rfl, md, fun b o e => of_hidT e, Nat.le_of_eq (hidT_size _ _), trivial, (fun b z => nomatch z), hok, .of_eq hg⟩
    have go := (F _ kb (nsK hns)).run callerA [] s₁ H ⟨[.ref a], []⟩ [.ref a] [.ref a] _ _ hr rfl e0 (hbind s₁ (.ref a)) (.cons rfl .nil) (hsp H only sq)
    refine codeAny_mono go fun r s' h => ?_
    match r, h with
    | .ok (.ret u), ⟨v, H', os, bare, un, hok', r', q⟩ =>
      have q' : v = .bl true := q
      subst q'
      obtain rfl : u = Value.bool true := r'
      refine ⟨rfl, OldK.of_keep fun b o e => ?_, os, bare⟩
      rcases only b with z | ⟨ob, xs, z⟩
      · exact un.keep b o e z (fun y => nomatch y) (fun y => nomatch y)
      · obtain ⟨e1, _⟩ := hok b _ z
        obtain ⟨e2, _⟩ := hok' b _ (un.frzs b ob _ z)
        exact e.symm.trans e1 ▸ e2
  have lenV := hi.length
  cases hk : K.lookup a with
  | some o =>
    have e := ha.symm.trans (KX a o hk)
    cases e
    exact core (fun _ => none) (fun _ => .inl rfl) (.inr ⟨_, vs.toArray, _, hk, rfl, rfl, rfl, by rw [List.size_toArray, lenV]; exact hl, by simpa using rel⟩) (fun b u z => nomatch z) (fun b z => absurd rfl z) fun z => absurd rfl z
  | none =>
    have at_ : ∀ b, (if b = a then some (HO.frz { cls := .type "list", data := .seq vs.toArray } (.lst (ns.map V.int))) else none) ≠ none → b = a := fun b z => Classical.byContradiction fun y => z (if_neg y)
    refine core (fun b => if b = a then some (.frz { cls := .type "list", data := .seq vs.toArray } (.lst (ns.map V.int))) else none) (fun b => ?_) (.inl (.inr ⟨{ cls := .type "list", data := .seq vs.toArray }, if_pos rfl⟩)) (fun b u z => ?_) at_ fun _ => hk
    · by_cases hb : b = a
      · exact .inr ⟨_, _, if_pos hb⟩
      · exact .inl (if_neg hb)
    · have eb : b = a := at_ b (fun y => nomatch (y.symm.trans z))
      subst eb
      have z' := (if_pos rfl).symm.trans z
      cases z'
      exact ⟨ha, by rw [List.length_map]; exact hl, vs, _, rel, ha⟩
end
theorem walkG {l : PySem.W.OpenLaw} {n k : Nat} {q : Program} {loose : List Str} {XP : (Str → Option Value) → Heap → Prop} {YP : World → Heap → Prop} {d : DefRec} {K : Params → PySem.W.Frag} {sp : PySem.W.Frag → Sp} {x : Str}
    (hn : l.most = some n) (hn2 : n ≤ sizeLine) (hdf : d.params.defaults = []) (hr : Room k callerA)
    (hY : ∀ (w : World) (h : Heap), YP w h → (K w.params).In h)
    (F : ∀ (w : World) (mg : Str → Option Value) (fa : Addr) (h : Heap), (K w.params).In h → h.Ns mainGlobals mg → mg d.name = some (.ref fa) →
      ∃ fd : FuncData, (∀ (s : Shared) (u : Value), BindsTo s fd ⟨[u], []⟩ [(x, u)]) ∧
        ∀ base : Heap, (K w.params).In base → base.Ns mainGlobals mg → FnG l.prog w (K w.params) mg base CX0 k fa fd [x] (sp (K w.params)))
    (hsp : ∀ (K : PySem.W.Frag) (H : Hp) (a : Addr) (ns : List Int), ns.length ≤ n → Only H → SqL K H a (ns.map V.int) → sp K [.ref a] H (fun v _ => v = .bl true) fun _ _ _ => False) :
    PySem.W.WalkO q loose XP YP l.row.toRowW d [] (fun f vs => PySem.call f vs) := by
  refine Att.attach_call hn hdf ?_
  intro w s₀ s₁ mg mb fa o pm cd doc a vs ns G Y ho hd hcd hmg hobj hints hlen hg
  obtain ⟨fd, hb, hF⟩ := F w mg fa _ (hY w _ Y) G.T.g hmg
  exact lawG (hY w _ Y) G.T.g G.T.b G.T.builtins G.T.nolimit hg hobj hints (Nat.le_trans hlen hn2) hr hF hb fun H o s => hsp _ H a ns hlen o s
end GL
namespace GL
open PySem PySem.Spec PyProof.Rows L2
section
variable {K : PySem.W.Frag} {H H' : Hp}
theorem dpa_ints : ∀ ns : List Int, DpAll K H (ns.map V.int) (ns.map PyData.int)
  | [] => .nil
  | n :: r => .cons (.int n) (dpa_ints r)
theorem dpa_strs : ∀ ns : List Str, DpAll K H (ns.map V.str) (ns.map PyData.str)
  | [] => .nil
  | n :: r => .cons (.str n) (dpa_strs r)
theorem dpa_bls : ∀ ns : List Bool, DpAll K H (ns.map V.bl) (ns.map PyData.bool)
  | [] => .nil
  | n :: r => .cons (.bl n) (dpa_bls r)
theorem lay_ints : ∀ ns : List Int, PyData.canLayAll0 (ns.map PyData.int) = true
  | [] => rfl
  | n :: r => by
    show (PyData.canLay0 (.int n) && PyData.canLayAll0 (r.map PyData.int)) = true
    rw [lay_ints r]; rfl
theorem depth_ints : ∀ ns : List Int, PyData.depthAll (ns.map PyData.int) = 0
  | [] => rfl
  | n :: r => by
    show max (PyData.depth (.int n)) (PyData.depthAll (r.map PyData.int)) = 0
    rw [depth_ints r]; rfl
theorem depth_strs : ∀ ns : List Str, PyData.depthAll (ns.map PyData.str) = 0
  | [] => rfl
  | n :: r => by
    show max (PyData.depth (.str n)) (PyData.depthAll (r.map PyData.str)) = 0
    rw [depth_strs r]; rfl
theorem shaped_ints (ns : List Int) : SeqAt.shaped (.list (ns.map PyData.int)) = true := by
  unfold SeqAt.shaped
  rw [show PyData.canLay0 (.list (ns.map PyData.int)) = PyData.canLayAll0 (ns.map PyData.int) from rfl, lay_ints ns]
  rw [show PyData.depth (.list (ns.map PyData.int)) = PyData.depthAll (ns.map PyData.int) + 1 from rfl, depth_ints ns]
  rfl
theorem eqv_ints_nil : ∀ ns : List Int, PyData.eqv (.list (ns.map PyData.int)) (.list []) = decide (ns = [])
  | [] => rfl
  | n :: r => by
    rw [decide_eq_false (show ¬ (n :: r = []) from List.cons_ne_nil n r)]
    rfl

/-! ### what stays -/
theorem Same.new {p : Addr} {o : HO} (h : H p = none) : Same H (upd H p o) := fun b u e => by
  rw [upd_ne (ne_of_none e h)]; exact e
theorem Same.tup {a : Addr} {xs : List V} (e : Same H H') (h : SqT K H a xs) : SqT K H' a xs := by
  rcases h with (h | ⟨o, h⟩) | h
  · exact .inl (.inl (e _ _ h))
  · exact .inl (.inr ⟨o, e _ _ h⟩)
  · exact .inr h
theorem tofT {a : Addr} {xs : List V} (h : H a = some (.tup xs)) : SqT K H a xs := .inl (.inl h)
theorem tofL {a : Addr} {xs : List V} (h : H a = some (.lst xs)) : SqL K H a xs := .inl (.inl h)
theorem small {n : Nat} (h : n ≤ 100000) : n ≤ sizeLine := Nat.le_trans h (by decide)
theorem smallt {n : Nat} (h : n < 100000) : n < sizeLine := Nat.lt_of_lt_of_le h (by decide)

/-! ### the deck of the laws: a dict of a list of ints and an int -/
def deckD (g : Addr) (m : Int) : List (Key × V) := [(Sum.inr "great", .ref g), (Sum.inr "mixed", .int m)]
theorem gm0 : ¬ (("great" : Str) = "mixed") := by decide +kernel
theorem gm : ¬ ((Sum.inr ("great" : Str) : Key) = (Sum.inr ("mixed" : Str) : Key)) := by
  intro e
  injection e with e1
  exact gm0 e1
theorem deck_great (g : Addr) (m : Int) : valV (deckD g m) (Sum.inr "great" : Key) = some (.ref g) := valV_pos rfl
theorem deck_mixed (g : Addr) (m : Int) : valV (deckD g m) (Sum.inr "mixed" : Key) = some (.int m) := by
  unfold deckD
  rw [valV_neg gm, valV_pos rfl]
theorem deck_put (g : Addr) (m m' : Int) : putK (deckD g m) (Sum.inr "mixed" : Key) (.int m') = deckD g m' := by
  unfold putK deckD
  simp only [List.any_cons, List.any_nil, List.map_cons, List.map_nil, decide_eq_false gm, decide_true, Bool.or_true, Bool.false_or, Bool.or_false, if_true]
  rw [if_neg gm]
/-- all but the deck stays -/
structure Mv (d g : Addr) (H H' : Hp) : Prop where
  keep : ∀ b o, H b = some o → b ≠ d → b ≠ g → H' b = some o
structure Deck (H : Hp) (d g : Addr) : Prop where
  ex : ∃ (m : Int) (L : List Int), H d = some (.dK (deckD g m)) ∧ H g = some (.lst (L.map V.int)) ∧ L.length ≤ 63 ∧ 0 ≤ m ∧ m < 2147483587
theorem Deck.ne {d g : Addr} (D : Deck H d g) : d ≠ g := by
  obtain ⟨m, L, h1, h2, _⟩ := D.ex
  exact ne_of h1 h2 (fun z => nomatch z)
theorem Deck.same {d g : Addr} (D : Deck H d g) (s : Same H H') : Deck H' d g := by
  obtain ⟨m, L, h1, h2, r⟩ := D.ex
  exact ⟨⟨m, L, s _ _ h1, s _ _ h2, r⟩⟩
theorem Mv.refl {d g : Addr} : Mv d g H H := ⟨fun _ _ h _ _ => h⟩
theorem Mv.trans {d g : Addr} {H1 H2 H3 : Hp} (a : Mv d g H1 H2) (b : Mv d g H2 H3) : Mv d g H1 H3 := ⟨fun p o h n1 n2 => b.keep p o (a.keep p o h n1 n2) n1 n2⟩
theorem Mv.of {d g : Addr} (s : Same H H') : Mv d g H H' := ⟨fun p o h _ _ => s p o h⟩
theorem Mv.at {d g a : Addr} {o : HO} (m : Mv d g H H') (h : H a = some o) (n : a ≠ d ∧ a ≠ g) : H' a = some o := m.keep _ _ h n.1 n.2
/-- what is new stands apart from the deck -/
theorem Deck.off {d g p : Addr} (D : Deck H d g) (h : H p = none) : p ≠ d ∧ p ≠ g := by
  obtain ⟨m, L, h1, h2, r⟩ := D.ex
  exact ⟨(ne_of_none h1 h).symm, (ne_of_none h2 h).symm⟩
theorem Deck.new {d g p : Addr} {o : HO} (D : Deck H d g) (h : H p = none) : Deck (upd H p o) d g := D.same (Same.new h)
/-- what was new before is new or ours -/
theorem Mv.free {d g p : Addr} (D : Deck H d g) (m : Mv d g H H') (D' : Deck H' d g) (h : H' p = none) : H p = none := by
  have n := D'.off h
  cases e : H p with
  | none => rfl
  | some o => rw [m.keep p o e n.1 n.2] at h; cases h
/-- a change of what was not there -/
theorem Mv.mut {d g p : Addr} {o : HO} (m : Mv d g H H') (h : H p = none) : Mv d g H (upd H' p o) := ⟨fun b u hb n1 n2 => by
  rw [upd_ne (ne_of_none hb h)]
  exact m.keep b u hb n1 n2⟩
theorem Deck.mut {d g p : Addr} {o : HO} (D : Deck H d g) (n : p ≠ d ∧ p ≠ g) : Deck (upd H p o) d g := by
  obtain ⟨m, L, h1, h2, r⟩ := D.ex
  exact ⟨⟨m, L, by rw [upd_ne n.1.symm]; exact h1, by rw [upd_ne n.2.symm]; exact h2, r⟩⟩
def spDraw : Sp := fun vs H Q _ => ∃ (d g : Addr) (n : Int), vs = [.ref d, .int n] ∧ Deck H d g ∧ 0 < n ∧ n < 2 ^ 250 ∧
  ∀ (r : Int) (H' : Hp), 0 ≤ r → r < n → Deck H' d g → Mv d g H H' → Q (.int r) H'
end
def spPickL : Sp := fun vs H Q _ => ∃ (d g a : Addr) (xs : List V), vs = [.ref d, .ref a] ∧ Deck H d g ∧ H a = some (.lst xs) ∧ a ≠ g ∧ xs ≠ [] ∧ xs.length ≤ 1000 ∧
  ∀ (x : V) (H' : Hp), x ∈ xs → Deck H' d g → Mv d g H H' → Q x H'
def spPickS : Sp := fun vs H Q _ => ∃ (d g : Addr) (z : Str), vs = [.ref d, .str z] ∧ Deck H d g ∧ z.cps.toList ≠ [] ∧ z.length ≤ 1000 ∧
  ∀ (c : Nat) (H' : Hp), c ∈ z.cps.toList → Deck H' d g → Mv d g H H' → Q (.str ⟨#[c]⟩) H'
theorem at_in {α : Type} {xs : List α} {r : Int} (h0 : 0 ≤ r) (h1 : r < xs.length) : ∃ x, x ∈ xs ∧ atI xs r = some x := by
  obtain ⟨j, rfl⟩ : ∃ j : Nat, r = (j : Int) := ⟨r.toNat, by omega⟩
  have hj : j < xs.length := by omega
  exact ⟨xs[j], List.getElem_mem hj, atI_nat (List.getElem?_eq_getElem hj)⟩
theorem str_len (z : Str) : z.length = z.cps.toList.length := by
  rw [Array.length_toList]; rfl
theorem pop_at (L : List Int) (c : Int) : ((L ++ [c]).map V.int)[((L ++ [c]).map V.int).length - 1]? = some (.int c) := by
  rw [List.map_append, List.map_singleton, List.length_append, List.length_singleton, Nat.add_sub_cancel, List.getElem?_append_right (Nat.le_refl _), Nat.sub_self]
  rfl
theorem pop_left (L : List Int) (c : Int) : ((L ++ [c]).map V.int).dropLast = L.map V.int := by
  rw [List.map_append, List.map_singleton, List.dropLast_concat]
theorem snoc_of {L : List Int} (h : L ≠ []) : ∃ L0 c, L = L0 ++ [c] := ⟨L.dropLast, L.getLast h, (List.dropLast_concat_getLast h).symm⟩
theorem mul_small {i j : Int} (h0 : 0 ≤ i) (h1 : i < 2 ^ 64) : CMul i j := .inl ⟨by omega, h1⟩
theorem mul_smallR {i j : Int} (h0 : 0 ≤ j) (h1 : j < 2 ^ 64) : CMul i j := .inr ⟨by omega, h1⟩
theorem ty_l {K : PySem.W.Frag} {H : Hp} {a : Addr} {xs : List V} (h : SqL K H a xs) : tyV K "list" (.ref a) H := Or.inl ⟨rfl, xs, h⟩
theorem lt_c {a b : Int} (h : a < b) : a < b := h
theorem def_mk {P : Program} {w : World} {K : PySem.W.Frag} {mg : Str → Option Value} {base : Heap} {k : Nat} {x : Str} {st : Stmt} {f : Addr} {fd : FuncData} {ps : List Str} {sp : Sp} (F : Fun K x x st f fd) (gl : mg x = some (.ref f)) (b : Binds K fd ps []) (h : FnG P w K mg base CX0 k f fd ps sp) : DefG P w K mg base k x ps sp :=
  ⟨⟨f, fd, h, gl, F.kp, b⟩⟩
end GL
namespace GL
open PySem PySem.Spec PyProof.Rows L2 RZ
theorem truth_intsG {prog : Program} {w : World} {A : Around} {ns : List Int} {its : List Value} (r : Vals (ns.map V.int) its) :
    TruthOf prog w A (fun i v => its.toArray[i]? = some v) (fun i => (ns.map fun n => n != 0).getD i false) := by
  intro i v s Q E hv hq
  have hv' : its[i]? = some v := by simpa using hv
  have li : i < ns.length := by
    have := (List.getElem?_eq_some_iff.mp hv').1
    have e := r.length
    rw [List.length_map] at e
    omega
  have e1 : (ns.map V.int)[i]? = some (.int ns[i]) := by rw [List.getElem?_map, List.getElem?_eq_getElem li]; rfl
  obtain ⟨u, hu, ru⟩ := r.get e1
  rw [hv'] at hu
  cases hu
  obtain ⟨t, rfl⟩ := ru
  have hg : (ns.map fun n => n != 0).getD i false = (ns[i] != 0) := by
    rw [List.getD_eq_getElem?_getD, List.getElem?_map, List.getElem?_eq_getElem li]; rfl
  have hq' : Q ((ns.map fun n => n != 0).getD i false) s := hq
  rw [hg] at hq'
  exact PySem.P.truthy_int hq'
section
variable {X : Cx}
theorem walk_zipT {K : PySem.W.Frag} {a b : Addr} {xs ys : List V} {n : Nat} (hn : n = min xs.length ys.length) : Walk (ItzT K a b) n (fun H => SqT K H a xs ∧ SqT K H b ys) (YPair (fun i => xs[i]?) (fun i => ys[i]?)) where
  goes := fun i H hi h => ⟨xs, ys, xs[i]'(by omega), ys[i]'(by omega), h.1, h.2, List.getElem?_eq_getElem _, List.getElem?_eq_getElem _⟩
  stops := fun H h => ⟨xs, ys, h.1, h.2, by omega⟩
  yields := fun i H x H' _ h y => by
    obtain ⟨T, u, v, e1, e2, e3, f1, f2⟩ := y
    exact ⟨T, u, v, e1, e2, e3, f1 _ h.1, f2 _ h.2⟩
theorem op_inK {K : PySem.W.Frag} (h : X.K = K := by rfl) : OpR X (compareOp .In) (rIn K false) := h ▸ op_in_seq
theorem op_notInK {K : PySem.W.Frag} (h : X.K = K := by rfl) : OpR X (compareOp .NotIn) (rIn K true) := h ▸ op_notIn_seq
/-- any of a list of ints -/
def rAnyI (K : PySem.W.Frag) : List V → Hp → VK → Prop := fun vs H Q => ∃ (a : Addr) (ns : List Int), vs = [V.ref a] ∧ SqL K H a (ns.map V.int) ∧ Q (.bl (ns.any fun n => n != 0)) H
theorem cr_anyI (calm : X.calm = true) : CallR X (.builtin "any") (rAnyI X.K) := by
  intro pins s σ H vs us Q I r h
  obtain ⟨a, ns, rfl, hs, q⟩ := h
  obtain ⟨its, rv, hl, _⟩ := I.list hs
  have en : its.length = ns.length := by rw [← rv.length, List.length_map]
  rw [Vals.ref1 r]
  refine call_any_walk (iter_any hl.isList ?_)
  rintro s₂ rfl st hne
  refine ⟨_, _, _, _, _, _, _, rfl, Walks.list (A := X.A.in1) (I.ok.hd calm) _ a hne its.toArray, st, truth_intsG rv, ?_⟩
  intro h' tk hk
  refine ⟨.bl _, H, I.kept (fun b o eo => hk b o (fun hm => ?_) (Heap.get?_push_of_some _ eo)), ?_, q⟩
  · rcases List.mem_cons.mp hm with e1 | hm
    · exact absurd (e1 ▸ Heap.lt_size eo) (Nat.lt_irrefl _)
    · cases hm
  · have ea := any_range (ns.map fun n => n != 0)
    rw [List.length_map] at ea
    show Value.bool _ = Value.bool _
    rw [List.size_toArray, en, ea, List.any_map]
    rfl
end

/-! ### data that may be shown: at most B signs, at most k deep -/
structure Nice (B k : Nat) (d : PyData) : Prop where
  sh : d.showable = true
  nd : d.hasDict = false
  dp : d.depth ≤ k
  sz : d.shown.length ≤ B
theorem Nice.mono {B B' k k' : Nat} {d : PyData} (h : Nice B k d) (hb : B ≤ B') (hk : k ≤ k') : Nice B' k' d := ⟨h.sh, h.nd, Nat.le_trans h.dp hk, Nat.le_trans h.sz hb⟩
theorem shownAll_len : ∀ ds : List PyData, (PyData.shownAll ds).length = ds.length
  | [] => rfl
  | d :: r => by
    show (PyData.shownAll r).length + 1 = r.length + 1
    rw [shownAll_len r]
theorem shownAll_sum {B : Nat} : ∀ ds : List PyData, (∀ d ∈ ds, d.shown.length ≤ B) → ((PyData.shownAll ds).map (·.length)).sum ≤ ds.length * B
  | [], _ => by simp [PyData.shownAll]
  | d :: r, h => by
    have ih := shownAll_sum (B := B) r fun x hx => h x (List.mem_cons_of_mem _ hx)
    have h1 := h d List.mem_cons_self
    show ((d.shown :: PyData.shownAll r).map (·.length)).sum ≤ (r.length + 1) * B
    rw [List.map_cons, List.sum_cons, Nat.succ_mul]
    omega
theorem showableAll_of : ∀ ds : List PyData, (∀ d ∈ ds, d.showable = true) → PyData.showableAll ds = true
  | [], _ => rfl
  | d :: r, h => by
    show (d.showable && PyData.showableAll r) = true
    rw [h d List.mem_cons_self, showableAll_of r fun x hx => h x (List.mem_cons_of_mem _ hx)]; rfl
theorem hasDictAll_of : ∀ ds : List PyData, (∀ d ∈ ds, d.hasDict = false) → PyData.hasDictAll ds = false
  | [], _ => rfl
  | d :: r, h => by
    show (d.hasDict || PyData.hasDictAll r) = false
    rw [h d List.mem_cons_self, hasDictAll_of r fun x hx => h x (List.mem_cons_of_mem _ hx)]; rfl
theorem depthAll_of {k : Nat} : ∀ ds : List PyData, (∀ d ∈ ds, d.depth ≤ k) → PyData.depthAll ds ≤ k
  | [], _ => Nat.zero_le _
  | d :: r, h => by
    show max d.depth (PyData.depthAll r) ≤ k
    have h1 := h d List.mem_cons_self
    have h2 := depthAll_of (k := k) r fun x hx => h x (List.mem_cons_of_mem _ hx)
    omega
theorem Nice.tup {B k n : Nat} {ds : List PyData} (h : ∀ d ∈ ds, Nice B k d) (hn : ds.length ≤ n) : Nice (n * (B + 2) + 3) (k + 1) (.tuple ds) where
  sh := showableAll_of ds fun d hd => (h d hd).sh
  nd := hasDictAll_of ds fun d hd => (h d hd).nd
  dp := by
    show PyData.depthAll ds + 1 ≤ k + 1
    have := depthAll_of ds fun d hd => (h d hd).dp
    omega
  sz := by
    show (tupleText (PyData.shownAll ds)).length ≤ _
    have h1 := tupleText_len_le (PyData.shownAll ds)
    have h2 := shownAll_sum ds fun d hd => (h d hd).sz
    rw [shownAll_len] at h1
    have h3 : ds.length * B + 2 * ds.length ≤ n * (B + 2) := by
      have : ds.length * (B + 2) ≤ n * (B + 2) := Nat.mul_le_mul_right _ hn
      rw [Nat.mul_add] at this
      omega
    omega
theorem Nice.lst {B k n : Nat} {ds : List PyData} (h : ∀ d ∈ ds, Nice B k d) (hn : ds.length ≤ n) : Nice (n * (B + 2) + 3) (k + 1) (.list ds) where
  sh := showableAll_of ds fun d hd => (h d hd).sh
  nd := hasDictAll_of ds fun d hd => (h d hd).nd
  dp := by
    show PyData.depthAll ds + 1 ≤ k + 1
    have := depthAll_of ds fun d hd => (h d hd).dp
    omega
  sz := by
    show (listText (PyData.shownAll ds)).length ≤ _
    have h1 := listText_len_le (PyData.shownAll ds)
    have h2 := shownAll_sum ds fun d hd => (h d hd).sz
    rw [shownAll_len] at h1
    have h3 : ds.length * B + 2 * ds.length ≤ n * (B + 2) := by
      have : ds.length * (B + 2) ≤ n * (B + 2) := Nat.mul_le_mul_right _ hn
      rw [Nat.mul_add] at this
      omega
    omega
theorem Nice.bl (b : Bool) : Nice 5 0 (.bool b) := by
  cases b
  · exact ⟨rfl, rfl, Nat.le_refl _, by decide +kernel⟩
  · exact ⟨rfl, rfl, Nat.le_refl _, by decide +kernel⟩
theorem small_ints : ∀ i : Fin 401, (Str.ofString (toString ((i.val : Int) - 200))).length ≤ 5 ∧ ((i.val : Int) - 200).natAbs.log2 < 1920 := by decide +kernel
theorem Nice.int {i : Int} (h0 : -200 ≤ i) (h1 : i ≤ 200) : Nice 5 0 (.int i) := by
  have h := small_ints ⟨(i + 200).toNat, by omega⟩
  have e : (((i + 200).toNat : Nat) : Int) - 200 = i := by omega
  simp only [e] at h
  exact ⟨decide_eq_true h.2, rfl, Nat.le_refl _, h.1⟩
theorem Nice.str {z : Str} {n : Nat} (hl : z.cps.toList.length ≤ n) (hc : ∀ c ∈ z.cps.toList, c < 128) : Nice (10 * n + 2) 0 (.str z) := by
  refine ⟨rfl, rfl, Nat.le_refl _, ?_⟩
  have h := StrLaws.reprText_len z fun c hm => Nat.lt_trans (hc c hm) (by decide)
  rw [str_len z] at h
  show (reprText z).length ≤ _
  omega
section
variable {X : Cx}
theorem call_reprN (hc : Calm X.A) (hu : X.A.units + 100 < cLine) : CallR X (.builtin "repr") (fun xs H Q => ∃ (a : Addr) (d : PyData) (B k : Nat), xs = [.ref a] ∧ Dp X.K H (.ref a) d ∧ Nice B k d ∧ B ≤ 100000 ∧ k ≤ 60 ∧ Q (.str d.shown) H) := by
  intro pins s σ H xs us Q I r h
  obtain ⟨a, d, B, k, e, hd, hn, hb, hk, q⟩ := h
  exact call_reprD hc hu pins s σ H xs us Q I r ⟨a, d, e, hd, hn.sh, hn.nd, Nat.le_trans hn.dp (by omega), small (Nat.le_trans hn.sz hb), q⟩
end
theorem sq_mv {K : PySem.W.Frag} {H H' : Hp} {d g a : Addr} {xs : List V} (D : Deck H d g) (m : Mv d g H H') (h : SqT K H a xs) : SqT K H' a xs := by
  obtain ⟨k, L, h1, h2, _⟩ := D.ex
  rcases h with (h | ⟨o, h⟩) | h
  · exact .inl (.inl (m.keep _ _ h (ne_of h h1 (fun z => nomatch z)) (ne_of h h2 (fun z => nomatch z))))
  · exact .inl (.inr ⟨o, m.keep _ _ h (ne_of h h1 (fun z => nomatch z)) (ne_of h h2 (fun z => nomatch z))⟩)
  · exact .inr h
/-- t + u, whatever they are -/
theorem catA_of {K : PySem.W.Frag} {H : Hp} {a b : Addr} {xs ys : List V} {Q : VK} (ha : SqT K H a xs) (hb : SqT K H b ys) (hl : xs.length + ys.length ≤ 100000) (q : ∀ p H', Same H H' → SqT K H' p (xs ++ ys) → Q (.ref p) H') : rCatA K (.ref a) (.ref b) H Q := by
  refine ⟨a, b, xs, ys, rfl, rfl, ha, hb, small hl, fun e => ?_, fun _ e => ?_, fun _ _ p np => ?_⟩
  · refine q b H (Same.refl H) ?_
    rw [e, List.nil_append]; exact hb
  · refine q a H (Same.refl H) ?_
    rw [e, List.append_nil]; exact ha
  · exact q p _ (Same.new np) (tofT upd_same)
theorem slA_of {K : PySem.W.Frag} {H : Hp} {a : Addr} {xs : List V} {lo hi : Option Int} {Q : VK} (ha : SqT K H a xs) (q : ∀ p H', Same H H' → SqT K H' p (cutV xs lo hi) → Q (.ref p) H') : rSlA K (.ref a) lo hi H Q := by
  refine ⟨a, xs, rfl, ha, fun e => ?_, fun _ p np => ?_⟩
  · refine q a H (Same.refl H) ?_
    unfold cutV
    rw [e.1, e.2, Nat.sub_zero, List.drop_zero, List.take_length]; exact ha
  · exact q p _ (Same.new np) (tofT upd_same)
end GL
/-! the deck of the later laws: a dict of a list of ints and two ints, the second one counts the draws -/
namespace G3
open PySem PySem.Spec PyProof.Rows L2 GL
structure Keys where
  c : Str
  b : Str
  n : Str
  cb : ¬ c = b
  cn : ¬ c = n
  bn : ¬ b = n
theorem inr_ne {x y : Str} (h : ¬ x = y) : ¬ ((Sum.inr x : Key) = (Sum.inr y : Key)) := fun e => by
  injection e with e1
  exact h e1
def deckD (k : Keys) (g : Addr) (m n : Int) : List (Key × V) := [(Sum.inr k.c, .ref g), (Sum.inr k.b, .int m), (Sum.inr k.n, .int n)]
theorem deck_c (k : Keys) (g : Addr) (m n : Int) : valV (deckD k g m n) (Sum.inr k.c : Key) = some (.ref g) := valV_pos rfl
theorem deck_b (k : Keys) (g : Addr) (m n : Int) : valV (deckD k g m n) (Sum.inr k.b : Key) = some (.int m) := by
  unfold deckD
  rw [valV_neg (inr_ne k.cb), valV_pos rfl]
theorem deck_n (k : Keys) (g : Addr) (m n : Int) : valV (deckD k g m n) (Sum.inr k.n : Key) = some (.int n) := by
  unfold deckD
  rw [valV_neg (inr_ne k.cn), valV_neg (inr_ne k.bn), valV_pos rfl]
theorem deck_put (k : Keys) (g : Addr) (m n n' : Int) : putK (deckD k g m n) (Sum.inr k.n : Key) (.int n') = deckD k g m n' := by
  unfold putK deckD
  simp only [List.any_cons, List.any_nil, List.map_cons, List.map_nil, decide_eq_false (inr_ne k.cn), decide_eq_false (inr_ne k.bn), decide_true, Bool.or_true, Bool.false_or, Bool.or_false, if_true]
  rw [if_neg (inr_ne k.cn), if_neg (inr_ne k.bn)]
theorem get_c {k : Keys} {H : Hp} {d g : Addr} {m n : Int} (h : H d = some (.dK (deckD k g m n))) : DGet H d (.str k.c) (some (.ref g)) := deck_c k g m n ▸ DGet.k (k := Sum.inr k.c) h
theorem get_b {k : Keys} {H : Hp} {d g : Addr} {m n : Int} (h : H d = some (.dK (deckD k g m n))) : DGet H d (.str k.b) (some (.int m)) := deck_b k g m n ▸ DGet.k (k := Sum.inr k.b) h
theorem get_n {k : Keys} {H : Hp} {d g : Addr} {m n : Int} (h : H d = some (.dK (deckD k g m n))) : DGet H d (.str k.n) (some (.int n)) := deck_n k g m n ▸ DGet.k (k := Sum.inr k.n) h
theorem put_n {k : Keys} {H : Hp} {d g : Addr} {m n n' : Int} (h : H d = some (.dK (deckD k g m n))) : DPut H d (.str k.n) (.int n') (upd H d (.dK (deckD k g m n'))) := deck_put k g m n n' ▸ DPut.k (k := Sum.inr k.n) h (show 3 < sizeLine from smallt (by omega))
theorem deck_merge (k : Keys) (g : Addr) (m n : Int) : mergeK [] (deckD k g m n) = deckD k g m n := by
  have e1 : putK ([] : List (Key × V)) (Sum.inr k.c : Key) (V.ref g) = [((Sum.inr k.c : Key), V.ref g)] := rfl
  have e2 : putK [((Sum.inr k.c : Key), V.ref g)] (Sum.inr k.b : Key) (V.int m) = [((Sum.inr k.c : Key), V.ref g), ((Sum.inr k.b : Key), V.int m)] := by
    unfold putK
    simp only [List.any_cons, List.any_nil, decide_eq_false (inr_ne k.cb), Bool.or_false]
    rfl
  have e3 : putK [((Sum.inr k.c : Key), V.ref g), ((Sum.inr k.b : Key), V.int m)] (Sum.inr k.n : Key) (V.int n) = deckD k g m n := by
    unfold putK
    simp only [List.any_cons, List.any_nil, decide_eq_false (inr_ne k.cn), decide_eq_false (inr_ne k.bn), Bool.or_false]
    rfl
  show putK (putK (putK ([] : List (Key × V)) (Sum.inr k.c : Key) (V.ref g)) (Sum.inr k.b : Key) (V.int m)) (Sum.inr k.n : Key) (V.int n) = _
  rw [e1, e2, e3]
section
variable {K : PySem.W.Frag} {H H' : Hp} {k : Keys} {d g : Addr} {b b' : Nat}
/-- the deck, from which b more draws may be made -/
structure Dk (k : Keys) (H : Hp) (d g : Addr) (b : Nat) : Prop where
  ex : ∃ (m n : Int) (L : List Int), H d = some (.dK (deckD k g m n)) ∧ H g = some (.lst (L.map V.int)) ∧ L.length ≤ 63 ∧ 0 ≤ m ∧ m < 2147483587 ∧ 0 ≤ n ∧ n + b ≤ 1000000000000
theorem Dk.ne (D : Dk k H d g b) : d ≠ g := by
  obtain ⟨m, n, L, h1, h2, _⟩ := D.ex
  exact ne_of h1 h2 (fun z => nomatch z)
theorem Dk.same (D : Dk k H d g b) (s : Same H H') : Dk k H' d g b := by
  obtain ⟨m, n, L, h1, h2, r⟩ := D.ex
  exact ⟨⟨m, n, L, s _ _ h1, s _ _ h2, r⟩⟩
theorem Dk.mono (D : Dk k H d g b) (h : b' ≤ b) : Dk k H d g b' := by
  obtain ⟨m, n, L, h1, h2, h3, h4, h5, h6, h7⟩ := D.ex
  exact ⟨⟨m, n, L, h1, h2, h3, h4, h5, h6, by omega⟩⟩
theorem Dk.off {p : Addr} (D : Dk k H d g b) (h : H p = none) : p ≠ d ∧ p ≠ g := by
  obtain ⟨m, n, L, h1, h2, r⟩ := D.ex
  exact ⟨(ne_of_none h1 h).symm, (ne_of_none h2 h).symm⟩
theorem Dk.new {p : Addr} {o : HO} (D : Dk k H d g b) (h : H p = none) : Dk k (upd H p o) d g b := D.same (Same.new h)
theorem Dk.mut {p : Addr} {o : HO} (D : Dk k H d g b) (n : p ≠ d ∧ p ≠ g) : Dk k (upd H p o) d g b := by
  obtain ⟨m, n', L, h1, h2, r⟩ := D.ex
  exact ⟨⟨m, n', L, by rw [upd_ne n.1.symm]; exact h1, by rw [upd_ne n.2.symm]; exact h2, r⟩⟩
theorem Mv.free3 {p : Addr} (m : Mv d g H H') (D' : Dk k H' d g b) (h : H' p = none) : H p = none := by
  have n := D'.off h
  cases e : H p with
  | none => rfl
  | some o => rw [m.keep p o e n.1 n.2] at h; cases h
def spDrw (k : Keys) : Sp := fun vs H Q _ => ∃ (d g : Addr) (n : Int) (b : Nat), vs = [.ref d, .int n] ∧ Dk k H d g (b + 1) ∧ 0 < n ∧ n.natAbs < 2 ^ 8000 ∧
  ∀ (r : Int) (H' : Hp), 0 ≤ r → r < n → Dk k H' d g b → Mv d g H H' → Q (.int r) H'
def spDck (K : PySem.W.Frag) (k : Keys) : Sp := fun vs H Q _ => ∃ (a : Addr) (ns : List Int), vs = [.ref a] ∧ SqL K H a (ns.map V.int) ∧ ns.length ≤ 63 ∧
  ∀ (d g : Addr) (H' : Hp), Same H H' → H d = none → H g = none → Dk k H' d g 1000000000000 → Q (.ref d) H'
def spPck (k : Keys) : Sp := fun vs H Q _ => ∃ (d g a : Addr) (xs : List V) (b : Nat), vs = [.ref d, .ref a] ∧ Dk k H d g (b + 1) ∧ H a = some (.lst xs) ∧ a ≠ g ∧ xs ≠ [] ∧ xs.length ≤ 1000 ∧
  ∀ (x : V) (H' : Hp), x ∈ xs → Dk k H' d g b → Mv d g H H' → Q x H'
theorem cut_map (ns : List Int) (lo hi : Option Int) : cutV (ns.map V.int) lo hi = ((ns.drop (HT.sIx ns.length 0 lo)).take (HT.sIx ns.length ns.length hi - HT.sIx ns.length 0 lo)).map V.int := by
  unfold cutV
  rw [List.length_map, List.map_take, List.map_drop]
theorem cut_ints (ns : List Int) (lo hi : Option Int) : ∃ ms : List Int, cutV (ns.map V.int) lo hi = ms.map V.int ∧ ms.length ≤ ns.length := by
  refine ⟨_, cut_map ns lo hi, ?_⟩
  rw [List.length_take, List.length_drop]
  omega
theorem ints_at {ns : List Int} {i : Nat} {x : V} (h : (ns.map V.int)[i]? = some x) : ∃ n, x = .int n ∧ i < ns.length := by
  rw [List.getElem?_map] at h
  cases e : ns[i]? with
  | none => rw [e] at h; cases h
  | some n =>
    rw [e] at h
    exact ⟨n, (Option.some.inj h).symm, (List.getElem?_eq_some_iff.mp e).1⟩
theorem vals_rev : ∀ {xs : List V} {us : List Value}, Vals xs us → Vals xs.reverse us.reverse
  | _, _, .nil => .nil
  | _, _, .cons r t => by
    rw [List.reverse_cons, List.reverse_cons]
    exact Vals.append (vals_rev t) (.cons r .nil)
def spLaw (K : PySem.W.Frag) : Sp := fun vs H Q _ => ∃ (a : Addr) (ns : List Int), vs = [.ref a] ∧ SqL K H a (ns.map V.int) ∧ ns.length ≤ 63 ∧ ∀ H', Q (.bl true) H'
theorem walk {l : PySem.W.OpenLaw} {k : Nat} {q : Program} {loose : List Str} {XP : (Str → Option Value) → Heap → Prop} {YP : World → Heap → Prop} {d : DefRec} {K : Params → PySem.W.Frag} (hn : l.most = some 63) (hdf : d.params.defaults = []) (hr : Room k callerA)
    (hY : ∀ (w : World) (h : Heap), YP w h → (K w.params).In h)
    (F : ∀ (w : World) (mg : Str → Option Value) (fa : Addr) (h : Heap), (K w.params).In h → h.Ns mainGlobals mg → mg d.name = some (.ref fa) →
      ∃ fd : FuncData, (∀ (s : Shared) (u : Value), BindsTo s fd ⟨[u], []⟩ [("_law_script", u)]) ∧ ∀ base : Heap, (K w.params).In base → base.Ns mainGlobals mg → FnG l.prog w (K w.params) mg base CX0 k fa fd ["_law_script"] (spLaw (K w.params))) :
    PySem.W.WalkO q loose XP YP l.row.toRowW d [] (fun f vs => PySem.call f vs) :=
  walkG (n := 63) (k := k) (x := "_law_script") (sp := spLaw) hn (by decide) hdf hr hY F (fun _ _ a ns hl _ hS => ⟨a, ns, rfl, hS, hl, fun _ => rfl⟩)
end
section
variable {X : Cx} {k n : Nat} {f : Addr} {fd : FuncData} {ps ks : List Str} {sp : Sp} {x : Str} {p pos : Pos} {e : Expr} {es : List Expr} {t tk : TA} {kws : List Keyword} {g : List Value → List Value → List Value} {gV : List V → List V → List V}
/-- what is known of a def that is called with keywords -/
structure DefKG (P : Program) (w : World) (K : PySem.W.Frag) (mg : Str → Option Value) (base : Heap) (k : Nat) (x : Str) (ps : List Str) (n : Nat) (ks : List Str) (gV : List V → List V → List V) (sp : Sp) : Prop where
  ex : ∃ (f : Addr) (fd : FuncData) (g : List Value → List Value → List Value), FnG P w K mg base CX0 k f fd ps sp ∧ mg x = some (.ref f) ∧ PySem.W.keepIn K (.ref f) = true ∧ KBn K fd ps n ks g gV
def tCallKG (sp : Sp) (n m : Nat) (gV : List V → List V → List V) (E : XK) (ta tk : TA) : TE := fun σ H Q => ta σ H fun vs H1 => tk σ H1 fun zs H2 => vs.length = n ∧ zs.length = m ∧ sp (gV vs zs) H2 Q E
/-- f(a=.., b=..) -/
theorem pe_defK0 (D : DefKG X.prog X.w X.K X.mg X.base k x ps 0 ks gV sp) (hr : Room k X.A) (hc : Calm X.A) (hg : Gl X x) (hkw : PK X kws tk)
    (hall : (backToKw pos (keywordEach kws X.env)).all (·.1.isSome) = true := by rfl) (hks : (backToKw pos (keywordEach kws X.env)).filterMap (·.1) = ks := by rfl) (hdb : (x == ("__debug__" : Str)) = false := by decide)
    (hpl : ((backTo pos (starEach [] X.env)).any (·.1) || (backToKw pos (keywordEach kws X.env)).any (·.1.isNone)) = false := by rfl) :
    PE X (.Call (.Name x p) [] kws pos) (tCallKG sp 0 ks.length gV E0 tNil tk) := by
  obtain ⟨f, fd, g, F, hm, hk, hb⟩ := D.ex
  constructor
  intro pins s σ H Q I h
  refine wpAny_Call_Name_kw (ld_glob I hg hm (PySem.W.callWith_KW0 (h₀ := X.base) I.ok.mod.kin hk hall (thn (hkw.run pos pins s σ H _ I h) ?_) hpl) hdb)
  rintro ws s2 ⟨zs, H2, I2, rz, l1, l2, q2⟩
  refine ⟨I2.kIn, ?_⟩
  rw [hks]
  exact runKG (us := []) (vs := []) F hr hc hb pass0 I2 .nil rz rfl l2 q2
end
theorem Nice.intW {i : Int} (h : i.natAbs < 2 ^ 1920) : Nice 1921 0 (.int i) := by
  have l : i.natAbs.log2 < 1920 := PySem.Flt.log2_lt_of (by decide) h
  exact ⟨decide_eq_true l, rfl, Nat.le_refl _, PyProof.Rows.int_text_len_1921 l⟩
theorem Nice.natW {n : Nat} (h : n < 2 ^ 1920) : Nice 1921 0 (.int (n : Int)) := Nice.intW (by rw [Int.natAbs_natCast]; exact h)
theorem defK_mk {P : Program} {w : World} {K : PySem.W.Frag} {mg : Str → Option Value} {base : Heap} {k n : Nat} {x : Str} {st : Stmt} {f : Addr} {fd : FuncData} {ps ks : List Str} {gV : List V → List V → List V} {g : List Value → List Value → List Value} {sp : Sp} (F : Fun K x x st f fd) (gl : mg x = some (.ref f)) (b : KBn K fd ps n ks g gV) (h : FnG P w K mg base CX0 k f fd ps sp) : DefKG P w K mg base k x ps n ks gV sp :=
  ⟨⟨f, fd, g, h, gl, F.kp, b⟩⟩
end G3
namespace NK24
open PySem PySem.Spec PyProof.Rows L2 GL G3
def topS (i : Nat) : Stmt := PySem.Challenge.pw_whateverboxes_k24_last_digits.main.body.getD i (.Pass ⟨0, 0, 0, 0⟩)
def ks : Keys := ⟨"cells", "blend", "draws", by decide +kernel, by decide +kernel, by decide +kernel⟩
/-! the built-ins that the text uses are still the built-ins -/
structure Bl (mg : Str → Option Value) : Prop where
  int : mg "int" = none
  len : mg "len" = none
  range : mg "range" = none
  list : mg "list" = none
  repr : mg "repr" = none
  max : mg "max" = none
section
variable {P : Program} {w : World} {K : PySem.W.Frag} {mg : Str → Option Value} {base : Heap}
abbrev s_draw : Stmt := topS 4
theorem sc_draw : FnScope ["_law_deck_here", "_law_many", "_law_turn", "_law_cell", "_law_held"] ["_law_deck_here", "_law_many"] (defScope s_draw) := ⟨rfl, rfl, rfl, by decide +kernel, rfl, by decide +kernel, by decide +kernel⟩
theorem ok_draw {f : Addr} {fd : FuncData} (F : Fun K "_law_draw" "_law_draw" s_draw f fd) (gl : mg "_law_draw" = some (.ref f)) (T : Bl mg) : DefG P w K mg base 1 "_law_draw" ["_law_deck_here", "_law_many"] (spDrw ks) := by
  refine def_mk F gl (F.binds fun _ _ _ _ _ _ us hl => match us, hl with | [_, _], _ => rfl) (okG F sc_draw (fun vs H Q E h => ?_) fun cdv A outer s H vs Q E hr hc h => ?_)
  · obtain ⟨d, g, n, b, rfl, _⟩ := h
    rfl
  · obtain ⟨d, g, many, b, rfl, D, n0, nB, q⟩ := h
    have nd := sc_draw.nd
    have hu := hu_of hr
    have hu64 := hr.units
    obtain ⟨m, n, L, hd, hg, hL, m0, mB, tn0, tnB⟩ := id D.ex
    have dg := D.ne
    refine ⟨_, (pss_cons (ps_dput hu (pv 0) pe_str (pe_op op_add (pe_dget hu (pv 0) pe_str (fun _ _ => rfl)) pe_int) rfl)
      (pss_cons (ps_par (i := 2) (j := 3) rfl nd rfl rfl (by decide) rfl rfl (pa_cons (pe_dget hu (pv 0) pe_str (fun _ _ => rfl)) (pa_cons (pe_dget hu (pv 0) pe_str (fun _ _ => rfl)) pa_nil)) rfl)
      (C8.pss_cut (ps_if (pt_cmpR (op_neD hu64) (pe_dget hu (pv 0) pe_str (fun _ _ => rfl)) (pe_lst pa_nil) (nomark _))
        (pss_cons (ps_set (i := 3) nd rfl (by first | exact Or.inl rfl | exact Or.inr rfl) (pe_bm0 PySem.F.plainAttrs_list PySem.F.slot_list_pop PySem.F.type_list_pop mt_pop (pe_dget hu (pv 0) pe_str (fun _ _ => rfl))))
        (pss_cons (ps_if (pt_cmpR op_ge (pv 3) (pe_op op_pow pe_int pe_int) (nomark _))
          (pss_cons (ps_expr (pe_bm PySem.F.plainAttrs_list PySem.F.slot_list_append PySem.F.type_list_append mt_append (pe_dget hu (pv 0) pe_str (fun _ _ => rfl)) (pa_cons (pe_op op_fdivW (pv 3) (pv 1)) pa_nil)))
          (pss_one (ps_ret (pe_op op_mod (pe_callTy call_int1 rfl T.int boot_int (pa_cons (pv 3) pa_nil)) (pv 1)))))
          pss_nil)
        (pss_one (ps_set (i := 3) nd rfl (by first | exact Or.inl rfl | exact Or.inr rfl) (pe_op op_add (pv 3) (pe_dget hu (pv 0) pe_str (fun _ _ => rfl)))))))
        pss_nil)
      (pss_cons (ps_set (i := 4) nd rfl (by first | exact Or.inl rfl | exact Or.inr rfl) (pe_op op_mod (pe_callTy call_int1 rfl T.int boot_int (pa_cons (pe_op op_mul (pe_op op_add (pe_op op_add (pe_op op_mod (pe_callTy call_int1 rfl T.int boot_int (pa_cons (pv 3) pa_nil)) pe_int) (pe_op op_mul (pe_op op_mul pe_int (pv 2)) (pv 2))) pe_int) pe_int) pa_nil)) pe_int))
      (pss_cons (ps_set (i := 4) nd rfl (by first | exact Or.inl rfl | exact Or.inr rfl) (pe_op op_mod (pe_callTy call_int1 rfl T.int boot_int (pa_cons (pe_op op_add (pe_op op_add (pe_op op_mul (pv 4) (pv 4)) (pe_op op_mul pe_int (pv 2))) pe_int) pa_nil)) pe_int))
      (pss_one (ps_ret (pe_op op_mod (pe_callTy call_int1 rfl T.int boot_int (pa_cons (pe_op op_fdivW (pe_op op_mod (pe_callTy call_int1 rfl T.int boot_int (pa_cons (pe_op op_mul (pv 4) pe_int) pa_nil)) pe_int) pe_int) pa_nil)) (pv 1))))))))), ?_⟩
    refine ⟨_, rfl, d, _, rfl, get_n hd, n, 1, rfl, rfl, _, rfl, d, _, rfl, put_n hd, ?_⟩
    have xd : upd H d (.dK (deckD ks g m (n + 1))) d = _ := upd_same
    have xg : upd H d (.dK (deckD ks g m (n + 1))) g = some (.lst (L.map V.int)) := by rw [upd_ne dg.symm]; exact hg
    have mv0 : Mv d g H (upd H d (.dK (deckD ks g m (n + 1)))) := ⟨fun p o hp n1 _ => by rw [upd_ne n1]; exact hp⟩
    generalize upd H d (.dK (deckD ks g m (n + 1))) = Hz at *
    refine ⟨_, rfl, d, _, rfl, get_n xd, _, rfl, d, _, rfl, get_b xd, _, _, rfl, ?_⟩
    refine ⟨fun σ Hx => ∃ (c t m' n' : Int) (L' : List Int), σ = [some (.ref d), some (.int many), some (.int t), some (.int c), none] ∧ 0 ≤ t ∧ t ≤ 1000000000001 ∧ Hx d = some (.dK (deckD ks g m' n')) ∧ Hx g = some (.lst (L'.map V.int)) ∧ L'.length ≤ 63 ∧ 0 ≤ m' ∧ m' < 2147483587 ∧ 0 ≤ n' ∧ n' + b ≤ 1000000000000 ∧ Mv d g H Hx, ?_, ?_⟩
    · refine ⟨_, rfl, d, _, rfl, get_c xd, Nat.zero_le _, fun o no => ?_⟩
      have sm : Same Hz (upd Hz o (.lst [])) := Same.new no
      have mv1 : Mv d g H (upd Hz o (.lst [])) := mv0.trans (Mv.of sm)
      refine ⟨_, _, .lst (tofL (sm _ _ xg)) (dpa_ints L), .lst (tofL upd_same) .nil, shaped_ints L, shaped_ints [], _, rfl, ?_⟩
      rw [eqv_ints_nil]
      have yd := sm _ _ xd
      have yg := sm _ _ xg
      generalize upd Hz o (.lst []) = Hy at *
      refine ite2 (fun e => ?_) (fun e => ?_)
      · have hne : L ≠ [] := fun z => by rw [z] at e; exact absurd e (by decide)
        obtain ⟨L0, c, rfl⟩ := snoc_of hne
        rw [List.length_append, List.length_singleton] at hL
        refine ⟨_, rfl, d, _, rfl, get_c yd, ty_l (tofL yg), g, _, _, rfl, rfl, yg, pop_at L0 c, ?_⟩
        rw [pop_left]
        have zd : upd Hy g (.lst (L0.map V.int)) d = some (.dK (deckD ks g m (n + 1))) := by rw [upd_ne dg]; exact yd
        have mv2 : ∀ u : HO, Mv d g H (upd Hy g u) := fun u => ⟨fun p o hp n1 n2 => by rw [upd_ne n2]; exact mv1.keep p o hp n1 n2⟩
        refine ⟨_, rfl, 10, 18, rfl, rfl, ⟨by decide, by decide, by decide⟩, _, _, rfl, rfl, _, rfl, ?_⟩
        refine ite2 (fun _ => ?_) (fun _ => ?_)
        · refine ⟨_, rfl, d, _, rfl, get_c zd, ty_l (tofL upd_same), _, rfl, _, rfl, c, many, rfl, rfl, wide_div (b := 8000) n0 nB (by decide) (by decide), g, _, _, rfl, rfl, upd_same, ?_, ?_⟩
          · rw [List.length_map]; exact smallt (by omega)
          · rw [upd_upd]
            refine ⟨_, rfl, .inl ⟨c, rfl, _, rfl, c, many, rfl, rfl, n0, ?_⟩⟩
            refine q _ _ (Int.emod_nonneg _ (by omega)) (Int.emod_lt_of_pos _ n0) ⟨m, n + 1, L0 ++ [c / many], by rw [upd_ne dg]; exact yd, ?_, ?_, m0, mB, by omega, by omega⟩ (mv2 _)
            · rw [upd_same, List.map_append, List.map_singleton]
            · rw [List.length_append, List.length_singleton]; exact hL
        · exact ⟨_, rfl, _, rfl, d, _, rfl, get_b zd, c, m, rfl, rfl, _, _, _, _, _, rfl, by omega, by omega, zd, upd_same, by omega, m0, mB, by omega, by omega, mv2 _⟩
      · exact ⟨_, _, _, _, _, rfl, by omega, by omega, yd, yg, hL, m0, mB, by omega, by omega, mv1⟩
    · rintro σ Hx ⟨c, t, m', n', L', rfl, t0, tB, xd, xg, xL, xm0, xmB, xn0, xnB, mv⟩
      have a0 := Int.emod_nonneg c (show ((2147483629 : Int)) ≠ 0 by decide)
      have a1 := Int.emod_lt_of_pos c (show (0 : Int) < 2147483629 by decide)
      have p1 : CMul (60413 : Int) t := mul_small (by decide) (by decide)
      have p2 : CMul (60413 * t) t := mul_smallR t0 (by omega)
      have p3 : CMul (c % 2147483629 + 60413 * t * t + 43) 40692 := mul_smallR (by decide) (by decide)
      refine ⟨_, rfl, .inl ⟨c, rfl, c, 2147483629, rfl, rfl, (show (0 : Int) < 2147483629 by decide), _, rfl, 60413, t, rfl, rfl, p1, _, rfl, _, t, rfl, rfl, p2, _, _, rfl, rfl, _, 43, rfl, rfl, _, 40692, rfl, rfl, p3, .inl ⟨_, rfl, _, 2147483647, rfl, rfl, (show (0 : Int) < 2147483647 by decide), ?_⟩⟩⟩
      have h0 := Int.emod_nonneg ((c % 2147483629 + 60413 * t * t + 43) * 40692) (show ((2147483647 : Int)) ≠ 0 by decide)
      have h1 := Int.emod_lt_of_pos ((c % 2147483629 + 60413 * t * t + 43) * 40692) (show (0 : Int) < 2147483647 by decide)
      have i0 := fun h : Int => Int.emod_nonneg (h * h + 69621 * t + 101) (show ((2147483587 : Int)) ≠ 0 by decide)
      have i1 := fun h : Int => Int.emod_lt_of_pos (h * h + 69621 * t + 101) (show (0 : Int) < 2147483587 by decide)
      refine ⟨_, rfl, _, rfl, _, _, rfl, rfl, mul_small h0 (Int.lt_trans h1 (by decide)), _, rfl, 69621, t, rfl, rfl, mul_small (by decide) (by decide), _, _, rfl, rfl, _, 101, rfl, rfl, .inl ⟨_, rfl, _, 2147483587, rfl, rfl, (show (0 : Int) < 2147483587 by decide), ?_⟩⟩
      refine ⟨_, rfl, _, 39373, rfl, rfl, mul_small (i0 _) (Int.lt_trans (i1 _) (by decide)), .inl ⟨_, rfl, _, 2147483563, rfl, rfl, (show (0 : Int) < 2147483563 by decide), _, 64, rfl, rfl, wide_div (b := 8) (by decide) (by decide) (by decide) (by decide), .inl ⟨_, rfl, _, rfl, _, many, rfl, rfl, n0, ?_⟩⟩⟩
      exact q _ _ (Int.emod_nonneg _ (by omega)) (Int.emod_lt_of_pos _ n0) ⟨m', n', L', xd, xg, xL, xm0, xmB, xn0, by omega⟩ mv

abbrev s_deck : Stmt := topS 3
theorem sc_deck : FnScope ["_law_script", "_law_cells", "_law_blend", "_law_cell"] ["_law_script"] (defScope s_deck) := ⟨rfl, rfl, rfl, by decide +kernel, rfl, by decide +kernel, by decide +kernel⟩
theorem ok_deck {f : Addr} {fd : FuncData} (F : Fun K "_law_deck" "_law_deck" s_deck f fd) (gl : mg "_law_deck" = some (.ref f)) (T : Bl mg) : DefG P w K mg base 1 "_law_deck" ["_law_script"] (spDck K ks) := by
  refine def_mk F gl (F.binds fun _ _ _ _ _ _ us hl => match us, hl with | [_], _ => rfl) (okG F sc_deck (fun vs H Q E h => ?_) fun cdv A outer s H vs Q E hr hc h => ?_)
  · obtain ⟨a, ns, rfl, _⟩ := h
    rfl
  · obtain ⟨a, ns, rfl, hS, hl, q⟩ := h
    have nd := sc_deck.nd
    refine ⟨_, (pss_cons (ps_par (i := 1) (j := 2) rfl nd rfl rfl (by decide) rfl rfl (pa_cons (pe_callTy call_list_of (by rfl) T.list boot_list (pa_cons (pe_slice sl_list (pv 0) po_none (po_some pe_int)) pa_nil)) (pa_cons pe_int pa_nil)) rfl)
      (pss_cons (ps_for PassesOwn.never rfl (pi_list (pv 1)) (pg_name (i := 3) nd rfl (by first | exact Or.inl rfl | exact Or.inr rfl))
        (pss_one (ps_set (i := 2) nd rfl (by first | exact Or.inl rfl | exact Or.inr rfl) (pe_op op_mod (pe_callTy call_int1 (by rfl) T.int boot_int (pa_cons (pe_op op_add (pe_op op_add (pe_op op_mul (pv 2) pe_int) (pe_op op_mod (pe_callTy call_int1 (by rfl) T.int boot_int (pa_cons (pv 3) pa_nil)) pe_int)) pe_int) pa_nil)) pe_int))))
      (pss_one (ps_ret (pe_disp (pps_cons pe_str (pe_revL (pv 1)) (pps_cons pe_str (pv 2) (pps_cons pe_str pe_int pps_nil))) rfl rfl (by decide) (by decide)))))), ?_⟩
    refine ⟨_, rfl, 63, rfl, a, _, rfl, hS, fun c nc => ?_⟩
    obtain ⟨ms, em, lm⟩ := cut_ints ns none (some 63)
    rw [em]
    have s1 : Same H (upd H c (.lst (ms.map V.int))) := Same.new nc
    refine ⟨c, _, rfl, .inl (tofL upd_same), fun l nl => ?_⟩
    have s2 : Same H (upd (upd H c (.lst (ms.map V.int))) l (.lst (ms.map V.int))) := s1.trans (Same.new nl)
    have xl : upd (upd H c (.lst (ms.map V.int))) l (.lst (ms.map V.int)) l = _ := upd_same
    have fl : H l = none := s1.free nl
    revert s2 xl
    generalize upd (upd H c (.lst (ms.map V.int))) l (.lst (ms.map V.int)) = Hy
    intro s2 xl
    refine ⟨_, _, rfl, _, rfl, l, rfl, ⟨_, tofL xl⟩, for_list (K := K) (a := l) (xs := ms.map V.int) (fun i σ H2 => ∃ (m : Int) (v : Option V), σ = [some (.ref a), some (.ref l), some (.int m), v] ∧ H2 = Hy ∧ 0 ≤ m ∧ m < 2147483587)
      ⟨_, none, rfl, rfl, by decide, by decide⟩ (fun i σ H2 _ ⟨_, _, _, e, _⟩ => by rw [e]; exact tofL xl) ?_ ?_⟩
    · rintro i y σ H2 hi ⟨m, v, rfl, rfl, m0, m1⟩
      obtain ⟨x, rfl, _⟩ := ints_at hi
      refine ⟨_, rfl, m, 48271, rfl, rfl, mul_small m0 (by omega), _, rfl, .inl ⟨x, rfl, x, 2147483629, rfl, rfl, (show (0 : Int) < 2147483629 by decide), _, _, rfl, rfl, _, _, rfl, rfl, .inl ⟨_, rfl, _, 2147483587, rfl, rfl, (show (0 : Int) < 2147483587 by decide), _, _, rfl, rfl, Int.emod_nonneg _ (by decide), Int.emod_lt_of_pos _ (by decide)⟩⟩⟩
    · rintro σ H2 ⟨m, v, rfl, rfl, m0, m1⟩
      intro p np
      have s3 : Same H (upd H2 p (.dK [])) := s2.trans (Same.new np)
      have npl : l ≠ p := ne_of_none xl np
      refine ⟨_, rfl, l, _, rfl, tofL (by rw [upd_ne npl]; exact xl), fun g ng => ⟨_, rfl, ?_, deckD ks g m 0, rfl, (show 3 ≤ 15 by decide), ?_⟩⟩
      · rw [upd_ne (ne_of_none upd_same ng)]; exact upd_same
      · rw [deck_merge]
        have npg : p ≠ g := ne_of_none upd_same ng
        refine q p g _ (fun b u hb => ?_) (s2.free np) (s3.free ng) ⟨m, 0, ms.reverse, upd_same, ?_, ?_, m0, m1, by decide, by decide⟩
        · rw [upd_ne (ne_of_none hb (s2.free np)), upd_ne (ne_of_none hb (s3.free ng))]
          exact s3 _ _ hb
        · rw [upd_ne npg.symm, upd_same, List.map_reverse]
        · rw [List.length_reverse]
          omega

abbrev s_pick : Stmt := topS 5
theorem sc_pick : FnScope ["_law_deck_here", "_law_some"] ["_law_deck_here", "_law_some"] (defScope s_pick) := ⟨rfl, rfl, rfl, by decide +kernel, rfl, by decide +kernel, by decide +kernel⟩
theorem ok_pick {f : Addr} {fd : FuncData} (F : Fun K "_law_pick" "_law_pick" s_pick f fd) (gl : mg "_law_pick" = some (.ref f)) (T : Bl mg) (D_draw : DefG P w K mg base 1 "_law_draw" ["_law_deck_here", "_law_many"] (spDrw ks)) :
    DefG P w K mg base 2 "_law_pick" ["_law_deck_here", "_law_some"] (spPck ks) := by
  refine def_mk F gl (F.binds fun _ _ _ _ _ _ us hl => match us, hl with | [_, _], _ => rfl) (okG F sc_pick (fun vs H Q E h => ?_) fun cdv A outer s H vs Q E hr hc h => ?_)
  · obtain ⟨d, g, a, xs, b, rfl, _⟩ := h
    rfl
  · obtain ⟨d, g, a, xs, b, rfl, D, ha, nag, hne, hl, q⟩ := h
    have nd := sc_pick.nd
    refine ⟨_, (pss_one (ps_ret (pe_ix ix_list (pv 1) (pe_def D_draw (hr.mono (by decide)) hc (by rfl) (pa_cons (pv 0) (pa_cons (pe_callB call_len_seq (by rfl) T.len boot_len (pa_cons (pv 1) pa_nil)) pa_nil))) (fun _ _ => rfl)))), ?_⟩
    have nad : a ≠ d ∧ a ≠ g := ⟨by obtain ⟨m, n, L, h1, _⟩ := D.ex; exact (ne_of h1 ha (fun z => nomatch z)).symm, nag⟩
    have h0 : 0 < xs.length := List.length_pos_iff.mpr hne
    refine ⟨_, rfl, _, rfl, _, rfl, a, xs, rfl, .inl (tofL ha), d, g, _, b, rfl, D, by omega, by omega, fun r H' r0 r1 D' M => ?_⟩
    obtain ⟨x, hx, e⟩ := at_in (xs := xs) r0 r1
    exact ⟨a, xs, r, x, rfl, rfl, tofL (M.at ha nad), e, q x H' hx D' M⟩
end
end NK24
namespace NK24
open PySem PySem.Spec PyProof.Rows L2 GL G3
/-! ### last digits -/
def lastN (b n : Nat) : Nat := if h : 2 ≤ b ∧ 0 < n ∧ n % b = 0 then lastN b (n / b) else n % b
termination_by n
decreasing_by exact Nat.div_lt_self h.2.1 h.1
theorem lastN_go {b n : Nat} (hb : 2 ≤ b) (hn : 0 < n) (h : n % b = 0) : lastN b n = lastN b (n / b) := by rw [lastN, dif_pos ⟨hb, hn, h⟩]
theorem lastN_end {b n : Nat} (h : n % b ≠ 0) : lastN b n = n % b := by rw [lastN, dif_neg (fun z => h z.2.2)]
theorem div_pos_of {b n : Nat} (hb : 2 ≤ b) (hn : 0 < n) (h : n % b = 0) : 0 < n / b := by
  refine Nat.div_pos ?_ (by omega)
  refine Nat.le_of_not_lt fun l => ?_
  rw [Nat.mod_eq_of_lt l] at h
  omega
theorem lastN_mul {b n : Nat} (hb : 2 ≤ b) (hn : 0 < n) : lastN b (n * b) = lastN b n := by
  rw [lastN_go hb (Nat.mul_pos hn (by omega)) (Nat.mul_mod_left _ _), Nat.mul_div_cancel _ (by omega)]
theorem lastN_lt {b : Nat} (hb : 2 ≤ b) (n : Nat) : lastN b n < b := by
  induction n using Nat.strongRecOn with
  | ind n ih =>
    rw [lastN]
    split
    · rename_i h
      exact ih _ (Nat.div_lt_self h.2.1 h.1)
    · exact Nat.mod_lt _ (by omega)
/-- the digits, the units first -/
def digsN (b n : Nat) : List Nat := if h : 2 ≤ b ∧ 0 < n then n % b :: digsN b (n / b) else []
termination_by n
decreasing_by exact Nat.div_lt_self h.2 h.1
theorem digs_go {b n : Nat} (hb : 2 ≤ b) (hn : 0 < n) : digsN b n = n % b :: digsN b (n / b) := by rw [digsN, dif_pos ⟨hb, hn⟩]
theorem digs_end {b : Nat} : digsN b 0 = [] := by rw [digsN, dif_neg (fun z => absurd z.2 (by decide))]
theorem digs_first {b : Nat} (hb : 2 ≤ b) (n : Nat) (hn : 0 < n) : ∃ r, (digsN b n).filter (fun x => x != 0) = lastN b n :: r := by
  induction n using Nat.strongRecOn with
  | ind n ih =>
    rw [digs_go hb hn]
    by_cases h : n % b = 0
    · rw [List.filter_cons_of_neg (by rw [h]; decide), lastN_go hb hn h]
      exact ih _ (Nat.div_lt_self hn hb) (div_pos_of hb hn h)
    · rw [List.filter_cons_of_pos (by simpa using h), lastN_end h]
      exact ⟨_, rfl⟩
theorem digs_len {b : Nat} (hb : 2 ≤ b) : ∀ (k n : Nat), n < 2 ^ k → (digsN b n).length ≤ k
  | 0, n, h => by
    rw [show n = 0 by omega, digs_end]; exact Nat.le_refl _
  | k + 1, n, h => by
    rcases Nat.eq_zero_or_pos n with rfl | hn
    · rw [digs_end]; exact Nat.zero_le _
    · rw [digs_go hb hn, List.length_cons]
      refine Nat.succ_le_succ (digs_len hb k _ ?_)
      refine Nat.lt_of_le_of_lt (Nat.div_le_div_left hb (by decide)) ?_
      rw [Nat.pow_succ] at h
      omega
theorem digs_small {b : Nat} (hb : 2 ≤ b) (n : Nat) : ∀ x ∈ digsN b n, x < b := by
  induction n using Nat.strongRecOn with
  | ind n ih =>
    intro x hx
    rcases Nat.eq_zero_or_pos n with rfl | hn
    · rw [digs_end] at hx; cases hx
    · rw [digs_go hb hn] at hx
      rcases List.mem_cons.mp hx with rfl | hx
      · exact Nat.mod_lt _ (by omega)
      · exact ih _ (Nat.div_lt_self hn hb) x hx
/-- the primes that the law knows -/
def Pr (b : Nat) : Prop := ∀ x, x < b → ∀ m, m < b → x * m % b = 0 → x = 0 ∨ m = 0
theorem pr2 : Pr 2 := by unfold Pr; decide +kernel
theorem pr3 : Pr 3 := by unfold Pr; decide +kernel
theorem pr5 : Pr 5 := by unfold Pr; decide +kernel
theorem pr7 : Pr 7 := by unfold Pr; decide +kernel
theorem pr97 : Pr 97 := by unfold Pr; decide +kernel
theorem lastN_times {b m : Nat} (hb : 2 ≤ b) (hp : Pr b) (m0 : 0 < m) (m1 : m < b) (n : Nat) (hn : 0 < n) : lastN b (n * m) = lastN b n * m % b := by
  induction n using Nat.strongRecOn with
  | ind n ih =>
    have e : n * m % b = n % b * m % b := by rw [Nat.mul_mod, Nat.mod_eq_of_lt m1]
    by_cases h : n % b = 0
    · have h2 : n * m % b = 0 := by rw [e, h, Nat.zero_mul, Nat.zero_mod]
      rw [lastN_go hb (Nat.mul_pos hn m0) h2, lastN_go hb hn h, ← ih _ (Nat.div_lt_self hn hb) (div_pos_of hb hn h)]
      congr 1
      obtain ⟨c, rfl⟩ := Nat.dvd_of_mod_eq_zero h
      rw [Nat.mul_assoc, Nat.mul_div_cancel_left _ (by omega), Nat.mul_div_cancel_left _ (by omega)]
    · have h2 : n * m % b ≠ 0 := by
        intro z
        rw [e] at z
        rcases hp _ (Nat.mod_lt _ (by omega)) _ m1 z with q | q
        · exact h q
        · omega
      rw [lastN_end h, lastN_end h2, e]
def vI (x : Nat) : V := V.int (x : Int)
def spLast : Sp := fun vs H Q _ => ∃ n b : Nat, vs = [.int (n : Int), .int (b : Int)] ∧ 0 < n ∧ 2 ≤ b ∧ b < 2 ^ 100 ∧ Q (.int (lastN b n : Nat)) H
def spDigits : Sp := fun vs H Q _ => ∃ n b : Nat, vs = [.int (n : Int), .int (b : Int)] ∧ n < 2 ^ 1000 ∧ 2 ≤ b ∧ b < 2 ^ 100 ∧ ∀ p, H p = none → Q (.ref p) (upd H p (.lst ((digsN b n).map vI)))
def spInteger : Sp := fun vs H Q _ => ∃ (d g : Addr) (b c : Nat), vs = [.ref d, .int (b : Int)] ∧ Dk ks H d g (c + 4) ∧ 2 ≤ b ∧ b ≤ 1000000 ∧ ∀ (n : Nat) H', 0 < n → n < 2 ^ 500 → Dk ks H' d g c → Mv d g H H' → Q (.int (n : Int)) H'
section
variable {P : Program} {w : World} {K : PySem.W.Frag} {mg : Str → Option Value} {base : Heap}
abbrev s_last_digit : Stmt := topS 1
theorem sc_last_digit : FnScope ["number", "base"] ["number", "base"] (defScope s_last_digit) := ⟨rfl, rfl, rfl, by decide +kernel, rfl, by decide +kernel, by decide +kernel⟩
theorem fn_last {f : Addr} {fd : FuncData} (F : Fun K "last_digit" "last_digit" s_last_digit f fd) (T : Bl mg) : FnG P w K mg base CX0 1 f fd ["number", "base"] spLast := by
  refine okG F sc_last_digit (fun vs H Q E h => ?_) fun cdv A outer s H vs Q E hr hc h => ?_
  · obtain ⟨n, b, rfl, _⟩ := h
    rfl
  · obtain ⟨n, b, rfl, n0, b2, bB, q⟩ := h
    have nd := sc_last_digit.nd
    have b0 : (0 : Int) < (b : Int) := by omega
    refine ⟨_, (pss_cons (ps_while PassesOwn.never (pt_cmpR op_eq (pe_op op_mod (pv 0) (pv 1)) pe_int (nomark _))
        (pss_one (ps_set (i := 0) nd rfl (by first | exact Or.inl rfl | exact Or.inr rfl) (pe_op op_fdivW (pv 0) (pv 1)))))
      (pss_one (ps_ret (pe_op op_mod (pv 0) (pv 1))))), ?_⟩
    refine ⟨fun m σ Hx => Hx = H ∧ σ = [some (.int (m : Int)), some (.int (b : Int))] ∧ 0 < m ∧ lastN b m = lastN b n, ⟨n, rfl, rfl, n0, rfl⟩, ?_⟩
    rintro m σ Hx ⟨rfl, rfl, m0, e⟩
    refine ⟨_, rfl, _, rfl, _, _, rfl, rfl, b0, rfl, _, rfl, ?_⟩
    refine ite2 (fun h => ?_) (fun h => ?_)
    · have h' : m % b = 0 := by
        have := of_decide_eq_true h
        injection this with this
        exact_mod_cast this
      refine ⟨fun σ' H' => ∃ m', m' < m ∧ H' = Hx ∧ σ' = [some (.int (m' : Int)), some (.int (b : Int))] ∧ 0 < m' ∧ lastN b m' = lastN b n, fun σ' H' h => h, ?_⟩
      refine ⟨_, rfl, _, rfl, _, _, rfl, rfl, wide_div (b := 100) b0 (by rw [Int.natAbs_natCast]; exact bB) (by decide) (by decide), ?_⟩
      exact ⟨m / b, Nat.div_lt_self m0 b2, rfl, rfl, div_pos_of b2 m0 h', by rw [← lastN_go b2 m0 h', e]⟩
    · have h' : m % b ≠ 0 := fun z => h (decide_eq_true (by
        show V.int ((m : Int) % (b : Int)) = V.int 0
        congr 1
        exact_mod_cast z))
      refine ⟨_, rfl, _, rfl, _, _, rfl, rfl, b0, ?_⟩
      rw [← e, lastN_end h'] at q
      exact q
abbrev s_digits : Stmt := topS 6
theorem sc_digits : FnScope ["_law_k", "_law_by", "_law_found"] ["_law_k", "_law_by"] (defScope s_digits) := ⟨rfl, rfl, rfl, by decide +kernel, rfl, by decide +kernel, by decide +kernel⟩
theorem ok_digits {f : Addr} {fd : FuncData} (F : Fun K "_law_digits" "_law_digits" s_digits f fd) (gl : mg "_law_digits" = some (.ref f)) (T : Bl mg) : DefG P w K mg base 1 "_law_digits" ["_law_k", "_law_by"] spDigits := by
  refine def_mk F gl (F.binds fun _ _ _ _ _ _ us hl => match us, hl with | [_, _], _ => rfl) (okG F sc_digits (fun vs H Q E h => ?_) fun cdv A outer s H vs Q E hr hc h => ?_)
  · obtain ⟨n, b, rfl, _⟩ := h
    rfl
  · obtain ⟨n, b, rfl, nB, b2, bB, q⟩ := h
    have nd := sc_digits.nd
    have b0 : (0 : Int) < (b : Int) := by omega
    refine ⟨_, (pss_cons (ps_set (i := 2) nd rfl (by first | exact Or.inl rfl | exact Or.inr rfl) (pe_lst pa_nil))
      (pss_cons (ps_while PassesOwn.never (pt_cmpR op_gt (pv 0) pe_int (nomark _))
        (pss_cons (ps_expr (pe_bm PySem.F.plainAttrs_list PySem.F.slot_list_append PySem.F.type_list_append mt_append (pv 2) (pa_cons (pe_op op_mod (pe_callTy call_int1 (by rfl) T.int boot_int (pa_cons (pv 0) pa_nil)) (pv 1)) pa_nil)))
        (pss_one (ps_set (i := 0) nd rfl (by first | exact Or.inl rfl | exact Or.inr rfl) (pe_op op_fdivW (pv 0) (pv 1))))))
      (pss_one (ps_ret (pv 2))))), ?_⟩
    refine ⟨Nat.zero_le _, fun p np => ?_⟩
    have ln := digs_len b2 1000 n nB
    refine ⟨fun m σ Hx => ∃ L : List Nat, σ = [some (.int (m : Int)), some (.int (b : Int)), some (.ref p)] ∧ Hx = upd H p (.lst (L.map vI)) ∧ L ++ digsN b m = digsN b n, ⟨n, [], rfl, rfl, rfl⟩, ?_⟩
    rintro m σ Hx ⟨L, rfl, rfl, e⟩
    refine ⟨_, rfl, _, _, rfl, rfl, _, rfl, ?_⟩
    refine ite2 (fun h => ?_) (fun h => ?_)
    · have m0 : 0 < m := by
        have := of_decide_eq_true h
        omega
      rw [digs_go b2 m0] at e
      refine ⟨fun σ' H' => ∃ m', m' < m ∧ ∃ L : List Nat, σ' = [some (.int (m' : Int)), some (.int (b : Int)), some (.ref p)] ∧ H' = upd H p (.lst (L.map vI)) ∧ L ++ digsN b m' = digsN b n, fun σ' H' h => h, ?_⟩
      refine ⟨_, rfl, ty_l (tofL upd_same), _, rfl, .inl ⟨_, rfl, _, rfl, _, _, rfl, rfl, b0, p, _, _, rfl, rfl, upd_same, ?_, ?_⟩⟩
      · rw [List.length_map]
        have : (L ++ m % b :: digsN b (m / b)).length ≤ 1000 := by rw [e]; exact ln
        rw [List.length_append, List.length_cons] at this
        exact smallt (by omega)
      · rw [upd_upd]
        refine ⟨_, rfl, _, rfl, _, _, rfl, rfl, wide_div (b := 100) b0 (by rw [Int.natAbs_natCast]; exact bB) (by decide) (by decide), ?_⟩
        refine ⟨m / b, Nat.div_lt_self m0 b2, L ++ [m % b], rfl, ?_, ?_⟩
        · rw [List.map_append]; rfl
        · rw [List.append_assoc]; exact e
    · have m0 : m = 0 := by
        rcases Nat.eq_zero_or_pos m with z | z
        · exact z
        · exact absurd (decide_eq_true (show ((m : Nat) : Int) > 0 by omega)) h
      subst m0
      rw [digs_end, List.append_nil] at e
      subst e
      exact ⟨_, rfl, q p np⟩
end
end NK24
namespace NK24
open PySem PySem.Spec PyProof.Rows L2 GL G3
theorem mem_ints {x : V} {ns : List Int} (h : x ∈ ns.map V.int) : ∃ n, x = .int n ∧ n ∈ ns := by
  obtain ⟨n, hn, rfl⟩ := List.mem_map.mp h
  exact ⟨n, rfl, hn⟩
theorem grow {f : Int} {b i : Nat} (f0 : 0 < f) (h : f < 2 ^ (140 + 20 * i)) (b2 : 2 ≤ b) (bB : b ≤ 1000000) : 0 < f * (b : Int) ∧ f * (b : Int) < 2 ^ (140 + 20 * (i + 1)) := by
  obtain ⟨n, rfl⟩ : ∃ n : Nat, f = (n : Int) := ⟨f.toNat, by omega⟩
  have h' : n < 2 ^ (140 + 20 * i) := by exact_mod_cast h
  refine ⟨by exact_mod_cast Nat.mul_pos (by omega) (by omega : 0 < b), ?_⟩
  have e : 2 ^ (140 + 20 * (i + 1)) = 2 ^ (140 + 20 * i) * 2 ^ 20 := by rw [← Nat.pow_add]; rfl
  have : n * b < 2 ^ (140 + 20 * (i + 1)) := by
    rw [e]
    exact Nat.mul_lt_mul'' h' (by omega)
  exact_mod_cast this
section
variable {P : Program} {w : World} {K : PySem.W.Frag} {mg : Str → Option Value} {base : Heap}
abbrev s_integer : Stmt := topS 7
theorem sc_integer : FnScope ["_law_deck_here", "_law_by", "_law_far", "_law_kind", "_law_found", "_law_go"] ["_law_deck_here", "_law_by"] (defScope s_integer) := ⟨rfl, rfl, rfl, by decide +kernel, rfl, by decide +kernel, by decide +kernel⟩
theorem ok_integer {f : Addr} {fd : FuncData} (F : Fun K "_law_integer" "_law_integer" s_integer f fd) (gl : mg "_law_integer" = some (.ref f)) (T : Bl mg)
    (D_draw : DefG P w K mg base 1 "_law_draw" ["_law_deck_here", "_law_many"] (spDrw ks)) (D_pick : DefG P w K mg base 2 "_law_pick" ["_law_deck_here", "_law_some"] (spPck ks)) :
    DefG P w K mg base 3 "_law_integer" ["_law_deck_here", "_law_by"] spInteger := by
  refine def_mk F gl (F.binds fun _ _ _ _ _ _ us hl => match us, hl with | [_, _], _ => rfl) (okG F sc_integer (fun vs H Q E h => ?_) fun cdv A outer s H vs Q E hr hc h => ?_)
  · obtain ⟨d, g, b, c, rfl, _⟩ := h
    rfl
  · obtain ⟨d, g, b, c, rfl, D, b2, bB, q⟩ := h
    have nd := sc_integer.nd
    refine ⟨_, (pss_cons (ps_par (i := 2) (j := 3) rfl nd rfl rfl (by decide) rfl rfl (pa_cons (pe_def D_pick (hr.mono (by decide)) hc (by rfl) (pa_cons (pv 0) (pa_cons (pe_lst (pa_cons pe_int (pa_cons pe_int (pa_cons (pe_op op_pow pe_int pe_int) (pa_cons (pe_op op_pow pe_int pe_int) pa_nil))))) pa_nil))) (pa_cons (pe_def D_draw (hr.mono (by decide)) hc (by rfl) (pa_cons (pv 0) (pa_cons pe_int pa_nil))) pa_nil)) rfl)
      (pss_cons (ps_set (i := 4) nd rfl (by first | exact Or.inl rfl | exact Or.inr rfl) (pe_op op_add pe_int (pe_def D_draw (hr.mono (by decide)) hc (by rfl) (pa_cons (pv 0) (pa_cons (pv 2) pa_nil)))))
      (pss_cons (ps_if (pt_cmpR op_eq (pv 3) pe_int (nomark _))
        (pss_one (ps_ret (pv 4)))
        pss_nil)
      (pss_cons (ps_for PassesOwn.never rfl (pi_range1 (by rfl) T.range (pa_cons (pe_def D_draw (hr.mono (by decide)) hc (by rfl) (pa_cons (pv 0) (pa_cons pe_int pa_nil))) pa_nil)) (pg_name (i := 5) nd rfl (by first | exact Or.inl rfl | exact Or.inr rfl))
        (pss_one (ps_set (i := 4) nd rfl (by first | exact Or.inl rfl | exact Or.inr rfl) (pe_op op_mul (pv 4) (pv 1)))))
      (pss_one (ps_ret (pe_callB (call_max2 rfl) (by rfl) T.max boot_max (pa_cons pe_int (pa_cons (pe_op op_add (pv 4) (pe_ix ix_list (pe_lst (pa_cons pe_int (pa_cons pe_int (pa_cons (pe_un un_neg pe_int) pa_nil)))) (pe_op op_sub (pv 3) pe_int) (fun _ _ => rfl))) pa_nil))))))))), ?_⟩
    -- far, kind
    refine ⟨_, rfl, 10, 12, rfl, rfl, ⟨by decide, by decide, by decide⟩, 10, 40, rfl, rfl, ⟨by decide, by decide, by decide⟩, (show 4 ≤ sizeLine from small (by decide)), fun l nl => ?_⟩
    refine ⟨d, g, l, _, c + 3, rfl, D.new nl, upd_same, (D.off nl).2, (fun z => nomatch z), (show 4 ≤ 1000 by decide), fun x H1 hx D1 M1 => ?_⟩
    have hk : ∃ k : Int, x = .int k ∧ 1 ≤ k ∧ k ≤ 10 ^ 40 := by
      rcases List.mem_cons.mp hx with rfl | hx
      · exact ⟨10, rfl, by decide, by decide +kernel⟩
      rcases List.mem_cons.mp hx with rfl | hx
      · exact ⟨1000, rfl, by decide, by decide +kernel⟩
      rcases List.mem_cons.mp hx with rfl | hx
      · exact ⟨_, rfl, by decide +kernel, by decide +kernel⟩
      rcases List.mem_cons.mp hx with rfl | hx
      · exact ⟨_, rfl, by decide +kernel, by decide +kernel⟩
      · cases hx
    obtain ⟨far, rfl, far0, far1⟩ := hk
    refine ⟨_, rfl, d, g, 4, c + 2, rfl, D1, by decide, by decide, fun kind H2 k0 k1 D2 M2 => ⟨_, _, rfl, ?_⟩⟩
    have big : (10 : Int) ^ 40 < 2 ^ 133 := by decide +kernel
    refine ⟨_, rfl, _, rfl, d, g, far, c + 1, rfl, D2, by omega, ?_, fun r H3 r0 r1 D3 M3 => ⟨1, r, rfl, rfl, ?_⟩⟩
    · refine wide_le (j := 2 ^ 133) (by omega) (by omega) (by decide +kernel)
    have M : Mv d g H H3 := (Mv.of (Same.new nl)).trans (M1.trans (M2.trans M3))
    have f0 : 0 < 1 + r := by omega
    have f1 : 1 + r < 2 ^ 140 := by
      have : (2 : Int) ^ 133 < 2 ^ 140 := by decide +kernel
      omega
    have fin : ∀ (f : Int) H', 0 < f → f < 2 ^ 500 → Dk ks H' d g c → Mv d g H H' → Q (.int f) H' := fun f H' z0 z1 DD MM => by
      obtain ⟨n, rfl⟩ : ∃ n : Nat, f = (n : Int) := ⟨f.toNat, by omega⟩
      exact q n H' (by omega) (by exact_mod_cast z1) DD MM
    refine ⟨_, rfl, rfl, _, rfl, ite2 (fun e => ?_) (fun e => ?_)⟩
    · refine ⟨_, rfl, fin _ _ f0 ?_ (D3.mono (by omega)) M⟩
      have : (2 : Int) ^ 140 < 2 ^ 500 := by decide +kernel
      omega
    · have k1' : 1 ≤ kind := by
        refine Classical.byContradiction fun z => e (decide_eq_true ?_)
        rw [show kind = 0 by omega]
      refine ⟨_, rfl, d, g, 12, c, rfl, D3, by decide, by decide, fun t H4 t0 t1 D4 M4 => ⟨t, rfl, by omega, by omega, ?_⟩⟩
      have M' := M.trans M4
      refine for_range (fun i σ Hx => Hx = H4 ∧ ∃ (f : Int) (v : Option V), σ = [some (.ref d), some (.int (b : Int)), some (.int far), some (.int kind), some (.int f), v] ∧ 0 < f ∧ f < 2 ^ (140 + 20 * i)) ⟨rfl, 1 + r, none, rfl, f0, f1⟩ ?_ ?_
      · rintro i σ Hx hi ⟨rfl, f, v, rfl, g0, g1⟩
        obtain ⟨h0, h1⟩ := grow g0 g1 b2 bB
        refine ⟨_, rfl, _, rfl, f, b, rfl, rfl, mul_smallR (by omega) (by omega), rfl, _, _, rfl, h0, h1⟩
      · rintro σ Hx ⟨rfl, f, v, rfl, g0, g1⟩
        have g2 : f < 2 ^ 499 := by
          have : (2 : Int) ^ (140 + 20 * t.toNat) ≤ 2 ^ 499 := by
            have : 2 ^ (140 + 20 * t.toNat) ≤ 2 ^ 499 := Nat.pow_le_pow_right (by decide) (by omega)
            exact_mod_cast this
          omega
        have pw : (2 : Int) ^ 499 + 1 < 2 ^ 500 := by decide +kernel
        refine ⟨_, rfl, 1, rfl, (show 3 ≤ sizeLine from small (by decide)), fun l2 nl2 => ?_⟩
        have M2' := M'.trans (Mv.of (Same.new (o := .lst [.int 0, .int 1, .int (-1)]) nl2))
        have D5 := D4.new (o := .lst [.int 0, .int 1, .int (-1)]) nl2
        have cs : ∃ z : Int, -1 ≤ z ∧ z ≤ 1 ∧ atI [V.int 0, V.int 1, V.int (-1)] (kind - 1) = some (.int z) := by
          have h3 : kind = 1 ∨ kind = 2 ∨ kind = 3 := by omega
          rcases h3 with rfl | rfl | rfl
          · exact ⟨0, by decide, by decide, rfl⟩
          · exact ⟨1, by decide, by decide, rfl⟩
          · exact ⟨-1, by decide, by decide, rfl⟩
        obtain ⟨z, z0, z1, ez⟩ := cs
        refine ⟨_, rfl, kind, 1, rfl, rfl, l2, _, kind - 1, .int z, rfl, rfl, tofL upd_same, ez, f, z, rfl, rfl, 1, f + z, rfl, ?_⟩
        refine fin _ _ ?_ ?_ D5 M2'
        · split <;> omega
        · split <;> omega
end
end NK24
namespace NK24
open PySem PySem.Spec PyProof.Rows L2 GL G3
theorem three_nice {a b c : Nat} (ha : a < 2 ^ 1920) (hb : b < 2 ^ 1920) (hc : c < 2 ^ 1920) : Nice 6000 1 (.list [.int (a : Int), .int (b : Int), .int (c : Int)]) := by
  have h : ∀ d ∈ [PyData.int (a : Int), .int (b : Int), .int (c : Int)], Nice 1921 0 d := fun d hd => by
    rcases List.mem_cons.mp hd with rfl | hd
    · exact Nice.natW ha
    rcases List.mem_cons.mp hd with rfl | hd
    · exact Nice.natW hb
    · rw [List.mem_singleton.mp hd]; exact Nice.natW hc
  exact (Nice.lst (n := 3) h (Nat.le_refl _)).mono (by decide) (by decide)
theorem inV5 {b : Nat} (h : inV (.int (b : Int)) [.int 2, .int 3, .int 5, .int 7, .int 97] = true) : b = 2 ∨ b = 3 ∨ b = 5 ∨ b = 7 ∨ b = 97 := by
  obtain ⟨y, hy, e⟩ := List.any_eq_true.mp h
  have key : ∀ k : Int, eqV (.int k) (.int (b : Int)) = true → k = b := fun k hk => by simpa [eqV] using hk
  rcases List.mem_cons.mp hy with rfl | hy
  · have := key _ e; omega
  rcases List.mem_cons.mp hy with rfl | hy
  · have := key _ e; omega
  rcases List.mem_cons.mp hy with rfl | hy
  · have := key _ e; omega
  rcases List.mem_cons.mp hy with rfl | hy
  · have := key _ e; omega
  · rw [List.mem_singleton.mp hy] at e
    have := key _ e; omega
section
variable {P : Program} {w : World} {K : PySem.W.Frag} {mg : Str → Option Value} {base : Heap}
abbrev s_law : Stmt := topS 8
theorem sc_law : FnScope ["_law_script", "_law_deck_here", "_law_go", "_law_by", "_law_k", "_law_due", "_law_x", "_law_more"] ["_law_script"] (defScope s_law) := ⟨rfl, rfl, rfl, by decide +kernel, rfl, by decide +kernel, by decide +kernel⟩
theorem ok_law {f : Addr} {fd : FuncData} (F : Fun K "law" "law" s_law f fd) (T : Bl mg) (D_deck : DefG P w K mg base 1 "_law_deck" ["_law_script"] (spDck K ks)) (D_draw : DefG P w K mg base 1 "_law_draw" ["_law_deck_here", "_law_many"] (spDrw ks)) (D_pick : DefG P w K mg base 2 "_law_pick" ["_law_deck_here", "_law_some"] (spPck ks))
    (D_integer : DefG P w K mg base 3 "_law_integer" ["_law_deck_here", "_law_by"] spInteger) (D_digits : DefG P w K mg base 1 "_law_digits" ["_law_k", "_law_by"] spDigits)
    (D_last_digit : DefG P w K mg base 1 "last_digit" ["number", "base"] spLast) (D_last_kw : DefKG P w K mg base 1 "last_digit" ["number", "base"] 0 ["base", "number"] (fun _ zs => zs.reverse) spLast) :
    FnG P w K mg base CX0 4 f fd ["_law_script"] (spLaw K) := by
  refine okG F sc_law (fun vs H Q E h => ?_) fun cdv A outer s H vs Q E hr hc h => ?_
  · obtain ⟨a, ns, rfl, _⟩ := h
    rfl
  · obtain ⟨a, ns, rfl, hS, hl, q⟩ := h
    have nd := sc_law.nd
    have hu100 : (A.deeper (envOfC "law" (defScope s_law) s.heap.objs.size f cdv)).units + 100 < cLine := by have := hr.un; omega
    refine ⟨_, (pss_cons (ps_set (i := 1) nd rfl (by first | exact Or.inl rfl | exact Or.inr rfl) (pe_def D_deck (hr.mono (by decide)) hc (by rfl) (pa_cons (pv 0) pa_nil)))
      (pss_cons (ps_for PassesOwn.never rfl (pi_range1 (by rfl) T.range (pa_cons pe_int pa_nil)) (pg_name (i := 2) nd rfl (by first | exact Or.inl rfl | exact Or.inr rfl))
        (pss_cons (ps_set (i := 3) nd rfl (by first | exact Or.inl rfl | exact Or.inr rfl) (pe_def D_pick (hr.mono (by decide)) hc (by rfl) (pa_cons (pv 1) (pa_cons (pe_lst (pa_cons pe_int (pa_cons pe_int (pa_cons pe_int (pa_cons pe_int (pa_cons pe_int (pa_cons pe_int (pa_cons pe_int (pa_cons pe_int (pa_cons pe_int (pa_cons pe_int (pa_cons pe_int (pa_cons (pe_op op_pow pe_int pe_int) (pa_cons (pe_op op_add pe_int (pe_def D_draw (hr.mono (by decide)) hc (by rfl) (pa_cons (pv 1) (pa_cons pe_int pa_nil)))) pa_nil)))))))))))))) pa_nil))))
        (pss_cons (ps_set (i := 4) nd rfl (by first | exact Or.inl rfl | exact Or.inr rfl) (pe_def D_integer (hr.mono (by decide)) hc (by rfl) (pa_cons (pv 1) (pa_cons (pv 3) pa_nil))))
        (pss_cons (ps_set (i := 5) nd rfl (by first | exact Or.inl rfl | exact Or.inr rfl) (pe_ix ix_list (pe_lc (own := [("_law_x", 6)]) (g := (gName 6)) rfl nd (pi_list (pe_def D_digits (hr.mono (by decide)) hc (by rfl) (pa_cons (pv 4) (pa_cons (pv 3) pa_nil)))) (blkOk_by (own := [("_law_x", 6)]) (N := ["_law_script", "_law_deck_here", "_law_go", "_law_by", "_law_k", "_law_due", "_law_x", "_law_more"]) (sc := defScope s_law) (by decide +kernel)) (fun _ _ _ _ _ => (pg_name (i := 6) nd rfl (by first | exact Or.inl rfl | exact Or.inr rfl))) (fun _ _ _ _ _ => (pts_one (pt_cmpR op_ne (pv 6) pe_int (nomark _)))) (fun _ _ _ _ _ => (pv 6))) pe_int (fun _ _ => rfl)))
        (pss_cons (ps_if (pt_cmpR op_ne (pe_callB (call_reprN hc hu100) (by rfl) T.repr boot_repr (pa_cons (pe_lst (pa_cons (pe_def D_last_digit (hr.mono (by decide)) hc (by rfl) (pa_cons (pv 4) (pa_cons (pv 3) pa_nil))) (pa_cons (pe_defK0 D_last_kw (hr.mono (by decide)) hc (by rfl) (pk_cons (pv 3) (pk_cons (pv 4) pk_nil))) (pa_cons (pe_def D_last_digit (hr.mono (by decide)) hc (by rfl) (pa_cons (pe_op op_mul (pv 4) (pv 3)) (pa_cons (pv 3) pa_nil))) pa_nil)))) pa_nil)) (pe_callB (call_reprN hc hu100) (by rfl) T.repr boot_repr (pa_cons (pe_op op_rep (pe_lst (pa_cons (pv 5) pa_nil)) pe_int) pa_nil)) (nomark _))
          (pss_one (ps_ret pe_bl))
          pss_nil)
        (pss_cons (ps_set (i := 7) nd rfl (by first | exact Or.inl rfl | exact Or.inr rfl) (pe_op op_add pe_int (pe_def D_draw (hr.mono (by decide)) hc (by rfl) (pa_cons (pv 1) (pa_cons (pe_op op_sub (pv 3) pe_int) pa_nil)))))
        (pss_one (ps_if (PW.pt (pw_and (pt_cmpR (op_inK (K := K)) (pv 3) (pe_tup (pa_cons pe_int (pa_cons pe_int (pa_cons pe_int (pa_cons pe_int (pa_cons pe_int pa_nil)))))) (by with_unfolding_all rfl)) (pw_and1 (pt_cmpR op_ne (pe_def D_last_digit (hr.mono (by decide)) hc (by rfl) (pa_cons (pe_op op_mul (pv 4) (pv 7)) (pa_cons (pv 3) pa_nil))) (pe_op op_mod (pe_op op_mul (pv 5) (pv 7)) (pv 3)) (nomark _)))))
          (pss_one (ps_ret pe_bl))
          pss_nil))))))))
      (pss_one (ps_ret pe_bl)))), ?_⟩
    refine ⟨_, rfl, a, ns, rfl, hS, hl, fun d g H1 s1 nd1 ng1 D1 => ?_⟩
    refine ⟨40, rfl, by decide, by decide, for_range (fun i σ Hx => ∃ v2 v3 v4 v5 v6 v7 : Option V, σ = [some (.ref a), some (.ref d), v2, v3, v4, v5, v6, v7] ∧ Dk ks Hx d g (1000000000 - 10 * i)) ⟨none, none, none, none, none, none, rfl, D1.mono (by decide)⟩ ?_ ?_⟩
    · rintro i σ Hx hi ⟨v2, v3, v4, v5, v6, v7, rfl, D0⟩
      have hi' : i < 40 := hi
      obtain ⟨B, eB⟩ : ∃ B, B = 1000000000 - 10 * (i + 1) := ⟨_, rfl⟩
      have D0 : Dk ks Hx d g (B + 10) := D0.mono (by omega)
      refine ⟨_, rfl, 10, 6, rfl, rfl, ⟨by decide, by decide, by decide⟩, _, rfl, d, g, 35, B + 9, rfl, D0, by decide, by decide, fun r H2 r0 r1 D2 M2 => ⟨2, r, rfl, rfl, (show 13 ≤ sizeLine from small (by decide)), fun l nl => ⟨d, g, l, _, B + 8, rfl, D2.new nl, upd_same, (D2.off nl).2, (fun z => nomatch z), (show 13 ≤ 1000 by decide), fun x H3 hx D3 M3 => ?_⟩⟩⟩
      have hk : ∃ k : Int, x = .int k ∧ 2 ≤ k ∧ k ≤ 1000000 := by
        iterate 11
          rcases List.mem_cons.mp hx with rfl | hx
          · exact ⟨_, rfl, by decide, by decide⟩
        rcases List.mem_cons.mp hx with rfl | hx
        · exact ⟨_, rfl, by decide +kernel, by decide +kernel⟩
        · rw [List.mem_singleton.mp hx]
          exact ⟨_, rfl, by omega, by omega⟩
      obtain ⟨kb, rfl, b2', bB'⟩ := hk
      obtain ⟨b, rfl⟩ : ∃ b : Nat, kb = (b : Int) := ⟨kb.toNat, by omega⟩
      have b2 : 2 ≤ b := by omega
      have bB : b ≤ 1000000 := by omega
      have b100 : b < 2 ^ 100 := Nat.lt_of_le_of_lt bB (by decide)
      refine ⟨_, rfl, _, rfl, d, g, b, B + 4, rfl, D3, b2, bB, fun n H4 n0 nB D4 M4 => ?_⟩
      have nB2 : n < 2 ^ 1000 := Nat.lt_trans nB (Nat.pow_lt_pow_right (by decide) (by decide))
      -- due
      refine ⟨_, rfl, _, rfl, n, b, rfl, nB2, b2, b100, fun p np => ⟨p, rfl, ⟨_, tofL upd_same⟩, fun D nD => ?_⟩⟩
      have hpD : p ≠ D := ne_of_none upd_same nD
      have sp : Same H4 (upd H4 p (.lst ((digsN b n).map vI))) := Same.new np
      have xp : upd H4 p (.lst ((digsN b n).map vI)) p = _ := upd_same
      revert sp xp nD
      generalize upd H4 p (.lst ((digsN b n).map vI)) = H5
      intro nD sp xp
      refine lc_list (K := K) (a := p) (xs := (digsN b n).map vI) (fun i Hy => Same H5 Hy ∧ Hy D = some (.lst ((((digsN b n).take i).filter (fun x => x != 0)).map vI))) ⟨Same.new nD, upd_same⟩ (fun i Hy _ h => tofL (h.1 _ _ xp)) ?_ ?_
      · rintro i y Hy hi2 ⟨s2, hD⟩
        rw [List.getElem?_map] at hi2
        obtain ⟨z, hz, rfl⟩ := Option.map_eq_some_iff.mp hi2
        have zl := (List.getElem?_eq_some_iff.mp hz).1
        refine ⟨rfl, _, rfl, rfl, _, rfl, ?_⟩
        have ez : ((digsN b n).take (i + 1)).filter (fun x => x != 0) = ((digsN b n).take i).filter (fun x => x != 0) ++ [z].filter (fun x => x != 0) := by
          rw [List.take_add_one, hz, List.filter_append]; rfl
        refine ite2 (fun e => ?_) (fun e => ?_)
        · have zn : z ≠ 0 := fun q0 => by subst q0; exact absurd e (by decide)
          refine ⟨_, rfl, _, hD, ?_, ?_, ?_⟩
          · rw [List.length_map]
            refine smallt (Nat.lt_of_le_of_lt (List.length_filter_le _ _) ?_)
            rw [List.length_take]
            have := digs_len b2 1000 n nB2
            omega
          · intro u o hu
            rw [upd_ne (ne_of_none hu nD)]
            exact s2 _ _ hu
          · rw [upd_same, ez, List.filter_cons_of_pos (by simpa using zn), List.map_append]
            rfl
        · have zn : z = 0 := Classical.byContradiction fun q0 => e (by
            have q2 : ¬ (vI z = V.int 0) := fun q1 => q0 (by
              injection q1 with q1
              omega)
            rw [decide_eq_false q2]
            rfl)
          refine ⟨s2, ?_⟩
          rw [ez, zn]
          exact (List.append_nil (List.filter (fun x => x != 0) (List.take i (digsN b n)))).symm ▸ hD
      · rintro Hy ⟨s2, hD⟩
        rw [List.length_map, List.take_length] at hD
        obtain ⟨rr, er⟩ := digs_first b2 n n0
        rw [er] at hD
        have L0 := lastN_lt b2 n
        refine ⟨D, _, 0, vI (lastN b n), rfl, rfl, tofL hD, atI_nat rfl, ?_⟩
        have D6 : Dk ks Hy d g (B + 4) := (D4.same sp).same s2
        -- the first comparison
        refine ⟨_, rfl, _, rfl, n, b, rfl, n0, b2, b100, _, rfl, _, rfl, rfl, rfl, n, b, rfl, n0, b2, b100, _, rfl, _, rfl, n, b, rfl, rfl, mul_smallR (by omega) (by omega), _, rfl, n * b, b, rfl, Nat.mul_pos n0 (by omega), b2, b100, (show 3 ≤ sizeLine from small (by decide)), fun l1 nl1 => ?_⟩
        rw [lastN_mul b2 n0]
        have lB : lastN b n < 2 ^ 1920 := Nat.lt_trans L0 (Nat.lt_of_le_of_lt bB (Nat.lt_of_lt_of_le (show 1000000 < 2 ^ 20 by decide) (Nat.pow_le_pow_right (by decide) (by decide))))
        refine ⟨l1, _, _, _, rfl, .lst (tofL upd_same) (.cons (.int _) (.cons (.int _) (.cons (.int _) .nil))), three_nice lB lB lB, by decide, by decide, ?_⟩
        have s6 : Same Hy (upd Hy l1 (.lst [.int (lastN b n : Nat), .int (lastN b n : Nat), .int (lastN b n : Nat)])) := Same.new nl1
        revert s6
        generalize upd Hy l1 (.lst [.int (lastN b n : Nat), .int (lastN b n : Nat), .int (lastN b n : Nat)]) = H6
        intro s6
        refine ⟨_, rfl, (show 1 ≤ sizeLine from small (by decide)), fun l2 nl2 => ⟨l2, 3, _, rfl, rfl, upd_same, by decide, by decide, (show 1 * 3 ≤ sizeLine from small (by decide)), fun l3 nl3 => ?_⟩⟩
        refine ⟨l3, _, _, _, rfl, .lst (tofL upd_same) (.cons (.int _) (.cons (.int _) (.cons (.int _) .nil))), three_nice lB lB lB, by decide, by decide, rfl, _, rfl, iteNS rfl ?_⟩
        have D7 := ((D6.same s6).new (o := .lst [vI (lastN b n)]) nl2).new (o := .lst [vI (lastN b n), vI (lastN b n), vI (lastN b n)]) nl3
        refine ⟨_, rfl, _, rfl, b, 1, rfl, rfl, d, g, (b : Int) - 1, B + 3, rfl, D7, by omega, ?_, fun mr H8 m0 m1 D8 M8 => ⟨1, mr, rfl, rfl, ?_⟩⟩
        · exact wide_le (j := 1000000) (a := 8000) (by omega) (by omega) (Nat.lt_of_lt_of_le (show (1000000 : Int).natAbs < 2 ^ 20 by decide) (Nat.pow_le_pow_right (by decide) (by decide)))
        · obtain ⟨m, em⟩ : ∃ m : Nat, 1 + mr = (m : Int) := ⟨(1 + mr).toNat, by omega⟩
          have m0' : 0 < m := by omega
          have m1' : m < b := by omega
          simp only [em]
          refine ⟨_, rfl, (show 5 ≤ sizeLine from small (by decide)), fun t nt => ⟨t, _, rfl, .inr (tofT upd_same), rfl, rfl, _, rfl, ?_⟩⟩
          have D9 : ∀ c, c ≤ B → Dk ks (upd H8 t (.tup [.int 2, .int 3, .int 5, .int 7, .int 97])) d g c := fun c hc2 => (D8.new nt).mono (by omega)
          refine ite2 (fun e => ?_) (fun e => ?_)
          · have hp : Pr b := by
              rcases inV5 e with rfl | rfl | rfl | rfl | rfl
              · exact pr2
              · exact pr3
              · exact pr5
              · exact pr7
              · exact pr97
            refine ⟨_, rfl, _, rfl, n, m, rfl, rfl, mul_smallR (by omega) (by omega), _, rfl, n * m, b, rfl, Nat.mul_pos n0 m0', b2, b100, _, rfl, _, rfl, _, m, rfl, rfl, mul_smallR (by omega) (by omega), _, rfl, _, b, rfl, rfl, (by omega), rfl, _, rfl, iteNS ?_ ⟨_, _, _, _, _, _, rfl, D9 (1000000000 - 10 * (i + 1)) (by omega)⟩⟩
            · rw [lastN_times b2 hp m0' m1' n n0]
              show V.int _ = V.int _
              congr 1
          · exact ⟨_, _, _, _, _, _, rfl, D9 (1000000000 - 10 * (i + 1)) (by omega)⟩
    · rintro σ Hx ⟨v2, v3, v4, v5, v6, v7, rfl, Dx⟩
      exact q Hx
end
end NK24
namespace NK24
open PySem PySem.Spec PyProof.Rows L2 GL G3
theorem all_mk {l : PySem.W.OpenLaw} {w : World} {K : PySem.W.Frag} {h : Heap} {mg : Str → Option Value} {fa f_draw f_pick f_deck f_last f_digits f_integer f_law : Addr} (X : K.In h) (G : h.Ns mainGlobals mg) (hfa : mg "law" = some (.ref fa))
    {od_draw an_draw : Option Addr} {sl_draw : Array (Option Value)} {oc_draw kV_draw dc_draw pm_draw cd_draw ct_draw : Value}
    {od_pick an_pick : Option Addr} {sl_pick : Array (Option Value)} {oc_pick kV_pick dc_pick pm_pick cd_pick ct_pick : Value}
    {od_deck an_deck : Option Addr} {sl_deck : Array (Option Value)} {oc_deck kV_deck dc_deck pm_deck cd_deck ct_deck : Value}
    {od_last an_last : Option Addr} {sl_last : Array (Option Value)} {oc_last kV_last dc_last pm_last cd_last ct_last : Value}
    {od_digits an_digits : Option Addr} {sl_digits : Array (Option Value)} {oc_digits kV_digits dc_digits pm_digits cd_digits ct_digits : Value}
    {od_integer an_integer : Option Addr} {sl_integer : Array (Option Value)} {oc_integer kV_integer dc_integer pm_integer cd_integer ct_integer : Value}
    {od_law an_law : Option Addr} {sl_law : Array (Option Value)} {oc_law kV_law dc_law pm_law cd_law ct_law : Value}
    (a_draw : PySem.W.nsIn K mainGlobals "_law_draw" = some (some (.ref f_draw)))
    (l_draw : K.lookup f_draw = some ⟨oc_draw, od_draw, .func (PySem.W.fnOf "_law_draw" "_law_draw" (defArgs s_draw) (defBody s_draw) (defScope s_draw) .none kV_draw dc_draw pm_draw an_draw cd_draw ct_draw), sl_draw⟩)
    (c_draw : PySem.W.codeIn K cd_draw "_law_draw" = true) (k_draw : PySem.W.keepIn K (.ref f_draw) = true)
    (a_pick : PySem.W.nsIn K mainGlobals "_law_pick" = some (some (.ref f_pick)))
    (l_pick : K.lookup f_pick = some ⟨oc_pick, od_pick, .func (PySem.W.fnOf "_law_pick" "_law_pick" (defArgs s_pick) (defBody s_pick) (defScope s_pick) .none kV_pick dc_pick pm_pick an_pick cd_pick ct_pick), sl_pick⟩)
    (c_pick : PySem.W.codeIn K cd_pick "_law_pick" = true) (k_pick : PySem.W.keepIn K (.ref f_pick) = true)
    (a_deck : PySem.W.nsIn K mainGlobals "_law_deck" = some (some (.ref f_deck)))
    (l_deck : K.lookup f_deck = some ⟨oc_deck, od_deck, .func (PySem.W.fnOf "_law_deck" "_law_deck" (defArgs s_deck) (defBody s_deck) (defScope s_deck) .none kV_deck dc_deck pm_deck an_deck cd_deck ct_deck), sl_deck⟩)
    (c_deck : PySem.W.codeIn K cd_deck "_law_deck" = true) (k_deck : PySem.W.keepIn K (.ref f_deck) = true)
    (a_last : PySem.W.nsIn K mainGlobals "last_digit" = some (some (.ref f_last)))
    (l_last : K.lookup f_last = some ⟨oc_last, od_last, .func (PySem.W.fnOf "last_digit" "last_digit" (defArgs s_last_digit) (defBody s_last_digit) (defScope s_last_digit) .none kV_last dc_last pm_last an_last cd_last ct_last), sl_last⟩)
    (c_last : PySem.W.codeIn K cd_last "last_digit" = true) (k_last : PySem.W.keepIn K (.ref f_last) = true)
    (a_digits : PySem.W.nsIn K mainGlobals "_law_digits" = some (some (.ref f_digits)))
    (l_digits : K.lookup f_digits = some ⟨oc_digits, od_digits, .func (PySem.W.fnOf "_law_digits" "_law_digits" (defArgs s_digits) (defBody s_digits) (defScope s_digits) .none kV_digits dc_digits pm_digits an_digits cd_digits ct_digits), sl_digits⟩)
    (c_digits : PySem.W.codeIn K cd_digits "_law_digits" = true) (k_digits : PySem.W.keepIn K (.ref f_digits) = true)
    (a_integer : PySem.W.nsIn K mainGlobals "_law_integer" = some (some (.ref f_integer)))
    (l_integer : K.lookup f_integer = some ⟨oc_integer, od_integer, .func (PySem.W.fnOf "_law_integer" "_law_integer" (defArgs s_integer) (defBody s_integer) (defScope s_integer) .none kV_integer dc_integer pm_integer an_integer cd_integer ct_integer), sl_integer⟩)
    (c_integer : PySem.W.codeIn K cd_integer "_law_integer" = true) (k_integer : PySem.W.keepIn K (.ref f_integer) = true)
    (a_law : PySem.W.nsIn K mainGlobals "law" = some (some (.ref f_law)))
    (l_law : K.lookup f_law = some ⟨oc_law, od_law, .func (PySem.W.fnOf "law" "law" (defArgs s_law) (defBody s_law) (defScope s_law) .none kV_law dc_law pm_law an_law cd_law ct_law), sl_law⟩)
    (c_law : PySem.W.codeIn K cd_law "law" = true) (k_law : PySem.W.keepIn K (.ref f_law) = true)
    (z_int : PySem.W.nsIn K mainGlobals "int" = some none)
    (z_len : PySem.W.nsIn K mainGlobals "len" = some none)
    (z_range : PySem.W.nsIn K mainGlobals "range" = some none)
    (z_list : PySem.W.nsIn K mainGlobals "list" = some none)
    (z_repr : PySem.W.nsIn K mainGlobals "repr" = some none)
    (z_max : PySem.W.nsIn K mainGlobals "max" = some none) :
    ∃ fd : FuncData, (∀ (s : Shared) (v : Value), BindsTo s fd ⟨[v], []⟩ [("_law_script", v)]) ∧ ∀ base : Heap, K.In base → base.Ns mainGlobals mg → FnG l.prog w K mg base CX0 4 fa fd ["_law_script"] (spLaw K) := by
  have e := hfa.symm.trans (PySem.W.mg_of X G a_law)
  cases e
  have F_draw := fun_mk (st := s_draw) l_draw c_draw k_draw
  have g_draw := PySem.W.mg_of X G a_draw
  have F_pick := fun_mk (st := s_pick) l_pick c_pick k_pick
  have g_pick := PySem.W.mg_of X G a_pick
  have F_deck := fun_mk (st := s_deck) l_deck c_deck k_deck
  have g_deck := PySem.W.mg_of X G a_deck
  have F_last := fun_mk (st := s_last_digit) l_last c_last k_last
  have g_last := PySem.W.mg_of X G a_last
  have F_digits := fun_mk (st := s_digits) l_digits c_digits k_digits
  have g_digits := PySem.W.mg_of X G a_digits
  have F_integer := fun_mk (st := s_integer) l_integer c_integer k_integer
  have g_integer := PySem.W.mg_of X G a_integer
  have F_law := fun_mk (st := s_law) l_law c_law k_law
  have T : Bl mg := ⟨PySem.W.mg_none_of X G z_int, PySem.W.mg_none_of X G z_len, PySem.W.mg_none_of X G z_range, PySem.W.mg_none_of X G z_list, PySem.W.mg_none_of X G z_repr, PySem.W.mg_none_of X G z_max⟩
  refine ⟨PySem.W.fnOf "law" "law" (defArgs s_law) (defBody s_law) (defScope s_law) .none kV_law dc_law pm_law an_law cd_law ct_law, fun s v => .of_eq rfl, fun base _ _ => ?_⟩
  have D_draw := ok_draw (P := l.prog) (w := w) (base := base) F_draw g_draw T
  have D_pick := ok_pick F_pick g_pick T D_draw
  have D_deck := ok_deck (P := l.prog) (w := w) (base := base) F_deck g_deck T
  have L := fn_last (P := l.prog) (w := w) (base := base) F_last T
  have D_last := def_mk F_last g_last (F_last.binds fun _ _ _ _ _ _ us hl => match us, hl with | [_, _], _ => rfl) L
  have D_kw := defK_mk (n := 0) (ks := ["base", "number"]) (g := fun _ ws => ws.reverse) (gV := fun _ zs => zs.reverse) F_last g_last ⟨fun s us ws _ h1 h2 => match us, ws, h1, h2 with | [], [_, _], _, _ => .of_eq rfl, fun _ r2 => vals_rev r2⟩ L
  have D_digits := ok_digits (P := l.prog) (w := w) (base := base) F_digits g_digits T
  exact ok_law F_law T D_deck D_draw D_pick (ok_integer F_integer g_integer T D_draw D_pick) D_digits D_last D_kw
end NK24
open PySem PySem.W PyProof.Rows
set_option maxRecDepth 100000 in
set_option maxHeartbeats 0 in
theorem PySem.Challenge.cw_whateverboxes_k24_last_digits_holds : PySem.Challenge.rw_whateverboxes_k24_last_digits.Holds := by
  w_on; o_law; k_head; (case hw => w_witness2)
  k_fill
  refine G3.walk (k := 4) (l := PySem.Challenge.rw_whateverboxes_k24_last_digits) rfl rfl ⟨rfl, by decide, by decide⟩ (fun w h Y => PySem.W.kIn_of Y) ?F
  case F =>
    intro w mg fa h KX G hmg
    refine' NK24.all_mk KX G hmg ?a_draw ?l_draw ?c_draw ?k_draw ?a_pick ?l_pick ?c_pick ?k_pick ?a_deck ?l_deck ?c_deck ?k_deck ?a_last ?l_last ?c_last ?k_last ?a_digits ?l_digits ?c_digits ?k_digits ?a_integer ?l_integer ?c_integer ?k_integer ?a_law ?l_law ?c_law ?k_law ?z_int ?z_len ?z_range ?z_list ?z_repr ?z_max
    (case a_draw => k_is)
    (case l_draw => k_is)
    (case c_draw => k_is)
    (case k_draw => k_is)
    (case a_pick => k_is)
    (case l_pick => k_is)
    (case c_pick => k_is)
    (case k_pick => k_is)
    (case a_deck => k_is)
    (case l_deck => k_is)
    (case c_deck => k_is)
    (case k_deck => k_is)
    (case a_last => k_is)
    (case l_last => k_is)
    (case c_last => k_is)
    (case k_last => k_is)
    (case a_digits => k_is)
    (case l_digits => k_is)
    (case c_digits => k_is)
    (case k_digits => k_is)
    (case a_integer => k_is)
    (case l_integer => k_is)
    (case c_integer => k_is)
    (case k_integer => k_is)
    (case a_law => k_is)
    (case l_law => k_is)
    (case c_law => k_is)
    (case k_law => k_is)
    (case z_int => k_is)
    (case z_len => k_is)
    (case z_range => k_is)
    (case z_list => k_is)
    (case z_repr => k_is)
    (case z_max => k_is)
